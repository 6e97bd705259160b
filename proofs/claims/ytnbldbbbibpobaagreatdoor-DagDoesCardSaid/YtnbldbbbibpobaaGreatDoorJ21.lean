/-
  Joined: The developers' admit. Written by dag/gen/gen_adm.py.; The developers' Good.; slices.Clone of names; the developers' Take.; A map of heads: its names.
-/
import Derived.Carry
import Derived.Lib.SliceRun
import Derived.Test.YtnbldbbbibpobaaGreatDoorJ07
import Derived.Test.YtnbldbbbibpobaaGreatDoorJ11
import Derived.Test.YtnbldbbbibpobaaGreatDoorJ14
import Derived.Test.YtnbldbbbibpobaaGreatDoorJ15
import Derived.Test.YtnbldbbbibpobaaGreatDoorJ18
import Derived.Test.YtnbldbbbibpobaaGreatDoorJ20
set_option maxRecDepth 100000
set_option maxHeartbeats 20000000
namespace Go.Proofs.YtnbldbbbibpobaaGreatDoor
open Go.RowKit Go.BigFrame
def AdmPost (X:Nat → Prop) (B:Bs) (T:Ents) (n:List Nat) (r:List (List Nat) × DagN) (w:World) (e:Ending) (w':World):Prop :=
 ∃ v T' hs' M',e = .returned v ∧ OwnI w.heap.size 25 v (n :: r.1) w' ∧ SetAt X B T' r.2 hs' M' w' ∧ DInv r.2 hs' M' [] [] ∧ Turn (SetO B T) (SetO B T') w w' ∧ (∀ b,v.ownBlock = some b → ¬ SetO B T' b) ∧ Tame r.2
theorem zif (X:Nat → Prop) (B:Bs) (T:Ents) (s:DagN) (hs:List (List Nat)) (M:Bh) (n:List Nat) (y:OpN) (qa:Option Addr) (qc:Nat) (w:World) (h:SetAt X B T s hs M w) (hX:∀ b,w.heap.size ≤ b → X b) (hne:z0a y = n) (hyf:y.Fit) (hya:IAt qa y.preds w) (hyo:OffX X qa y.preds)
 (hD:DInv s hs M [] []) (hn1:n ∉ s.names) (hn2:n ∉ s.waits) (hwh:z1f s.names y = true) (hdep:y.depth = z1h s.ops y) (htm:Tame s) (hm:s.ops.length + s.wait.length ≤ 999) :
 Calls Tryz.prog 48 #[.pointer (some ⟨B.gs,0,none⟩),.agg (z06 .u8 n).toArray,.agg (opV y qa qc)] w fun e w'=>AdmPost X B T n (z0t s.wait.length ⟨s.ops ++ [y],s.wait⟩) w e w':=by
 have hn:IdOk n:=hne ▸ ⟨z1u y,z2o y⟩
 have hnh:n ∉ hs:=fun e=>hn1 ((hD.heads n).1 e).1
 have HX0:=Lib.hid hX
 have HN:=Lib.hid hn
 have HYF:=Lib.hid hyf
 have HD1:=Lib.hid (show DInv ⟨s.ops ++ [y],s.wait⟩ ((hs.filter fun n=>!decide (n ∈ y.preds)) ++ [n]) (z49 M n) (atB M n) [] from hne ▸ hD.add (hne.symm ▸ hn1) (hne.symm ▸ hn2) hwh)
 have HTM:=Lib.hid (htm.come hyf hdep hm)
 have HIN:=Lib.hid (show n ∈ DagN.names ⟨s.ops ++ [y],s.wait⟩ by rw [DagN.names,List.map_append,List.mem_append];exact .inr (by simp [hne]))
 have HADD:=Lib.hid (fun w1 (b:Below w.heap.size w w1)=>zi3 X B T s hs M n y qa qc w1 (h.below b) hne hyf.d.ref.1 hyf.preds (hya.below b) hyo (by have:=hyf.many;omega) hn1 hnh)
 have a1:Below w.heap.size w (w.alloc (.cells (z06 .u8 n).toArray 25)):=(Below.refl _ _).alloc (Nat.le_refl _) _
 have x1:Blk w.heap.size 25 .u8 n (w.alloc (.cells (z06 .u8 n).toArray 25)):=heap_alloc_new w _
 have s1:(w.alloc (.cells (z06 .u8 n).toArray 25)).heap.size = w.heap.size + 1:=World.size_alloc _ _
 have HSN:=Lib.hid (show (Tryz.prog.info? 25).map (·.size) = some n.length by rw [hn.1];exact Tryz.sizeI)
 have HSY:=Lib.hid (show (Tryz.prog.info? 38).map (·.size) = some (opV y qa qc).size by rw [z07 hyf.d.ref.1];exact Tryz.sizeO)
 obtain ⟨RR,hRR⟩:∃ RR,z0t s.wait.length ⟨s.ops ++ [y],s.wait⟩ = RR:=⟨_,rfl⟩
 rw [hRR]
 have HR0:=Shut.mk hRR
 clear hRR
 go_enter Tryz.func48,Tryz.ntmps48
 go_upto_region 1 with (fail)
 obtain ⟨w1,hw1⟩:∃ x,x = w.alloc (.cells (z06 .u8 n).toArray 25):=⟨_,rfl⟩
 rw [← hw1] at a1 x1 s1 ⊢
 have a2:Below w1.heap.size w1 (w1.alloc (.cells (opV y qa qc) 38)):=(Below.refl _ _).alloc (Nat.le_refl _) _
 have x2:Cells w1.heap.size 38 (opV y qa qc) (w1.alloc (.cells (opV y qa qc) 38)):=heap_alloc_new w1 _
 obtain ⟨w2,hw2⟩:∃ x,x = w1.alloc (.cells (opV y qa qc) 38):=⟨_,rfl⟩
 rw [← hw2] at a2 x2 ⊢
 have hB:=a1.trans (a2.mono a1.size)
 have x12:=x1.below a2
 obtain ⟨g4,hg4⟩:∃ g,w.heap.size = g:=⟨_,rfl⟩
 rw [s1,hg4] at x2
 obtain ⟨g5,hg5⟩:∃ g,g4 + 1 = g:=⟨_,rfl⟩
 rw [hg4] at x12 ⊢
 rw [hg5] at x2 ⊢
 have HB:=Lib.hid hB
 have H4:=Lib.hid x12
 have H5:=Lib.hid x2
 have HNO4:=Lib.hid (show ¬ SetO B T g4 from fun e=>by have:=(SetO.x h e).2;omega)
 have HG4:=Lib.hid hg4
 have HMX:=Lib.hid (fun b (hb:SetO B T b)=>(SetO.x h hb))
 clear a1 a2 x1 x2 s1 hw1 hw2 hB x12 hg4 hg5 h hX hyf hya hyo hD hn1 hn2 hwh hdep htm hm hn hnh
 go_wp2_with (first
  | (refine z03 rfl 25 (.tmp 4) rfl g4 .u8 n 25 _ rfl H4.out Tryz.underlying25 rfl HSN.out ?_)
  | (refine z00 rfl 38 (.tmp 5) rfl g5 (opV y qa qc) 38 _ rfl H5.out Tryz.underlying38 rfl HSY.out ?_)
  | (refine (HADD.out w2 HB.out).mono ?_; rintro e w3 ⟨rfl, hs3, ht3⟩
     have HS3:=Lib.hid hs3
     have HT3:=Lib.hid ((Turn.of HB.out).trans ht3)
     have H43:=Lib.hid (H4.out.only ht3.only HNO4.out)
     clear hs3 ht3)
  | (refine z03 rfl 25 (.tmp 4) rfl g4 .u8 n 25 _ rfl H43.out Tryz.underlying25 rfl HSN.out ?_)
  | (refine z17 rfl 34 25 _ rfl n rfl HN.out.1 Tryz.underlying34 Tryz.infoI32 ?_))
 intro w4 hk4 hb4
 have HS4:=Lib.hid (HS3.out.below hb4.out)
 have HT4:=Lib.hid (HT3.out.below hb4.out)
 have H44:=Lib.hid (H43.out.below hb4.out)
 obtain ⟨g7,hg7⟩:∃ g,w3.heap.size = g:=⟨_,rfl⟩
 have HO4:=Lib.hid (show OwnI w.heap.size 25 (.slice (some ⟨g7,0,none⟩) 1 1) [n] w4 from zia (hg7 ▸ hk4.out) HN.out.1 (hg7 ▸ HT3.out.only.size))
 have HNO7:=Lib.hid (show ∀ b,b < w3.heap.size → b ≠ g7 from fun b hb e=>by omega)
 rw [hg7]
 clear hk4 hb4 hg7
 go_upto_region 4 with (fail)
 have b5:Below w4.heap.size w4 (w4.alloc (.cells #[] 25)):=(Below.refl _ _).alloc (Nat.le_refl _) _
 have s5:(w4.alloc (.cells #[] 25)).heap.size = w4.heap.size + 1:=World.size_alloc _ _
 have o5:OwnI 0 25 (.slice (some ⟨w4.heap.size,0,none⟩) 0 0) [] (w4.alloc (.cells #[] 25)):=World.ownsRow_lit w4 #[] 0 (Nat.zero_le _) (by unfold maxLen;omega) rfl
 obtain ⟨w5,hw5⟩:∃ x,x = w4.alloc (.cells #[] 25):=⟨_,rfl⟩
 rw [← hw5] at b5 s5 o5 ⊢
 have b6:Below w5.heap.size w5 (w5.alloc (.cells #[.slice (some ⟨w4.heap.size,0,none⟩) 0 0] 110)):=(Below.refl _ _).alloc (Nat.le_refl _) _
 have c6:Cells w5.heap.size 110 #[.slice (some ⟨w4.heap.size,0,none⟩) 0 0] (w5.alloc (.cells #[.slice (some ⟨w4.heap.size,0,none⟩) 0 0] 110)):=heap_alloc_new w5 _
 obtain ⟨w6,hw6⟩:∃ x,x = w5.alloc (.cells #[.slice (some ⟨w4.heap.size,0,none⟩) 0 0] 110):=⟨_,rfl⟩
 rw [← hw6] at b6 c6 ⊢
 have o6:=o5.below b6
 have h46:=b5.trans (b6.mono b5.size)
 rw [s5] at c6
 obtain ⟨qk,hq⟩:∃ qk,w4.heap.size + 1 = qk:=⟨_,rfl⟩
 obtain ⟨g6,hg6⟩:∃ qk,w4.heap.size = qk:=⟨_,rfl⟩
 rw [hq] at c6 ⊢
 rw [hg6] at c6 o6
 have HS6:=Lib.hid (SQ.start (q:=qk) (v:=.slice (some ⟨g6,0,none⟩) 0 0) (Q:=[]) HS4.out (fun b hb=>HX0.out b (Nat.le_trans HT4.out.only.size hb)) ⟨c6,o6,fun x hx=>by cases hx⟩ h46 (by
  rintro b (rfl | hb)
  ·omega
  ·obtain rfl:g6 = b:=by injection hb
   omega))
 have HT6:=Lib.hid (show Turn (SetO B T) (SQO B ⟨z2v T.p n (.agg (opV y qa qc)),T.w,T.b⟩ qk (.slice (some ⟨g6,0,none⟩) 0 0)) w w6 from by
  refine ⟨HT4.out.only.below h46,?_⟩
  have hsz:=HT4.out.only.size
  rintro b (hb | rfl | hb)
  ·exact HT4.out.own b hb
  ·exact .inr (by omega)
  ·obtain rfl:g6 = b:=by injection hb
   exact .inr (by omega))
 have HO6:=Lib.hid (HO4.out.below h46)
 have HNV6:=Lib.hid (show ∀ b,(Value.slice (some ⟨g7,0,none⟩) 1 1).ownBlock = some b → ¬ SQO B ⟨z2v T.p n (.agg (opV y qa qc)),T.w,T.b⟩ qk (.slice (some ⟨g6,0,none⟩) 0 0) b from by
  intro b hb
  obtain rfl:g7 = b:=by injection hb
  have h7:=(World.ownsRow.lt HO4.out g7 rfl)
  rintro (e | e | e)
  ·exact HNO7.out _ (SetO.x HS3.out e).2 rfl
  ·have:=h7.2;omega
  ·obtain rfl:g6 = g7:=by injection e
   have:=h7.2;omega)
 have H46:=Lib.hid (H44.out.below h46)
 have HX6:=Lib.hid (fun b (hb:w6.heap.size ≤ b)=>HX0.out b (Nat.le_trans (Nat.le_trans HT4.out.only.size h46.size) hb))
 clear b5 s5 o5 b6 c6 o6 h46 hw5 hw6 hq hg6 HS4 HT4 H44 HO4 HNO7
 have HREL:=Lib.hid (z93 X B _ _ _ _ n qk _ [] w6 HS6.out HX6.out HN.out HIN.out HD1.out HeapN.nil (fun x hx=>(HTM.out.ops x hx).d.ref.1) HTM.out.wait (by have:=HTM.out.many;show s.wait.length ≤ 1000;simp only [List.length_append] at this;omega))
 go_wp2_with (first
  | (refine z03 rfl 25 (.tmp 4) rfl g4 .u8 n 25 _ rfl H46.out Tryz.underlying25 rfl HSN.out ?_)
  | (refine HREL.out.mono ?_; rintro e w8 ⟨rfl, T8, M8, v8, Q8, hs8, hd8, hh8, ht8⟩
     have HS8:=Lib.hid hs8
     have HD8:=Lib.hid hd8
     have HH8:=Lib.hid hh8
     have HT8:=Lib.hid (HT6.out.trans ht8)
     have HO8:=Lib.hid (HO6.out.only ht8.only HNV6.out)
     have HNV8:=Lib.hid (show ∀ b,(Value.slice (some ⟨g7,0,none⟩) 1 1).ownBlock = some b → ¬ SQO B T8 qk v8 b from fun b hb e=>by
      rcases ht8.own b e with e | e
      ·exact HNV6.out b hb e
      ·have:=(World.ownsRow.lt HO6.out b hb).2
       omega)
     clear hs8 hd8 hh8 ht8 HREL HS6 HT6 HO6 HNV6 H46 HX6))
 obtain ⟨S1,hS1⟩:∃ S1,DagN.mk (s.ops ++ [y]) s.wait = S1:=⟨_,rfl⟩
 have hwl:s.wait.length = S1.wait.length:=by rw [← hS1]
 have HRR:=Shut.mk (show z0t S1.wait.length S1 = RR by rw [← hwl,← hS1];exact HR0.out)
 rw [hS1] at HS8 HD8 HTM
 clear hS1 hwl HR0 HD1 HIN HADD HS3 HT3 H43 H4 H5 HB
 go_loopw [7] (fun vo wr=>∃ (sk:DagN) (Tk:Ents) (hk:List (List Nat)) (Mk:Bh) (vk:Value) (Qk out:List (List Nat)),SQ X B Tk sk hk Mk qk vk Qk wr ∧ DInv sk hk Mk [] Qk ∧ HeapN Qk Qk.length ∧ Tame sk ∧ OwnI w.heap.size 25 vo (n :: out) wr ∧ (∀ b,vo.ownBlock = some b → ¬ SQO B Tk qk vk b) ∧
  out ++ (z0t sk.wait.length sk).1 = RR.1 ∧ (z0t sk.wait.length sk).2 = RR.2 ∧ out.length + sk.wait.length ≤ 1000 ∧ Turn (SetO B T) (SQO B Tk qk vk) w wr) (fun _ wr=>zbr wr B.w)
 case atStart=>exact ⟨S1,T8,_,M8,v8,Q8,[],HS8.out,HD8.out,HH8.out,HTM.out,HO8.out,HNV8.out,by rw [HRR.out];rfl,by rw [HRR.out],by have:=HTM.out.many;simp only [List.length_nil];omega,HT8.out⟩
 case round =>
  clear HS8 HD8 HH8 HTM HO8 HNV8 HT8 HRR
  obtain ⟨sk,Tk,hk,Mk,vk,Qk,out,hsq,hdi,hhe,htm,hrow,hnv,hr1,hr2,hln,htu⟩:=hrel
  have HSQ:=Lib.hid hsq
  have HDI:=Lib.hid hdi
  have HHE:=Lib.hid hhe
  have HTM:=Lib.hid htm
  have HRW:=Lib.hid hrow
  have HNV:=Lib.hid hnv
  have HR1:=Shut.mk hr1
  have HR2:=Shut.mk hr2
  have HLN:=Lib.hid hln
  have HTU:=Lib.hid htu
  have HXR:=Lib.hid (fun b (hb:wr.heap.size ≤ b)=>HX0.out b (Nat.le_trans htu.only.size hb))
  have HQL:=Lib.hid (show Qk.length ≤ 1000 from Nat.le_trans hdi.lenF (by have:=htm.many;omega))
  obtain ⟨aq,cq,rfl⟩:=hsq.qu.form
  have hcq:=hsq.qu.at0
  obtain ⟨ql,hql⟩:∃ l,Qk.length = l:=⟨_,rfl⟩
  have HQE:=Shut.mk hql
  rw [hql] at hcq HSQ HNV HTU hsq
  have hqlb:ql ≤ 1000:=by rw [← hql];exact HQL.out
  have HCQ:=Lib.hid hcq
  obtain ⟨ao,co,rfl⟩:=hrow.form
  clear hsq hdi hhe htm hrow hnv hr1 hr2 hln htu hql hcq
  by_cases hz:ql = 0
  ·subst hz
   have hqn:Qk = []:=List.length_eq_zero_iff.1 HQE.out
   subst hqn
   have hb:=HDI.out.best_none
   have HF:=Lib.hid (show AdmPost X B T n RR w (.returned (.slice ao (n :: out).length co)) wr from by
    have e1:=HR1.out
    have e2:=HR2.out
    rw [z8h hb] at e1 e2
    refine ⟨_,Tk,hk,Mk,rfl,?_,?_,?_,⟨HTU.out.only,fun b hb=>HTU.out.own b (.inl hb)⟩,fun b hb e=>HNV.out b hb (.inl e),?_⟩
    ·rw [← e1,List.append_nil];exact HRW.out
    ·rw [← e2];exact HSQ.out.set
    ·rw [← e2];exact HDI.out
    ·rw [← e2];exact HTM.out)
   have hcq:=HCQ.out
   clear hb
   go_wp2_with (refine (zf2 aq 0 cq _).mono ?_;rintro e wx ⟨rfl,hwx⟩;subst wx)
   go_ret
   exact HF.out
  ·have hpos:(0:Int) < (ql:Int):=by omega
   have hcq:=HCQ.out
   have hpop:=heap_pop qk _ Qk wr HSQ.out.qu HHE.out (by rw [HQE.out];omega) (by rw [HQE.out];omega)
   unfold hq at hpop
   have hx0:qAt Qk 0 ∈ Qk:=z6u (by rw [HQE.out];omega)
   have hfi:=HHE.out.first HSQ.out.qu.len32 (by rw [HQE.out];omega)
   have hxi:=HSQ.out.qu.ids _ hx0
   obtain ⟨x,hx⟩:∃ x,qAt Qk 0 = x:=⟨_,rfl⟩
   rw [hx] at hpop hx0 hfi hxi
   have HP:=Lib.hid hpop
   have HXI:=Lib.hid (show IdOk x from hxi)
   obtain ⟨i,o,hbest,hio,hno,hwo⟩:=HDI.out.best hx0 hfi
   have HBS:=Shut.mk hbest
   have HIO:=Shut.mk hio
   have HNO:=Shut.mk hno
   have HWO:=Shut.mk hwo
   have HOF:=Lib.hid (HTM.out.wait o (List.mem_of_getElem? hio))
   obtain ⟨o',pa,pc,e1,e2,e3,e4,e5⟩:=z3z HSQ.out.set.wait HSQ.out.set.wm.nodup (fun y hy=>(HTM.out.wait y hy).d.ref.1) x
   obtain ⟨_,f1,f2,f3,f4,_⟩:=e5.resolve_right (fun h=>h.1 (List.mem_map.2 ⟨o,List.mem_of_getElem? hio,hno⟩))
   obtain rfl:o' = o:=HDI.out.one f1 (List.mem_of_getElem? hio) (f2.trans hno.symm)
   have HE1:=Shut.mk e1
   have HIA:=Lib.hid e4
   have HOX:=Lib.hid f3
   have HS1:=Lib.hid (show (Tryz.prog.info? 25).map (·.size) = some x.length by rw [hxi.1];exact Tryz.sizeI)
   have HL2:=Lib.hid (show (List.replicate 32 0).length = x.length by rw [hxi.1];rfl)
   have HSO:=Lib.hid (show (Tryz.prog.info? 38).map (·.size) = some (opV o' pa pc).size by rw [z07 e3];exact Tryz.sizeO)
   have HSL:=Lib.hid (show (opV z05 none 0).size = (opV o' pa pc).size by rw [z07 e3];rfl)
   have HLK:=Lib.hid f4
   have hta:=zc3 x
   clear hpop hx0 hfi hxi hx hbest hio hno hwo e1 e2 e3 e4 e5 f1 f2 f3 f4 hz
   go_wp2_with (first
    | (refine (zf2 aq ql cq _).mono ?_;rintro e wx ⟨rfl,hwx⟩;subst wx)
    | (refine HP.out.mono ?_; rintro e w5 ⟨rfl, v5, Q5, hp5, hh5, hq5, ht5⟩
       obtain ⟨hs5,htt5⟩:=HSQ.out.turnQ HXR.out hq5 ht5
       have HS5:=Lib.hid hs5
       have HT5:=Lib.hid htt5
       have HH5:=Lib.hid hh5
       have HP5:=Lib.hid hp5
       clear hp5 hh5 hq5 ht5 hs5 htt5 hcq)
    | (refine z04 rfl 25 _ _ rfl rfl w5.heap.size .u8 (List.replicate 32 0) x 25 rfl rfl (heap_alloc_new w5 _) HS1.out HL2.out ?_))
   intro w7 hc7 hb7
   have HB7:=Lib.hid (show Below w5.heap.size w5 w7 from But.toBelow ((Below.refl _ _).alloc (Nat.le_refl _) _) hb7.out (Nat.le_refl _) (by rw [World.size_alloc];exact Nat.le_succ _))
   have HSP:=Lib.hid (HS5.out.below HB7.out)
   have HT7:=Lib.hid (HT5.out.below HB7.out)
   have HRW7:=Lib.hid ((HRW.out.only HT5.out.only HNV.out).below HB7.out)
   have HNV7:=Lib.hid (show ∀ b,(Value.slice ao (n :: out).length co).ownBlock = some b → ¬ SQO B Tk qk v5 b from fun b hb e=>by
    rcases HT5.out.own b e with e | e
    ·exact HNV.out b hb e
    ·have:=(World.ownsRow.lt HRW.out b hb).2
     omega)
   have HIA7:=Lib.hid ((HIA.out.only HT5.out.only (HOX.out.mono (fun b e=>(SQ.lt HSQ.out e).1))).below HB7.out)
   have HDP:=Lib.hid ((HDI.out.permF HP5.out.symm).pop HIO.out HNO.out)
   obtain ⟨g9,hg9⟩:∃ g,w5.heap.size = g:=⟨_,rfl⟩
   have HC9:=Lib.hid (show Blk g9 25 .u8 x w7 from hg9 ▸ hc7.out)
   have HNO13:=Lib.hid (show ∀ b,(Value.slice ao (n :: out).length co).ownBlock = some b → b ≠ g9 from fun b hb e=>by have:=(World.ownsRow.lt HRW.out b hb).2;have:=HT5.out.only.size;omega)
   have HNO9:=Lib.hid (show ¬ SQO B Tk qk v5 g9 from fun e=>by have:=(SQ.lt HS5.out e).2;omega)
   rw [hg9]
   clear hc7 hb7 hg9 HS5 HT5 HRW HNV HIA hta HP
   go_upto_region 7 with (fail)
   refine z0f 7 (fun q V w'=>Val q V 0 (.pointer (some ⟨B.gs,0,none⟩)) ∧ Val q V 1 (.pointer (some ⟨B.gs,0,none⟩)) ∧ Val q V 2 (.pointer (some ⟨B.gs,1,none⟩)) ∧ Val q V 3 (.map (some B.w)) ∧ Val q V 4 (.agg (z06 .u8 x).toArray) ∧ Val q V 5 (.agg (opV o' pa pc)) ∧ NewC q V w7.heap.size 6 38 (opV z05 none 0) w' ∧ Below w7.heap.size w7 w') (fun | 0=>u32 | 1=>u33 | 2=>u34 | 3=>u35 | 4=>u36 | 5=>u37 | 6=>u10 | _=>undef) (by kernel_rfl) (by kernel_rfl) (by kernel_rfl) (by simp only [zC,zD,z0i,Act.put,zS,zA,zB]) ⟨Val.none,Val.none,Val.none,Val.none,Val.none,Val.none,NewC.none,(Below.refl _ _).drew⟩ ?_ ?_
   ·simp only [zC,zD,z0i,Nat.zero_add,Nat.reduceAdd,Act.put,zS,zA,zB]
    refine zQc ?_ (zQc ?_ (zQc ?_ (zQc ?_ (zQc ?_ (zQc ?_ (zQc ?_ (zQn)))))))
    all_goals (refine zQf rfl ?_;rintro q V wq hr hu ⟨h0,h1,h2,h3,h4,h5,h6,hb⟩ K hK)
    ·exact z0h (.tmp 0) rfl _ rfl (hK _ _ ⟨.same,h1.nd,h2.nd,h3.nd,h4.nd,h5.nd,h6.ne (by decide) (Below.refl _ _),hb⟩)
    ·exact z0m (.tmp 32) rfl ⟨B.gs,0,none⟩ (h0 (hr { on:=0,ground:=.data } (by simp) rfl)) (hK _ _ ⟨h0.nd,.same,h2.nd,h3.nd,h4.nd,h5.nd,h6.ne (by decide) (Below.refl _ _),hb⟩)
    ·exact z0l 80 (.tmp 33) 1 rfl _ _ (h1 (hr { on:=1,ground:=.data } (by simp) rfl)) (z4m B.gs 1 (by decide)) (hK _ _ ⟨h0.nd,h1.nd,.same,h3.nd,h4.nd,h5.nd,h6.ne (by decide) (Below.refl _ _),hb⟩)
    ·exact z0o 76 (.tmp 34) rfl _ _ (h2 (hr { on:=2,ground:=.data } (by simp) rfl)) (HSP.out.below hb).set.cell.2.1 Tryz.isAgg76 (hK _ _ ⟨h0.nd,h1.nd,h2.nd,.same,h4.nd,h5.nd,h6.ne (by decide) (Below.refl _ _),hb⟩)
    ·exact z16 25 (.tmp 9) rfl g9 .u8 x 25 _ rfl (HC9.out.below hb) Tryz.underlying25 rfl HS1.out (hK _ _ ⟨h0.nd,h1.nd,h2.nd,h3.nd,.same,h5.nd,h6.ne (by decide) (Below.refl _ _),hb⟩)
    ·exact z3d (.tmp 35) (.tmp 36) 76 25 38 false rfl Tryz.idKey Tryz.underlying76 (.agg (opV z05 none 0)) (z6r wq) B.w Tk.w (HSP.out.below hb).set.wm x HXI.out (h3 (hr { on:=3,ground:=.data } (by simp) rfl)) (h4 (hr { on:=4,ground:=.data } (by simp) rfl)) _ HE1.out (hK _ _ ⟨h0.nd,h1.nd,h2.nd,h3.nd,h4.nd,.same,h6.ne (by decide) (Below.refl _ _),hb⟩)
    ·exact z2s 38 rfl (opV z05 none 0) z4f (hK _ _ ⟨h0.nd,h1.nd,h2.nd,h3.nd,h4.nd,h5.nd,.same hb.size,hb.alloc hb.size _⟩)
   rintro q V wq hall ⟨h0,h1,h2,h3,h4,h5,h6,hb⟩
   have v0:=h0 (hall 0 (by decide))
   have v1:=h1 (hall 1 (by decide))
   have v2:=h2 (hall 2 (by decide))
   have v3:=h3 (hall 3 (by decide))
   have v4:=h4 (hall 4 (by decide))
   have v5:=h5 (hall 5 (by decide))
   obtain ⟨g6,v6,hg6,hc6⟩:=h6 (hall 6 (by decide))
   simp only [zC,zD,zE,zF,z0i,Nat.zero_add,Nat.reduceAdd,v0,v1,v2,v3,v4,v5,v6,Act.put,zS,zA,zB]
   clear h0 h1 h2 h3 h4 h5 v0 v1 v2 v3 v4 v5 v6 hall
   go_wp2_with (refine z01 rfl 38 _ _ rfl rfl g6 _ (opV o' pa pc) 38 rfl rfl hc6 HSO.out HSL.out (z9x _ _ _) ?_)
   intro w8 hc8 hb8
   have HB8:=Lib.hid (show Below w7.heap.size w7 w8 from But.toBelow hb hb8.out hg6 hb.size)
   have HS8:=Lib.hid (HSP.out.below HB8.out)
   have HT8:=Lib.hid (HT7.out.below HB8.out)
   have HRW8:=Lib.hid (HRW7.out.below HB8.out)
   have HIA8:=Lib.hid (HIA7.out.below HB8.out)
   have HC98:=Lib.hid (HC9.out.below HB8.out)
   have HC10:=Lib.hid (show Cells g6 38 (opV o' pa pc) w8 from hc8.out)
   have HNO10:=Lib.hid (show ¬ SQO B Tk qk v5 g6 from fun e=>by have:=(SQ.lt HSP.out e).2;omega)
   clear hb hc6 hg6 hc8 hb8 HSP HT7 HRW7 HIA7 HC9
   go_upto_region 8 with (fail)
   have HCE:=Lib.hid (fun w' (hb:Below w8.heap.size w8 w')=>(HS8.out.below hb).set.cell.2.1)
   have HI9:=Lib.hid (fun w' (hb:Below w8.heap.size w8 w')=>HC98.out.below hb)
   refine z08 (fun w'=>Below w8.heap.size w8 w') 5 (by kernel_rfl) (by kernel_rfl) (Below.refl _ _).drew ?_
   simp only [zC,zD,zE,zF]
   repeat (first
    | (go_big_quiet_want;refine z02 76 _ rfl ⟨B.gs,1,none⟩ _ rfl HCE.out Tryz.isAgg76 ?_;go_big_quiet_on;simp only [Act.put,zS,zA,zB])
    | (go_big_quiet_want;refine z0q 25 _ rfl g9 .u8 x 25 _ rfl HI9.out Tryz.underlying25 rfl HS1.out ?_;go_big_quiet_on;simp only [Act.put,zS,zA,zB])
    | go_big_quiet_step ((intro hs';rfl)))
   refine wpQuiet_nil ?_
   intro w81 hs81
   have HS81:=Lib.hid (HS8.out.below hs81)
   have HT81:=Lib.hid (HT8.out.below hs81)
   have HRW81:=Lib.hid (HRW8.out.below hs81)
   have HIA81:=Lib.hid (HIA8.out.below hs81)
   have HC981:=Lib.hid (HC98.out.below hs81)
   have HC101:=Lib.hid (HC10.out.below hs81)
   have HWM:=Lib.hid HS81.out.set.wm
   clear hs81 HCE HI9 HS8 HT8 HRW8 HIA8 HC98 HC10
   go_wp2_with (refine z3i rfl _ _ 76 25 38 rfl Tryz.idKey Tryz.underlying76 B.w _ HWM.out x HXI.out rfl rfl ?_)
   intro w9 hm9 ho9
   have hdr:=HS81.out.set.wait.drop HS81.out.set.wm.nodup HIO.out
   rw [HNO.out] at hdr
   obtain ⟨hs9,ht9⟩:=HS81.out.set.putW ho9.out hm9.out hdr
   obtain ⟨hq9,htq9⟩:=HS81.out.turnS hs9 ht9
   have HS9:=Lib.hid hq9
   have HT9:=Lib.hid (HT81.out.trans htq9)
   have hbw:SQO B Tk qk v5 B.w:=.inl (.inr (.inr (.inl rfl)))
   have HRW9:=Lib.hid (HRW81.out.only ho9.out (fun b hb e=>HNV7.out b hb (e ▸ hbw)))
   have HIA9:=Lib.hid (HIA81.out.only ho9.out (HOX.out.mono (fun b e=>e ▸ (SQ.lt HS81.out hbw).1)))
   have HC99:=Lib.hid (HC981.out.only ho9.out (fun e=>HNO9.out (e ▸ hbw)))
   have HC109:=Lib.hid (HC101.out.only ho9.out (fun e=>HNO10.out (e ▸ hbw)))
   clear hm9 ho9 hdr hs9 ht9 hq9 htq9 hbw HS81 HT81 HRW81 HIA81 HC981 HC101 HWM
   have HTM9:=Lib.hid (HTM.out.drop i)
   have HFI:=Lib.hid (zfg X B _ _ hk Mk o' pa pc w9 HS9.out.set HOF.out.d.ref.1 HOF.out.preds HIA9.out (by have:=HOF.out.many;omega) (fun y hy=>(HTM.out.ops y hy).d.ref.1) HTM.out.shallow (by have:=HTM.out.many;show sk.ops.length ≤ 1000000;omega))
   have hsm:=z8f HBS.out HIO.out
   have hile:=z8x HBS.out
   have hel:(sk.wait.eraseIdx i).length + 1 = sk.wait.length:=by rw [List.length_eraseIdx,if_pos hile];omega
   have HEL:=Shut.mk hel
   obtain ⟨d,hd⟩:∃ d,decide (o'.depth = z1h sk.ops o') = d:=⟨_,rfl⟩
   rw [show decide (o'.depth = z1h (DagN.mk sk.ops (sk.wait.eraseIdx i)).ops o') = d from hd] at HFI
   have HD:=Shut.mk hd
   have HSM:=Shut.mk hsm
   clear hsm hile hel hd
   cases d with
   | false =>
     have hdn:¬ o'.depth = z1h sk.ops o':=of_decide_eq_false HD.out
     have hsm:=HSM.out
     rw [if_neg hdn] at hsm
     have HSM2:=Shut.mk hsm
     clear hsm hdn HSM
     go_wp2_with (first
      | (refine z00 rfl 38 (.tmp 10) rfl g6 (opV o' pa pc) 38 _ rfl HC109.out Tryz.underlying38 rfl HSO.out ?_)
      | (refine HFI.out.mono ?_;rintro e w10 ⟨rfl,hb10⟩))
     refine ⟨⟨_,_,hk,Mk,v5,Q5,out,HS9.out.below hb10,HDP.out.1,HH5.out,HTM9.out,HRW9.out.below hb10,HNV7.out,?_,?_,?_,HTU.out.trans (HT9.out.below hb10)⟩,?_⟩
     ·show out ++ (z0t (sk.wait.eraseIdx i).length _).1 = RR.1
      rw [← HSM2.out];exact HR1.out
     ·show (z0t (sk.wait.eraseIdx i).length _).2 = RR.2
      rw [← HSM2.out];exact HR2.out
     ·show out.length + (sk.wait.eraseIdx i).length ≤ 1000
      have:=HLN.out;have:=HEL.out;omega
     ·rw [(HS9.out.set.below hb10).size,HSQ.out.set.size]
      show (sk.wait.eraseIdx i).length < sk.wait.length
      have:=HEL.out;omega
   | true =>
     have hdy:o'.depth = z1h sk.ops o':=of_decide_eq_true HD.out
     have hsm:=HSM.out
     rw [if_pos hdy] at hsm
     have HSM2:=Shut.mk hsm
     have HTM10:=Lib.hid (HTM.out.push HIO.out hdy)
     clear hsm hdy HSM
     obtain ⟨hdp1,hdp2,hdp3⟩:=HDP.out
     have HNN:=Lib.hid (show x ∉ DagN.names ⟨sk.ops,sk.wait.eraseIdx i⟩ from hdp2)
     have hxh:x ∉ hk:=fun e=>hdp2 ((hdp1.heads x).1 e).1
     have HDA:=Lib.hid (show DInv ⟨sk.ops ++ [o'],sk.wait.eraseIdx i⟩ ((hk.filter fun n=>!decide (n ∈ o'.preds)) ++ [x]) (z49 Mk x) (atB Mk x) Q5 from HNO.out ▸ hdp1.add (HNO.out.symm ▸ hdp2) (HNO.out.symm ▸ hdp3) HWO.out)
     have HAD:=Lib.hid (fun w1 (b:Below w9.heap.size w9 w1)=>zi3 X B _ _ hk Mk x o' pa pc w1 (HS9.out.set.below b) HNO.out HOF.out.d.ref.1 HOF.out.preds (HIA9.out.below b) HOX.out (by have:=HOF.out.many;omega) hdp2 hxh)
     clear hdp1 hdp2 hdp3 hxh
     go_wp2_with (first
      | (refine z00 rfl 38 (.tmp 10) rfl g6 (opV o' pa pc) 38 _ rfl HC109.out Tryz.underlying38 rfl HSO.out ?_)
      | (refine HFI.out.mono ?_; rintro e w10 ⟨rfl, hb10⟩
         have HB10:=Lib.hid hb10
         have HC1010:=Lib.hid (HC109.out.below hb10)
         have HC910:=Lib.hid (HC99.out.below hb10)
         clear hb10 HC109 HC99)
      | (refine z00 rfl 38 (.tmp 10) rfl g6 (opV o' pa pc) 38 _ rfl HC1010.out Tryz.underlying38 rfl HSO.out ?_)
      | (refine z03 rfl 25 (.tmp 9) rfl g9 .u8 x 25 _ rfl HC910.out Tryz.underlying25 rfl HS1.out ?_)
      | (refine (HAD.out w10 HB10.out).mono ?_; rintro e w11 ⟨rfl, hs11, ht11⟩
         obtain ⟨hq11,htq11⟩:=(HS9.out.below HB10.out).turnS hs11 ht11
         have HS11:=Lib.hid hq11
         have HT11:=Lib.hid ((HT9.out.below HB10.out).trans htq11)
         have HC911:=Lib.hid (HC910.out.only htq11.only HNO9.out)
         have HRW11:=Lib.hid ((HRW9.out.below HB10.out).only htq11.only HNV7.out)
         clear hs11 ht11 hq11 htq11 HC910 HC1010 HB10)
      | (refine z03 rfl 25 (.tmp 9) rfl g9 .u8 x 25 _ rfl HC911.out Tryz.underlying25 rfl HS1.out ?_)
      | (refine z17 rfl 34 25 _ rfl x rfl HXI.out.1 Tryz.underlying34 Tryz.infoI32 ?_))
     intro w12 hk12 hb12
     have HS12:=Lib.hid (HS11.out.below hb12.out)
     have HT12:=Lib.hid (HT11.out.below hb12.out)
     have HC912:=Lib.hid (HC911.out.below hb12.out)
     have HRW12:=Lib.hid (HRW11.out.below hb12.out)
     have HIA12:=Lib.hid (z4x hk12.out)
     obtain ⟨g12,hg12⟩:∃ g,w11.heap.size = g:=⟨_,rfl⟩
     rw [hg12] at HIA12 ⊢
     have HL63:=Lib.hid (show (n :: out).length + [x].length ≤ 1000000 by have:=HLN.out;simp only [List.length_cons,List.length_nil];omega)
     have HWS:=Lib.hid (show w.heap.size ≤ w12.heap.size from (HTU.out.trans HT12.out).only.size)
     clear hk12 hb12 hg12 HS11 HT11 HC911 HRW11
     go_wp2_with (refine z0u rfl _ _ 34 25 rfl w.heap.size (.agg (z06 .u8 (List.replicate 32 0)).toArray) rfl Tryz.underlying34 Tryz.infoI32 (.slice ao (n :: out).length co) (n :: out) [x] (Ids.one HXI.out.1 HXI.out.2) (some ⟨g12,0,none⟩) 1 1 rfl rfl HRW12.out rfl HIA12.out (fun h=>by cases h) HL63.out HWS.out ?_)
     intro v13 w13 ho13 hg13 hd13
     have hon13:Only (fun b=>(Value.slice ao (n :: out).length co).ownBlock = some b) w12 w13:=(Only.refl _ w12).grown hg13.out (fun b hb=>.inl hb)
     have hvl:∀ b,(Value.slice ao (n :: out).length co).ownBlock = some b → w.heap.size ≤ b:=fun b hb=>(World.ownsRow.lt HRW12.out b hb).1
     have HS13:=Lib.hid (HS12.out.only hon13 (fun b hb=>HX0.out b (hvl b hb)) (fun b hb e=>HNV7.out b e hb))
     have HT13:=Lib.hid (show Turn (SetO B T) (SQO B ⟨z2v Tk.p x (.agg (opV o' pa pc)),z49 Tk.w x,Tk.b⟩ qk v5) w w13 from by
      have h12:=HTU.out.trans HT12.out
      exact ⟨h12.only.trans hon13 (fun b hb=>.inr (hvl b hb)),h12.own⟩)
     have HC913:=Lib.hid (HC912.out.only hon13 (fun e=>by
      exact HNO13.out _ e rfl))
     have HRW13:=Lib.hid ho13.out
     have HNV13:=Lib.hid (show ∀ b,v13.ownBlock = some b → ¬ SQO B ⟨z2v Tk.p x (.agg (opV o' pa pc)),z49 Tk.w x,Tk.b⟩ qk v5 b from fun b hb e=>by
      rcases hd13.out with h | h
      ·exact HNV7.out b (h ▸ hb) e
      ·rw [h] at hb
       obtain rfl:w12.heap.size = b:=by injection hb
       have:=(SQ.lt HS12.out e).2
       omega)
     have HX13:=Lib.hid (fun b (hb:w13.heap.size ≤ b)=>HX0.out b (Nat.le_trans HT13.out.only.size hb))
     clear hon13 hvl ho13 hg13 hd13 HS12 HT12 HC912 HRW12 HIA12 HL63 HWS
     have HRE:=Lib.hid (z93 X B _ _ _ _ x qk v5 Q5 w13 HS13.out HX13.out HXI.out (by rw [DagN.names,List.map_append,List.mem_append];exact .inr (by simp [HNO.out])) HDA.out HH5.out (fun y hy=>(HTM10.out.ops y hy).d.ref.1) HTM10.out.wait (by have:=HTM10.out.many;show (sk.wait.eraseIdx i).length ≤ 1000;simp only [List.length_append] at this;omega))
     go_wp2_with (first
      | (refine z03 rfl 25 (.tmp 9) rfl g9 .u8 x 25 _ rfl HC913.out Tryz.underlying25 rfl HS1.out ?_)
      | (refine HRE.out.mono ?_;rintro e w14 ⟨rfl,T14,M14,v14,Q14,hs14,hd14,hh14,ht14⟩))
     refine ⟨⟨_,T14,_,M14,v14,Q14,out ++ [x],hs14,hd14,hh14,HTM10.out,?_,?_,?_,?_,?_,HT13.out.trans ht14⟩,?_⟩
     ·exact (HRW13.out.only ht14.only HNV13.out)
     ·intro b hb e
      rcases ht14.own b e with e | e
      ·exact HNV13.out b hb e
      ·have:=(World.ownsRow.lt HRW13.out b hb).2
       omega
     ·rw [← HR1.out,HSM2.out,HNO.out,List.append_assoc]
      rfl
     ·rw [← HR2.out,HSM2.out]
     ·rw [List.length_append]
      show out.length + 1 + (sk.wait.eraseIdx i).length ≤ 1000
      have:=HLN.out;have:=HEL.out;omega
     ·rw [hs14.set.size,HSQ.out.set.size]
      show (sk.wait.eraseIdx i).length < sk.wait.length
      have:=HEL.out;omega
theorem zaq:∀ (a b:List Nat),z1s a b = -1 ∨ z1s a b = 0 ∨ z1s a b = 1
 | [],[]=>.inr (.inl (by rw [z1s];intro a x b y h;cases h))
 | [],_ :: _=>.inr (.inl (by rw [z1s];intro a x b y h;cases h))
 | _ :: _,[]=>.inr (.inl (by rw [z1s];intro a x b y h h2;cases h2))
 | a :: x, b :: y => by
   rw [z1s]
   split
   ·exact .inl rfl
   ·split
    ·exact .inr (.inr rfl)
    ·exact zaq x y
def zex (L:List (List Nat)):Bool:=decide (L.length ≤ 32 ∧ AscN L)
theorem zb9 (L:List (List Nat)) (pa:Option Addr) (pc:Nat) (w:World) (hL:∀ p ∈ L,IdOk p) (hp:IAt pa L w) (hn:L.length ≤ 140737488351232) :
 Calls Tryz.prog 74 #[.slice pa L.length pc] w fun e w'=>e = .returned (.bool (zex L)) ∧ Below w.heap.size w w':=by
 have HP:=Lib.hid hp
 have HO:=Lib.hid hL
 obtain ⟨n,hnn⟩:∃ n,L.length = n:=⟨_,rfl⟩
 have HNN:=Shut.mk hnn
 rw [hnn] at hn ⊢
 clear hnn hp hL
 by_cases h32:32 < n
 ·have HR:=Shut.mk (show zex L = false from decide_eq_false (fun h=>by have:=h.1;rw [HNN.out] at this;omega))
  have h32i:(32:Int) < (n:Int):=by omega
  go_enter Tryz.func74,Tryz.ntmps74
  go_wp2_with fail
  go_ret
  exact ⟨by rw [HR.out];rfl,Below.refl _ _⟩
 have h32i:¬ (32:Int) < (n:Int):=by omega
 go_enter Tryz.func74,Tryz.ntmps74
 go_wp2_with fail
 go_loopw [3] (fun i wr=>∃ k:Nat,1 ≤ k ∧ (k ≤ n ∨ k = 1) ∧ i = .int .i64 k ∧ (∀ j,j < k → 0 < j → z1s (L.getD (j - 1) []) (L.getD j []) = -1) ∧ Below w.heap.size w wr) (fun i _=>n - (intOf i).toNat)
 case atStart=>exact ⟨1,Nat.le_refl _,.inr rfl,rfl,fun j hj h=>by omega,Below.refl _ _⟩
 case round =>
  obtain ⟨k,hk1,hk,rfl,hasc,hb⟩:=hrel
  have HPW:=Lib.hid (HP.out.below hb)
  have HASC:=Lib.hid hasc
  have HBW:=Lib.hid hb
  clear hasc hb
  by_cases hlt:k < n
  ·obtain ⟨j,rfl⟩:∃ j,k = j + 1:=⟨k - 1,by omega⟩
   obtain ⟨b,ob,rfl,hbl⟩:=HPW.out.some (by rw [HNN.out];omega)
   have g1:=HPW.out.get (i:=j) (by rw [HNN.out];omega)
   have g2:=HPW.out.get (i:=j + 1) (by rw [HNN.out];omega)
   have i1:=Ids.getD HO.out (i:=j) (by rw [HNN.out];omega)
   have i2:=Ids.getD HO.out (i:=j + 1) (by rw [HNN.out];omega)
   obtain ⟨x,hx⟩:∃ x,L.getD j [] = x:=⟨_,rfl⟩
   obtain ⟨y,hy⟩:∃ y,L.getD (j + 1) [] = y:=⟨_,rfl⟩
   rw [hx] at g1 i1
   rw [hy] at g2 i2
   have HXE:=Shut.mk hx
   have HYE:=Shut.mk hy
   have HC:=Lib.hid (fun w'=>z9c x y i1 i2 w')
   have HR1:=Lib.hid (fun (w':World) (q:Below wr.heap.size wr w')=>show w'.rangeAt b (ob + j * 32) (z06 .u8 x) from z0g g1 q hbl)
   have HR2:=Lib.hid (fun (w':World) (q:Below wr.heap.size wr w')=>show w'.rangeAt b (ob + (j + 1) * 32) (z06 .u8 y) from z0g g2 q hbl)
   have HS1:=Lib.hid (show (Tryz.prog.info? 25).map (·.size) = some x.length by rw [i1.1];exact Tryz.sizeI)
   have HS2:=Lib.hid (show (Tryz.prog.info? 25).map (·.size) = some y.length by rw [i2.1];exact Tryz.sizeI)
   obtain ⟨r,hr⟩:∃ r,z1s x y = r:=⟨_,rfl⟩
   have hrc:=zaq x y
   rw [hr] at HC hrc
   have HRE:=Shut.mk hr
   have HJ1:=Shut.mk (show ((j + 1:Nat):Int) - 1 = (j:Int) by omega)
   clear hx hy g1 g2 i1 i2 hr
   by_cases hrr:r = -1
   ·subst hrr
    clear hrc
    go_upto_region 6 with (fail)
    refine z09 (fun w'=>Below wr.heap.size wr w') (by kernel_rfl) (by kernel_rfl) (Below.refl _ _).drew ?_
    repeat (first
     | go_big_quiet_skip
     | (go_big_quiet_want;refine z0c 25 _ rfl b (ob + j * 32) x _ rfl HR1.out Tryz.underlying25 rfl HS1.out ?_;go_big_quiet_on;simp only [Act.put,zS,zA,zB])
     | (go_big_quiet_want;refine z0c 25 _ rfl b (ob + (j + 1) * 32) y _ rfl HR2.out Tryz.underlying25 rfl HS2.out ?_;go_big_quiet_on;simp only [Act.put,zS,zA,zB])
     | go_big_quiet_step ((intro hs';first
      | rfl
      | (go_at_call 85;exact (HC.out _).mono fun e w' h=>⟨h.1,hs'.trans (h.2.mono hs'.size)⟩))))
    refine wpQuiet_nil ?_
    intro w2 hb2
    go_wp2_with fail
    refine ⟨⟨j + 1 + 1,by omega,by omega,by go_num,fun q hq h=>?_,HBW.out.trans (hb2.mono HBW.out.size)⟩,by simp [intOf];omega⟩
    by_cases hqj:q = j + 1
    ·subst hqj
     rw [Nat.add_sub_cancel,HXE.out,HYE.out]
     exact HRE.out
    ·exact HASC.out q (by omega) h
   ·have hr0:(0:Int) ≤ r:=by omega
    have HGF:=Shut.mk (show zex L = false from decide_eq_false (fun h=>hrr (by
     have h1:=h.2 (j + 1) (by rw [HNN.out];omega) (by omega)
     rw [Nat.add_sub_cancel,HXE.out,HYE.out] at h1
     rw [← HRE.out,h1])))
    clear hrr hrc
    go_upto_region 6 with (fail)
    refine z09 (fun w'=>Below wr.heap.size wr w') (by kernel_rfl) (by kernel_rfl) (Below.refl _ _).drew ?_
    repeat (first
     | go_big_quiet_skip
     | (go_big_quiet_want;refine z0c 25 _ rfl b (ob + j * 32) x _ rfl HR1.out Tryz.underlying25 rfl HS1.out ?_;go_big_quiet_on;simp only [Act.put,zS,zA,zB])
     | (go_big_quiet_want;refine z0c 25 _ rfl b (ob + (j + 1) * 32) y _ rfl HR2.out Tryz.underlying25 rfl HS2.out ?_;go_big_quiet_on;simp only [Act.put,zS,zA,zB])
     | go_big_quiet_step ((intro hs';first
      | rfl
      | (go_at_call 85;exact (HC.out _).mono fun e w' h=>⟨h.1,hs'.trans (h.2.mono hs'.size)⟩))))
    refine wpQuiet_nil ?_
    intro w2 hb2
    go_wp2_with fail
    go_ret
    exact ⟨by rw [HGF.out];rfl,HBW.out.trans (hb2.mono HBW.out.size)⟩
  ·have hge:¬ (k:Int) < (n:Int):=by omega
   have HR:=Shut.mk (show zex L = true from decide_eq_true ⟨by rw [HNN.out];omega,fun j hj h0=>HASC.out j (by rw [HNN.out] at hj;omega) h0⟩)
   go_wp2_with fail
   go_ret
   exact ⟨by rw [HR.out];rfl,HBW.out⟩
def zc6 (o:OpN):Bool:=if o.preds = [] then decide (o.depth = 1) else decide (1 < o.depth)
theorem zgv (o:OpN):GoodO o ↔ GoodD o.d ∧ 0 ≤ o.author ∧ o.author < 5 ∧ zex o.preds = true ∧ zc6 o = true:=by
 unfold GoodO zex zc6
 by_cases h:o.preds = []
 ·simp only [h,if_true,decide_eq_true_eq]
  constructor
  ·rintro ⟨h1,h2,h3,h4,h5,h6,h7⟩
   exact ⟨h5,h6,by omega,⟨h4,h1⟩,h2 trivial⟩
  ·rintro ⟨h5,h6,h7,⟨h4,h1⟩,h2⟩
   exact ⟨h1,fun _=>h2,fun h=>absurd rfl h,h4,h5,h6,by omega⟩
 ·simp only [h,if_false,decide_eq_true_eq]
  constructor
  ·rintro ⟨h1,h2,h3,h4,h5,h6,h7⟩
   have:=h3 h
   exact ⟨h5,h6,by omega,⟨h4,h1⟩,by omega⟩
  ·rintro ⟨h5,h6,h7,⟨h4,h1⟩,h2⟩
   exact ⟨h1,fun h=>(h.elim),fun _=>by omega,h4,h5,h6,by omega⟩
theorem zbk (o:OpN) (pa:Option Addr) (pc:Nat) (w:World) (hr:o.d.ref.length = 32) :
 Calls Tryz.prog 75 #[.agg (opV o pa pc)] w fun e w'=>e = .returned (.bool (zc6 o)) ∧ Below w.heap.size w w':=by
 have hx:Cells w.heap.size 38 (opV o pa pc) (w.alloc (.cells (opV o pa pc) 38)):=heap_alloc_new w _
 have hb:Below w.heap.size w (w.alloc (.cells (opV o pa pc) 38)):=(Below.refl _ _).alloc (Nat.le_refl _) _
 obtain ⟨_,_,c36,c37⟩:=z0k hr hx
 have HB:=Lib.hid hb
 obtain ⟨n,hnn⟩:∃ n,o.preds.length = n:=⟨_,rfl⟩
 obtain ⟨D,hD⟩:∃ D,o.depth = D:=⟨_,rfl⟩
 have HG:=Shut.mk (show zc6 o = if n = 0 then decide (D = 1) else decide (1 < D) by
  rw [zc6,hD,← hnn]
  by_cases h:o.preds = []
  ·simp [h]
  ·rw [if_neg h,if_neg (fun e=>h (List.length_eq_zero_iff.1 e))])
 rw [hnn] at c37
 rw [hD] at c36
 clear hx hb hnn hD
 by_cases h0:n = 0
 ·subst h0
  have HR:=Shut.mk (show zc6 o = (D == 1) by rw [HG.out,if_pos rfl];by_cases h:D = 1 <;> simp [h])
  go_enter Tryz.func75,Tryz.ntmps75
  go_wp2_with fail
  go_ret
  exact ⟨by rw [HR.out];rfl,HB.out⟩
 have h0b:((n:Int) == 0) = false:=by simp;omega
 have HR:=Shut.mk (show zc6 o = decide (1 < D) by rw [HG.out,if_neg h0])
 go_enter Tryz.func75,Tryz.ntmps75
 go_wp2_with fail
 go_ret
 exact ⟨by rw [HR.out];rfl,HB.out⟩
theorem zgb (o:OpN) (pa:Option Addr) (pc:Nat) (w:World) (ho:o.Ok) (hp:IAt pa o.preds w) (hk:o.d.key.length ≤ 140737488351232) (hv:o.d.val.length ≤ 140737488351232) (hn:o.preds.length ≤ 140737488351232) :
 Calls Tryz.prog 42 #[.agg (opV o pa pc)] w fun e w'=>e = .returned (.bool (decide (GoodO o))) ∧ Below w.heap.size w w':=by
 have hx:Cells w.heap.size 38 (opV o pa pc) (w.alloc (.cells (opV o pa pc) 38)):=heap_alloc_new w _
 have hb:Below w.heap.size w (w.alloc (.cells (opV o pa pc) 38)):=(Below.refl _ _).alloc (Nat.le_refl _) _
 have HX:=Lib.hid hx
 have HB:=Lib.hid hb
 have HP:=Lib.hid (hp.below hb)
 have HO:=Lib.hid ho
 have HSO:=Lib.hid (show (Tryz.prog.info? 38).map (·.size) = some (opV o pa pc).size by rw [z07 ho.ref.1];exact Tryz.sizeO)
 have HSD:=Lib.hid (show (Tryz.prog.info? 27).map (·.size) = some (z18 o.d).length by rw [z0s ho.ref.1];exact Tryz.sizeD)
 have HGD:=Lib.hid (fun w'=>z7j o.d ho.ref hk hv w')
 have HFD:=Lib.hid (fun w'=>zbk o pa pc w' ho.ref.1)
 have HGP:=Lib.hid (fun w' h=>zb9 o.preds pa pc w' ho.preds h hn)
 obtain ⟨n,hnn⟩:∃ n,o.preds.length = n:=⟨_,rfl⟩
 obtain ⟨A,hA⟩:∃ A,o.author = A:=⟨_,rfl⟩
 obtain ⟨zd,hzd⟩:∃ z,decide (GoodD o.d) = z:=⟨_,rfl⟩
 obtain ⟨zp,hzp⟩:∃ z,zex o.preds = z:=⟨_,rfl⟩
 obtain ⟨zf,hzf⟩:∃ z,zc6 o = z:=⟨_,rfl⟩
 have HG:=Shut.mk (show decide (GoodO o) = decide (zd = true ∧ 0 ≤ A ∧ A < 5 ∧ zp = true ∧ zf = true) from decide_eq_decide.2 (by rw [zgv,hA,hzp,hzf,← hzd,decide_eq_true_eq]))
 rw [hzd] at HGD
 rw [hzp,hnn] at HGP
 rw [hzf] at HFD
 have HNN:=Shut.mk hnn
 have HAA:=Shut.mk hA
 clear hx hb hp ho hk hv hn hnn hA hzd hzp hzf
 go_enter Tryz.func42,Tryz.ntmps42
 go_upto_region 1 with (fail)
 obtain ⟨w1,hw1⟩:∃ x,x = w.alloc (.cells (opV o pa pc) 38):=⟨_,rfl⟩
 rw [← hw1] at HX HB HP ⊢
 obtain ⟨c0,c35,c36,c37⟩:=z0k HO.out.ref.1 HX.out
 have HC0:=Lib.hid c0
 have HC35:=Lib.hid c35
 have HC37:=Lib.hid c37
 rw [HAA.out] at HC35
 rw [HNN.out] at HC37
 clear hw1 c0 c35 c36 c37
 refine wp_region_lit ?_
 iterate 3 (first | go_skip | go_guarded | go_step)
 refine wpList_load_mid rfl 27 _ rfl w.heap.size 0 rfl _ _ HC0.out Tryz.underlying27 rfl HSD.out ?_
 simp only [Act.put,zS,zA,zB]
 go_wp2_with fail
 refine (HGD.out _).mono ?_
 rintro e w2 ⟨rfl,hb⟩
 have HX2:=Lib.hid (HX.out.below hb)
 have HP2:=Lib.hid (HP.out.below hb)
 have HB2:=Lib.hid (HB.out.trans (hb.mono HB.out.size))
 have c35:=(hb.cell (p:=⟨w.heap.size,35,none⟩) HX.out.lt).trans HC35.out
 have c37:=(hb.cell (p:=⟨w.heap.size,37,none⟩) HX.out.lt).trans HC37.out
 clear hb HX HP HB HC0 HC35 HC37 HGD
 cases zd with
 | false =>
   have HR:=Shut.mk (HG.out.trans (decide_eq_false (fun h=>by cases h.1)))
   go_wp2_with fail
   go_ret
   exact ⟨by rw [HR.out];rfl,HB2.out⟩
 | true =>
 by_cases h0:A < 0
 ·have h0b:decide ((0:Int) ≤ A) = false:=decide_eq_false (by omega)
  have HR:=Shut.mk (HG.out.trans (decide_eq_false (fun h=>by omega)))
  go_wp2_with fail
  go_ret
  exact ⟨by rw [HR.out];rfl,HB2.out⟩
 have h0b:decide ((0:Int) ≤ A) = true:=decide_eq_true (by omega)
 by_cases h5:5 ≤ A
 ·have h5b:decide (A < 5) = false:=decide_eq_false (by omega)
  have HR:=Shut.mk (HG.out.trans (decide_eq_false (fun h=>by omega)))
  go_wp2_with fail
  go_ret
  exact ⟨by rw [HR.out];rfl,HB2.out⟩
 have h5b:decide (A < 5) = true:=decide_eq_true (by omega)
 have HR:=Shut.mk (show decide (GoodO o) = (zp && zf) by rw [HG.out];cases zp <;> cases zf <;> simp <;> omega)
 go_wp2_with fail
 refine (HGP.out _ HP2.out).mono ?_
 rintro e w3 ⟨rfl,hb⟩
 have HX3:=Lib.hid (HX2.out.below hb)
 have HB3:=Lib.hid (HB2.out.trans (hb.mono HB2.out.size))
 clear hb HX2 HP2 HB2 c35 c37 HGP
 cases zp with
 | false =>
   go_wp2_with fail
   go_ret
   exact ⟨by rw [HR.out];rfl,HB3.out⟩
 | true =>
 go_wp2_with (refine z2w (by rfl) 38 _ rfl w.heap.size (opV o pa pc) 38 _ rfl HX3.out Tryz.underlying38 rfl HSO.out ?_)
 refine (HFD.out _).mono ?_
 rintro e w4 ⟨rfl,hb⟩
 have HB4:=Lib.hid (HB3.out.trans (hb.mono HB3.out.size))
 clear hb HX3 HB3 HFD
 go_wp2_with fail
 go_ret
 exact ⟨by rw [HR.out];rfl,HB4.out⟩
theorem zdh (L:List (List Nat)) (pa:Option Addr) (n pc:Nat) (w:World) (hL:Ids L) (hp:IAt pa L w) (hn:n = L.length) (h63:n ≤ 100000) :
 Calls Tryz.prog 45 #[.slice pa n pc] w fun e w'=>∃ pa' pc',e = .returned (.slice pa' n pc') ∧ OwnI w.heap.size 25 (.slice pa' n pc') L w' ∧ Below w.heap.size w w' ∧ (pa' = none → pc' = 0):=by
 cases pa with
 | none =>
   have hL0:L = []:=by
    rcases hp with h | ⟨b,o,h,_⟩
    ·exact h
    ·cases h
   subst hL0
   obtain rfl:n = 0:=hn
   clear hp hL
   have q34:∀ (w:World) (a:Option Addr) (n c n' c':Nat),(binOp .eql 34 (.slice a n c) (.slice none n' c')).run Tryz.prog w = .ok (.bool a.isNone) w:=fun w a n c n' c'=>Lib.run_eql_slice_nil w _ _ a n c n' c' rfl
   go_enter Tryz.func45,Tryz.ntmps45
   go_wp2_with fail
   go_ret
   exact ⟨none,0,rfl,OwnI.nil _ _ _,Below.refl _ _,fun _=>rfl⟩
 | some ad =>
   have HL:=Lib.hid hL
   have HP:=Lib.hid hp
   have HN:=Lib.hid hn
   clear hL hp hn
   have q34:∀ (w:World) (a:Option Addr) (n c n' c':Nat),(binOp .eql 34 (.slice a n c) (.slice none n' c')).run Tryz.prog w = .ok (.bool a.isNone) w:=fun w a n c n' c'=>Lib.run_eql_slice_nil w _ _ a n c n' c' rfl
   go_enter Tryz.func45,Tryz.ntmps45
   have b1:Below w.heap.size w (w.alloc (.cells #[] 25)):=(Below.refl _ _).alloc (Nat.le_refl _) _
   have o1:OwnI w.heap.size 25 (.slice (some ⟨w.heap.size,0,none⟩) 0 0) [] (w.alloc (.cells #[] 25)):=World.ownsRow_lit w #[] 0 (Nat.le_refl _) (by unfold maxLen;omega) rfl
   have HO:=Lib.hid o1
   have HPA:=Lib.hid (HP.out.below b1)
   have HB:=Lib.hid b1
   clear b1 o1
   go_wp2_with (refine z0u rfl _ _ 34 25 rfl w.heap.size (.agg (z06 .u8 (List.replicate 32 0)).toArray) rfl Tryz.underlying34 Tryz.infoI32 (.slice (some ⟨w.heap.size,0,none⟩) 0 0) [] L HL.out (some ad) n pc HN.out rfl HO.out rfl HPA.out (fun h=>by cases h) (by simp only [List.length_nil];rw [← HN.out];omega) HB.out.size ?_)
   intro v' w' ho hg hd
   have ho1:=ho.out
   obtain ⟨a',c',rfl⟩:=ho1.form
   rw [← HN.out] at ho1
   have hb':Below w.heap.size w w':=HB.out.grown hg.out HB.out.size (fun g hg=>by
    obtain rfl:w.heap.size = g:=by injection hg
    exact Nat.le_refl _)
   have HF:=Lib.hid (And.intro ho1 (And.intro hb' (show a' = none → c' = 0 from fun e=>by
    subst e
    rcases ho1.2 with ⟨h1,_⟩ | ⟨g,cap,cur,h1,_⟩
    ·injection h1
    ·cases h1)))
   rw [← HN.out]
   clear ho1 hb' ho hg hd
   go_wp2_with fail
   go_ret
   exact ⟨a',c',rfl,HF.out⟩
def DevTake (X:Nat → Prop) (B:Bs) (T:Ents) (r:List (List Nat) × Int × DagN) (w:World) (e:Ending) (w':World):Prop :=
 ∃ v X' T' hs' M', e = .returned (.tuple #[v, .int .i64 r.2.1]) ∧ OwnI w.heap.size 25 v r.1 w' ∧ SetAt X' B T' r.2.2 hs' M' w' ∧ DInv r.2.2 hs' M' [] [] ∧ Tame r.2.2 ∧ Turn (SetO B T) (SetO B T') w w' ∧ (∀ b, v.ownBlock = some b → ¬ SetO B T' b) ∧
   (∀ b,X' b → X b) ∧ (∀ b,b < w.heap.size → X b → X' b) ∧ (∀ b,w'.heap.size ≤ b → X' b)
theorem DevTake.stay {X:Nat → Prop} {B:Bs} {T:Ents} {s:DagN} {hs:List (List Nat)} {M:Bh} {w w':World} {r:List (List Nat) × Int × DagN} (h:SetAt X B T s hs M w) (hX:∀ b,w.heap.size ≤ b → X b) (hD:DInv s hs M [] []) (ht:Tame s) (k:Below w.heap.size w w') (c:Int) (hr:r = ([],c,s)):DevTake X B T r w (.returned (.tuple #[.slice none 0 0,.int .i64 c])) w':=by
 subst hr
 exact ⟨_,X,T,hs,M,rfl,OwnI.nil _ _ _,h.below k,hD,ht,Turn.of k,(fun b hb=>by cases hb),fun _ h=>h,fun _ _ h=>h,fun b hb=>hX b (Nat.le_trans k.size hb)⟩
theorem z6a (X:Nat → Prop) (B:Bs) (T:Ents) (s:DagN) (hs:List (List Nat)) (M:Bh) (x:OpN) (pa:Option Addr) (pc:Nat) (w:World) (h:SetAt X B T s hs M w) (hX:∀ b,w.heap.size ≤ b → X b) (hD:DInv s hs M [] []) (ht:Tame s) (hx:x.Fit) (hpa:IAt pa x.preds w) (hk:KAt w) (hN:s.ops.length + s.wait.length ≤ 999) :
 Calls Tryz.prog 13 #[.pointer (some ⟨B.gs,0,none⟩),.agg (opV x pa pc)] w fun e w'=>DevTake X B T (z1l s x) w e w':=by
 have HX0:=Lib.hid hX
 have HS0:=Lib.hid h
 have HD:=Lib.hid hD
 have HTM:=Lib.hid ht
 have HXF:=Lib.hid hx
 have x1:Cells w.heap.size 38 (opV x pa pc) (w.alloc (.cells (opV x pa pc) 38)):=heap_alloc_new w _
 have b1:Below w.heap.size w (w.alloc (.cells (opV x pa pc) 38)):=(Below.refl _ _).alloc (Nat.le_refl _) _
 have HB:=Lib.hid b1
 have HC:=Lib.hid x1
 have HIA:=Lib.hid (hpa.below b1)
 have HK:=Lib.hid (hk.below b1)
 have HSV:=Lib.hid (show (Tryz.prog.info? 38).map (·.size) = some (opV x pa pc).size by rw [z07 hx.d.ref.1];exact Tryz.sizeO)
 clear h hX hD ht hx hpa hk x1 b1
 go_enter Tryz.func13,Tryz.ntmps13
 go_upto_region 1 with (fail)
 obtain ⟨w1,hw1⟩:∃ q,q = w.alloc (.cells (opV x pa pc) 38):=⟨_,rfl⟩
 rw [← hw1] at HB HC HIA HK ⊢
 obtain ⟨g3,hg3⟩:∃ g,w.heap.size = g:=⟨_,rfl⟩
 have HG3:=Lib.hid hg3
 rw [hg3] at HC ⊢
 clear hw1 hg3
 have HGD:=Lib.hid (zgb x pa pc w1 HXF.out.ok HIA.out (by have:=HXF.out.d.key;omega) (by have:=HXF.out.d.val;omega) (by have:=HXF.out.many;omega))
 by_cases hg:GoodO x
 ·rw [decide_eq_true hg] at HGD
  have HGO:=Lib.hid hg
  clear hg
  have hnn:IdOk (z0a x):=⟨z1u x,z2o x⟩
  have HTK:=Shut.mk (show z1l s x = if z0a x ∈ s.names ∨ z0a x ∈ s.waits then ([],9,s) else if z1f s.names x = false then ([],0,⟨s.ops,s.wait ++ [x]⟩) else if x.depth ≠ z1h s.ops x then ([],10,s) else (z0a x :: (z0t s.wait.length ⟨s.ops ++ [x],s.wait⟩).1,0,(z0t s.wait.length ⟨s.ops ++ [x],s.wait⟩).2) by rw [z1l,if_neg (fun h=>h HGO.out)])
  have HNM:=Lib.hid (fun w2 (b:Below w1.heap.size w1 w2)=>zhn x pa pc w2 HXF.out (HIA.out.below b) (HK.out.below b))
  obtain ⟨n,hn⟩:∃ n,z0a x = n:=⟨_,rfl⟩
  rw [hn] at hnn HTK HNM
  have HN:=Lib.hid hnn
  have HNE:=Shut.mk hn
  have HS1:=Lib.hid (show (Tryz.prog.info? 25).map (·.size) = some n.length by rw [hnn.1];exact Tryz.sizeI)
  have HL2:=Lib.hid (show (List.replicate 32 0).length = n.length by rw [hnn.1];rfl)
  clear hn hnn
  go_wp2_with (first
   | (refine z00 rfl 38 (.tmp 3) rfl g3 (opV x pa pc) 38 _ rfl HC.out Tryz.underlying38 rfl HSV.out ?_)
   | (refine HGD.out.mono ?_; rintro e w2 ⟨rfl, hb2⟩
      have HB2:=Lib.hid hb2
      have HC2:=Lib.hid (HC.out.below hb2)
      clear hb2)
   | (refine z00 rfl 38 (.tmp 3) rfl g3 (opV x pa pc) 38 _ rfl HC2.out Tryz.underlying38 rfl HSV.out ?_)
   | (refine (HNM.out w2 HB2.out).mono ?_; rintro e w3 ⟨rfl, hb3⟩
      have HB3:=Lib.hid (HB2.out.trans (hb3.mono HB2.out.size))
      have HC3:=Lib.hid (HC2.out.below hb3)
      clear hb3 HC2 HB2)
   | (refine z04 rfl 25 _ _ rfl rfl w3.heap.size .u8 (List.replicate 32 0) n 25 rfl rfl (heap_alloc_new w3 _) HS1.out HL2.out ?_))
  intro w4 hc4 hb4
  have HB4:=Lib.hid (HB3.out.trans ((show Below w3.heap.size w3 w4 from But.toBelow ((Below.refl _ _).alloc (Nat.le_refl _) _) hb4.out (Nat.le_refl _) (by rw [World.size_alloc];exact Nat.le_succ _)).mono HB3.out.size))
  obtain ⟨g6,hg6⟩:∃ g,w3.heap.size = g:=⟨_,rfl⟩
  have HG6:=Lib.hid (show w1.heap.size ≤ g6 from hg6 ▸ HB3.out.size)
  have HC6:=Lib.hid (show Blk g6 25 .u8 n w4 from hg6 ▸ hc4.out)
  rw [hg6]
  have HBW:=Lib.hid (HB.out.trans (HB4.out.mono HB.out.size))
  have HS4:=Lib.hid (HS0.out.below HBW.out)
  have HC4:=Lib.hid (HC.out.below HB4.out)
  have HIA4:=Lib.hid (HIA.out.below HB4.out)
  have HGL:=Lib.hid (show g3 < w1.heap.size from HC.out.lt)
  clear hc4 hb4 hg6 HC3 HB3 HC HIA HK HNM HGD
  have HKN:=Lib.hid (zhg X B T s hs M n w4 HS4.out HN.out (fun y hy=>(HTM.out.ops y hy).d.ref.1) (fun y hy=>(HTM.out.wait y hy).d.ref.1))
  by_cases hkn:n ∈ s.names ∨ n ∈ s.waits
  ·have hz:(decide (n ∈ s.names) || decide (n ∈ s.waits)) = true:=by simpa using hkn
   rw [hz] at HKN
   have htk:=HTK.out
   rw [if_pos hkn] at htk
   have HTK2:=Shut.mk htk
   clear hkn hz htk
   go_wp2_with (first
    | (refine z03 rfl 25 (.tmp 6) rfl g6 .u8 n 25 _ rfl HC6.out Tryz.underlying25 rfl HS1.out ?_)
    | (refine HKN.out.mono ?_;rintro e w5 ⟨rfl,hb5⟩))
   go_ret2
   exact DevTake.stay HS0.out HX0.out HD.out HTM.out (HBW.out.trans (hb5.mono HBW.out.size)) 9 HTK2.out
  ·have hz:(decide (n ∈ s.names) || decide (n ∈ s.waits)) = false:=by simpa using hkn
   rw [hz] at HKN
   have htk:=HTK.out
   rw [if_neg hkn] at htk
   have HTK2:=Shut.mk htk
   have HNN:=Lib.hid (show n ∉ s.names from fun e=>hkn (.inl e))
   have HNW:=Lib.hid (show n ∉ s.waits from fun e=>hkn (.inr e))
   clear hkn hz htk HTK
   have HFR:=Lib.hid (show ∀ p,p ∈ x.preds → IdOk p from HXF.out.preds)
   have HGW:=Lib.hid (show w.heap.size ≤ g3 from HG3.out ▸ Nat.le_refl _)
   have HG36:=Lib.hid (show g6 ≠ g3 from fun e=>by have h1:=HGL.out;have h2:=HG6.out;omega)
   have HSV2:=Lib.hid (fun (pa':Option Addr) (pc':Nat)=>show (Tryz.prog.info? 38).map (·.size) = some (opV x pa' pc').size by rw [z07 HXF.out.d.ref.1];exact Tryz.sizeO)
   go_wp2_with (first
    | (refine z03 rfl 25 (.tmp 6) rfl g6 .u8 n 25 _ rfl HC6.out Tryz.underlying25 rfl HS1.out ?_)
    | (refine HKN.out.mono ?_; rintro e w5 ⟨rfl, hb5⟩
       have HB5:=Lib.hid hb5
       have HC5:=Lib.hid (HC4.out.below hb5)
       have c37:=(z0k HXF.out.d.ref.1 HC5.out).2.2.2
       have HCL:=Lib.hid (zdh x.preds pa x.preds.length pc w5 HFR.out (HIA4.out.below hb5) rfl (by have:=HXF.out.many;omega))
       clear hb5)
    | (refine HCL.out.mono ?_; rintro e w6 ⟨pa', pc', rfl, ho6, hb6, hn6⟩
       have HO6:=Lib.hid ho6
       have HB65:=Lib.hid hb6
       have HB6:=Lib.hid (HB5.out.trans (hb6.mono HB5.out.size))
       have HN6:=Lib.hid hn6
       have HC66:=Lib.hid (HC5.out.below hb6)
       have c37':=(z0k HXF.out.d.ref.1 HC66.out).2.2.2
       have f37:=HC66.out.frozen 37
       have hk7:But g3 w6 (w6.setCell ⟨g3,37,none⟩ (.slice pa' x.preds.length pc')):=(But.refl g3 w6).setCell 37 _
       have HK7:=Lib.hid hk7
       have HC67:=Lib.hid ((HC6.out.below HB6.out).but hk7 HG36.out)
       have HC7:=Lib.hid (show Cells g3 38 (opV x pa' pc') (w6.setCell ⟨g3,37,none⟩ (.slice pa' x.preds.length pc')) from by
        have h:=HC66.out.set 37 (.slice pa' x.preds.length pc')
        rw [show (opV x pa pc).setIfInBounds 37 (.slice pa' x.preds.length pc') = opV x pa' pc' from z7a (d:=x.d) (a:=x.author) (b:=x.depth) (L:=x.preds) (M:=x.preds) HXF.out.d.ref.1 rfl pa pa' pc pc'] at h
        exact h)
       clear ho6 hb6 hn6 hk7 HCL HC5 c37)
    | (refine z03 rfl 25 (.tmp 6) rfl g6 .u8 n 25 _ rfl HC67.out Tryz.underlying25 rfl HS1.out ?_)
    | (refine z00 rfl 38 (.tmp 3) rfl g3 (opV x pa' pc') 38 _ rfl HC7.out Tryz.underlying38 rfl (HSV2.out pa' pc') ?_))
   obtain ⟨w7,hw7⟩:∃ z,z = w6.setCell ⟨g3,37,none⟩ (.slice pa' x.preds.length pc'):=⟨_,rfl⟩
   rw [← hw7] at HK7 HC67 HC7 ⊢
   clear hw7 c37' f37
   have HB7:=Lib.hid (show Below w.heap.size w w7 from But.toBelow (HBW.out.trans (HB6.out.mono HBW.out.size)) HK7.out HGW.out (HBW.out.trans (HB6.out.mono HBW.out.size)).size)
   have HFB:=Lib.hid (show ∀ a,pa' = some a → w5.heap.size ≤ a.block ∧ a.block < w6.heap.size from fun a ha=>World.ownsRow.lt HO6.out a.block (by subst ha;rfl))
   obtain ⟨Y,hY⟩:∃ Y:Nat → Prop,Y = fun b=>X b ∧ ∀ a,pa' = some a → b ≠ a.block:=⟨_,rfl⟩
   have HWS:=Lib.hid (show w.heap.size ≤ w5.heap.size from (HBW.out.trans (HB5.out.mono HBW.out.size)).size)
   have HY1:=Lib.hid (show ∀ b,Y b → X b from fun b h=>by rw [hY] at h;exact h.1)
   have HY2:=Lib.hid (show ∀ b,b < w.heap.size → X b → Y b from fun b hb h=>by
    rw [hY]
    exact ⟨h,fun a ha e=>by have:=(HFB.out a ha).1;have:=HWS.out;omega⟩)
   have HY3:=Lib.hid (show ∀ b,w7.heap.size ≤ b → Y b from fun b hb=>by
    rw [hY]
    exact ⟨HX0.out b (Nat.le_trans HB7.out.size hb),fun a ha e=>by have:=(HFB.out a ha).2;have:=HK7.out.size;omega⟩)
   have HOF:=Lib.hid (show OffX Y pa' x.preds from fun a ha _ h=>by rw [hY] at h;exact h.2 a ha rfl)
   have HS7:=Lib.hid ((HS0.out.below HB7.out).mono HY1.out (fun b hb=>HY2.out b (SetO.x HS0.out hb).2 (SetO.x HS0.out hb).1))
   have HI7:=Lib.hid (show IAt pa' x.preds w7 from OwnI.at (HO6.out.but HK7.out (fun g hg e=>by
    have h1:=(World.ownsRow.lt HO6.out g hg).1
    have h2:=HGL.out;have h3:=HB4.out.size;have h4:=HB5.out.size;omega)) HFR.out)
   have HE7:=Lib.hid (show EntsO Y (s.wait ++ [x]) (z2v T.w n (.agg (opV x pa' pc'))) w7 from by
    have h:=HS7.out.wait.push x pa' pc' HI7.out HOF.out
    rw [HNE.out] at h
    rw [z1p (by rw [HS7.out.wait.keys];exact HNW.out)]
    exact h)
   have HLB:=Lib.hid (show ∀ q,(atB M q).length ≤ 100000 from fun q=>by have h1:=(HD.out.lenB q).1;have h2:=HTM.out.many;omega)
   have HRO:=Lib.hid (show ∀ y ∈ s.ops,y.d.ref.length = 32 from fun y hy=>(HTM.out.ops y hy).d.ref.1)
   have HWT:=Lib.hid (zfd Y B T s hs M n x pa' pc' (s.wait ++ [x]) w7 HS7.out HY3.out HN.out HXF.out.d.ref.1 HFR.out HI7.out (by have:=HXF.out.many;omega) HE7.out HRO.out HLB.out)
   clear hY HO6 HB65 HN6 HC66 HE7 HC6 HKN HB5 HB6 HK7
   by_cases hw:z1f s.names x = true
   ·have htk:=HTK2.out
    rw [if_neg (by rw [hw];decide)] at htk
    have HTK3:=Shut.mk htk
    have HW:=Lib.hid hw
    have HFT:=Lib.hid (fun w8 (b:Below w7.heap.size w7 w8)=>zfg Y B T s hs M x pa' pc' w8 (HS7.out.below b) HXF.out.d.ref.1 HFR.out (HI7.out.below b) (by have:=HXF.out.many;omega) HRO.out HTM.out.shallow (by have:=HTM.out.many;omega))
    clear hw htk HTK2
    by_cases hdp:x.depth = z1h s.ops x
    ·have htk:=HTK3.out
     rw [if_neg (fun h=>h hdp)] at htk
     have HTK4:=Shut.mk htk
     rw [decide_eq_true hdp] at HFT
     have HAD:=Lib.hid (fun w9 (b:Below w7.heap.size w7 w9)=>zif Y B T s hs M n x pa' pc' w9 (HS7.out.below b) (fun c hc=>HY3.out c (Nat.le_trans b.size hc)) HNE.out HXF.out (HI7.out.below b) HOF.out HD.out HNN.out HNW.out HW.out hdp HTM.out hN)
     clear hdp htk HTK3
     obtain ⟨RR,hRR⟩:∃ RR,z0t s.wait.length ⟨s.ops ++ [x],s.wait⟩ = RR:=⟨_,rfl⟩
     rw [hRR] at HAD HTK4
     clear hRR
     refine HWT.out.mono ?_
     rintro e w8 hwp
     obtain ⟨rfl,hb8⟩:=zbq hwp HW.out
     have HC78:=Lib.hid (HC7.out.below hb8)
     have HC68:=Lib.hid (HC67.out.below hb8)
     have HB8:=Lib.hid hb8
     clear hwp hb8 HC7 HC67 HWT
     go_wp2_with (first
      | (refine z00 rfl 38 (.tmp 3) rfl g3 (opV x pa' pc') 38 _ rfl HC78.out Tryz.underlying38 rfl (HSV2.out pa' pc') ?_)
      | (refine (HFT.out w8 HB8.out).mono ?_; rintro e w9 ⟨rfl, hb9⟩
         have HB9:=Lib.hid (HB8.out.trans (hb9.mono HB8.out.size))
         have HC79:=Lib.hid (HC78.out.below hb9)
         have HC69:=Lib.hid (HC68.out.below hb9)
         clear hb9 HC78 HC68)
      | (refine z03 rfl 25 (.tmp 6) rfl g6 .u8 n 25 _ rfl HC69.out Tryz.underlying25 rfl HS1.out ?_)
      | (refine z00 rfl 38 (.tmp 3) rfl g3 (opV x pa' pc') 38 _ rfl HC79.out Tryz.underlying38 rfl (HSV2.out pa' pc') ?_)
      | (refine (HAD.out w9 HB9.out).mono ?_;rintro e wa ⟨v,T',hs',M',rfl,hoa,hsa,hda,hta,hna,htma⟩))
     go_ret2
     have HB79:=HB7.out.trans (HB9.out.mono HB7.out.size)
     exact ⟨v,Y,T',hs',M',by rw [HTK4.out];rfl,by rw [HTK4.out];exact hoa.mono HB79.size,by rw [HTK4.out];exact hsa,by rw [HTK4.out];exact hda,by rw [HTK4.out];exact htma,(Turn.of HB79).trans hta,hna,HY1.out,HY2.out,fun b hb=>HY3.out b (Nat.le_trans HB9.out.size (Nat.le_trans hta.only.size hb))⟩
    ·have htk:=HTK3.out
     rw [if_pos hdp] at htk
     have HTK4:=Shut.mk htk
     rw [decide_eq_false hdp] at HFT
     clear hdp htk HTK3
     refine HWT.out.mono ?_
     rintro e w8 hwp
     obtain ⟨rfl,hb8⟩:=zbq hwp HW.out
     have HC78:=Lib.hid (HC7.out.below hb8)
     have HB8:=Lib.hid hb8
     clear hwp hb8 HC7 HC67 HWT
     go_wp2_with (first
      | (refine z00 rfl 38 (.tmp 3) rfl g3 (opV x pa' pc') 38 _ rfl HC78.out Tryz.underlying38 rfl (HSV2.out pa' pc') ?_)
      | (refine (HFT.out w8 HB8.out).mono ?_;rintro e w9 ⟨rfl,hb9⟩))
     go_ret2
     exact DevTake.stay HS0.out HX0.out HD.out HTM.out (HB7.out.trans ((HB8.out.trans (hb9.mono HB8.out.size)).mono HB7.out.size)) 10 HTK4.out
   ·have hw':z1f s.names x = false:=by simpa using hw
    have htk:=HTK2.out
    rw [if_pos hw'] at htk
    have HTK3:=Shut.mk htk
    have HW:=Lib.hid hw'
    clear hw hw' htk HTK2
    refine HWT.out.mono ?_
    rintro e w8 hwp
    obtain ⟨rfl,p,v,hp1,hp2,hs8,ht8⟩:=zhk hwp HW.out
    have HDN:=Lib.hid (HD.out.come (o:=x) (by rw [HNE.out];exact HNN.out) (by rw [HNE.out];exact HNW.out) hp1 hp2)
    rw [HNE.out] at HDN
    clear hwp HWT
    go_wp2_with fail
    go_ret2
    have htm':Tame ⟨s.ops,s.wait ++ [x]⟩:=by
     refine ⟨HTM.out.ops,fun y hy=>?_,HTM.out.shallow,?_⟩
     ·rcases List.mem_append.1 hy with h | h
      ·exact HTM.out.wait y h
      ·rw [List.mem_singleton.1 h];exact HXF.out
     ·show s.ops.length + (s.wait ++ [x]).length ≤ 1000
      rw [List.length_append];simp only [List.length_singleton];omega
    exact ⟨_,Y,_,hs,_,by rw [HTK3.out];rfl,by rw [HTK3.out];exact OwnI.nil _ _ _,by rw [HTK3.out];exact hs8,by rw [HTK3.out];exact HDN.out,by rw [HTK3.out];exact htm',(Turn.of HB7.out).trans ht8,(fun b hb=>by cases hb),HY1.out,HY2.out,fun b hb=>HY3.out b (Nat.le_trans ht8.only.size hb)⟩
 ·rw [decide_eq_false hg] at HGD
  have HR:=Shut.mk (show z1l s x = ([],1,s) by rw [z1l,if_pos hg])
  clear hg
  go_wp2_with (first
   | (refine z00 rfl 38 (.tmp 3) rfl g3 (opV x pa pc) 38 _ rfl HC.out Tryz.underlying38 rfl HSV.out ?_)
   | (refine HGD.out.mono ?_;rintro e w2 ⟨rfl,hb2⟩))
  go_ret2
  exact DevTake.stay HS0.out HX0.out HD.out HTM.out (HB.out.trans (hb2.mono HB.out.size)) 1 HR.out
theorem zgr {s:DagN} {hs:List (List Nat)} {M:Bh} {R F:List (List Nat)} (h:DInv s hs M R F) (hl:∀ x ∈ hs,x.length = 32):z0e hs = z19 s:=by
 have hp:=z63 h
 have hl2:∀ x ∈ (s.names.filter fun n=>!(s.ops.any fun o=>decide (n ∈ o.preds))),x.length = 32:=fun x hx=>hl x (hp.mem_iff.2 hx)
 have hd2:(s.names.filter fun n=>!(s.ops.any fun o=>decide (n ∈ o.preds))).Nodup:=hp.nodup_iff.1 h.hnodup
 exact zdo (z8j hl h.hnodup) ((z1c hs).trans hp) hl2 hd2
theorem zgs (hs:List (List Nat)):(z58 hs).map (·.1) = hs:=by simp [z58,List.map_map,Function.comp_def]
end Go.Proofs.YtnbldbbbibpobaaGreatDoor
