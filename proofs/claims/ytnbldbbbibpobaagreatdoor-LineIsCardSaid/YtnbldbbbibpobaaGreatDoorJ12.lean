/-
  Joined: The developers' release.; What admit needs: the row of names that it answers, beside the set and the queue; how many wait.; The developers' admit. Written by dag/gen/gen_adm.py.; The developers' GoodDraft.
-/
import Derived.Test.YtnbldbbbibpobaaGreatDoorJ04
import Derived.Test.YtnbldbbbibpobaaGreatDoorJ10
import Derived.Test.YtnbldbbbibpobaaGreatDoorJ11
set_option maxRecDepth 100000
set_option maxHeartbeats 20000000
namespace Go.Proofs.YtnbldbbbibpobaaGreatDoor
open Go.RowKit Go.BigFrame
theorem drop_at {L:List (List Nat)} {k:Nat} (h:k < L.length):L.drop k = L.getD k [] :: L.drop (k + 1):=by
 rw [List.drop_eq_getElem_cons h,List.getD_eq_getElem?_getD,List.getElem?_eq_getElem h]
 rfl
theorem zht (q:Nat) (v:Value) (Q:List (List Nat)) (x:List Nat) (w:World) (h:QAt q v Q w) (hh:HeapN Q Q.length) (hx:IdOk x) (hl:Q.length ≤ 90000) :
 Calls Tryz.prog 100 #[.iface 109 (.pointer (some ⟨q,0,none⟩)),.iface 25 (.agg (z07 .u8 x).toArray)] w fun e w'=>e = .returned (.tuple #[]) ∧ ∃ v' Q',Q'.Perm (x :: Q) ∧ HeapN Q' Q'.length ∧ QAt q v' Q' w' ∧ Turn (QO q v) (QO q v') w w' :=
 zkp q v Q x w h hh hx hl
section
variable {X:Nat → Prop} {B:Bs} {T:Ents} {s:DagN} {W':List OpN} {hs:List (List Nat)} {M:Bh} {n:List Nat} {o:OpN} {val:Value} {w w':World} {e:Ending}
theorem zdz (h:WaitPost X B T s W' hs M n o val w e w') (hw:z1l s.names o = true):e = .returned (.bool false) ∧ Below w.heap.size w w':=by
 rcases h with ⟨_,rfl,h2⟩ | ⟨p,v,h1,h2,_⟩
 ·exact ⟨rfl,h2⟩
 ·exact absurd (wholeN_iff.1 hw p h1) h2
theorem zk9 (h:WaitPost X B T s W' hs M n o val w e w') (hw:z1l s.names o = false):e = .returned (.bool true) ∧ ∃ p v,p ∈ o.preds ∧ p ∉ s.names ∧ SetAt X B ⟨T.p,z3c T.w n val,z3c T.b p v⟩ ⟨s.ops,W'⟩ hs (z3c M p (atB M p ++ [n])) w' ∧ Turn (SetO B T) (SetO B ⟨T.p,z3c T.w n val,z3c T.b p v⟩) w w':=by
 rcases h with ⟨h1,_⟩ | ⟨p,v,h1,h2,h3,h4⟩
 ·rw [hw] at h1;cases h1
 ·exact ⟨h3,p,v,h1,h2,h4⟩
end
theorem zbd (X:Nat → Prop) (B:Bs) (T:Ents) (s:DagN) (hs:List (List Nat)) (M:Bh) (n:List Nat) (q:Nat) (v:Value) (Q:List (List Nat)) (w:World) (h:SQ X B T s hs M q v Q w) (hX:∀ b,w.heap.size ≤ b → X b) (hn:IdOk n) (hin:n ∈ s.names)
 (hd:DInv s hs (z5b M n) (atB M n) Q) (hh:HeapN Q Q.length) (hfo:∀ x ∈ s.ops,x.d.ref.length = 32) (hfw:∀ x ∈ s.wait,x.Fit) (hlw:s.wait.length ≤ 1000) :
 Calls Tryz.prog 79 #[.pointer (some ⟨B.gs,0,none⟩),.agg (z07 .u8 n).toArray,.pointer (some ⟨q,0,none⟩)] w fun e w'=>e = .returned (.tuple #[]) ∧
  ∃ T' M' v' Q',SQ X B T' s hs M' q v' Q' w' ∧ DInv s hs M' [] Q' ∧ HeapN Q' Q'.length ∧ Turn (SQO B T q v) (SQO B T' q v') w w':=by
 have HX0:=Lib.hid hX
 have HN:=Lib.hid hn
 have HIN:=Lib.hid hin
 have HFO:=Lib.hid hfo
 have HFW:=Lib.hid hfw
 have HD0:=Lib.hid hd
 have HH0:=Lib.hid hh
 have HS00:=Lib.hid h
 have a1:Below w.heap.size w (w.alloc (.cells (z07 .u8 n).toArray 25)):=(Below.refl _ _).alloc (Nat.le_refl _) _
 have x1:Blk w.heap.size 25 .u8 n (w.alloc (.cells (z07 .u8 n).toArray 25)):=heap_alloc_new w _
 have HSN:=Lib.hid (show (Tryz.prog.info? 25).map (·.size) = some n.length by rw [hn.1];exact Tryz.sizeI)
 go_enter Tryz.func79,Tryz.ntmps79
 go_upto_region 1 with (fail)
 obtain ⟨w1,hw1⟩:∃ x,x = w.alloc (.cells (z07 .u8 n).toArray 25):=⟨_,rfl⟩
 rw [← hw1] at a1 x1 ⊢
 obtain ⟨g4,hg4⟩:∃ g,w.heap.size = g:=⟨_,rfl⟩
 rw [hg4] at x1 ⊢
 have HB:=Lib.hid a1
 have H4:=Lib.hid x1
 have HS:=Lib.hid (h.below a1)
 have HG4:=Lib.hid hg4
 have HNO4:=Lib.hid (show ¬ SQO B T q v g4 from fun e=>by have:=(SQ.lt h e).2;omega)
 obtain ⟨hr1,hr2,hr3⟩:=h.set.beh.row h.set.bm.nodup n
 have hdl:=(hd.lenB n).2
 obtain ⟨R,hR⟩:∃ R,atE T.b (.slice none 0 0) n = R:=⟨_,rfl⟩
 obtain ⟨L,hL⟩:∃ L,atB M n = L:=⟨_,rfl⟩
 rw [hR] at hr1
 rw [hL] at hr1 hr3 hdl
 obtain ⟨ao,c,rfl⟩:=hr1.form
 obtain ⟨m,hm⟩:∃ m,L.length = m:=⟨_,rfl⟩
 rw [hm] at hR hdl hr1
 have HM:=Shut.mk hm
 have HR:=Shut.mk hR
 have HLE:=Shut.mk hL
 have HLI:=Lib.hid hr3
 clear a1 x1 hw1 hg4 h hX hn hin hd hh hfo hfw hr1 hr2 hr3 hR hL hm
 have HCE:=Lib.hid (fun w' (hb:Below w1.heap.size w1 w')=>(HS.out.below hb).set.cell.2.2.2)
 have HI4:=Lib.hid (fun w' (hb:Below w1.heap.size w1 w')=>H4.out.below hb)
 refine z09 (fun w'=>Below w1.heap.size w1 w') (by kernel_rfl) (by kernel_rfl) (Below.refl _ _).drew ?_
 repeat (first
  | (go_big_quiet_want;refine z03 78 _ rfl ⟨B.gs,3,none⟩ _ rfl HCE.out Tryz.isAgg78 ?_;go_big_quiet_on;simp only [Act.put,zS,zA,zB])
  | (go_big_quiet_want;refine z0x 25 _ rfl g4 .u8 n 25 _ rfl HI4.out Tryz.underlying25 rfl HSN.out ?_;go_big_quiet_on;simp only [Act.put,zS,zA,zB])
  | (go_big_quiet_want;refine z3b _ _ 78 25 34 false rfl Tryz.idKey Tryz.underlying78 (.slice none 0 0) zhx B.b T.b (fun w' hb=>(HS.out.below hb).set.bm) n HN.out rfl rfl _ HR.out ?_;go_big_quiet_on;simp only [Act.put,zS,zA,zB])
  | go_big_quiet_step ((intro hs';rfl)))
 refine wpQuiet_nil ?_
 intro w2 hs2
 have HS2:=Lib.hid (HS.out.below hs2)
 have HB2:=Lib.hid (HB.out.trans (hs2.mono HB.out.size))
 have H42:=Lib.hid (H4.out.below hs2)
 clear hs2 HCE HI4 HS HB H4
 go_wp2_with fail
 go_loopw [15] (fun i wr=>∃ (k:Nat) (Tk:Ents) (Mk:Bh) (vk:Value) (Qk:List (List Nat)),k ≤ m ∧ i = .int .i64 k ∧ SQ X B Tk s hs Mk q vk Qk wr ∧ DInv s hs (z5b Mk n) (L.drop k) Qk ∧ HeapN Qk Qk.length ∧ atB Mk n = L ∧ atE Tk.b (.slice none 0 0) n = .slice ao m c ∧ Turn (SQO B T q v) (SQO B Tk q vk) w2 wr) (fun i _=>m - (intOf i).toNat)
 case atStart=>exact ⟨0,T,M,v,Q,Nat.zero_le _,rfl,HS2.out,by rw [List.drop_zero,← HLE.out];exact HD0.out,HH0.out,HLE.out,HR.out,Turn.refl _ _⟩
 case round =>
  obtain ⟨k,Tk,Mk,vk,Qk,hk,rfl,hsq,hdi,hhk,hmk,hrk,htk⟩:=hrel
  obtain ⟨hr1,hr2,hr3⟩:=hsq.set.beh.row hsq.set.bm.nodup n
  rw [hrk,hmk] at hr1
  have hat:=hr1.at HLI.out
  have hkk:=hsq.set.beh.keys
  have HKM:=Lib.hid (show (Mk.map (·.1)).Nodup from hkk ▸ hsq.set.bm.nodup)
  have HKE:=Lib.hid hsq.set.bm.nodup
  have HSQ:=Lib.hid hsq
  have HDI:=Lib.hid hdi
  have HHK:=Lib.hid hhk
  have HMK:=Shut.mk hmk
  have HRK:=Shut.mk hrk
  have HTK:=Lib.hid htk
  have HXK:=Lib.hid (fun b (hb:wr.heap.size ≤ b)=>HX0.out b (Nat.le_trans HB2.out.size (Nat.le_trans htk.only.size hb)))
  have HLF:=Lib.hid (show Qk.length ≤ 1000 from Nat.le_trans hdi.lenF hlw)
  clear hsq hdi hhk hmk hrk htk hr1 hr2 hr3 hkk
  by_cases hlt:k < m
  ·obtain ⟨b,ob,rfl,hbl⟩:=hat.some (by rw [HM.out];omega)
   have gx:=hat.get (i:=k) (by rw [HM.out];omega)
   have i1:=Ids.getD HLI.out (i:=k) (by rw [HM.out];omega)
   have hdr:=drop_at (L:=L) (k:=k) (by rw [HM.out];exact hlt)
   obtain ⟨x,hx⟩:∃ x,L.getD k [] = x:=⟨_,rfl⟩
   rw [hx] at gx i1 hdr
   have HXI:=Lib.hid (show IdOk x from i1)
   have HG1:=Lib.hid gx
   have hdi:=HDI.out
   rw [hdr] at hdi
   have HDX:=Lib.hid hdi
   have HS1:=Lib.hid (show (Tryz.prog.info? 25).map (·.size) = some x.length by rw [i1.1];exact Tryz.sizeI)
   have HL2:=Lib.hid (show (List.replicate 32 0).length = x.length by rw [i1.1];rfl)
   obtain ⟨o0,ho0,ho1⟩:=hdi.op (m:=x) (by simp)
   obtain ⟨o,pa,pc,e1,e2,e3,e4,e5⟩:=z47 HSQ.out.set.wait HSQ.out.set.wm.nodup (fun y hy=>(HFW.out y hy).d.ref.1) x
   obtain ⟨_,f1,f2,f3,f4,_⟩:=e5.resolve_right (fun h=>h.1 (List.mem_map.2 ⟨o0,ho0,ho1⟩))
   have HE1:=Shut.mk e1
   have HOF:=Lib.hid (HFW.out o f1)
   have HOW:=Lib.hid f1
   have HON:=Lib.hid f2
   have HLK:=Lib.hid f4
   have HIA:=Lib.hid e4
   have HWE:=Lib.hid (show EntsO X s.wait (z3c Tk.w x (.agg (opV o pa pc))) wr from by
    rw [put_here HSQ.out.set.wm.nodup f4]
    exact HSQ.out.set.wait)
   clear hx gx i1 hbl hdr hdi ho0 ho1 e1 e2 e3 e4 e5 f1 f2 f3 f4 hat
   go_wp2_with (first
    | (refine z0a rfl 25 _ rfl b (ob + k * 32) x _ rfl HG1.out Tryz.underlying25 rfl HS1.out ?_)
    | (refine z06 rfl 25 _ _ rfl rfl wr.heap.size .u8 (List.replicate 32 0) x 25 rfl rfl (heap_alloc_new wr _) HS1.out HL2.out ?_))
   intro w5 hc' hb'
   have HB5:=Lib.hid (show Below wr.heap.size wr w5 from But.toBelow ((Below.refl _ _).alloc (Nat.le_refl _) _) hb'.out (Nat.le_refl _) (by rw [World.size_alloc];exact Nat.le_succ _))
   have HS5:=Lib.hid (HSQ.out.below HB5.out)
   have HT5:=Lib.hid (HTK.out.below HB5.out)
   have HWE5:=Lib.hid (HWE.out.below HB5.out)
   have HIA5:=Lib.hid (HIA.out.below HB5.out)
   obtain ⟨g7,hg7⟩:∃ g,wr.heap.size = g:=⟨_,rfl⟩
   have HC5:=Lib.hid (show Blk g7 25 .u8 x w5 from hg7 ▸ hc'.out)
   have HNO7:=Lib.hid (show ¬ SQO B Tk q vk g7 from fun e=>by have:=(SQ.lt HSQ.out e).2;omega)
   have HX5:=Lib.hid (fun b (hb:w5.heap.size ≤ b)=>HXK.out b (Nat.le_trans HB5.out.size hb))
   rw [hg7]
   clear hc' hb' hg7 HG1 HWE HIA
   go_upto_region 4 with (fail)
   have HCE:=Lib.hid (fun w' (hb:Below w5.heap.size w5 w')=>(HS5.out.below hb).set.cell.2.1)
   have HI7:=Lib.hid (fun w' (hb:Below w5.heap.size w5 w')=>HC5.out.below hb)
   refine z0c (fun w'=>Below w5.heap.size w5 w') 8 (by kernel_rfl) (by kernel_rfl) (Below.refl _ _).drew ?_
   simp only [zC,zD,zE,zF]
   repeat (first
    | (go_big_quiet_want;refine z03 76 _ rfl ⟨B.gs,1,none⟩ _ rfl HCE.out Tryz.isAgg76 ?_;go_big_quiet_on;simp only [Act.put,zS,zA,zB])
    | (go_big_quiet_want;refine z0x 25 _ rfl g7 .u8 x 25 _ rfl HI7.out Tryz.underlying25 rfl HS1.out ?_;go_big_quiet_on;simp only [Act.put,zS,zA,zB])
    | (go_big_quiet_want;refine z3b _ _ 76 25 38 false rfl Tryz.idKey Tryz.underlying76 (.agg (opV z05 none 0)) z6m B.w Tk.w (fun w' hb=>(HS5.out.below hb).set.wm) x HXI.out rfl rfl _ HE1.out ?_;go_big_quiet_on;simp only [Act.put,zS,zA,zB])
    | go_big_quiet_step ((intro hs';rfl)))
   refine wpQuiet_nil ?_
   intro w6 hs6
   have HS6:=Lib.hid (HS5.out.below hs6)
   have HT6:=Lib.hid (HT5.out.below hs6)
   have HC6:=Lib.hid (HC5.out.below hs6)
   have HX6:=Lib.hid (fun b (hb:w6.heap.size ≤ b)=>HX5.out b (Nat.le_trans hs6.size hb))
   have HWT:=Lib.hid (zij X B Tk s hs Mk x o pa pc s.wait w6 HS6.out.set HX6.out HXI.out HOF.out.d.ref.1 HOF.out.preds (HIA5.out.below hs6) (by have:=HOF.out.many;omega) (HWE5.out.below hs6) HFO.out (fun p=>by
    by_cases hpn:p = n
    ·rw [hpn,HMK.out,HM.out];omega
    ·have:=(HDX.out.lenB p).1
     rw [zed HKM.out hpn] at this
     omega))
   clear hs6 HCE HI7 HS5 HT5 HC5 HWE5 HIA5 HX5
   obtain ⟨z,hz⟩:∃ z,z1l s.names o = z:=⟨_,rfl⟩
   have HZ:=Shut.mk hz
   clear hz
   cases z with
   | true =>
     have HWY:=Lib.hid (HWT.out.mono (fun e w' h=>zdz h HZ.out))
     clear HWT
     go_wp2_with (first
      | (refine HWY.out.mono ?_; rintro e w7 ⟨rfl, hb7⟩
         have HS7:=Lib.hid (HS6.out.below hb7)
         have HT7:=Lib.hid (HT6.out.below hb7)
         have HC7:=Lib.hid (HC6.out.below hb7)
         have HX7:=Lib.hid (fun b (hb:w7.heap.size ≤ b)=>HX6.out b (Nat.le_trans hb7.size hb))
         have HPU:=Lib.hid (zht q vk Qk x w7 HS7.out.qu HHK.out HXI.out (by have:=HLF.out;omega))
         clear hb7)
      | (refine z04 rfl 25 (.tmp 7) rfl g7 .u8 x 25 _ rfl HC7.out Tryz.underlying25 rfl HS1.out ?_)
      | (refine HPU.out.mono ?_; rintro e w8 ⟨rfl, v8, Q8, hp8, hh8, hq8, ht8⟩
         obtain ⟨hs8,htt8⟩:=HS7.out.turnQ HX7.out hq8 ht8
         have HS8:=Lib.hid hs8
         have HT8:=Lib.hid (HT7.out.trans htt8)
         have HH8:=Lib.hid hh8
         have HP8:=Lib.hid hp8
         clear hp8 hh8 hq8 ht8 hs8 htt8))
     have HD8:=Lib.hid (show DInv s hs (z5b Mk n) (L.drop (k + 1)) Q8 from (HDX.out.step_free HOW.out HON.out HZ.out).permF HP8.out.symm)
     exact ⟨⟨k + 1,Tk,Mk,v8,Q8,by omega,by go_num,HS8.out,HD8.out,HH8.out,HMK.out,HRK.out,HT8.out⟩,by simp [intOf];omega⟩
   | false =>
     have HWN:=Lib.hid (HWT.out.mono (fun e w' h=>zk9 h HZ.out))
     clear HWT
     go_wp2_with (refine HWN.out.mono ?_;rintro e w7 ⟨rfl,p,u,hpo,hpn,hset,htn⟩)
     have hne:n ≠ p:=fun e=>hpn (e ▸ HIN.out)
     obtain ⟨hs7,ht7⟩:=HS6.out.turnS hset htn
     have hd7:=HDX.out.step_wait HOW.out HON.out hpo hpn
     rw [zed HKM.out (Ne.symm hne),← zk2 _ (Ne.symm hne)] at hd7
     exact ⟨⟨k + 1,_,_,vk,Qk,by omega,by go_num,hs7,hd7,HHK.out,by rw [zkt HKM.out hne];exact HMK.out,by
      show atE (z3c Tk.b p u) (.slice none 0 0) n = _
      rw [atE,z8m HKE.out _ hne]
      exact HRK.out,HT6.out.trans ht7⟩,by simp [intOf];omega⟩
  ·obtain rfl:k = m:=by omega
   have hde:=HDI.out
   rw [List.drop_of_length_le (by rw [HM.out];exact Nat.le_refl _)] at hde
   have HDE:=Lib.hid hde
   have H4K:=Lib.hid (H42.out.only HTK.out.only HNO4.out)
   clear hde hat
   go_upto_region 7 with (fail)
   have HCE:=Lib.hid (fun w' (hb:Below wr.heap.size wr w')=>(HSQ.out.below hb).set.cell.2.2.2)
   have HI4:=Lib.hid (fun w' (hb:Below wr.heap.size wr w')=>H4K.out.below hb)
   refine z0c (fun w'=>Below wr.heap.size wr w') 5 (by kernel_rfl) (by kernel_rfl) (Below.refl _ _).drew ?_
   simp only [zC,zD,zE,zF]
   repeat (first
    | (go_big_quiet_want;refine z03 78 _ rfl ⟨B.gs,3,none⟩ _ rfl HCE.out Tryz.isAgg78 ?_;go_big_quiet_on;simp only [Act.put,zS,zA,zB])
    | (go_big_quiet_want;refine z0x 25 _ rfl g4 .u8 n 25 _ rfl HI4.out Tryz.underlying25 rfl HSN.out ?_;go_big_quiet_on;simp only [Act.put,zS,zA,zB])
    | go_big_quiet_step ((intro hs';rfl)))
   refine wpQuiet_nil ?_
   intro w8 hs8
   have HS8:=Lib.hid (HSQ.out.below hs8)
   have HT8:=Lib.hid (HTK.out.below hs8)
   have HBM:=Lib.hid HS8.out.set.bm
   clear hs8 HCE HI4 HSQ HTK
   go_wp2_with (refine z4d rfl _ _ 78 25 34 rfl Tryz.idKey Tryz.underlying78 B.b _ HBM.out n HN.out rfl rfl ?_)
   intro w9 hm9 ho9
   obtain ⟨hs9,ht9⟩:=HS8.out.set.delB n ho9.out hm9.out
   obtain ⟨hf1,hf2⟩:=HS8.out.turnS hs9 ht9
   have HF1:=Lib.hid hf1
   have HF2:=Lib.hid ((Turn.of HB2.out).trans (HT8.out.trans hf2))
   clear hm9 ho9 hs9 ht9 hf1 hf2
   go_wp2_with fail
   refine bodyPost_end (results_none rfl _ _ _) rfl ?_
   exact ⟨rfl,_,_,vk,Qk,HF1.out,HDE.out,HHK.out,HF2.out⟩
section
variable {X O:Nat → Prop} {B:Bs} {T:Ents} {s:DagN} {hs:List (List Nat)} {M:Bh} {q:Nat} {v:Value} {Q:List (List Nat)} {w w':World}
theorem SQ.only (h:SQ X B T s hs M q v Q w) (k:Only O w w') (hO:∀ b,O b → X b) (hd:∀ b,SQO B T q v b → ¬ O b):SQ X B T s hs M q v Q w' :=
 ⟨h.set.only k hO (fun b hb=>hd b (.inl hb)),h.qu.only k (fun b hb=>hd b (.inr hb)),h.apart,h.qx⟩
theorem SQ.start (h:SetAt X B T s hs M w) (hX:∀ b,w.heap.size ≤ b → X b) (hq:QAt q v Q w') (k:Below w.heap.size w w') (hn:∀ b,QO q v b → w.heap.size ≤ b):SQ X B T s hs M q v Q w' :=
 ⟨h.below k,hq,fun b hb e=>by have:=hn b hb;have:=(SetO.x h e).2;omega,fun b hb=>hX b (hn b hb)⟩
end
theorem zh2 {g:Nat} {x:List Nat} {w:World} {B:Nat} (h:Blk g 25 .u8 x w) (hx:x.length = 32) (hB:B ≤ g):OwnI B 25 (.slice (some ⟨g,0,none⟩) 1 1) [x] w:=by
 have hf:z1o [x] = z07 .u8 x:=by simp [z1o]
 refine ⟨by rw [hf,z0y,hx];rfl,.inr ⟨g,1,(z07 .u8 x).toArray,rfl,hB,h,Nat.le_refl _,by unfold maxLen;omega,by rw [List.size_toArray,z0y,hx],?_⟩⟩
 rw [hf]
 show (z07 .u8 x).take (1 * 32) = _
 rw [List.take_of_length_le (by rw [z0y,hx];exact Nat.le_refl _)]
def zb3 (w:World) (b:Nat):Nat:=match w.heap[b]? with
 | some (.map es _)=>es.size
 | _=>0
theorem MapN.size {b:Nat} {L:List (List Nat × Value)} {w:World} (h:MapN b L w):zb3 w b = L.length:=by
 obtain ⟨es,clock,h1,_,h3⟩:=h.ex
 have:=congrArg List.length h3
 rw [zb3,h1]
 simpa using this
theorem SetAt.size {X:Nat → Prop} {B:Bs} {T:Ents} {s:DagN} {hs:List (List Nat)} {M:Bh} {w:World} (h:SetAt X B T s hs M w):zb3 w B.w = s.wait.length:=by
 rw [h.wm.size,h.wait.1]
structure Tame (s:DagN):Prop where
 ops:∀ x ∈ s.ops,x.Fit
 wait:∀ x ∈ s.wait,x.Fit
 shallow:s.Shallow
 many:s.ops.length + s.wait.length ≤ 1000
theorem Tame.push {s:DagN} (h:Tame s) {o:OpN} {i:Nat} (hi:s.wait[i]? = some o) (hd:o.depth = z1p s.ops o):Tame ⟨s.ops ++ [o],s.wait.eraseIdx i⟩:=by
 have hil:=(List.getElem?_eq_some_iff.1 hi).1
 have hl:(s.wait.eraseIdx i).length + 1 = s.wait.length:=by rw [List.length_eraseIdx,if_pos hil];omega
 refine ⟨fun x hx=>?_,fun x hx=>h.wait x ((List.eraseIdx_sublist _ _).subset hx),Shallow_push h.shallow hd _,by simp only [List.length_append,List.length_singleton];have:=h.many;omega⟩
 rcases List.mem_append.1 hx with hx | hx
 ·exact h.ops x hx
 ·obtain rfl:=List.mem_singleton.1 hx
  exact h.wait x (List.mem_of_getElem? hi)
theorem Tame.drop {s:DagN} (h:Tame s) (i:Nat):Tame ⟨s.ops,s.wait.eraseIdx i⟩ :=
 ⟨h.ops,fun x hx=>h.wait x ((List.eraseIdx_sublist _ _).subset hx),h.shallow,by have:=h.many;have:=List.length_eraseIdx_le s.wait i;show s.ops.length + (s.wait.eraseIdx i).length ≤ 1000;omega⟩
theorem Tame.come {s:DagN} (h:Tame s) {o:OpN} (ho:o.Fit) (hd:o.depth = z1p s.ops o) (hm:s.ops.length + s.wait.length ≤ 999):Tame ⟨s.ops ++ [o],s.wait⟩:=by
 refine ⟨fun x hx=>?_,h.wait,Shallow_push h.shallow hd _,by simp only [List.length_append,List.length_singleton];omega⟩
 rcases List.mem_append.1 hx with hx | hx
 ·exact h.ops x hx
 ·obtain rfl:=List.mem_singleton.1 hx
  exact ho
theorem EntsO.drop {X:Nat → Prop} {L:List OpN} {E:List (List Nat × Value)} {w:World} (h:EntsO X L E w) (hd:(E.map (·.1)).Nodup) {i:Nat} {o:OpN} (hi:L[i]? = some o):EntsO X (L.eraseIdx i) (z5b E (z00 o)) w:=by
 obtain ⟨pa,pc,h1,_⟩:=h.2 i o hi
 rw [z92 hd h1]
 exact h.erase i
def AdmPost (X:Nat → Prop) (B:Bs) (T:Ents) (n:List Nat) (r:List (List Nat) × DagN) (w:World) (e:Ending) (w':World):Prop :=
 ∃ v T' hs' M',e = .returned v ∧ OwnI w.heap.size 25 v (n :: r.1) w' ∧ SetAt X B T' r.2 hs' M' w' ∧ DInv r.2 hs' M' [] [] ∧ Turn (SetO B T) (SetO B T') w w' ∧ (∀ b,v.ownBlock = some b → ¬ SetO B T' b) ∧ Tame r.2
theorem zkr (X:Nat → Prop) (B:Bs) (T:Ents) (s:DagN) (hs:List (List Nat)) (M:Bh) (n:List Nat) (y:OpN) (qa:Option Addr) (qc:Nat) (w:World) (h:SetAt X B T s hs M w) (hX:∀ b,w.heap.size ≤ b → X b) (hne:z00 y = n) (hyf:y.Fit) (hya:IAt qa y.preds w) (hyo:OffX X qa y.preds)
 (hD:DInv s hs M [] []) (hn1:n ∉ s.names) (hn2:n ∉ s.waits) (hwh:z1l s.names y = true) (hdep:y.depth = z1p s.ops y) (htm:Tame s) (hm:s.ops.length + s.wait.length ≤ 999) :
 Calls Tryz.prog 48 #[.pointer (some ⟨B.gs,0,none⟩),.agg (z07 .u8 n).toArray,.agg (opV y qa qc)] w fun e w'=>AdmPost X B T n (z0s s.wait.length ⟨s.ops ++ [y],s.wait⟩) w e w':=by
 have hn:IdOk n:=hne ▸ ⟨z0p y,z5d y⟩
 have hnh:n ∉ hs:=fun e=>hn1 ((hD.heads n).1 e).1
 have HX0:=Lib.hid hX
 have HN:=Lib.hid hn
 have HYF:=Lib.hid hyf
 have HD1:=Lib.hid (show DInv ⟨s.ops ++ [y],s.wait⟩ ((hs.filter fun n=>!decide (n ∈ y.preds)) ++ [n]) (z5b M n) (atB M n) [] from hne ▸ hD.add (hne.symm ▸ hn1) (hne.symm ▸ hn2) hwh)
 have HTM:=Lib.hid (htm.come hyf hdep hm)
 have HIN:=Lib.hid (show n ∈ DagN.names ⟨s.ops ++ [y],s.wait⟩ by rw [DagN.names,List.map_append,List.mem_append];exact .inr (by simp [hne]))
 have HADD:=Lib.hid (fun w1 (b:Below w.heap.size w w1)=>zlj X B T s hs M n y qa qc w1 (h.below b) hne hyf.d.ref.1 hyf.preds (hya.below b) hyo (by have:=hyf.many;omega) hn1 hnh)
 have a1:Below w.heap.size w (w.alloc (.cells (z07 .u8 n).toArray 25)):=(Below.refl _ _).alloc (Nat.le_refl _) _
 have x1:Blk w.heap.size 25 .u8 n (w.alloc (.cells (z07 .u8 n).toArray 25)):=heap_alloc_new w _
 have s1:(w.alloc (.cells (z07 .u8 n).toArray 25)).heap.size = w.heap.size + 1:=World.size_alloc _ _
 have HSN:=Lib.hid (show (Tryz.prog.info? 25).map (·.size) = some n.length by rw [hn.1];exact Tryz.sizeI)
 have HSY:=Lib.hid (show (Tryz.prog.info? 38).map (·.size) = some (opV y qa qc).size by rw [z0b hyf.d.ref.1];exact Tryz.sizeO)
 obtain ⟨RR,hRR⟩:∃ RR,z0s s.wait.length ⟨s.ops ++ [y],s.wait⟩ = RR:=⟨_,rfl⟩
 rw [hRR]
 have HR0:=Shut.mk hRR
 clear hRR
 go_enter Tryz.func48,Tryz.ntmps48
 go_upto_region 1 with (fail)
 obtain ⟨w1,hw1⟩:∃ x,x = w.alloc (.cells (z07 .u8 n).toArray 25):=⟨_,rfl⟩
 rw [← hw1] at a1 x1 s1 ⊢
 have a2:Below w1.heap.size w1 (w1.alloc (.cells (opV y qa qc) 38)):=(Below.refl _ _).alloc (Nat.le_refl _) _
 have x2:Cells w1.heap.size 38 (opV y qa qc) (w1.alloc (.cells (opV y qa qc) 38)):=heap_alloc_new w1 _
 obtain ⟨w2,hw2⟩:∃ x,x = w1.alloc (.cells (opV y qa qc) 38):=⟨_,rfl⟩
 rw [← hw2] at a2 x2 ⊢
 have hB:=a1.trans (a2.mono a1.size)
 have x12:=x1.below a2
 obtain ⟨g4,hg4⟩:∃ g,w.heap.size = g:=⟨_,rfl⟩
 rw [s1,hg4] at x2
 obtain ⟨g5,hg5⟩:∃ g,g4 + 1 = g:=⟨_,rfl⟩
 rw [hg4] at x12 ⊢
 rw [hg5] at x2 ⊢
 have HB:=Lib.hid hB
 have H4:=Lib.hid x12
 have H5:=Lib.hid x2
 have HNO4:=Lib.hid (show ¬ SetO B T g4 from fun e=>by have:=(SetO.x h e).2;omega)
 have HG4:=Lib.hid hg4
 have HMX:=Lib.hid (fun b (hb:SetO B T b)=>(SetO.x h hb))
 clear a1 a2 x1 x2 s1 hw1 hw2 hB x12 hg4 hg5 h hX hyf hya hyo hD hn1 hn2 hwh hdep htm hm hn hnh
 go_wp2_with (first
  | (refine z04 rfl 25 (.tmp 4) rfl g4 .u8 n 25 _ rfl H4.out Tryz.underlying25 rfl HSN.out ?_)
  | (refine z01 rfl 38 (.tmp 5) rfl g5 (opV y qa qc) 38 _ rfl H5.out Tryz.underlying38 rfl HSY.out ?_)
  | (refine (HADD.out w2 HB.out).mono ?_; rintro e w3 ⟨rfl, hs3, ht3⟩
     have HS3:=Lib.hid hs3
     have HT3:=Lib.hid ((Turn.of HB.out).trans ht3)
     have H43:=Lib.hid (H4.out.only ht3.only HNO4.out)
     clear hs3 ht3)
  | (refine z04 rfl 25 (.tmp 4) rfl g4 .u8 n 25 _ rfl H43.out Tryz.underlying25 rfl HSN.out ?_)
  | (refine z13 rfl 34 25 _ rfl n rfl HN.out.1 Tryz.underlying34 Tryz.infoI32 ?_))
 intro w4 hk4 hb4
 have HS4:=Lib.hid (HS3.out.below hb4.out)
 have HT4:=Lib.hid (HT3.out.below hb4.out)
 have H44:=Lib.hid (H43.out.below hb4.out)
 obtain ⟨g7,hg7⟩:∃ g,w3.heap.size = g:=⟨_,rfl⟩
 have HO4:=Lib.hid (show OwnI w.heap.size 25 (.slice (some ⟨g7,0,none⟩) 1 1) [n] w4 from zh2 (hg7 ▸ hk4.out) HN.out.1 (hg7 ▸ HT3.out.only.size))
 have HNO7:=Lib.hid (show ∀ b,b < w3.heap.size → b ≠ g7 from fun b hb e=>by omega)
 rw [hg7]
 clear hk4 hb4 hg7
 go_upto_region 4 with (fail)
 have b5:Below w4.heap.size w4 (w4.alloc (.cells #[] 25)):=(Below.refl _ _).alloc (Nat.le_refl _) _
 have s5:(w4.alloc (.cells #[] 25)).heap.size = w4.heap.size + 1:=World.size_alloc _ _
 have o5:OwnI 0 25 (.slice (some ⟨w4.heap.size,0,none⟩) 0 0) [] (w4.alloc (.cells #[] 25)):=World.ownsRow_lit w4 #[] 0 (Nat.zero_le _) (by unfold maxLen;omega) rfl
 obtain ⟨w5,hw5⟩:∃ x,x = w4.alloc (.cells #[] 25):=⟨_,rfl⟩
 rw [← hw5] at b5 s5 o5 ⊢
 have b6:Below w5.heap.size w5 (w5.alloc (.cells #[.slice (some ⟨w4.heap.size,0,none⟩) 0 0] 110)):=(Below.refl _ _).alloc (Nat.le_refl _) _
 have c6:Cells w5.heap.size 110 #[.slice (some ⟨w4.heap.size,0,none⟩) 0 0] (w5.alloc (.cells #[.slice (some ⟨w4.heap.size,0,none⟩) 0 0] 110)):=heap_alloc_new w5 _
 obtain ⟨w6,hw6⟩:∃ x,x = w5.alloc (.cells #[.slice (some ⟨w4.heap.size,0,none⟩) 0 0] 110):=⟨_,rfl⟩
 rw [← hw6] at b6 c6 ⊢
 have o6:=o5.below b6
 have h46:=b5.trans (b6.mono b5.size)
 rw [s5] at c6
 obtain ⟨qk,hq⟩:∃ qk,w4.heap.size + 1 = qk:=⟨_,rfl⟩
 obtain ⟨g6,hg6⟩:∃ qk,w4.heap.size = qk:=⟨_,rfl⟩
 rw [hq] at c6 ⊢
 rw [hg6] at c6 o6
 have HS6:=Lib.hid (SQ.start (q:=qk) (v:=.slice (some ⟨g6,0,none⟩) 0 0) (Q:=[]) HS4.out (fun b hb=>HX0.out b (Nat.le_trans HT4.out.only.size hb)) ⟨c6,o6,fun x hx=>by cases hx⟩ h46 (by
  rintro b (rfl | hb)
  ·omega
  ·obtain rfl:g6 = b:=by injection hb
   omega))
 have HT6:=Lib.hid (show Turn (SetO B T) (SQO B ⟨z3c T.p n (.agg (opV y qa qc)),T.w,T.b⟩ qk (.slice (some ⟨g6,0,none⟩) 0 0)) w w6 from by
  refine ⟨HT4.out.only.below h46,?_⟩
  have hsz:=HT4.out.only.size
  rintro b (hb | rfl | hb)
  ·exact HT4.out.own b hb
  ·exact .inr (by omega)
  ·obtain rfl:g6 = b:=by injection hb
   exact .inr (by omega))
 have HO6:=Lib.hid (HO4.out.below h46)
 have HNV6:=Lib.hid (show ∀ b,(Value.slice (some ⟨g7,0,none⟩) 1 1).ownBlock = some b → ¬ SQO B ⟨z3c T.p n (.agg (opV y qa qc)),T.w,T.b⟩ qk (.slice (some ⟨g6,0,none⟩) 0 0) b from by
  intro b hb
  obtain rfl:g7 = b:=by injection hb
  have h7:=(World.ownsRow.lt HO4.out g7 rfl)
  rintro (e | e | e)
  ·exact HNO7.out _ (SetO.x HS3.out e).2 rfl
  ·have:=h7.2;omega
  ·obtain rfl:g6 = g7:=by injection e
   have:=h7.2;omega)
 have H46:=Lib.hid (H44.out.below h46)
 have HX6:=Lib.hid (fun b (hb:w6.heap.size ≤ b)=>HX0.out b (Nat.le_trans (Nat.le_trans HT4.out.only.size h46.size) hb))
 clear b5 s5 o5 b6 c6 o6 h46 hw5 hw6 hq hg6 HS4 HT4 H44 HO4 HNO7
 have HREL:=Lib.hid (zbd X B _ _ _ _ n qk _ [] w6 HS6.out HX6.out HN.out HIN.out HD1.out HeapN.nil (fun x hx=>(HTM.out.ops x hx).d.ref.1) HTM.out.wait (by have:=HTM.out.many;show s.wait.length ≤ 1000;simp only [List.length_append] at this;omega))
 go_wp2_with (first
  | (refine z04 rfl 25 (.tmp 4) rfl g4 .u8 n 25 _ rfl H46.out Tryz.underlying25 rfl HSN.out ?_)
  | (refine HREL.out.mono ?_; rintro e w8 ⟨rfl, T8, M8, v8, Q8, hs8, hd8, hh8, ht8⟩
     have HS8:=Lib.hid hs8
     have HD8:=Lib.hid hd8
     have HH8:=Lib.hid hh8
     have HT8:=Lib.hid (HT6.out.trans ht8)
     have HO8:=Lib.hid (HO6.out.only ht8.only HNV6.out)
     have HNV8:=Lib.hid (show ∀ b,(Value.slice (some ⟨g7,0,none⟩) 1 1).ownBlock = some b → ¬ SQO B T8 qk v8 b from fun b hb e=>by
      rcases ht8.own b e with e | e
      ·exact HNV6.out b hb e
      ·have:=(World.ownsRow.lt HO6.out b hb).2
       omega)
     clear hs8 hd8 hh8 ht8 HREL HS6 HT6 HO6 HNV6 H46 HX6))
 obtain ⟨S1,hS1⟩:∃ S1,DagN.mk (s.ops ++ [y]) s.wait = S1:=⟨_,rfl⟩
 have hwl:s.wait.length = S1.wait.length:=by rw [← hS1]
 have HRR:=Shut.mk (show z0s S1.wait.length S1 = RR by rw [← hwl,← hS1];exact HR0.out)
 rw [hS1] at HS8 HD8 HTM
 clear hS1 hwl HR0 HD1 HIN HADD HS3 HT3 H43 H4 H5 HB
 go_loopw [7] (fun vo wr=>∃ (sk:DagN) (Tk:Ents) (hk:List (List Nat)) (Mk:Bh) (vk:Value) (Qk out:List (List Nat)),SQ X B Tk sk hk Mk qk vk Qk wr ∧ DInv sk hk Mk [] Qk ∧ HeapN Qk Qk.length ∧ Tame sk ∧ OwnI w.heap.size 25 vo (n :: out) wr ∧ (∀ b,vo.ownBlock = some b → ¬ SQO B Tk qk vk b) ∧
  out ++ (z0s sk.wait.length sk).1 = RR.1 ∧ (z0s sk.wait.length sk).2 = RR.2 ∧ out.length + sk.wait.length ≤ 1000 ∧ Turn (SetO B T) (SQO B Tk qk vk) w wr) (fun _ wr=>zb3 wr B.w)
 case atStart=>exact ⟨S1,T8,_,M8,v8,Q8,[],HS8.out,HD8.out,HH8.out,HTM.out,HO8.out,HNV8.out,by rw [HRR.out];rfl,by rw [HRR.out],by have:=HTM.out.many;simp only [List.length_nil];omega,HT8.out⟩
 case round =>
  clear HS8 HD8 HH8 HTM HO8 HNV8 HT8 HRR
  obtain ⟨sk,Tk,hk,Mk,vk,Qk,out,hsq,hdi,hhe,htm,hrow,hnv,hr1,hr2,hln,htu⟩:=hrel
  have HSQ:=Lib.hid hsq
  have HDI:=Lib.hid hdi
  have HHE:=Lib.hid hhe
  have HTM:=Lib.hid htm
  have HRW:=Lib.hid hrow
  have HNV:=Lib.hid hnv
  have HR1:=Shut.mk hr1
  have HR2:=Shut.mk hr2
  have HLN:=Lib.hid hln
  have HTU:=Lib.hid htu
  have HXR:=Lib.hid (fun b (hb:wr.heap.size ≤ b)=>HX0.out b (Nat.le_trans htu.only.size hb))
  have HQL:=Lib.hid (show Qk.length ≤ 1000 from Nat.le_trans hdi.lenF (by have:=htm.many;omega))
  obtain ⟨aq,cq,rfl⟩:=hsq.qu.form
  have hcq:=hsq.qu.at0
  obtain ⟨ql,hql⟩:∃ l,Qk.length = l:=⟨_,rfl⟩
  have HQE:=Shut.mk hql
  rw [hql] at hcq HSQ HNV HTU hsq
  have hqlb:ql ≤ 1000:=by rw [← hql];exact HQL.out
  have HCQ:=Lib.hid hcq
  obtain ⟨ao,co,rfl⟩:=hrow.form
  clear hsq hdi hhe htm hrow hnv hr1 hr2 hln htu hql hcq
  by_cases hz:ql = 0
  ·subst hz
   have hqn:Qk = []:=List.length_eq_zero_iff.1 HQE.out
   subst hqn
   have hb:=HDI.out.best_none
   have HF:=Lib.hid (show AdmPost X B T n RR w (.returned (.slice ao (n :: out).length co)) wr from by
    have e1:=HR1.out
    have e2:=HR2.out
    rw [z9y hb] at e1 e2
    refine ⟨_,Tk,hk,Mk,rfl,?_,?_,?_,⟨HTU.out.only,fun b hb=>HTU.out.own b (.inl hb)⟩,fun b hb e=>HNV.out b hb (.inl e),?_⟩
    ·rw [← e1,List.append_nil];exact HRW.out
    ·rw [← e2];exact HSQ.out.set
    ·rw [← e2];exact HDI.out
    ·rw [← e2];exact HTM.out)
   have hcq:=HCQ.out
   clear hb
   go_wp2_with (refine (zi4 aq 0 cq _).mono ?_;rintro e wx ⟨rfl,hwx⟩;subst wx)
   go_ret
   exact HF.out
  ·have hpos:(0:Int) < (ql:Int):=by omega
   have hcq:=HCQ.out
   have hpop:=heap_pop qk _ Qk wr HSQ.out.qu HHE.out (by rw [HQE.out];omega) (by rw [HQE.out];omega)
   unfold hq at hpop
   have hx0:qAt Qk 0 ∈ Qk:=z81 (by rw [HQE.out];omega)
   have hfi:=HHE.out.first HSQ.out.qu.len32 (by rw [HQE.out];omega)
   have hxi:=HSQ.out.qu.ids _ hx0
   obtain ⟨x,hx⟩:∃ x,qAt Qk 0 = x:=⟨_,rfl⟩
   rw [hx] at hpop hx0 hfi hxi
   have HP:=Lib.hid hpop
   have HXI:=Lib.hid (show IdOk x from hxi)
   obtain ⟨i,o,hbest,hio,hno,hwo⟩:=HDI.out.best hx0 hfi
   have HBS:=Shut.mk hbest
   have HIO:=Shut.mk hio
   have HNO:=Shut.mk hno
   have HWO:=Shut.mk hwo
   have HOF:=Lib.hid (HTM.out.wait o (List.mem_of_getElem? hio))
   obtain ⟨o',pa,pc,e1,e2,e3,e4,e5⟩:=z47 HSQ.out.set.wait HSQ.out.set.wm.nodup (fun y hy=>(HTM.out.wait y hy).d.ref.1) x
   obtain ⟨_,f1,f2,f3,f4,_⟩:=e5.resolve_right (fun h=>h.1 (List.mem_map.2 ⟨o,List.mem_of_getElem? hio,hno⟩))
   obtain rfl:o' = o:=HDI.out.one f1 (List.mem_of_getElem? hio) (f2.trans hno.symm)
   have HE1:=Shut.mk e1
   have HIA:=Lib.hid e4
   have HOX:=Lib.hid f3
   have HS1:=Lib.hid (show (Tryz.prog.info? 25).map (·.size) = some x.length by rw [hxi.1];exact Tryz.sizeI)
   have HL2:=Lib.hid (show (List.replicate 32 0).length = x.length by rw [hxi.1];rfl)
   have HSO:=Lib.hid (show (Tryz.prog.info? 38).map (·.size) = some (opV o' pa pc).size by rw [z0b e3];exact Tryz.sizeO)
   have HSL:=Lib.hid (show (opV z05 none 0).size = (opV o' pa pc).size by rw [z0b e3];rfl)
   have HLK:=Lib.hid f4
   have hta:=zft x
   clear hpop hx0 hfi hxi hx hbest hio hno hwo e1 e2 e3 e4 e5 f1 f2 f3 f4 hz
   go_wp2_with (first
    | (refine (zi4 aq ql cq _).mono ?_;rintro e wx ⟨rfl,hwx⟩;subst wx)
    | (refine HP.out.mono ?_; rintro e w5 ⟨rfl, v5, Q5, hp5, hh5, hq5, ht5⟩
       obtain ⟨hs5,htt5⟩:=HSQ.out.turnQ HXR.out hq5 ht5
       have HS5:=Lib.hid hs5
       have HT5:=Lib.hid htt5
       have HH5:=Lib.hid hh5
       have HP5:=Lib.hid hp5
       clear hp5 hh5 hq5 ht5 hs5 htt5 hcq)
    | (refine z06 rfl 25 _ _ rfl rfl w5.heap.size .u8 (List.replicate 32 0) x 25 rfl rfl (heap_alloc_new w5 _) HS1.out HL2.out ?_))
   intro w7 hc7 hb7
   have HB7:=Lib.hid (show Below w5.heap.size w5 w7 from But.toBelow ((Below.refl _ _).alloc (Nat.le_refl _) _) hb7.out (Nat.le_refl _) (by rw [World.size_alloc];exact Nat.le_succ _))
   have HSP:=Lib.hid (HS5.out.below HB7.out)
   have HT7:=Lib.hid (HT5.out.below HB7.out)
   have HRW7:=Lib.hid ((HRW.out.only HT5.out.only HNV.out).below HB7.out)
   have HNV7:=Lib.hid (show ∀ b,(Value.slice ao (n :: out).length co).ownBlock = some b → ¬ SQO B Tk qk v5 b from fun b hb e=>by
    rcases HT5.out.own b e with e | e
    ·exact HNV.out b hb e
    ·have:=(World.ownsRow.lt HRW.out b hb).2
     omega)
   have HIA7:=Lib.hid ((HIA.out.only HT5.out.only (HOX.out.mono (fun b e=>(SQ.lt HSQ.out e).1))).below HB7.out)
   have HDP:=Lib.hid ((HDI.out.permF HP5.out.symm).pop HIO.out HNO.out)
   obtain ⟨g9,hg9⟩:∃ g,w5.heap.size = g:=⟨_,rfl⟩
   have HC9:=Lib.hid (show Blk g9 25 .u8 x w7 from hg9 ▸ hc7.out)
   have HNO13:=Lib.hid (show ∀ b,(Value.slice ao (n :: out).length co).ownBlock = some b → b ≠ g9 from fun b hb e=>by have:=(World.ownsRow.lt HRW.out b hb).2;have:=HT5.out.only.size;omega)
   have HNO9:=Lib.hid (show ¬ SQO B Tk qk v5 g9 from fun e=>by have:=(SQ.lt HS5.out e).2;omega)
   rw [hg9]
   clear hc7 hb7 hg9 HS5 HT5 HRW HNV HIA hta HP
   go_upto_region 7 with (fail)
   refine z0e 7 (fun q V w'=>Val q V 0 (.pointer (some ⟨B.gs,0,none⟩)) ∧ Val q V 1 (.pointer (some ⟨B.gs,0,none⟩)) ∧ Val q V 2 (.pointer (some ⟨B.gs,1,none⟩)) ∧ Val q V 3 (.map (some B.w)) ∧ Val q V 4 (.agg (z07 .u8 x).toArray) ∧ Val q V 5 (.agg (opV o' pa pc)) ∧ NewC q V w7.heap.size 6 38 (opV z05 none 0) w' ∧ Below w7.heap.size w7 w') (fun | 0=>u32 | 1=>u33 | 2=>u34 | 3=>u35 | 4=>u36 | 5=>u37 | 6=>u10 | _=>undef) (by kernel_rfl) (by kernel_rfl) (by kernel_rfl) (by simp only [zC,zD,z0h,Act.put,zS,zA,zB]) ⟨Val.none,Val.none,Val.none,Val.none,Val.none,Val.none,NewC.none,(Below.refl _ _).drew⟩ ?_ ?_
   ·simp only [zC,zD,z0h,Nat.zero_add,Nat.reduceAdd,Act.put,zS,zA,zB]
    refine zQc ?_ (zQc ?_ (zQc ?_ (zQc ?_ (zQc ?_ (zQc ?_ (zQc ?_ (zQn)))))))
    all_goals (refine zQf rfl ?_;rintro q V wq hr hu ⟨h0,h1,h2,h3,h4,h5,h6,hb⟩ K hK)
    ·exact z0f (.tmp 0) rfl _ rfl (hK _ _ ⟨.same,h1.nd,h2.nd,h3.nd,h4.nd,h5.nd,h6.ne (by decide) (Below.refl _ _),hb⟩)
    ·exact z0l (.tmp 32) rfl ⟨B.gs,0,none⟩ (h0 (hr { on:=0,ground:=.data } (by simp) rfl)) (hK _ _ ⟨h0.nd,.same,h2.nd,h3.nd,h4.nd,h5.nd,h6.ne (by decide) (Below.refl _ _),hb⟩)
    ·exact z0m 80 (.tmp 33) 1 rfl _ _ (h1 (hr { on:=1,ground:=.data } (by simp) rfl)) (z5p B.gs 1 (by decide)) (hK _ _ ⟨h0.nd,h1.nd,.same,h3.nd,h4.nd,h5.nd,h6.ne (by decide) (Below.refl _ _),hb⟩)
    ·exact z0n 76 (.tmp 34) rfl _ _ (h2 (hr { on:=2,ground:=.data } (by simp) rfl)) (HSP.out.below hb).set.cell.2.1 Tryz.isAgg76 (hK _ _ ⟨h0.nd,h1.nd,h2.nd,.same,h4.nd,h5.nd,h6.ne (by decide) (Below.refl _ _),hb⟩)
    ·exact z1k 25 (.tmp 9) rfl g9 .u8 x 25 _ rfl (HC9.out.below hb) Tryz.underlying25 rfl HS1.out (hK _ _ ⟨h0.nd,h1.nd,h2.nd,h3.nd,.same,h5.nd,h6.ne (by decide) (Below.refl _ _),hb⟩)
    ·exact z3x (.tmp 35) (.tmp 36) 76 25 38 false rfl Tryz.idKey Tryz.underlying76 (.agg (opV z05 none 0)) (z6m wq) B.w Tk.w (HSP.out.below hb).set.wm x HXI.out (h3 (hr { on:=3,ground:=.data } (by simp) rfl)) (h4 (hr { on:=4,ground:=.data } (by simp) rfl)) _ HE1.out (hK _ _ ⟨h0.nd,h1.nd,h2.nd,h3.nd,h4.nd,.same,h6.ne (by decide) (Below.refl _ _),hb⟩)
    ·exact z3i 38 rfl (opV z05 none 0) z5g (hK _ _ ⟨h0.nd,h1.nd,h2.nd,h3.nd,h4.nd,h5.nd,.same hb.size,hb.alloc hb.size _⟩)
   rintro q V wq hall ⟨h0,h1,h2,h3,h4,h5,h6,hb⟩
   have v0:=h0 (hall 0 (by decide))
   have v1:=h1 (hall 1 (by decide))
   have v2:=h2 (hall 2 (by decide))
   have v3:=h3 (hall 3 (by decide))
   have v4:=h4 (hall 4 (by decide))
   have v5:=h5 (hall 5 (by decide))
   obtain ⟨g6,v6,hg6,hc6⟩:=h6 (hall 6 (by decide))
   simp only [zC,zD,zE,zF,z0h,Nat.zero_add,Nat.reduceAdd,v0,v1,v2,v3,v4,v5,v6,Act.put,zS,zA,zB]
   clear h0 h1 h2 h3 h4 h5 v0 v1 v2 v3 v4 v5 v6 hall
   go_wp2_with (refine z02 rfl 38 _ _ rfl rfl g6 _ (opV o' pa pc) 38 rfl rfl hc6 HSO.out HSL.out (zbl _ _ _) ?_)
   intro w8 hc8 hb8
   have HB8:=Lib.hid (show Below w7.heap.size w7 w8 from But.toBelow hb hb8.out hg6 hb.size)
   have HS8:=Lib.hid (HSP.out.below HB8.out)
   have HT8:=Lib.hid (HT7.out.below HB8.out)
   have HRW8:=Lib.hid (HRW7.out.below HB8.out)
   have HIA8:=Lib.hid (HIA7.out.below HB8.out)
   have HC98:=Lib.hid (HC9.out.below HB8.out)
   have HC10:=Lib.hid (show Cells g6 38 (opV o' pa pc) w8 from hc8.out)
   have HNO10:=Lib.hid (show ¬ SQO B Tk qk v5 g6 from fun e=>by have:=(SQ.lt HSP.out e).2;omega)
   clear hb hc6 hg6 hc8 hb8 HSP HT7 HRW7 HIA7 HC9
   go_upto_region 8 with (fail)
   have HCE:=Lib.hid (fun w' (hb:Below w8.heap.size w8 w')=>(HS8.out.below hb).set.cell.2.1)
   have HI9:=Lib.hid (fun w' (hb:Below w8.heap.size w8 w')=>HC98.out.below hb)
   refine z0c (fun w'=>Below w8.heap.size w8 w') 5 (by kernel_rfl) (by kernel_rfl) (Below.refl _ _).drew ?_
   simp only [zC,zD,zE,zF]
   repeat (first
    | (go_big_quiet_want;refine z03 76 _ rfl ⟨B.gs,1,none⟩ _ rfl HCE.out Tryz.isAgg76 ?_;go_big_quiet_on;simp only [Act.put,zS,zA,zB])
    | (go_big_quiet_want;refine z0x 25 _ rfl g9 .u8 x 25 _ rfl HI9.out Tryz.underlying25 rfl HS1.out ?_;go_big_quiet_on;simp only [Act.put,zS,zA,zB])
    | go_big_quiet_step ((intro hs';rfl)))
   refine wpQuiet_nil ?_
   intro w81 hs81
   have HS81:=Lib.hid (HS8.out.below hs81)
   have HT81:=Lib.hid (HT8.out.below hs81)
   have HRW81:=Lib.hid (HRW8.out.below hs81)
   have HIA81:=Lib.hid (HIA8.out.below hs81)
   have HC981:=Lib.hid (HC98.out.below hs81)
   have HC101:=Lib.hid (HC10.out.below hs81)
   have HWM:=Lib.hid HS81.out.set.wm
   clear hs81 HCE HI9 HS8 HT8 HRW8 HIA8 HC98 HC10
   go_wp2_with (refine z4d rfl _ _ 76 25 38 rfl Tryz.idKey Tryz.underlying76 B.w _ HWM.out x HXI.out rfl rfl ?_)
   intro w9 hm9 ho9
   have hdr:=HS81.out.set.wait.drop HS81.out.set.wm.nodup HIO.out
   rw [HNO.out] at hdr
   obtain ⟨hs9,ht9⟩:=HS81.out.set.putW ho9.out hm9.out hdr
   obtain ⟨hq9,htq9⟩:=HS81.out.turnS hs9 ht9
   have HS9:=Lib.hid hq9
   have HT9:=Lib.hid (HT81.out.trans htq9)
   have hbw:SQO B Tk qk v5 B.w:=.inl (.inr (.inr (.inl rfl)))
   have HRW9:=Lib.hid (HRW81.out.only ho9.out (fun b hb e=>HNV7.out b hb (e ▸ hbw)))
   have HIA9:=Lib.hid (HIA81.out.only ho9.out (HOX.out.mono (fun b e=>e ▸ (SQ.lt HS81.out hbw).1)))
   have HC99:=Lib.hid (HC981.out.only ho9.out (fun e=>HNO9.out (e ▸ hbw)))
   have HC109:=Lib.hid (HC101.out.only ho9.out (fun e=>HNO10.out (e ▸ hbw)))
   clear hm9 ho9 hdr hs9 ht9 hq9 htq9 hbw HS81 HT81 HRW81 HIA81 HC981 HC101 HWM
   have HTM9:=Lib.hid (HTM.out.drop i)
   have HFI:=Lib.hid (zif X B _ _ hk Mk o' pa pc w9 HS9.out.set HOF.out.d.ref.1 HOF.out.preds HIA9.out (by have:=HOF.out.many;omega) (fun y hy=>(HTM.out.ops y hy).d.ref.1) HTM.out.shallow (by have:=HTM.out.many;show sk.ops.length ≤ 1000000;omega))
   have hsm:=z9w HBS.out HIO.out
   have hile:=zam HBS.out
   have hel:(sk.wait.eraseIdx i).length + 1 = sk.wait.length:=by rw [List.length_eraseIdx,if_pos hile];omega
   have HEL:=Shut.mk hel
   obtain ⟨d,hd⟩:∃ d,decide (o'.depth = z1p sk.ops o') = d:=⟨_,rfl⟩
   rw [show decide (o'.depth = z1p (DagN.mk sk.ops (sk.wait.eraseIdx i)).ops o') = d from hd] at HFI
   have HD:=Shut.mk hd
   have HSM:=Shut.mk hsm
   clear hsm hile hel hd
   cases d with
   | false =>
     have hdn:¬ o'.depth = z1p sk.ops o':=of_decide_eq_false HD.out
     have hsm:=HSM.out
     rw [if_neg hdn] at hsm
     have HSM2:=Shut.mk hsm
     clear hsm hdn HSM
     go_wp2_with (first
      | (refine z01 rfl 38 (.tmp 10) rfl g6 (opV o' pa pc) 38 _ rfl HC109.out Tryz.underlying38 rfl HSO.out ?_)
      | (refine HFI.out.mono ?_;rintro e w10 ⟨rfl,hb10⟩))
     refine ⟨⟨_,_,hk,Mk,v5,Q5,out,HS9.out.below hb10,HDP.out.1,HH5.out,HTM9.out,HRW9.out.below hb10,HNV7.out,?_,?_,?_,HTU.out.trans (HT9.out.below hb10)⟩,?_⟩
     ·show out ++ (z0s (sk.wait.eraseIdx i).length _).1 = RR.1
      rw [← HSM2.out];exact HR1.out
     ·show (z0s (sk.wait.eraseIdx i).length _).2 = RR.2
      rw [← HSM2.out];exact HR2.out
     ·show out.length + (sk.wait.eraseIdx i).length ≤ 1000
      have:=HLN.out;have:=HEL.out;omega
     ·rw [(HS9.out.set.below hb10).size,HSQ.out.set.size]
      show (sk.wait.eraseIdx i).length < sk.wait.length
      have:=HEL.out;omega
   | true =>
     have hdy:o'.depth = z1p sk.ops o':=of_decide_eq_true HD.out
     have hsm:=HSM.out
     rw [if_pos hdy] at hsm
     have HSM2:=Shut.mk hsm
     have HTM10:=Lib.hid (HTM.out.push HIO.out hdy)
     clear hsm hdy HSM
     obtain ⟨hdp1,hdp2,hdp3⟩:=HDP.out
     have HNN:=Lib.hid (show x ∉ DagN.names ⟨sk.ops,sk.wait.eraseIdx i⟩ from hdp2)
     have hxh:x ∉ hk:=fun e=>hdp2 ((hdp1.heads x).1 e).1
     have HDA:=Lib.hid (show DInv ⟨sk.ops ++ [o'],sk.wait.eraseIdx i⟩ ((hk.filter fun n=>!decide (n ∈ o'.preds)) ++ [x]) (z5b Mk x) (atB Mk x) Q5 from HNO.out ▸ hdp1.add (HNO.out.symm ▸ hdp2) (HNO.out.symm ▸ hdp3) HWO.out)
     have HAD:=Lib.hid (fun w1 (b:Below w9.heap.size w9 w1)=>zlj X B _ _ hk Mk x o' pa pc w1 (HS9.out.set.below b) HNO.out HOF.out.d.ref.1 HOF.out.preds (HIA9.out.below b) HOX.out (by have:=HOF.out.many;omega) hdp2 hxh)
     clear hdp1 hdp2 hdp3 hxh
     go_wp2_with (first
      | (refine z01 rfl 38 (.tmp 10) rfl g6 (opV o' pa pc) 38 _ rfl HC109.out Tryz.underlying38 rfl HSO.out ?_)
      | (refine HFI.out.mono ?_; rintro e w10 ⟨rfl, hb10⟩
         have HB10:=Lib.hid hb10
         have HC1010:=Lib.hid (HC109.out.below hb10)
         have HC910:=Lib.hid (HC99.out.below hb10)
         clear hb10 HC109 HC99)
      | (refine z01 rfl 38 (.tmp 10) rfl g6 (opV o' pa pc) 38 _ rfl HC1010.out Tryz.underlying38 rfl HSO.out ?_)
      | (refine z04 rfl 25 (.tmp 9) rfl g9 .u8 x 25 _ rfl HC910.out Tryz.underlying25 rfl HS1.out ?_)
      | (refine (HAD.out w10 HB10.out).mono ?_; rintro e w11 ⟨rfl, hs11, ht11⟩
         obtain ⟨hq11,htq11⟩:=(HS9.out.below HB10.out).turnS hs11 ht11
         have HS11:=Lib.hid hq11
         have HT11:=Lib.hid ((HT9.out.below HB10.out).trans htq11)
         have HC911:=Lib.hid (HC910.out.only htq11.only HNO9.out)
         have HRW11:=Lib.hid ((HRW9.out.below HB10.out).only htq11.only HNV7.out)
         clear hs11 ht11 hq11 htq11 HC910 HC1010 HB10)
      | (refine z04 rfl 25 (.tmp 9) rfl g9 .u8 x 25 _ rfl HC911.out Tryz.underlying25 rfl HS1.out ?_)
      | (refine z13 rfl 34 25 _ rfl x rfl HXI.out.1 Tryz.underlying34 Tryz.infoI32 ?_))
     intro w12 hk12 hb12
     have HS12:=Lib.hid (HS11.out.below hb12.out)
     have HT12:=Lib.hid (HT11.out.below hb12.out)
     have HC912:=Lib.hid (HC911.out.below hb12.out)
     have HRW12:=Lib.hid (HRW11.out.below hb12.out)
     have HIA12:=Lib.hid (z5m hk12.out)
     obtain ⟨g12,hg12⟩:∃ g,w11.heap.size = g:=⟨_,rfl⟩
     rw [hg12] at HIA12 ⊢
     have HL63:=Lib.hid (show (n :: out).length + [x].length ≤ 1000000 by have:=HLN.out;simp only [List.length_cons,List.length_nil];omega)
     have HWS:=Lib.hid (show w.heap.size ≤ w12.heap.size from (HTU.out.trans HT12.out).only.size)
     clear hk12 hb12 hg12 HS11 HT11 HC911 HRW11
     go_wp2_with (refine z0w rfl _ _ 34 25 rfl w.heap.size (.agg (z07 .u8 (List.replicate 32 0)).toArray) rfl Tryz.underlying34 Tryz.infoI32 (.slice ao (n :: out).length co) (n :: out) [x] (Ids.one HXI.out.1 HXI.out.2) (some ⟨g12,0,none⟩) 1 1 rfl rfl HRW12.out rfl HIA12.out (fun h=>by cases h) HL63.out HWS.out ?_)
     intro v13 w13 ho13 hg13 hd13
     have hon13:Only (fun b=>(Value.slice ao (n :: out).length co).ownBlock = some b) w12 w13:=(Only.refl _ w12).grown hg13.out (fun b hb=>.inl hb)
     have hvl:∀ b,(Value.slice ao (n :: out).length co).ownBlock = some b → w.heap.size ≤ b:=fun b hb=>(World.ownsRow.lt HRW12.out b hb).1
     have HS13:=Lib.hid (HS12.out.only hon13 (fun b hb=>HX0.out b (hvl b hb)) (fun b hb e=>HNV7.out b e hb))
     have HT13:=Lib.hid (show Turn (SetO B T) (SQO B ⟨z3c Tk.p x (.agg (opV o' pa pc)),z5b Tk.w x,Tk.b⟩ qk v5) w w13 from by
      have h12:=HTU.out.trans HT12.out
      exact ⟨h12.only.trans hon13 (fun b hb=>.inr (hvl b hb)),h12.own⟩)
     have HC913:=Lib.hid (HC912.out.only hon13 (fun e=>by
      exact HNO13.out _ e rfl))
     have HRW13:=Lib.hid ho13.out
     have HNV13:=Lib.hid (show ∀ b,v13.ownBlock = some b → ¬ SQO B ⟨z3c Tk.p x (.agg (opV o' pa pc)),z5b Tk.w x,Tk.b⟩ qk v5 b from fun b hb e=>by
      rcases hd13.out with h | h
      ·exact HNV7.out b (h ▸ hb) e
      ·rw [h] at hb
       obtain rfl:w12.heap.size = b:=by injection hb
       have:=(SQ.lt HS12.out e).2
       omega)
     have HX13:=Lib.hid (fun b (hb:w13.heap.size ≤ b)=>HX0.out b (Nat.le_trans HT13.out.only.size hb))
     clear hon13 hvl ho13 hg13 hd13 HS12 HT12 HC912 HRW12 HIA12 HL63 HWS
     have HRE:=Lib.hid (zbd X B _ _ _ _ x qk v5 Q5 w13 HS13.out HX13.out HXI.out (by rw [DagN.names,List.map_append,List.mem_append];exact .inr (by simp [HNO.out])) HDA.out HH5.out (fun y hy=>(HTM10.out.ops y hy).d.ref.1) HTM10.out.wait (by have:=HTM10.out.many;show (sk.wait.eraseIdx i).length ≤ 1000;simp only [List.length_append] at this;omega))
     go_wp2_with (first
      | (refine z04 rfl 25 (.tmp 9) rfl g9 .u8 x 25 _ rfl HC913.out Tryz.underlying25 rfl HS1.out ?_)
      | (refine HRE.out.mono ?_;rintro e w14 ⟨rfl,T14,M14,v14,Q14,hs14,hd14,hh14,ht14⟩))
     refine ⟨⟨_,T14,_,M14,v14,Q14,out ++ [x],hs14,hd14,hh14,HTM10.out,?_,?_,?_,?_,?_,HT13.out.trans ht14⟩,?_⟩
     ·exact (HRW13.out.only ht14.only HNV13.out)
     ·intro b hb e
      rcases ht14.own b e with e | e
      ·exact HNV13.out b hb e
      ·have:=(World.ownsRow.lt HRW13.out b hb).2
       omega
     ·rw [← HR1.out,HSM2.out,HNO.out,List.append_assoc]
      rfl
     ·rw [← HR2.out,HSM2.out]
     ·rw [List.length_append]
      show out.length + 1 + (sk.wait.eraseIdx i).length ≤ 1000
      have:=HLN.out;have:=HEL.out;omega
     ·rw [hs14.set.size,HSQ.out.set.size]
      show (sk.wait.eraseIdx i).length < sk.wait.length
      have:=HEL.out;omega
def za9 (d:DraftN):Bool:=if d.kind = 1 ∨ d.kind = 2 ∨ d.kind = 3 then (d.ref == zeroI) else if d.kind = 4 then true else if d.kind = 5 then !(d.ref == zeroI) && d.val == [] else false
theorem zkl (d:DraftN):GoodD d ↔ 1 ≤ d.key.length ∧ d.key.length ≤ 16 ∧ d.val.length ≤ 64 ∧ za9 d = true:=by
 unfold GoodD za9
 constructor
 ·rintro ⟨h1,h2,h3,h4,h5,h6,h7⟩
  refine ⟨h3,h4,h5,?_⟩
  split
  ·rw [h6 (by omega)];simp
  ·split
   ·rfl
   ·split
    ·obtain ⟨a,b⟩:=h7 (by omega)
     simp [a,b]
    ·omega
 ·rintro ⟨h3,h4,h5,h⟩
  split at h
  ·exact ⟨by omega,by omega,h3,h4,h5,fun _=>by simpa using h,fun h=>by omega⟩
  ·split at h
   ·exact ⟨by omega,by omega,h3,h4,h5,fun h=>by omega,fun h=>by omega⟩
   ·split at h
    ·simp at h
     exact ⟨by omega,by omega,h3,h4,h5,fun h=>by omega,fun _=>h⟩
    ·cases h
theorem zfa (d:DraftN) (hr:IdOk d.ref) (w:World) :
 Calls Tryz.prog 82 #[.agg (z0t d)] w fun e w'=>e = .returned (.bool (za9 d)) ∧ Below w.heap.size w w':=by
 have hx:Cells w.heap.size 27 (z0t d) (w.alloc (.cells (z0t d) 27)):=heap_alloc_new w _
 have hb:Below w.heap.size w (w.alloc (.cells (z0t d) 27)):=(Below.refl _ _).alloc (Nat.le_refl _) _
 obtain ⟨c0,c1,c2,c3⟩:=z4u hx
 have HC3:=Lib.hid c3
 have HB:=Lib.hid hb
 have heq:=fun w'=>z40 d.ref zeroI hr.1 zeroI_ok.1 hr.2 zeroI_ok.2 w'
 have HI:=Lib.hid (show (Tryz.prog.info? 25).map (·.size) = some d.ref.length by rw [hr.1];exact Tryz.sizeI)
 obtain ⟨k,hkd⟩:∃ k,d.kind = k:=⟨_,rfl⟩
 obtain ⟨z,hz2⟩:∃ z,(d.ref == zeroI) = z:=⟨_,rfl⟩
 have HG:=Shut.mk (show za9 d = if k = 1 ∨ k = 2 ∨ k = 3 then z else if k = 4 then true else if k = 5 then !z && d.val == [] else false by rw [za9,hkd,hz2])
 rw [hkd] at c0
 rw [hz2,zf2] at heq
 clear hx hb c3 hz2
 by_cases h1:k = 1
 ·subst h1
  have hgd:za9 d = z:=HG.out
  rw [hgd]
  clear hgd
  go_enter Tryz.func82,Tryz.ntmps82
  cases z <;> go_wp2_with (refine z0a rfl 25 _ rfl w.heap.size 3 d.ref _ rfl HC3.out Tryz.underlying25 rfl HI.out ?_)
  all_goals
   go_ret
   exact ⟨rfl,HB.out⟩
 by_cases h2:k = 2
 ·subst h2
  have hgd:za9 d = z:=HG.out
  rw [hgd]
  clear hgd
  go_enter Tryz.func82,Tryz.ntmps82
  cases z <;> go_wp2_with (refine z0a rfl 25 _ rfl w.heap.size 3 d.ref _ rfl HC3.out Tryz.underlying25 rfl HI.out ?_)
  all_goals
   go_ret
   exact ⟨rfl,HB.out⟩
 by_cases h3:k = 3
 ·subst h3
  have hgd:za9 d = z:=HG.out
  rw [hgd]
  clear hgd
  go_enter Tryz.func82,Tryz.ntmps82
  cases z <;> go_wp2_with (refine z0a rfl 25 _ rfl w.heap.size 3 d.ref _ rfl HC3.out Tryz.underlying25 rfl HI.out ?_)
  all_goals
   go_ret
   exact ⟨rfl,HB.out⟩
 by_cases h4:k = 4
 ·subst h4
  have hgd:za9 d = true:=HG.out
  rw [hgd]
  clear hgd
  go_enter Tryz.func82,Tryz.ntmps82
  cases z <;> go_wp2_with (refine z0a rfl 25 _ rfl w.heap.size 3 d.ref _ rfl HC3.out Tryz.underlying25 rfl HI.out ?_)
  all_goals
   go_ret
   exact ⟨rfl,HB.out⟩
 by_cases h5:k = 5
 ·subst h5
  have hgd:za9 d = (!z && d.val == []):=HG.out
  rw [hgd]
  clear hgd
  go_enter Tryz.func82,Tryz.ntmps82
  cases z <;> go_wp2_with (refine z0a rfl 25 _ rfl w.heap.size 3 d.ref _ rfl HC3.out Tryz.underlying25 rfl HI.out ?_)
  all_goals
   go_ret
   exact ⟨rfl,HB.out⟩
 have t1:(k == 1) = false:=by simp [h1]
 have t2:(k == 2) = false:=by simp [h2]
 have t3:(k == 3) = false:=by simp [h3]
 have t4:(k == 4) = false:=by simp [h4]
 have t5:(k == 5) = false:=by simp [h5]
 have hgd:za9 d = false:=by rw [HG.out,if_neg (by omega),if_neg h4,if_neg h5]
 rw [hgd]
 clear hgd
 go_enter Tryz.func82,Tryz.ntmps82
 cases z <;> go_wp2_with (refine z0a rfl 25 _ rfl w.heap.size 3 d.ref _ rfl HC3.out Tryz.underlying25 rfl HI.out ?_)
 all_goals
  go_ret
  exact ⟨rfl,HB.out⟩
theorem zda (d:DraftN) (hr:IdOk d.ref) (hk:d.key.length ≤ 140737488351232) (hv:d.val.length ≤ 140737488351232) (w:World) :
 Calls Tryz.prog 57 #[.agg (z0t d)] w fun e w'=>e = .returned (.bool (decide (GoodD d))) ∧ Below w.heap.size w w':=by
 have hx:Cells w.heap.size 27 (z0t d) (w.alloc (.cells (z0t d) 27)):=heap_alloc_new w _
 have hb:Below w.heap.size w (w.alloc (.cells (z0t d) 27)):=(Below.refl _ _).alloc (Nat.le_refl _) _
 obtain ⟨c0,c1,c2,c3⟩:=z4u hx
 have HX:=Lib.hid hx
 have HB:=Lib.hid hb
 have HSD:=Lib.hid (show (Tryz.prog.info? 27).map (·.size) = some (z0t d).size by rw [zbv hr.1];exact Tryz.sizeD)
 have HF:=Lib.hid (fun w'=>zfa d hr w')
 obtain ⟨f,hf⟩:∃ f,za9 d = f:=⟨_,rfl⟩
 obtain ⟨kl,hkl⟩:∃ n,d.key.length = n:=⟨_,rfl⟩
 obtain ⟨vl,hvl⟩:∃ n,d.val.length = n:=⟨_,rfl⟩
 have hke:(d.key == []) = decide (kl = 0):=by rw [zb8,← hkl];simp [List.length_eq_zero_iff]
 have HG:=Shut.mk (show decide (GoodD d) = decide (1 ≤ kl ∧ kl ≤ 16 ∧ vl ≤ 64 ∧ f = true) from decide_eq_decide.2 (by rw [zkl,hkl,hvl,hf]))
 rw [hf] at HF
 clear hx hb c0 c3 hf
 by_cases h1:kl = 0
 ·have e1:(d.key == []) = true:=by rw [hke];exact decide_eq_true h1
  have HR:=Shut.mk (HG.out.trans (decide_eq_false (by omega)))
  clear hke
  go_enter Tryz.func57,Tryz.ntmps57
  go_wp2_with fail
  go_ret
  exact ⟨by rw [HR.out];rfl,HB.out⟩
 have e1:(d.key == []) = false:=by rw [hke];exact decide_eq_false h1
 clear hke
 by_cases h2:16 < kl
 ·have HR:=Shut.mk (HG.out.trans (decide_eq_false (by omega)))
  have h2b:decide ((kl:Int) ≤ 16) = false:=decide_eq_false (by omega)
  go_enter Tryz.func57,Tryz.ntmps57
  go_wp2_with fail
  go_ret
  exact ⟨by rw [HR.out];rfl,HB.out⟩
 have h2b:decide ((kl:Int) ≤ 16) = true:=decide_eq_true (by omega)
 by_cases h3:64 < vl
 ·have HR:=Shut.mk (HG.out.trans (decide_eq_false (by omega)))
  have h3b:decide ((vl:Int) ≤ 64) = false:=decide_eq_false (by omega)
  go_enter Tryz.func57,Tryz.ntmps57
  go_wp2_with fail
  go_ret
  exact ⟨by rw [HR.out];rfl,HB.out⟩
 have h3b:decide ((vl:Int) ≤ 64) = true:=decide_eq_true (by omega)
 have HR:=Shut.mk (show decide (GoodD d) = f by rw [HG.out];cases f with | true=>exact decide_eq_true ⟨by omega,by omega,by omega,rfl⟩ | false=>exact decide_eq_false (fun h=>by cases h.2.2.2))
 go_enter Tryz.func57,Tryz.ntmps57
 go_wp2_with (refine z1b (by rfl) 27 _ rfl w.heap.size (z0t d) 27 _ rfl HX.out Tryz.underlying27 rfl HSD.out ?_)
 refine (HF.out _).mono ?_
 rintro e w1 ⟨rfl,hb⟩
 have HB1:=Lib.hid (HB.out.trans (hb.mono HB.out.size))
 clear hb
 go_wp2_with fail
 go_ret
 exact ⟨by rw [HR.out];rfl,HB1.out⟩
end Go.Proofs.YtnbldbbbibpobaaGreatDoor
