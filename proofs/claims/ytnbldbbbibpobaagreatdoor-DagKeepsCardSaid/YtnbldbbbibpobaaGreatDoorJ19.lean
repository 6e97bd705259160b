/-
  Joined: The document's Made. Written by dag/gen/gen_made.py.
-/
import Derived.Test.YtnbldbbbibpobaaGreatDoorJ04
import Derived.Test.YtnbldbbbibpobaaGreatDoorJ18
set_option maxRecDepth 100000
set_option maxHeartbeats 20000000
namespace Go.Proofs.YtnbldbbbibpobaaGreatDoor
open Go.RowKit Go.BigFrame
theorem zb2 (W:World) (ao:Option Addr) (l:List MakeN) (c:Nat) (w:World) (hat:MksAt ao l W) (hin:∀ x ∈ l,x.In) (hl:l.length ≤ 140737488351232) (hw:Below W.heap.size W w) :
 Calls Tryz.prog 11 #[.slice ao l.length c] w fun e w'=>∃ v L,e = .returned v ∧ OwnX (fun b=>W.heap.size ≤ b ∧ (b < w.heap.size ∨ w'.heap.size ≤ b)) w.heap.size 38 v L w' ∧ (∀ x ∈ L,x.Fit) ∧ L.length ≤ 30 ∧ Below w.heap.size w w':=by
 have HAT:=Lib.hid hat
 have HIN:=Lib.hid hin
 have HLN:=Lib.hid hl
 have HW:=Lib.hid hw
 have HSM:=Lib.hid (show (Tryz.prog.info? 74).bind (·.zero) = some (.agg (z4p ⟨0,0,z8d,0,0,0,z05⟩ none 0).toArray) by kernel_rfl)
 have HSO:=Lib.hid (show (Tryz.prog.info? 38).bind (·.zero) = some (.agg (opL z05 none 0).toArray) by kernel_rfl)
 obtain ⟨n,hn⟩:∃ n,l.length = n:=⟨_,rfl⟩
 rw [hn]
 have HN:=Shut.mk hn
 have hnb:n ≤ 140737488351232:=hn ▸ hl
 clear hat hin hl hw hn
 have b1:Below w.heap.size w (w.alloc (.cells #[.slice none 0 0,.slice none 0 0,.slice none 0 0,.slice none 0 0] 36)):=(Below.refl _ _).alloc (Nat.le_refl _) _
 have HST:=Lib.hid (show MkAt W w (fun b=>W.heap.size ≤ b) w.heap.size (.slice none 0 0) (.slice none 0 0) (.slice none 0 0) (.slice none 0 0) DagN.new (.slice none 0 0) [] 0 (w.alloc (.cells #[.slice none 0 0,.slice none 0 0,.slice none 0 0,.slice none 0 0] 36)) from
  ⟨z9y _ w HW.out.size,⟨(fun x hx=>by cases hx),(fun x hx=>by cases hx),(fun x hx=>by cases hx),by decide⟩,by decide,OwnX.nil _ _ _ _,(fun b hb=>by cases hb),(fun b hb=>by cases hb),(fun x hx=>by cases hx),Nat.le_refl _,b1,(fun b hb=>by
   rcases hb with rfl | hb | hb | hb | hb
   ·exact Nat.le_refl _
   all_goals cases hb),fun b h1 _=>h1,fun b hb=>Nat.le_trans (Nat.le_trans HW.out.size b1.size) hb⟩)
 clear b1
 go_enter Tryz.func11,Tryz.ntmps11
 go_wp2_with fail
 obtain ⟨gs,hgs⟩:∃ g,w.heap.size = g:=⟨_,rfl⟩
 have HGS:=Shut.mk hgs
 rw [hgs] at HST ⊢
 clear hgs
 go_loopw [4,16] (fun vt' i wr=>∃ (vt:Value) (k:Nat) (X:Nat → Prop) (vo vw vn vq:Value) (s:DagN) (L:List OpN),vt' = vt ∧ k ≤ n ∧ k ≤ 30 ∧ i = .int .i64 k ∧ MkAt W w X gs vo vw vn vq s vt L k wr) (fun _ i _=>n - (intOf i).toNat)
 case atStart=>exact ⟨_,0,_,_,_,_,_,_,_,rfl,Nat.zero_le _,by decide,rfl,HST.out⟩
 case round =>
  clear HST
  obtain ⟨vt,k,X,vo,vw,vn,vq,s,L,rfl,hkn,hk30,rfl,hmk⟩:=hrel
  have HMK:=Lib.hid hmk
  clear hmk
  obtain ⟨oa,oc,hvt⟩:=HMK.out.own.form
  obtain ⟨N,hNL⟩:∃ N,L.length = N:=⟨_,rfl⟩
  rw [hNL] at hvt
  subst hvt
  have HNL:=Shut.mk hNL
  clear hNL
  by_cases hlt:k < n
  ·obtain ⟨m,hm⟩:∃ m,l[k]? = some m:=⟨_,List.getElem?_eq_getElem (by rw [HN.out];exact hlt)⟩
   have HIM:=Lib.hid (HIN.out m (List.mem_of_getElem? hm))
   obtain ⟨b,o,rfl,hbl,hrow⟩:=HAT.out.resolve_left (fun e=>by rw [e] at hm;cases hm)
   obtain ⟨pa,pc,hr0,hia0⟩:=hrow k m hm
   have HBW:=Lib.hid (HW.out.trans (HMK.out.bel.mono HW.out.size))
   have HR:=Lib.hid (z0g hr0 HBW.out hbl)
   have HIA:=Lib.hid (hia0.below HBW.out)
   have HPO:=Lib.hid (fun a (ha:pa = some a) (h0:m.op.preds ≠ [])=>hia0.lt h0 ha)
   have HSV:=Lib.hid (zhu HIM.out pa pc)
   have HSL:=Lib.hid (show (Tryz.prog.info? 74).map (·.size) = some (z4p m pa pc).length from (HSV.out.trans (by rw [zbf,List.size_toArray])))
   have HSZ:=Lib.hid (show (z4p ⟨0,0,z8d,0,0,0,z05⟩ none 0).toArray.size = (zbf m pa pc).size by rw [zas HIM.out];rfl)
   clear hm hrow hr0 hia0 hbl
   go_wp2_with (first
    | (refine wpList_load_mid rfl 74 _ rfl b (o + k * 78) rfl (z4p m pa pc) _ HR.out Tryz.underlying74 rfl HSL.out ?_)
    | (refine z0j rfl 74 rfl (z4p ⟨0,0,z8d,0,0,0,z05⟩ none 0) HSM.out ?_)
    | (refine z01 rfl 74 _ _ rfl rfl wr.heap.size (z4p ⟨0,0,z8d,0,0,0,z05⟩ none 0).toArray (zbf m pa pc) 74 rfl rfl (heap_alloc_new wr _) HSV.out HSZ.out (zhw m pa pc) ?_))
   intro w5 hc5 hb5
   have HB5:=Lib.hid (show Below wr.heap.size wr w5 from But.toBelow ((Below.refl _ wr).alloc (Nat.le_refl _) _) hb5.out (Nat.le_refl _) (by rw [World.size_alloc];exact Nat.le_succ _))
   have HC6:=Lib.hid hc5.out
   obtain ⟨g6,hg6⟩:∃ g,wr.heap.size = g:=⟨_,rfl⟩
   rw [hg6] at HC6 ⊢
   clear hc5 hb5 HR HSL HSZ HSV
   by_cases h30:k = 30
   ·subst h30
    go_wp2_with fail
    go_ret
    exact (HMK.out.below HB5.out).done (Nat.le_refl _)
   ·have h30b:((k:Int) == 30) = false:=by simp;omega
    have HMA:=Lib.hid (z34 HIM.out HC6.out)
    have HSOL:=Lib.hid (show (Tryz.prog.info? 38).map (·.size) = some (opL m.op pa pc).length by rw [z2i HIM.out.op.d.ref.1];exact Tryz.sizeO)
    have HSOV:=Lib.hid (show (Tryz.prog.info? 38).map (·.size) = some (opV m.op pa pc).size by rw [z07 HIM.out.op.d.ref.1];exact Tryz.sizeO)
    have HSOZ:=Lib.hid (show (opL z05 none 0).toArray.size = (opV m.op pa pc).size by rw [z07 HIM.out.op.d.ref.1];rfl)
    go_wp2_with (first
     | (refine wpList_load_mid rfl 38 _ rfl g6 40 rfl (opL m.op pa pc) _ HMA.out.op Tryz.underlying38 rfl HSOL.out ?_)
     | (refine z0j rfl 38 rfl (opL z05 none 0) HSO.out ?_)
     | (refine z01 rfl 38 _ _ rfl rfl w5.heap.size (opL z05 none 0).toArray (opV m.op pa pc) 38 rfl rfl (heap_alloc_new w5 _) HSOV.out HSOZ.out (z0z m.op pa pc) ?_))
    intro w7 hc7 hb7
    have HB57:=Lib.hid (show Below w5.heap.size w5 w7 from But.toBelow ((Below.refl _ w5).alloc (Nat.le_refl _) _) hb7.out (Nat.le_refl _) (by rw [World.size_alloc];exact Nat.le_succ _))
    have HC7:=Lib.hid hc7.out
    have HG7:=Lib.hid (show wr.heap.size ≤ w5.heap.size from HB5.out.size)
    have HC67:=Lib.hid (HC6.out.below HB57.out)
    have HC6L:=Lib.hid (show g6 < w5.heap.size from HC6.out.lt)
    have HM7:=Lib.hid (z34 HIM.out HC67.out)
    have HB7:=Lib.hid (HB5.out.trans (HB57.out.mono HB5.out.size))
    have HMK7:=Lib.hid (HMK.out.below HB7.out)
    have HIA7:=Lib.hid (HIA.out.below HB7.out)
    have HPA:=Lib.hid (HMK7.out.paOld (pa:=pa) (P:=m.op.preds) HW.out.size HPO.out)
    obtain ⟨g7,hg7⟩:∃ g,w5.heap.size = g:=⟨_,rfl⟩
    rw [hg7] at HC7 HG7 HC6L ⊢
    clear hc7 hb7 HC6 HMA HSOL HSOZ hg7 HIA
    obtain ⟨mk,hmk⟩:∃ i,m.kind = i:=⟨_,rfl⟩
    have c0:=HM7.out.kind
    rw [hmk] at c0
    by_cases hk0:mk = 0
    ·subst hk0
     have HNX:=Lib.hid (zf8 X gs vo vw vn vq s m.author m.d w7 HMK7.out.ref HIM.out.d.ref HIM.out.d.key HIM.out.d.val HMK7.out.nextable (by have:=HMK7.out.tame.many;omega) HMK7.out.tame.shallow)
     have c1:=HM7.out.author
     have HSD:=Lib.hid (show (Tryz.prog.info? 27).map (·.size) = some (z18 m.d).length by rw [z0s HIM.out.d.ref.1];exact Tryz.sizeD)
     go_wp2_with (refine wpList_load_mid rfl 27 _ rfl g6 2 rfl (z18 m.d) _ HM7.out.d Tryz.underlying27 rfl HSD.out ?_)
     refine HNX.out.mono ?_
     rintro e w9 ⟨⟨px,cx,rfl,hix,hpx⟩,hb9⟩
     have HB9:=Lib.hid (HB7.out.trans (hb9.mono HB7.out.size))
     have HC79:=Lib.hid (HC7.out.below hb9)
     have HC69:=Lib.hid (HC67.out.below hb9)
     have HMK9:=Lib.hid (HMK7.out.below hb9)
     clear hb9 HNX HSD c1 c0 HM7
     rcases zan s m.author m.d with ⟨ce,hnx,hce⟩ | hnx
     ·rw [hnx] at hix ⊢
      have hceb:(ce != 0) = true:=by simpa using hce
      have HZX:=Lib.hid (show (Tryz.prog.info? 38).map (·.size) = some (opV z05 px cx).size by rw [z07 rfl];exact Tryz.sizeO)
      have HZZ:=Lib.hid (show (opL z05 none 0).toArray.size = (opV z05 px cx).size by rw [z07 rfl];rfl)
      clear hnx hce hix hpx
      dsimp only [Option.getD_none]
      go_wp2_with (first
       | (refine z0j rfl 38 rfl (opL z05 none 0) HSO.out ?_)
       | (refine z01 rfl 38 _ _ rfl rfl w9.heap.size (opL z05 none 0).toArray (opV z05 px cx) 38 rfl rfl (heap_alloc_new w9 _) HZX.out HZZ.out (z0z z05 px cx) ?_))
      intro w10 hc10 hb10
      have HMT:=Lib.hid (HMK9.out.below (show Below w9.heap.size w9 w10 from But.toBelow ((Below.refl _ w9).alloc (Nat.le_refl _) _) hb10.out (Nat.le_refl _) (by rw [World.size_alloc];exact Nat.le_succ _)))
      clear hc10 hb10
      go_wp2_with fail
      exact ⟨⟨_,k + 1,X,vo,vw,vn,vq,s,L,rfl,by omega,by omega,by go_num,HMT.out.more (Nat.le_succ _)⟩,by simp [intOf];omega⟩
     ·rw [hnx] at hix ⊢
      dsimp only [Option.getD_some] at hix ⊢
      obtain ⟨y,hy⟩:∃ y,y = (⟨m.d,m.author,z4a s.ops (z19 s) + 1,z19 s⟩:OpN):=⟨_,rfl⟩
      have HY:=Lib.hid (show y.In from hy ▸ next_in HIM.out.author HIM.out.d HMK9.out.tame.shallow (by have:=HMK9.out.tame.many;omega))
      have hix:IAt px y.preds w9:=by rw [hy];exact hix
      rw [← hy]
      have HZX:=Lib.hid (show (Tryz.prog.info? 38).map (·.size) = some (opV y px cx).size by rw [z07 HY.out.d.ref.1];exact Tryz.sizeO)
      have HZZ:=Lib.hid (show (opL z05 none 0).toArray.size = (opV y px cx).size by rw [z07 HY.out.d.ref.1];rfl)
      have HZ7:=Lib.hid (show (opV m.op pa pc).size = (opV y px cx).size by rw [z07 HY.out.d.ref.1,z07 HIM.out.op.d.ref.1])
      have HI9:=Lib.hid hix
      have HPX:=Lib.hid hpx
      clear hnx hy hix hpx
      go_wp2_with (first
       | (refine z0j rfl 38 rfl (opL z05 none 0) HSO.out ?_)
       | (refine z01 rfl 38 _ _ rfl rfl w9.heap.size (opL z05 none 0).toArray (opV y px cx) 38 rfl rfl (heap_alloc_new w9 _) HZX.out HZZ.out (z0z y px cx) ?_))
      intro w10 hc10 hb10
      have hb910:Below w9.heap.size w9 w10:=But.toBelow ((Below.refl _ w9).alloc (Nat.le_refl _) _) hb10.out (Nat.le_refl _) (by rw [World.size_alloc];exact Nat.le_succ _)
      have HB10:=Lib.hid (HB9.out.trans (hb910.mono HB9.out.size))
      have HC710:=Lib.hid (HC79.out.below hb910)
      have HC610:=Lib.hid (HC69.out.below hb910)
      have HI10:=Lib.hid (HI9.out.below hb910)
      have HC810:=Lib.hid hc10.out
      have h7lt:=HC7.out.lt
      have h6lt:=HC6L.out
      obtain ⟨g8,hg8⟩:∃ g,w9.heap.size = g:=⟨_,rfl⟩
      rw [hg8] at HC810 ⊢
      clear hc10 hb10 hb910 hg8
      go_wp2_with (first
       | (refine z00 rfl 38 (.tmp 8) rfl g8 (opV y px cx) 38 _ rfl HC810.out Tryz.underlying38 rfl HZX.out ?_)
       | (refine z01 rfl 38 _ _ rfl rfl g7 (opV m.op pa pc) (opV y px cx) 38 rfl rfl HC710.out HZX.out HZ7.out (z0z y px cx) ?_))
      intro w11 hc11 hb11
      have ho11:Only (fun b=>b = g7) w10 w11:=(Only.refl _ _).but hb11.out (.inl rfl)
      have HB11:=Lib.hid (show Below wr.heap.size wr w11 from But.toBelow HB10.out hb11.out HG7.out HB10.out.size)
      have HMT:=Lib.hid (HMK.out.below HB11.out)
      have HCT:=Lib.hid hc11.out
      have HIT:=Lib.hid (HI10.out.only ho11 (fun a ha _ e=>by have h1:=HPX.out a ha;omega))
      have HPT:=Lib.hid (HMK7.out.paNew (pa:=px) (P:=y.preds) HPX.out)
      have c0:=(z34 HIM.out (HC610.out.only ho11 (by omega))).kind
      rw [hmk] at c0
      obtain ⟨py,hpy⟩:∃ x,x = px:=⟨_,rfl⟩
      obtain ⟨cy,hcy⟩:∃ x,x = cx:=⟨_,rfl⟩
      rw [← hpy] at HCT HIT HPT
      rw [← hcy] at HCT
      clear hc11 hb11 ho11 hpy hcy h7lt h6lt HC710 HC810 HI10
      go_upto_region 18 with (fail)
      obtain ⟨hrow,_,_,c37⟩:=z0k HY.out.d.ref.1 HCT.out
      obtain ⟨_,ck,cv,_⟩:=z5p hrow
      obtain ⟨np,hnp⟩:∃ i,y.preds.length = i:=⟨_,rfl⟩
      rw [hnp] at c37
      have HNP:=Shut.mk hnp
      clear hnp hrow
      by_cases hp70:np ≤ 70
      ·have q1:decide ((70:Int) < (np:Int)) = false:=decide_eq_false (by omega)
       by_cases hk100:y.d.key.length ≤ 100
       ·have q2:decide ((100:Int) < (y.d.key.length:Int)) = false:=decide_eq_false (by omega)
        by_cases hv100:y.d.val.length ≤ 100
        ·have q3:decide ((100:Int) < (y.d.val.length:Int)) = false:=decide_eq_false (by omega)
         obtain ⟨Y,hY1,hY2,hY3⟩:=HMT.out.less HPT.out HIT.out
         have HY1:=Lib.hid hY1
         have HY2:=Lib.hid hY2
         have HFIT:=Lib.hid (show y.Fit from ⟨⟨HY.out.d.ref,HY.out.d.low,HY.out.d.high,by omega,by omega⟩,HY.out.alow,HY.out.ahigh,HY.out.dlow,HY.out.dhigh,HY.out.preds,by rw [HNP.out];omega⟩)
         have HTK:=Lib.hid (z6t Y gs vo vw vn vq s y py cy _ hY1.ref hY1.hi hY1.tame HFIT.out HIT.out hY2 (by have:=hY1.cnt;omega))
         have HSY:=Lib.hid (show (Tryz.prog.info? 38).map (·.size) = some (opV y py cy).size by rw [z07 HY.out.d.ref.1];exact Tryz.sizeO)
         clear hY1 hY2 hY3
         go_wp2_with (refine z00 rfl 38 (.tmp 7) rfl g7 (opV y py cy) 38 _ rfl HCT.out Tryz.underlying38 rfl HSY.out ?_)
         refine HTK.out.mono ?_
         intro e w19 htp
         obtain ⟨v,vo',vw',vn',vq',rfl,hv,hm19,htu⟩:=HY1.out.take htp
         have HM19:=Lib.hid hm19
         have HC19:=Lib.hid (HCT.out.only htu.only (fun e=>by have h1:=HMK.out.ref.lt e;have h2:=HG7.out;omega))
         have HI19:=Lib.hid (HIT.out.only htu.only (HY2.out.mono (fun b hb=>HY1.out.ref.mine b hb)))
         clear hm19 htp hv htu HCT HIT HTK c37 ck cv
         go_wp2_with (first
          | (refine z00 rfl 38 (.tmp 7) rfl g7 (opV y py cy) 38 _ rfl HC19.out Tryz.underlying38 rfl HSY.out ?_)
          | (refine z2c rfl _ rfl Y y py cy HY.out.d.ref.1 rfl HI19.out HY2.out ?_))
         intro w20 hb20 hs20
         have HM20:=Lib.hid (HM19.out.below hb20.out)
         have HS20:=Lib.hid hs20.out
         clear hb20 hs20
         go_wp2_with (refine z1g rfl _ _ 29 38 rfl w.heap.size 112 (.agg (opV z05 none 0)) rfl (by decide) Tryz.underlying29 z54 Y (.slice oa N oc) L [y] (fun z hz=>by rw [List.mem_singleton.1 hz];exact HY.out.d.ref.1) ⟨w19.heap.size,0,none⟩ 1 1 rfl rfl HM20.out.own HM20.out.mine rfl HS20.out (by have h1:=HM20.out.len;simp only [List.length_singleton];omega) HM20.out.bel.size ?_)
         intro v' w' ho hg hd
         have HFIN:=Lib.hid (HM20.out.push HFIT.out (by have h1:=HMT.out.len;omega) ho.out hg.out hd.out)
         clear ho hg hd
         go_wp2_with fail
         exact ⟨⟨_,k + 1,Y,vo',vw',vn',vq',_,L ++ [y],rfl,by omega,by omega,by go_num,HFIN.out⟩,by simp [intOf];omega⟩
        ·have q3:decide ((100:Int) < (y.d.val.length:Int)) = true:=decide_eq_true (by omega)
         go_wp2_with fail
         exact ⟨⟨_,k + 1,X,vo,vw,vn,vq,s,L,rfl,by omega,by omega,by go_num,HMT.out.more (Nat.le_succ _)⟩,by simp [intOf];omega⟩
       ·have q2:decide ((100:Int) < (y.d.key.length:Int)) = true:=decide_eq_true (by omega)
        go_wp2_with fail
        exact ⟨⟨_,k + 1,X,vo,vw,vn,vq,s,L,rfl,by omega,by omega,by go_num,HMT.out.more (Nat.le_succ _)⟩,by simp [intOf];omega⟩
      ·have q1:decide ((70:Int) < (np:Int)) = true:=decide_eq_true (by omega)
       go_wp2_with fail
       exact ⟨⟨_,k + 1,X,vo,vw,vn,vq,s,L,rfl,by omega,by omega,by go_num,HMT.out.more (Nat.le_succ _)⟩,by simp [intOf];omega⟩
    ·have hk0b:(mk == 0) = false:=by simpa using hk0
     by_cases hk1:mk = 1 ∧ N ≠ 0
     ·obtain ⟨rfl,hN0⟩:=hk1
      have hNk:N ≤ 30:=by rw [← HNL.out];exact Nat.le_trans HMK.out.len hk30
      have hq0:decide (0 < N) = true:=decide_eq_true (by omega)
      obtain ⟨A0,R0,q0,hq0N,x1,x2,x3,x4⟩:=zd1 m.pos (n:=N) (by omega) (by omega)
      obtain ⟨A1,R1,q1,hq1N,z1,_,z3,z4⟩:=zd1 m.other (n:=N) (by omega) (by omega)
      obtain ⟨ya,hya⟩:∃ x,L[q0]? = some x:=⟨_,List.getElem?_eq_getElem (by rw [HNL.out];exact hq0N)⟩
      obtain ⟨yb,hyb⟩:∃ x,L[q1]? = some x:=⟨_,List.getElem?_eq_getElem (by rw [HNL.out];exact hq1N)⟩
      have HFA:=Lib.hid (HMK.out.fit ya (List.mem_of_getElem? hya))
      have HFB:=Lib.hid (HMK.out.fit yb (List.mem_of_getElem? hyb))
      obtain ⟨bo,oo,rfl,hbo,qa,ca,hra,hia,hoa⟩:=HMK7.out.own.at.get hya
      obtain ⟨bo2,oo2,heq,_,qb,cb,hrb,hib,hob⟩:=HMK7.out.own.at.get hyb
      cases heq
      have HX1:=Lib.hid x1
      have HX2:=Lib.hid x2
      have HX3:=Lib.hid x3
      have HX4:=Lib.hid x4
      have HZ1:=Lib.hid z1
      have HZ3:=Lib.hid z3
      have HZ4:=Lib.hid z4
      have HXA:=Lib.hid (z9n bo oo N oc q0 hq0N)
      have HXB:=Lib.hid (z9n bo oo N oc q1 hq1N)
      have HRA:=Lib.hid (fun w' (r:Below w7.heap.size w7 w')=>z0g hra r hbo)
      have HRB:=Lib.hid (fun w' (r:Below w7.heap.size w7 w')=>z0g hrb r hbo)
      have HIA1:=Lib.hid hia
      have HFRA:=Lib.hid (fun a (ha:qa = some a) (h0:ya.preds ≠ [])=>show a.block ≠ g7 from fun e=>hoa a ha h0 (e ▸ HMK.out.hi g7 HG7.out))
      have HFRB:=Lib.hid (fun a (ha:qb = some a) (h0:yb.preds ≠ [])=>show a.block ≠ g7 from fun e=>hob a ha h0 (e ▸ HMK.out.hi g7 HG7.out))
      have HIB1:=Lib.hid hib
      have HMC:=Lib.hid (fun w' (r:Below w7.heap.size w7 w')=>z34 HIM.out (HC67.out.below r))
      have HSOA:=Lib.hid (show (Tryz.prog.info? 38).map (·.size) = some (opL ya qa ca).length by rw [z2i HFA.out.d.ref.1];exact Tryz.sizeO)
      have HSOB:=Lib.hid (show (Tryz.prog.info? 38).map (·.size) = some (opL yb qb cb).length by rw [z2i HFB.out.d.ref.1];exact Tryz.sizeO)
      have HSVA:=Lib.hid (show (Tryz.prog.info? 38).map (·.size) = some (opV ya qa ca).size by rw [z07 HFA.out.d.ref.1];exact Tryz.sizeO)
      have HSVB:=Lib.hid (show (Tryz.prog.info? 38).map (·.size) = some (opV yb qb cb).size by rw [z07 HFB.out.d.ref.1];exact Tryz.sizeO)
      have HZA:=Lib.hid (show (opV z05 none 0).size = (opV ya qa ca).size by rw [z07 HFA.out.d.ref.1];rfl)
      have HZB:=Lib.hid (show (opV z05 none 0).size = (opV yb qb cb).size by rw [z07 HFB.out.d.ref.1];rfl)
      clear hya hyb hbo hra hrb hia hib hoa hob x1 x2 x3 x4 z1 z3 z4 hq0N hq1N
      go_upto_region 13 with (fail)
      refine z0f 25 (fun q V w'=>Vals q V [(0,.slice (some ⟨bo,oo,none⟩) N oc),(1,.pointer (some ⟨g6,37,none⟩)),(2,.int .i64 m.pos),(3,.int .u64 A0),(4,.slice (some ⟨bo,oo,none⟩) N oc),(5,.int .i64 (N:Int)),(6,.int .u64 (N:Int)),(7,.int .u64 R0),(8,.int .i64 (q0:Int)),(9,.pointer (some ⟨bo,oo + q0 * 38,none⟩)),(10,.agg (opV ya qa ca)),(11,.slice (some ⟨bo,oo,none⟩) N oc),(12,.pointer (some ⟨g6,38,none⟩)),(13,.int .i64 m.other),(14,.int .u64 A1),(15,.slice (some ⟨bo,oo,none⟩) N oc),(16,.int .i64 (N:Int)),(17,.int .u64 (N:Int)),(18,.int .u64 R1),(19,.int .i64 (q1:Int)),(20,.pointer (some ⟨bo,oo + q1 * 38,none⟩)),(21,.agg (opV yb qb cb))] ∧ Below w7.heap.size w7 w' ∧ PutP q V w7.heap.size 22 24 23 38 (opV z05 none 0) (opV ya qa ca) w') (fun | 0=>u48 | 1=>u49 | 2=>u50 | 3=>u51 | 4=>u52 | 5=>u53 | 6=>u54 | 7=>u55 | 8=>u56 | 9=>u57 | 10=>u58 | 11=>u59 | 12=>u60 | 13=>u61 | 14=>u62 | 15=>u63 | 16=>u64 | 17=>u65 | 18=>u66 | 19=>u67 | 20=>u68 | 21=>u69 | 22=>u10 | 23=>u11 | _=>undef) (by kernel_rfl) (by kernel_rfl) (by kernel_rfl) (by simp only [zC,zD,z0i,Act.put,zS,zA,zB]) ⟨Vals.none,(Below.refl _ _).drew,PutP.none⟩ ?_ ?_
      ·simp only [zC,zD,z0i,Nat.zero_add,Nat.reduceAdd,Act.put,zS,zA,zB]
       refine zQc ?_ (zQc ?_ (zQc ?_ (zQc ?_ (zQc ?_ (zQc ?_ (zQc ?_ (zQc ?_ (zQc ?_ (zQc ?_ (zQc ?_ (zQc ?_ (zQc ?_ (zQc ?_ (zQc ?_ (zQc ?_ (zQc ?_ (zQc ?_ (zQc ?_ (zQc ?_ (zQc ?_ (zQc ?_ (zQc ?_ (zQc ?_ (zQc ?_ (zQn)))))))))))))))))))))))))
       all_goals (refine zQf rfl ?_;rintro q V wq hr hu ⟨hVs,hb,hp⟩ K hK)
       ·exact z0h (.tmp 4) rfl _ rfl (hK _ _ ⟨hVs.set rfl,hb,hp.keep (by decide) (by decide) (by decide) (Below.refl _ _)⟩)
       ·exact z0l 74 (.tmp 6) 3 rfl _ _ rfl (zho g6) (hK _ _ ⟨hVs.set rfl,hb,hp.keep (by decide) (by decide) (by decide) (Below.refl _ _)⟩)
       ·exact z0o 3 (.tmp 49) rfl _ _ (hVs.get 1 (hr { on:=1,ground:=.data } (by simp) rfl) rfl) ((HMC.out wq hb).pos) Tryz.isAgg3 (hK _ _ ⟨hVs.set rfl,hb,hp.keep (by decide) (by decide) (by decide) (Below.refl _ _)⟩)
       ·exact z8b 3 39 (.tmp 50) rfl _ _ (hVs.get 2 (hr { on:=2,ground:=.data } (by simp) rfl) rfl) (HX1.out _) (hK _ _ ⟨hVs.set rfl,hb,hp.keep (by decide) (by decide) (by decide) (Below.refl _ _)⟩)
       ·exact z0h (.tmp 4) rfl _ rfl (hK _ _ ⟨hVs.set rfl,hb,hp.keep (by decide) (by decide) (by decide) (Below.refl _ _)⟩)
       ·exact zap (.tmp 52) rfl _ _ _ (hVs.get 4 (hr { on:=4,ground:=.data } (by simp) rfl) rfl) (hK _ _ ⟨hVs.set rfl,hb,hp.keep (by decide) (by decide) (by decide) (Below.refl _ _)⟩)
       ·exact z8b 3 39 (.tmp 53) rfl _ _ (hVs.get 5 (hr { on:=5,ground:=.data } (by simp) rfl) rfl) (HX2.out _) (hK _ _ ⟨hVs.set rfl,hb,hp.keep (by decide) (by decide) (by decide) (Below.refl _ _)⟩)
       ·exact z8s .rem 39 39 (.tmp 51) (.tmp 54) rfl _ _ _ (hVs.get 3 (hr { on:=3,ground:=.data } (by simp) rfl) rfl) (hVs.get 6 (hr { on:=6,ground:=.data } (by simp) rfl) rfl) (fun w=>rfl) (HX3.out) (hK _ _ ⟨hVs.set rfl,hb,hp.keep (by decide) (by decide) (by decide) (Below.refl _ _)⟩)
       ·exact z8b 39 3 (.tmp 55) rfl _ _ (hVs.get 7 (hr { on:=7,ground:=.data } (by simp) rfl) rfl) (HX4.out _) (hK _ _ ⟨hVs.set rfl,hb,hp.keep (by decide) (by decide) (by decide) (Below.refl _ _)⟩)
       ·exact z2y 29 (.tmp 48) (.tmp 56) rfl _ _ _ (hVs.get 0 (hr { on:=0,ground:=.data } (by simp) rfl) rfl) (hVs.get 8 (hr { on:=8,ground:=.data } (by simp) rfl) rfl) HXA.out (hK _ _ ⟨hVs.set rfl,hb,hp.keep (by decide) (by decide) (by decide) (Below.refl _ _)⟩)
       ·exact z52 38 (.tmp 57) rfl bo (oo + q0 * 38) (opL ya qa ca) _ (hVs.get 9 (hr { on:=9,ground:=.data } (by simp) rfl) rfl) (HRA.out wq hb) Tryz.underlying38 rfl HSOA.out (hK _ _ ⟨hVs.set rfl,hb,hp.keep (by decide) (by decide) (by decide) (Below.refl _ _)⟩)
       ·exact z0h (.tmp 4) rfl _ rfl (hK _ _ ⟨hVs.set rfl,hb,hp.keep (by decide) (by decide) (by decide) (Below.refl _ _)⟩)
       ·exact z0l 74 (.tmp 6) 4 rfl _ _ rfl (zhq g6) (hK _ _ ⟨hVs.set rfl,hb,hp.keep (by decide) (by decide) (by decide) (Below.refl _ _)⟩)
       ·exact z0o 3 (.tmp 60) rfl _ _ (hVs.get 12 (hr { on:=12,ground:=.data } (by simp) rfl) rfl) ((HMC.out wq hb).other) Tryz.isAgg3 (hK _ _ ⟨hVs.set rfl,hb,hp.keep (by decide) (by decide) (by decide) (Below.refl _ _)⟩)
       ·exact z8b 3 39 (.tmp 61) rfl _ _ (hVs.get 13 (hr { on:=13,ground:=.data } (by simp) rfl) rfl) (HZ1.out _) (hK _ _ ⟨hVs.set rfl,hb,hp.keep (by decide) (by decide) (by decide) (Below.refl _ _)⟩)
       ·exact z0h (.tmp 4) rfl _ rfl (hK _ _ ⟨hVs.set rfl,hb,hp.keep (by decide) (by decide) (by decide) (Below.refl _ _)⟩)
       ·exact zap (.tmp 63) rfl _ _ _ (hVs.get 15 (hr { on:=15,ground:=.data } (by simp) rfl) rfl) (hK _ _ ⟨hVs.set rfl,hb,hp.keep (by decide) (by decide) (by decide) (Below.refl _ _)⟩)
       ·exact z8b 3 39 (.tmp 64) rfl _ _ (hVs.get 16 (hr { on:=16,ground:=.data } (by simp) rfl) rfl) (HX2.out _) (hK _ _ ⟨hVs.set rfl,hb,hp.keep (by decide) (by decide) (by decide) (Below.refl _ _)⟩)
       ·exact z8s .rem 39 39 (.tmp 62) (.tmp 65) rfl _ _ _ (hVs.get 14 (hr { on:=14,ground:=.data } (by simp) rfl) rfl) (hVs.get 17 (hr { on:=17,ground:=.data } (by simp) rfl) rfl) (fun w=>rfl) (HZ3.out) (hK _ _ ⟨hVs.set rfl,hb,hp.keep (by decide) (by decide) (by decide) (Below.refl _ _)⟩)
       ·exact z8b 39 3 (.tmp 66) rfl _ _ (hVs.get 18 (hr { on:=18,ground:=.data } (by simp) rfl) rfl) (HZ4.out _) (hK _ _ ⟨hVs.set rfl,hb,hp.keep (by decide) (by decide) (by decide) (Below.refl _ _)⟩)
       ·exact z2y 29 (.tmp 59) (.tmp 67) rfl _ _ _ (hVs.get 11 (hr { on:=11,ground:=.data } (by simp) rfl) rfl) (hVs.get 19 (hr { on:=19,ground:=.data } (by simp) rfl) rfl) HXB.out (hK _ _ ⟨hVs.set rfl,hb,hp.keep (by decide) (by decide) (by decide) (Below.refl _ _)⟩)
       ·exact z52 38 (.tmp 68) rfl bo (oo + q1 * 38) (opL yb qb cb) _ (hVs.get 20 (hr { on:=20,ground:=.data } (by simp) rfl) rfl) (HRB.out wq hb) Tryz.underlying38 rfl HSOB.out (hK _ _ ⟨hVs.set rfl,hb,hp.keep (by decide) (by decide) (by decide) (Below.refl _ _)⟩)
       ·exact z2s 38 rfl (opV z05 none 0) z4f (hK _ _ ⟨hVs.off rfl,hb.alloc hb.size _,hp.madeA hb.size hu (by decide) (by decide)⟩)
       ·exact z2s 38 rfl (opV z05 none 0) z4f (hK _ _ ⟨hVs.off rfl,hb.alloc hb.size _,hp.madeB hb.size (by decide) (by decide)⟩)
       ·obtain ⟨g,hV,hg0,hc0⟩:=hp.a (hr { on:=22,ground:=.data } (by simp) rfl)
        rw [if_neg (by rw [hu];decide)] at hc0
        refine z1z 38 (.tmp 10) (.tmp 58) rfl g _ (opV ya qa ca) 38 hV (hVs.get 10 (hr { on:=10,ground:=.data } (by simp) rfl) rfl) hc0 HSVA.out HZA.out (z0z ya qa ca) ?_
        intro w' hc' hbt
        have hbn:=But.toBelow hb hbt hg0 hb.size
        exact (hK _ _ ⟨hVs.off rfl,hbn,hp.stored (hr { on:=22,ground:=.data } (by simp) rfl) hV hg0 (by decide) (by decide) hc' hbt⟩)
      rintro q V wq hall ⟨hVs,hb,hp⟩
      have v0:=hVs.get 0 (hall 0 (by decide)) rfl
      have v1:=hVs.get 1 (hall 1 (by decide)) rfl
      have v2:=hVs.get 2 (hall 2 (by decide)) rfl
      have v3:=hVs.get 3 (hall 3 (by decide)) rfl
      have v4:=hVs.get 4 (hall 4 (by decide)) rfl
      have v5:=hVs.get 5 (hall 5 (by decide)) rfl
      have v6:=hVs.get 6 (hall 6 (by decide)) rfl
      have v7:=hVs.get 7 (hall 7 (by decide)) rfl
      have v8:=hVs.get 8 (hall 8 (by decide)) rfl
      have v9:=hVs.get 9 (hall 9 (by decide)) rfl
      have v10:=hVs.get 10 (hall 10 (by decide)) rfl
      have v11:=hVs.get 11 (hall 11 (by decide)) rfl
      have v12:=hVs.get 12 (hall 12 (by decide)) rfl
      have v13:=hVs.get 13 (hall 13 (by decide)) rfl
      have v14:=hVs.get 14 (hall 14 (by decide)) rfl
      have v15:=hVs.get 15 (hall 15 (by decide)) rfl
      have v16:=hVs.get 16 (hall 16 (by decide)) rfl
      have v17:=hVs.get 17 (hall 17 (by decide)) rfl
      have v18:=hVs.get 18 (hall 18 (by decide)) rfl
      have v19:=hVs.get 19 (hall 19 (by decide)) rfl
      have v20:=hVs.get 20 (hall 20 (by decide)) rfl
      have v21:=hVs.get 21 (hall 21 (by decide)) rfl
      obtain ⟨u22,v22⟩:∃ v,V 22 = v:=⟨_,rfl⟩
      obtain ⟨u23,v23⟩:∃ v,V 23 = v:=⟨_,rfl⟩
      obtain ⟨u24,v24⟩:∃ v,V 24 = v:=⟨_,rfl⟩
      obtain ⟨g10,e10,hg10,hc10⟩:=hp.a (hall 22 (by decide))
      rw [if_pos (hall 24 (by decide))] at hc10
      obtain ⟨g11,e11,hg11,hc11⟩:=hp.b (hall 23 (by decide))
      have hne:g10 ≠ g11:=fun e=>hp.ne (hall 22 (by decide)) (hall 23 (by decide)) (by rw [e10,e11,e])
      rw [v22] at e10
      rw [v23] at e11
      subst e10 e11
      simp only [zC,zD,zE,zF,z0i,Nat.zero_add,Nat.reduceAdd,v0,v1,v2,v3,v4,v5,v6,v7,v8,v9,v10,v11,v12,v13,v14,v15,v16,v17,v18,v19,v20,v21,v22,v23,Act.put,zS,zA,zB]
      clear hVs v0 v1 v2 v3 v4 v5 v6 v7 v8 v9 v10 v11 v12 v13 v14 v15 v16 v17 v18 v19 v20 v21 v22 v23 v24 hall
      have HB13q:=Lib.hid hb
      have HA13q:=Lib.hid hc10
      have HNE1:=Lib.hid hne
      have HG1:=Lib.hid hg10
      have HG11:=Lib.hid hg11
      clear hb hc10 hne hg10 hg11 hp
      refine z01 rfl 38 _ _ rfl rfl g11 (opV z05 none 0) (opV yb qb cb) 38 rfl rfl hc11 HSVB.out HZB.out (z0z yb qb cb) ?_
      intro w13 hc13 hb13
      have HB713:=Lib.hid (show Below w7.heap.size w7 w13 from But.toBelow HB13q.out hb13.out HG11.out HB13q.out.size)
      have HCB:=Lib.hid hc13.out
      have HCA:=Lib.hid (show Cells g10 38 (opV ya qa ca) w13 from (hb13.out.block g10 HA13q.out.lt HNE1.out).trans HA13q.out)
      have HIA2:=Lib.hid (HIA1.out.below HB713.out)
      have HIB2:=Lib.hid (HIB1.out.below HB713.out)
      have HC613:=Lib.hid (HC67.out.below HB713.out)
      have HC713:=Lib.hid (HC7.out.below HB713.out)
      have HB13:=Lib.hid (HB7.out.trans (HB713.out.mono HB7.out.size))
      have HG13:=Lib.hid (show g7 < w13.heap.size from HC713.out.lt)
      try simp only [Act.put,zS,zA,zB]
      clear hc13 hb13 hc11 HA13q HIA1 HIB1 HRA HRB HMC HX1 HX2 HX3 HX4 HZ1 HZ3 HZ4 HXA HXB HSOA HSOB HZA HZB HB13q
      have HNA:=Lib.hid (fun w' (r:Below w13.heap.size w13 w')=>z4o ya qa ca w' HFA.out (HIA2.out.below r))
      have HNB:=Lib.hid (fun w' (r:Below w13.heap.size w13 w')=>z4o yb qb cb w' HFB.out (HIB2.out.below r))
      obtain ⟨na,hna⟩:∃ z,z0a ya = z:=⟨_,rfl⟩
      obtain ⟨nb,hnb'⟩:∃ z,z0a yb = z:=⟨_,rfl⟩
      have HNAE:=Shut.mk hna
      have HNBE:=Shut.mk hnb'
      have HNAI:=Lib.hid (show IdOk na from hna ▸ ⟨z1u ya,z2o ya⟩)
      have HNBI:=Lib.hid (show IdOk nb from hnb' ▸ ⟨z1u yb,z2o yb⟩)
      rw [hna] at HNA
      rw [hnb'] at HNB
      clear hna hnb'
      have HI1:=Lib.hid (show Ids [na] from Ids.one HNAI.out.1 HNAI.out.2)
      have HRS:=Lib.hid (fun w' ah ch (hi:IAt ah [na] w')=>z32 [na] ah 1 ch w' HI1.out rfl hi (by decide))
      have HPI:=Lib.hid (show Ids (z0e [na]) from z15 HI1.out)
      have HPL:=Lib.hid (show (z0e [na]).length ≤ 2 by rw [z1x];exact (by decide:1 ≤ 2))
      obtain ⟨PL,hPL⟩:∃ z,z0e [na] = z:=⟨_,rfl⟩
      rw [hPL] at HRS HPI HPL
      clear hPL
      have HMC:=Lib.hid (fun w' (r:Below w13.heap.size w13 w')=>z34 HIM.out (HC613.out.below r))
      have HSD:=Lib.hid (show (Tryz.prog.info? 27).map (·.size) = some (z18 m.d).length by rw [z0s HIM.out.d.ref.1];exact Tryz.sizeD)
      go_upto_region 14 with (fail)
      refine z0f 9 (fun q V w'=>Vals q V [(0,.pointer (some ⟨g6,2,none⟩)),(1,.agg (z0d m.d)),(2,.pointer (some ⟨g6,1,none⟩)),(3,.int .i64 m.author),(4,.agg (opV ya qa ca)),(5,.agg (z06 .u8 na).toArray)] ∧ Below w13.heap.size w13 w' ∧ Is q V 6 (NameR w13.heap.size [na] (fun ai ci=>.slice ai 1 ci)) w' ∧ Is q V 7 (NameR w13.heap.size PL (fun ai ci=>.slice ai PL.length ci)) w' ∧ Is q V 8 (NameR w13.heap.size PL (fun ai ci=>.agg (opV ⟨m.d,m.author,0,PL⟩ ai ci))) w') (fun | 0=>u70 | 1=>u71 | 2=>u72 | 3=>u73 | 4=>u74 | 5=>u75 | 6=>u76 | 7=>u77 | 8=>u78 | _=>undef) (by kernel_rfl) (by kernel_rfl) (by kernel_rfl) (by simp only [zC,zD,z0i,Act.put,zS,zA,zB]) ⟨Vals.none,(Below.refl _ _).drew,Is.none,Is.none,Is.none⟩ ?_ ?_
      ·simp only [zC,zD,z0i,Nat.zero_add,Nat.reduceAdd,Act.put,zS,zA,zB]
       refine zQc ?_ (zQc ?_ (zQc ?_ (zQc ?_ (zQc ?_ (zQc ?_ (zQc ?_ (zQc ?_ (zQc ?_ (zQn)))))))))
       all_goals (refine zQf rfl ?_;rintro q V wq hr hu ⟨hVs,hb,his6,his7,his8⟩ K hK)
       ·exact z0l 74 (.tmp 6) 2 rfl _ _ rfl (zh2 g6) (hK _ _ ⟨hVs.set rfl,hb,his6.ne (by decide) (fun _ h=>h),his7.ne (by decide) (fun _ h=>h),his8.ne (by decide) (fun _ h=>h)⟩)
       ·exact z52 27 (.tmp 70) rfl g6 2 (z18 m.d) _ (hVs.get 0 (hr { on:=0,ground:=.data } (by simp) rfl) rfl) (HMC.out wq hb).d Tryz.underlying27 rfl HSD.out (hK _ _ ⟨hVs.set rfl,hb,his6.ne (by decide) (fun _ h=>h),his7.ne (by decide) (fun _ h=>h),his8.ne (by decide) (fun _ h=>h)⟩)
       ·exact z0l 74 (.tmp 6) 1 rfl _ _ rfl (zh9 g6) (hK _ _ ⟨hVs.set rfl,hb,his6.ne (by decide) (fun _ h=>h),his7.ne (by decide) (fun _ h=>h),his8.ne (by decide) (fun _ h=>h)⟩)
       ·exact z0o 3 (.tmp 72) rfl _ _ (hVs.get 2 (hr { on:=2,ground:=.data } (by simp) rfl) rfl) ((HMC.out wq hb).author) Tryz.isAgg3 (hK _ _ ⟨hVs.set rfl,hb,his6.ne (by decide) (fun _ h=>h),his7.ne (by decide) (fun _ h=>h),his8.ne (by decide) (fun _ h=>h)⟩)
       ·exact z1o 38 (.tmp 10) rfl g10 (opV ya qa ca) 38 _ rfl (HCA.out.below hb) Tryz.underlying38 rfl HSVA.out (hK _ _ ⟨hVs.set rfl,hb,his6.ne (by decide) (fun _ h=>h),his7.ne (by decide) (fun _ h=>h),his8.ne (by decide) (fun _ h=>h)⟩)
       ·refine z4u Tryz.func26 rfl rfl rfl [.agg (opV ya qa ca)] (z4i (hVs.get 4 (hr { on:=4,ground:=.data } (by simp) rfl) rfl) rfl) (HNA.out wq hb) ?_
        rintro e w' ⟨rfl,hb'⟩
        exact ⟨_,rfl,(hK _ _ ⟨hVs.set rfl,hb.trans (hb'.mono hb.size),his6.ne (by decide) (fun _ h=>h.below hb'),his7.ne (by decide) (fun _ h=>h.below hb'),his8.ne (by decide) (fun _ h=>h.below hb')⟩)⟩
       ·refine z6d rfl (.tmp 75) rfl na HNAI.out.1 (hVs.get 5 (hr { on:=5,ground:=.data } (by simp) rfl) rfl) ?_
        intro w' hb' hsrc
        exact (hK _ _ ⟨hVs.off rfl,hb.trans (hb'.mono hb.size),Is.same ⟨_,1,rfl,hsrc,fun a ha=>by cases ha;exact hb.size⟩,his7.ne (by decide) (fun _ h=>h.below hb'),his8.ne (by decide) (fun _ h=>h.below hb')⟩)
       ·obtain ⟨ai,ci,e6,hi6,_⟩:=his6 (hr { on:=6,ground:=.data } (by simp) rfl)
        refine z4u Tryz.func41 rfl rfl rfl [.slice ai 1 ci] (z4i e6 rfl) (HRS.out wq ai ci hi6) ?_
        rintro e w' ⟨v,rfl,ho,hb'⟩
        obtain ⟨aj,cj,rfl⟩:=ho.form
        exact ⟨_,rfl,(hK _ _ ⟨hVs.off rfl,hb.trans (hb'.mono hb.size),his6.ne (by decide) (fun _ h=>h.below hb'),Is.same ⟨aj,cj,rfl,ho.at HPI.out,fun a ha=>Nat.le_trans hb.size (World.ownsRow.lt ho a.block (by subst ha;rfl)).1⟩,his8.ne (by decide) (fun _ h=>h.below hb')⟩)⟩
       ·obtain ⟨ai,ci,e7,hi7,hn7⟩:=his7 (hr { on:=7,ground:=.data } (by simp) rfl)
        exact z5l 38 #[(0,.tmp 71),(1,.tmp 73),(3,.tmp 77)] rfl [(0,.agg (z0d m.d)),(1,.int .i64 m.author),(3,.slice ai PL.length ci)] (opV ⟨m.d,m.author,0,PL⟩ ai ci) (by rw [List.map_toArray];show List.toArray [(0,V 1),(1,V 3),(3,V 7)] = _;rw [(hVs.get 1 (hr { on:=1,ground:=.data } (by simp) rfl) rfl),(hVs.get 3 (hr { on:=3,ground:=.data } (by simp) rfl) rfl),e7]) (zat m.d m.author PL ai ci HIM.out.d.ref.1) (hK _ _ ⟨hVs.off rfl,hb,his6.ne (by decide) (fun _ h=>h),his7.ne (by decide) (fun _ h=>h),Is.same ⟨ai,ci,rfl,hi7,hn7⟩⟩)
      rintro q V wq hall ⟨hVs,hb,his6,his7,his8⟩
      have v0:=hVs.get 0 (hall 0 (by decide)) rfl
      have v1:=hVs.get 1 (hall 1 (by decide)) rfl
      have v2:=hVs.get 2 (hall 2 (by decide)) rfl
      have v3:=hVs.get 3 (hall 3 (by decide)) rfl
      have v4:=hVs.get 4 (hall 4 (by decide)) rfl
      have v5:=hVs.get 5 (hall 5 (by decide)) rfl
      obtain ⟨u6,v6⟩:∃ v,V 6 = v:=⟨_,rfl⟩
      obtain ⟨u7,v7⟩:∃ v,V 7 = v:=⟨_,rfl⟩
      obtain ⟨u8,v8⟩:∃ v,V 8 = v:=⟨_,rfl⟩
      obtain ⟨ah,ch,e8,hi8,hn8⟩:=his8 (hall 8 (by decide))
      rw [v8] at e8
      subst e8
      simp only [zC,zD,zE,zF,z0i,Nat.zero_add,Nat.reduceAdd,v0,v1,v2,v3,v4,v5,v6,v7,v8,Act.put,zS,zA,zB]
      clear hVs v0 v1 v2 v3 v4 v5 v6 v7 v8 hall
      have HBq:=Lib.hid hb
      have HIq:=Lib.hid hi8
      have HPq:=Lib.hid hn8
      have HC7q:=Lib.hid (HC713.out.below hb)
      have HSN:=Lib.hid (show (Tryz.prog.info? 38).map (·.size) = some (opV ⟨m.d,m.author,0,PL⟩ ah ch).size by rw [z07 (o:=⟨m.d,m.author,0,PL⟩) HIM.out.d.ref.1];exact Tryz.sizeO)
      have HZN:=Lib.hid (show (opV m.op pa pc).size = (opV ⟨m.d,m.author,0,PL⟩ ah ch).size by rw [z07 (o:=⟨m.d,m.author,0,PL⟩) HIM.out.d.ref.1,z07 HIM.out.op.d.ref.1])
      clear hb hi8 hn8 his6 his7 his8 HRS HMC HSD
      refine z01 rfl 38 _ _ rfl rfl g7 (opV m.op pa pc) (opV ⟨m.d,m.author,0,PL⟩ ah ch) 38 rfl rfl HC7q.out HSN.out HZN.out (z0z _ ah ch) ?_
      intro w14 hc14 hb14
      have ho14:Only (fun b=>b = g7) wq w14:=(Only.refl _ _).but hb14.out (.inl rfl)
      have hne10:g10 ≠ g7:=fun e=>by have h1:=HC7.out.lt;have h2:=HG1.out;omega
      have hne11:g11 ≠ g7:=fun e=>by have h1:=HC7.out.lt;have h2:=HG11.out;omega
      have HB14:=Lib.hid (show Below wr.heap.size wr w14 from But.toBelow (HB13.out.trans (HBq.out.mono HB13.out.size)) hb14.out HG7.out (HB13.out.trans (HBq.out.mono HB13.out.size)).size)
      have HCA14:=Lib.hid ((HCA.out.below HBq.out).only ho14 hne10)
      have HCB14:=Lib.hid ((HCB.out.below HBq.out).only ho14 hne11)
      have HC614:=Lib.hid ((HC613.out.below HBq.out).only ho14 (fun e=>by have h1:=HC6L.out;omega))
      have HC714:=Lib.hid hc14.out
      have HI14:=Lib.hid (HIq.out.only ho14 (fun a ha _ e=>by have h1:=HPq.out a ha;have h2:=HG13.out;omega))
      have HIA14:=Lib.hid ((HIA2.out.below HBq.out).only ho14 (fun a ha h0 e=>(HFRA.out a ha h0) e))
      have HIB14:=Lib.hid ((HIB2.out.below HBq.out).only ho14 (fun a ha h0 e=>(HFRB.out a ha h0) e))
      have HS14:=Lib.hid (show w7.heap.size ≤ w14.heap.size from Nat.le_trans HB713.out.size (Nat.le_trans HBq.out.size hb14.out.size))
      have HPN:=Lib.hid (fun a (ha:ah = some a)=>show w7.heap.size ≤ a.block from Nat.le_trans HB713.out.size (HPq.out a ha))
      have HSM9:=Lib.hid (z5h ya yb qa qb ca cb w14 HFA.out.ok HFB.out.ok HIA14.out HIB14.out (by have:=HFA.out.many;omega) (by have:=HFB.out.many;omega))
      try simp only [Act.put,zS,zA,zB]
      clear hc14 hb14 ho14 HC7q HIq HZN HSN
      by_cases hyab:ya = yb
      ·rw [decide_eq_true hyab] at HSM9
       clear hyab
       go_wp2_with (first
        | (refine z00 rfl 38 (.tmp 10) rfl g10 (opV ya qa ca) 38 _ rfl HCA14.out Tryz.underlying38 rfl HSVA.out ?_)
        | (refine z00 rfl 38 (.tmp 11) rfl g11 (opV yb qb cb) 38 _ rfl HCB14.out Tryz.underlying38 rfl HSVB.out ?_))
       refine HSM9.out.mono ?_
       rintro e w16 ⟨rfl,hb15⟩
       obtain ⟨P,hP⟩:∃ P,P = PL:=⟨_,rfl⟩
       obtain ⟨ap,hap⟩:∃ x,x = ah:=⟨_,rfl⟩
       obtain ⟨cp,hcp⟩:∃ x,x = ch:=⟨_,rfl⟩
       have HB16:=Lib.hid (HB14.out.trans (hb15.mono HB14.out.size))
       have HCA16:=Lib.hid (HCA14.out.below hb15)
       have HCB16:=Lib.hid (HCB14.out.below hb15)
       have HC616:=Lib.hid (HC614.out.below hb15)
       have HC716:=Lib.hid (show Cells g7 38 (opV ⟨m.d,m.author,0,P⟩ ap cp) w16 by rw [hP,hap,hcp];exact HC714.out.below hb15)
       have HI16:=Lib.hid (show IAt ap P w16 by rw [hP,hap];exact HI14.out.below hb15)
       have HPN16:=Lib.hid (fun a (ha:ap = some a)=>HPN.out a (hap ▸ ha))
       have HPI16:=Lib.hid (show Ids P from hP ▸ HPI.out)
       have HPL16:=Lib.hid (show P.length ≤ 2 from hP ▸ HPL.out)
       clear hb15 hP hap hcp HCA14 HCB14 HC614 HC714 HI14 HIA14 HIB14 HSM9
       obtain ⟨_,_,da,_⟩:=z0k HFA.out.d.ref.1 HCA16.out
       obtain ⟨_,_,db,_⟩:=z0k HFB.out.d.ref.1 HCB16.out
       obtain ⟨_,_,c36,_⟩:=z0k (o:=⟨m.d,m.author,0,P⟩) HIM.out.d.ref.1 HC716.out
       have f36:=HC716.out.frozen 36
       have dm:=(z34 HIM.out HC616.out).deep
       go_upto_region 18 with (fail)
       obtain ⟨De,hDe⟩:∃ De,wrap64 (wrap64 (1 + max ya.depth yb.depth) + m.deep.tmod 3) = De:=⟨_,rfl⟩
       have HDI:=Lib.hid (show I64 De from hDe ▸ zd6 _)
       rw [hDe]
       have hk17:But g7 w16 (w16.setCell ⟨g7,36,none⟩ (.int .i64 De)):=(But.refl g7 w16).setCell 36 _
       have ho17:Only (fun b=>b = g7) w16 (w16.setCell ⟨g7,36,none⟩ (.int .i64 De)):=(Only.refl _ _).but hk17 (.inl rfl)
       have h717:=HC716.out.set 36 (.int .i64 De)
       rw [zbe (d:=m.d) (a:=m.author) (b:=0) (L:=P) HIM.out.d.ref.1 ap cp] at h717
       obtain ⟨w17,hw17⟩:∃ z,z = w16.setCell ⟨g7,36,none⟩ (.int .i64 De):=⟨_,rfl⟩
       rw [← hw17] at hk17 ho17 h717 ⊢
       obtain ⟨y,hy⟩:∃ y,y = (⟨m.d,m.author,De,P⟩:OpN):=⟨_,rfl⟩
       rw [← hy] at h717
       have HY:=Lib.hid (show y.In from hy ▸ ⟨HIM.out.d,HIM.out.author.1,HIM.out.author.2,HDI.out.1,HDI.out.2,HPI16.out,Nat.le_trans HPL16.out (by decide)⟩)
       have HMT:=Lib.hid (HMK.out.below (show Below wr.heap.size wr w17 from But.toBelow HB16.out hk17 HG7.out HB16.out.size))
       have HCT:=Lib.hid h717
       have hyP:y.preds = P:=by rw [hy]
       have HIT:=Lib.hid (show IAt ap y.preds w17 by rw [hyP];exact HI16.out.only ho17 (fun a ha _ e=>by have h1:=HPN16.out a ha;have h2:=HC7.out.lt;omega))
       have HPT:=Lib.hid (HMK7.out.paNew (pa:=ap) (P:=y.preds) HPN16.out)
       obtain ⟨py,hpy⟩:∃ x,x = ap:=⟨_,rfl⟩
       obtain ⟨cy,hcy⟩:∃ x,x = cp:=⟨_,rfl⟩
       rw [← hpy] at HCT HIT HPT
       rw [← hcy] at HCT
       clear hDe hw17 hk17 ho17 h717 hy hyP hpy hcy da db c36 f36 dm HI16 HPN16 HPI16 HPL16 HCA16 HCB16 HC616 HC716
       obtain ⟨hrow,_,_,c37⟩:=z0k HY.out.d.ref.1 HCT.out
       obtain ⟨_,ck,cv,_⟩:=z5p hrow
       obtain ⟨np,hnp⟩:∃ i,y.preds.length = i:=⟨_,rfl⟩
       rw [hnp] at c37
       have HNP:=Shut.mk hnp
       clear hnp hrow
       by_cases hp70:np ≤ 70
       ·have q1:decide ((70:Int) < (np:Int)) = false:=decide_eq_false (by omega)
        by_cases hk100:y.d.key.length ≤ 100
        ·have q2:decide ((100:Int) < (y.d.key.length:Int)) = false:=decide_eq_false (by omega)
         by_cases hv100:y.d.val.length ≤ 100
         ·have q3:decide ((100:Int) < (y.d.val.length:Int)) = false:=decide_eq_false (by omega)
          obtain ⟨Y,hY1,hY2,hY3⟩:=HMT.out.less HPT.out HIT.out
          have HY1:=Lib.hid hY1
          have HY2:=Lib.hid hY2
          have HFIT:=Lib.hid (show y.Fit from ⟨⟨HY.out.d.ref,HY.out.d.low,HY.out.d.high,by omega,by omega⟩,HY.out.alow,HY.out.ahigh,HY.out.dlow,HY.out.dhigh,HY.out.preds,by rw [HNP.out];omega⟩)
          have HTK:=Lib.hid (z6t Y gs vo vw vn vq s y py cy _ hY1.ref hY1.hi hY1.tame HFIT.out HIT.out hY2 (by have:=hY1.cnt;omega))
          have HSY:=Lib.hid (show (Tryz.prog.info? 38).map (·.size) = some (opV y py cy).size by rw [z07 HY.out.d.ref.1];exact Tryz.sizeO)
          clear hY1 hY2 hY3
          go_wp2_with (refine z00 rfl 38 (.tmp 7) rfl g7 (opV y py cy) 38 _ rfl HCT.out Tryz.underlying38 rfl HSY.out ?_)
          refine HTK.out.mono ?_
          intro e w19 htp
          obtain ⟨v,vo',vw',vn',vq',rfl,hv,hm19,htu⟩:=HY1.out.take htp
          have HM19:=Lib.hid hm19
          have HC19:=Lib.hid (HCT.out.only htu.only (fun e=>by have h1:=HMK.out.ref.lt e;have h2:=HG7.out;omega))
          have HI19:=Lib.hid (HIT.out.only htu.only (HY2.out.mono (fun b hb=>HY1.out.ref.mine b hb)))
          clear hm19 htp hv htu HCT HIT HTK c37 ck cv
          go_wp2_with (first
           | (refine z00 rfl 38 (.tmp 7) rfl g7 (opV y py cy) 38 _ rfl HC19.out Tryz.underlying38 rfl HSY.out ?_)
           | (refine z2c rfl _ rfl Y y py cy HY.out.d.ref.1 rfl HI19.out HY2.out ?_))
          intro w20 hb20 hs20
          have HM20:=Lib.hid (HM19.out.below hb20.out)
          have HS20:=Lib.hid hs20.out
          clear hb20 hs20
          go_wp2_with (refine z1g rfl _ _ 29 38 rfl w.heap.size 112 (.agg (opV z05 none 0)) rfl (by decide) Tryz.underlying29 z54 Y (.slice (some ⟨bo,oo,none⟩) N oc) L [y] (fun z hz=>by rw [List.mem_singleton.1 hz];exact HY.out.d.ref.1) ⟨w19.heap.size,0,none⟩ 1 1 rfl rfl HM20.out.own HM20.out.mine rfl HS20.out (by have h1:=HM20.out.len;simp only [List.length_singleton];omega) HM20.out.bel.size ?_)
          intro v' w' ho hg hd
          have HFIN:=Lib.hid (HM20.out.push HFIT.out (by have h1:=HMT.out.len;omega) ho.out hg.out hd.out)
          clear ho hg hd
          go_wp2_with fail
          exact ⟨⟨_,k + 1,Y,vo',vw',vn',vq',_,L ++ [y],rfl,by omega,by omega,by go_num,HFIN.out⟩,by simp [intOf];omega⟩
         ·have q3:decide ((100:Int) < (y.d.val.length:Int)) = true:=decide_eq_true (by omega)
          go_wp2_with fail
          exact ⟨⟨_,k + 1,X,vo,vw,vn,vq,s,L,rfl,by omega,by omega,by go_num,HMT.out.more (Nat.le_succ _)⟩,by simp [intOf];omega⟩
        ·have q2:decide ((100:Int) < (y.d.key.length:Int)) = true:=decide_eq_true (by omega)
         go_wp2_with fail
         exact ⟨⟨_,k + 1,X,vo,vw,vn,vq,s,L,rfl,by omega,by omega,by go_num,HMT.out.more (Nat.le_succ _)⟩,by simp [intOf];omega⟩
       ·have q1:decide ((70:Int) < (np:Int)) = true:=decide_eq_true (by omega)
        go_wp2_with fail
        exact ⟨⟨_,k + 1,X,vo,vw,vn,vq,s,L,rfl,by omega,by omega,by go_num,HMT.out.more (Nat.le_succ _)⟩,by simp [intOf];omega⟩
      ·rw [decide_eq_false hyab] at HSM9
       clear hyab
       go_wp2_with (first
        | (refine z00 rfl 38 (.tmp 10) rfl g10 (opV ya qa ca) 38 _ rfl HCA14.out Tryz.underlying38 rfl HSVA.out ?_)
        | (refine z00 rfl 38 (.tmp 11) rfl g11 (opV yb qb cb) 38 _ rfl HCB14.out Tryz.underlying38 rfl HSVB.out ?_))
       refine HSM9.out.mono ?_
       rintro e w15 ⟨rfl,hb15⟩
       have HB15:=Lib.hid (HB14.out.trans (hb15.mono HB14.out.size))
       have HS15:=Lib.hid (Nat.le_trans HS14.out hb15.size)
       have HCA15:=Lib.hid (HCA14.out.below hb15)
       have HCB15:=Lib.hid (HCB14.out.below hb15)
       have HC615:=Lib.hid (HC614.out.below hb15)
       have HC715:=Lib.hid (HC714.out.below hb15)
       have HIA15:=Lib.hid (HIA14.out.below hb15)
       have HIB15:=Lib.hid (HIB14.out.below hb15)
       clear hb15 HCA14 HCB14 HC614 HC714 HI14 HIA14 HIB14 HSM9 HNA HNB HPI HPL
       have HNA:=Lib.hid (fun w' (r:Below w15.heap.size w15 w')=>(show Calls Tryz.prog 26 #[.agg (opV ya qa ca)] w' (fun e w''=>e = .returned (.agg (z06 .u8 na).toArray) ∧ Below w'.heap.size w' w'') from HNAE.out ▸ z4o ya qa ca w' HFA.out (HIA15.out.below r)))
       have HNB:=Lib.hid (fun w' (r:Below w15.heap.size w15 w')=>(show Calls Tryz.prog 26 #[.agg (opV yb qb cb)] w' (fun e w''=>e = .returned (.agg (z06 .u8 nb).toArray) ∧ Below w'.heap.size w' w'') from HNBE.out ▸ z4o yb qb cb w' HFB.out (HIB15.out.below r)))
       have HI2:=Lib.hid (show Ids [na,nb] from fun z hz=>by
        rcases List.mem_cons.1 hz with rfl | hz
        ·exact HNAI.out
        ·rw [List.mem_singleton.1 hz];exact HNBI.out)
       have HRS:=Lib.hid (fun w' ah ch (hi:IAt ah [na,nb] w')=>z32 [na,nb] ah 2 ch w' HI2.out rfl hi (by decide))
       have HPI:=Lib.hid (show Ids (z0e [na,nb]) from z15 HI2.out)
       have HPL:=Lib.hid (show (z0e [na,nb]).length ≤ 2 by rw [z1x];exact (by decide:2 ≤ 2))
       obtain ⟨P,hP⟩:∃ z,z0e [na,nb] = z:=⟨_,rfl⟩
       rw [hP] at HRS HPI HPL
       clear hP
       go_upto_region 16 with (fail)
       refine z0f 7 (fun q V w'=>Vals q V [(0,.agg (opV ya qa ca)),(1,.agg (z06 .u8 na).toArray),(2,.agg (opV yb qb cb)),(3,.agg (z06 .u8 nb).toArray),(6,.pointer (some ⟨g7,37,none⟩))] ∧ Below w15.heap.size w15 w' ∧ Is q V 4 (NameR w15.heap.size [na,nb] (fun ai ci=>.slice ai 2 ci)) w' ∧ Is q V 5 (NameR w15.heap.size P (fun ai ci=>.slice ai P.length ci)) w') (fun | 0=>u83 | 1=>u84 | 2=>u85 | 3=>u86 | 4=>u87 | 5=>u88 | 6=>u89 | _=>undef) (by kernel_rfl) (by kernel_rfl) (by kernel_rfl) (by simp only [zC,zD,z0i,Act.put,zS,zA,zB]) ⟨Vals.none,(Below.refl _ _).drew,Is.none,Is.none⟩ ?_ ?_
       ·simp only [zC,zD,z0i,Nat.zero_add,Nat.reduceAdd,Act.put,zS,zA,zB]
        refine zQc ?_ (zQc ?_ (zQc ?_ (zQc ?_ (zQc ?_ (zQc ?_ (zQc ?_ (zQn)))))))
        all_goals (refine zQf rfl ?_;rintro q V wq hr hu ⟨hVs,hb,his4,his5⟩ K hK)
        ·exact z1o 38 (.tmp 10) rfl g10 (opV ya qa ca) 38 _ rfl (HCA15.out.below hb) Tryz.underlying38 rfl HSVA.out (hK _ _ ⟨hVs.set rfl,hb,his4.ne (by decide) (fun _ h=>h),his5.ne (by decide) (fun _ h=>h)⟩)
        ·refine z4u Tryz.func26 rfl rfl rfl [.agg (opV ya qa ca)] (z4i (hVs.get 0 (hr { on:=0,ground:=.data } (by simp) rfl) rfl) rfl) (HNA.out wq hb) ?_
         rintro e w' ⟨rfl,hb'⟩
         exact ⟨_,rfl,(hK _ _ ⟨hVs.set rfl,hb.trans (hb'.mono hb.size),his4.ne (by decide) (fun _ h=>h.below hb'),his5.ne (by decide) (fun _ h=>h.below hb')⟩)⟩
        ·exact z1o 38 (.tmp 11) rfl g11 (opV yb qb cb) 38 _ rfl (HCB15.out.below hb) Tryz.underlying38 rfl HSVB.out (hK _ _ ⟨hVs.set rfl,hb,his4.ne (by decide) (fun _ h=>h),his5.ne (by decide) (fun _ h=>h)⟩)
        ·refine z4u Tryz.func26 rfl rfl rfl [.agg (opV yb qb cb)] (z4i (hVs.get 2 (hr { on:=2,ground:=.data } (by simp) rfl) rfl) rfl) (HNB.out wq hb) ?_
         rintro e w' ⟨rfl,hb'⟩
         exact ⟨_,rfl,(hK _ _ ⟨hVs.set rfl,hb.trans (hb'.mono hb.size),his4.ne (by decide) (fun _ h=>h.below hb'),his5.ne (by decide) (fun _ h=>h.below hb')⟩)⟩
        ·refine zgi (.tmp 84) (.tmp 86) rfl na nb HNAI.out.1 HNBI.out.1 (hVs.get 1 (hr { on:=1,ground:=.data } (by simp) rfl) rfl) (hVs.get 3 (hr { on:=3,ground:=.data } (by simp) rfl) rfl) ?_
         intro w' hb' hsrc
         exact (hK _ _ ⟨hVs.off rfl,hb.trans (hb'.mono hb.size),Is.same ⟨_,2,rfl,hsrc,fun a ha=>by cases ha;exact hb.size⟩,his5.ne (by decide) (fun _ h=>h.below hb')⟩)
        ·obtain ⟨ai,ci,e4,hi4,_⟩:=his4 (hr { on:=4,ground:=.data } (by simp) rfl)
         refine z4u Tryz.func41 rfl rfl rfl [.slice ai 2 ci] (z4i e4 rfl) (HRS.out wq ai ci hi4) ?_
         rintro e w' ⟨v,rfl,ho,hb'⟩
         obtain ⟨aj,cj,rfl⟩:=ho.form
         exact ⟨_,rfl,(hK _ _ ⟨hVs.off rfl,hb.trans (hb'.mono hb.size),his4.ne (by decide) (fun _ h=>h.below hb'),Is.same ⟨aj,cj,rfl,ho.at HPI.out,fun a ha=>Nat.le_trans hb.size (World.ownsRow.lt ho a.block (by subst ha;rfl)).1⟩⟩)⟩
        ·exact z0l 38 (.tmp 7) 3 rfl _ _ rfl (zh3 g7) (hK _ _ ⟨hVs.set rfl,hb,his4.ne (by decide) (fun _ h=>h),his5.ne (by decide) (fun _ h=>h)⟩)
       rintro q V wq hall ⟨hVs,hb,his4,his5⟩
       have v0:=hVs.get 0 (hall 0 (by decide)) rfl
       have v1:=hVs.get 1 (hall 1 (by decide)) rfl
       have v2:=hVs.get 2 (hall 2 (by decide)) rfl
       have v3:=hVs.get 3 (hall 3 (by decide)) rfl
       obtain ⟨u4,v4⟩:∃ v,V 4 = v:=⟨_,rfl⟩
       obtain ⟨u5,v5⟩:∃ v,V 5 = v:=⟨_,rfl⟩
       have v6:=hVs.get 6 (hall 6 (by decide)) rfl
       obtain ⟨ap,cp,e5,hi5,hn5⟩:=his5 (hall 5 (by decide))
       rw [v5] at e5
       subst e5
       simp only [zC,zD,zE,zF,z0i,Nat.zero_add,Nat.reduceAdd,v0,v1,v2,v3,v4,v5,v6,Act.put,zS,zA,zB]
       clear hVs v0 v1 v2 v3 v4 v5 v6 hall
       have HB16q:=Lib.hid (HB15.out.trans (hb.mono HB15.out.size))
       have HC7w:=Lib.hid (HC715.out.below hb)
       have HCAw:=Lib.hid (HCA15.out.below hb)
       have HCBw:=Lib.hid (HCB15.out.below hb)
       have HC6w:=Lib.hid (HC615.out.below hb)
       have HI5:=Lib.hid hi5
       have HP5:=Lib.hid (fun a (ha:ap = some a)=>show w7.heap.size ≤ a.block from Nat.le_trans HS15.out (hn5 a ha))
       have c37':=(z0k (o:=⟨m.d,m.author,0,PL⟩) HIM.out.d.ref.1 HC7w.out).2.2.2
       have f37:=HC7w.out.frozen 37
       clear hb hi5 hn5 his4 his5 HRS HNA HNB
       go_upto_region 17 with (fail)
       obtain ⟨w16,hw16⟩:∃ z,z = wq.setCell ⟨g7,37,none⟩ (.slice ap P.length cp):=⟨_,rfl⟩
       have hk16:But g7 wq (wq.setCell ⟨g7,37,none⟩ (.slice ap P.length cp)):=(But.refl g7 wq).setCell 37 _
       have ho16:Only (fun b=>b = g7) wq (wq.setCell ⟨g7,37,none⟩ (.slice ap P.length cp)):=(Only.refl _ _).but hk16 (.inl rfl)
       have h716:=HC7w.out.set 37 (.slice ap P.length cp)
       rw [z7a (d:=m.d) (a:=m.author) (b:=0) (L:=PL) (M:=P) HIM.out.d.ref.1 rfl ah ap ch cp] at h716
       rw [← hw16] at hk16 ho16 h716 ⊢
       have HB16:=Lib.hid (show Below wr.heap.size wr w16 from But.toBelow HB16q.out hk16 HG7.out HB16q.out.size)
       have HCA16:=Lib.hid (HCAw.out.only ho16 hne10)
       have HCB16:=Lib.hid (HCBw.out.only ho16 hne11)
       have HC616:=Lib.hid (HC6w.out.only ho16 (fun e=>by have h1:=HC6L.out;omega))
       have HC716:=Lib.hid h716
       have HI16:=Lib.hid (HI5.out.only ho16 (fun a ha _ e=>by have h1:=HP5.out a ha;have h2:=HC7.out.lt;omega))
       have HPN16:=Lib.hid (fun a (ha:ap = some a)=>HP5.out a ha)
       have HPI16:=Lib.hid HPI.out
       have HPL16:=Lib.hid HPL.out
       clear hw16 hk16 ho16 h716 c37' f37 HI5 HP5 HC7w HCAw HCBw HC6w
       obtain ⟨_,_,da,_⟩:=z0k HFA.out.d.ref.1 HCA16.out
       obtain ⟨_,_,db,_⟩:=z0k HFB.out.d.ref.1 HCB16.out
       obtain ⟨_,_,c36,_⟩:=z0k (o:=⟨m.d,m.author,0,P⟩) HIM.out.d.ref.1 HC716.out
       have f36:=HC716.out.frozen 36
       have dm:=(z34 HIM.out HC616.out).deep
       go_upto_region 18 with (fail)
       obtain ⟨De,hDe⟩:∃ De,wrap64 (wrap64 (1 + max ya.depth yb.depth) + m.deep.tmod 3) = De:=⟨_,rfl⟩
       have HDI:=Lib.hid (show I64 De from hDe ▸ zd6 _)
       rw [hDe]
       have hk17:But g7 w16 (w16.setCell ⟨g7,36,none⟩ (.int .i64 De)):=(But.refl g7 w16).setCell 36 _
       have ho17:Only (fun b=>b = g7) w16 (w16.setCell ⟨g7,36,none⟩ (.int .i64 De)):=(Only.refl _ _).but hk17 (.inl rfl)
       have h717:=HC716.out.set 36 (.int .i64 De)
       rw [zbe (d:=m.d) (a:=m.author) (b:=0) (L:=P) HIM.out.d.ref.1 ap cp] at h717
       obtain ⟨w17,hw17⟩:∃ z,z = w16.setCell ⟨g7,36,none⟩ (.int .i64 De):=⟨_,rfl⟩
       rw [← hw17] at hk17 ho17 h717 ⊢
       obtain ⟨y,hy⟩:∃ y,y = (⟨m.d,m.author,De,P⟩:OpN):=⟨_,rfl⟩
       rw [← hy] at h717
       have HY:=Lib.hid (show y.In from hy ▸ ⟨HIM.out.d,HIM.out.author.1,HIM.out.author.2,HDI.out.1,HDI.out.2,HPI16.out,Nat.le_trans HPL16.out (by decide)⟩)
       have HMT:=Lib.hid (HMK.out.below (show Below wr.heap.size wr w17 from But.toBelow HB16.out hk17 HG7.out HB16.out.size))
       have HCT:=Lib.hid h717
       have hyP:y.preds = P:=by rw [hy]
       have HIT:=Lib.hid (show IAt ap y.preds w17 by rw [hyP];exact HI16.out.only ho17 (fun a ha _ e=>by have h1:=HPN16.out a ha;have h2:=HC7.out.lt;omega))
       have HPT:=Lib.hid (HMK7.out.paNew (pa:=ap) (P:=y.preds) HPN16.out)
       obtain ⟨py,hpy⟩:∃ x,x = ap:=⟨_,rfl⟩
       obtain ⟨cy,hcy⟩:∃ x,x = cp:=⟨_,rfl⟩
       rw [← hpy] at HCT HIT HPT
       rw [← hcy] at HCT
       clear hDe hw17 hk17 ho17 h717 hy hyP hpy hcy da db c36 f36 dm HI16 HPN16 HPI16 HPL16 HCA16 HCB16 HC616 HC716
       obtain ⟨hrow,_,_,c37⟩:=z0k HY.out.d.ref.1 HCT.out
       obtain ⟨_,ck,cv,_⟩:=z5p hrow
       obtain ⟨np,hnp⟩:∃ i,y.preds.length = i:=⟨_,rfl⟩
       rw [hnp] at c37
       have HNP:=Shut.mk hnp
       clear hnp hrow
       by_cases hp70:np ≤ 70
       ·have q1:decide ((70:Int) < (np:Int)) = false:=decide_eq_false (by omega)
        by_cases hk100:y.d.key.length ≤ 100
        ·have q2:decide ((100:Int) < (y.d.key.length:Int)) = false:=decide_eq_false (by omega)
         by_cases hv100:y.d.val.length ≤ 100
         ·have q3:decide ((100:Int) < (y.d.val.length:Int)) = false:=decide_eq_false (by omega)
          obtain ⟨Y,hY1,hY2,hY3⟩:=HMT.out.less HPT.out HIT.out
          have HY1:=Lib.hid hY1
          have HY2:=Lib.hid hY2
          have HFIT:=Lib.hid (show y.Fit from ⟨⟨HY.out.d.ref,HY.out.d.low,HY.out.d.high,by omega,by omega⟩,HY.out.alow,HY.out.ahigh,HY.out.dlow,HY.out.dhigh,HY.out.preds,by rw [HNP.out];omega⟩)
          have HTK:=Lib.hid (z6t Y gs vo vw vn vq s y py cy _ hY1.ref hY1.hi hY1.tame HFIT.out HIT.out hY2 (by have:=hY1.cnt;omega))
          have HSY:=Lib.hid (show (Tryz.prog.info? 38).map (·.size) = some (opV y py cy).size by rw [z07 HY.out.d.ref.1];exact Tryz.sizeO)
          clear hY1 hY2 hY3
          go_wp2_with (refine z00 rfl 38 (.tmp 7) rfl g7 (opV y py cy) 38 _ rfl HCT.out Tryz.underlying38 rfl HSY.out ?_)
          refine HTK.out.mono ?_
          intro e w19 htp
          obtain ⟨v,vo',vw',vn',vq',rfl,hv,hm19,htu⟩:=HY1.out.take htp
          have HM19:=Lib.hid hm19
          have HC19:=Lib.hid (HCT.out.only htu.only (fun e=>by have h1:=HMK.out.ref.lt e;have h2:=HG7.out;omega))
          have HI19:=Lib.hid (HIT.out.only htu.only (HY2.out.mono (fun b hb=>HY1.out.ref.mine b hb)))
          clear hm19 htp hv htu HCT HIT HTK c37 ck cv
          go_wp2_with (first
           | (refine z00 rfl 38 (.tmp 7) rfl g7 (opV y py cy) 38 _ rfl HC19.out Tryz.underlying38 rfl HSY.out ?_)
           | (refine z2c rfl _ rfl Y y py cy HY.out.d.ref.1 rfl HI19.out HY2.out ?_))
          intro w20 hb20 hs20
          have HM20:=Lib.hid (HM19.out.below hb20.out)
          have HS20:=Lib.hid hs20.out
          clear hb20 hs20
          go_wp2_with (refine z1g rfl _ _ 29 38 rfl w.heap.size 112 (.agg (opV z05 none 0)) rfl (by decide) Tryz.underlying29 z54 Y (.slice (some ⟨bo,oo,none⟩) N oc) L [y] (fun z hz=>by rw [List.mem_singleton.1 hz];exact HY.out.d.ref.1) ⟨w19.heap.size,0,none⟩ 1 1 rfl rfl HM20.out.own HM20.out.mine rfl HS20.out (by have h1:=HM20.out.len;simp only [List.length_singleton];omega) HM20.out.bel.size ?_)
          intro v' w' ho hg hd
          have HFIN:=Lib.hid (HM20.out.push HFIT.out (by have h1:=HMT.out.len;omega) ho.out hg.out hd.out)
          clear ho hg hd
          go_wp2_with fail
          exact ⟨⟨_,k + 1,Y,vo',vw',vn',vq',_,L ++ [y],rfl,by omega,by omega,by go_num,HFIN.out⟩,by simp [intOf];omega⟩
         ·have q3:decide ((100:Int) < (y.d.val.length:Int)) = true:=decide_eq_true (by omega)
          go_wp2_with fail
          exact ⟨⟨_,k + 1,X,vo,vw,vn,vq,s,L,rfl,by omega,by omega,by go_num,HMT.out.more (Nat.le_succ _)⟩,by simp [intOf];omega⟩
        ·have q2:decide ((100:Int) < (y.d.key.length:Int)) = true:=decide_eq_true (by omega)
         go_wp2_with fail
         exact ⟨⟨_,k + 1,X,vo,vw,vn,vq,s,L,rfl,by omega,by omega,by go_num,HMT.out.more (Nat.le_succ _)⟩,by simp [intOf];omega⟩
       ·have q1:decide ((70:Int) < (np:Int)) = true:=decide_eq_true (by omega)
        go_wp2_with fail
        exact ⟨⟨_,k + 1,X,vo,vw,vn,vq,s,L,rfl,by omega,by omega,by go_num,HMT.out.more (Nat.le_succ _)⟩,by simp [intOf];omega⟩
     ·have hk1b:(mk == 1) = false ∨ ((mk == 1) = true ∧ N = 0):=by
       by_cases e:mk = 1
       ·exact .inr ⟨by simp [e],Classical.not_not.1 (fun h=>hk1 ⟨e,h⟩)⟩
       ·exact .inl (by simpa using e)
      rcases hk1b with hk1b | ⟨hk1b,hN00⟩
      ·go_upto_region 18 with (fail)
       obtain ⟨y,hy⟩:∃ y,y = m.op:=⟨_,rfl⟩
       obtain ⟨wt,hwt⟩:∃ x,x = w7:=⟨_,rfl⟩
       have HY:=Lib.hid (hy ▸ HIM.out.op:y.In)
       rw [← hy] at HC7 HIA7 HPA
       rw [← hwt] at HC7 HIA7 HMK7 ⊢
       have HMT:=HMK7
       have HCT:=HC7
       have HIT:=HIA7
       have HPT:=HPA
       obtain ⟨py,hpy⟩:∃ x,x = pa:=⟨_,rfl⟩
       obtain ⟨cy,hcy⟩:∃ x,x = pc:=⟨_,rfl⟩
       rw [← hpy] at HIT HPT HCT
       rw [← hcy] at HCT
       rw [hwt] at HMT HCT HIT ⊢
       clear hwt hpy hcy hy HMK7 HIA7 HC7 HPA
       obtain ⟨hrow,_,_,c37⟩:=z0k HY.out.d.ref.1 HCT.out
       obtain ⟨_,ck,cv,_⟩:=z5p hrow
       obtain ⟨np,hnp⟩:∃ i,y.preds.length = i:=⟨_,rfl⟩
       rw [hnp] at c37
       have HNP:=Shut.mk hnp
       clear hnp hrow
       by_cases hp70:np ≤ 70
       ·have q1:decide ((70:Int) < (np:Int)) = false:=decide_eq_false (by omega)
        by_cases hk100:y.d.key.length ≤ 100
        ·have q2:decide ((100:Int) < (y.d.key.length:Int)) = false:=decide_eq_false (by omega)
         by_cases hv100:y.d.val.length ≤ 100
         ·have q3:decide ((100:Int) < (y.d.val.length:Int)) = false:=decide_eq_false (by omega)
          obtain ⟨Y,hY1,hY2,hY3⟩:=HMT.out.less HPT.out HIT.out
          have HY1:=Lib.hid hY1
          have HY2:=Lib.hid hY2
          have HFIT:=Lib.hid (show y.Fit from ⟨⟨HY.out.d.ref,HY.out.d.low,HY.out.d.high,by omega,by omega⟩,HY.out.alow,HY.out.ahigh,HY.out.dlow,HY.out.dhigh,HY.out.preds,by rw [HNP.out];omega⟩)
          have HTK:=Lib.hid (z6t Y gs vo vw vn vq s y py cy _ hY1.ref hY1.hi hY1.tame HFIT.out HIT.out hY2 (by have:=hY1.cnt;omega))
          have HSY:=Lib.hid (show (Tryz.prog.info? 38).map (·.size) = some (opV y py cy).size by rw [z07 HY.out.d.ref.1];exact Tryz.sizeO)
          clear hY1 hY2 hY3
          go_wp2_with (refine z00 rfl 38 (.tmp 7) rfl g7 (opV y py cy) 38 _ rfl HCT.out Tryz.underlying38 rfl HSY.out ?_)
          refine HTK.out.mono ?_
          intro e w19 htp
          obtain ⟨v,vo',vw',vn',vq',rfl,hv,hm19,htu⟩:=HY1.out.take htp
          have HM19:=Lib.hid hm19
          have HC19:=Lib.hid (HCT.out.only htu.only (fun e=>by have h1:=HMK.out.ref.lt e;have h2:=HG7.out;omega))
          have HI19:=Lib.hid (HIT.out.only htu.only (HY2.out.mono (fun b hb=>HY1.out.ref.mine b hb)))
          clear hm19 htp hv htu HCT HIT HTK c37 ck cv
          go_wp2_with (first
           | (refine z00 rfl 38 (.tmp 7) rfl g7 (opV y py cy) 38 _ rfl HC19.out Tryz.underlying38 rfl HSY.out ?_)
           | (refine z2c rfl _ rfl Y y py cy HY.out.d.ref.1 rfl HI19.out HY2.out ?_))
          intro w20 hb20 hs20
          have HM20:=Lib.hid (HM19.out.below hb20.out)
          have HS20:=Lib.hid hs20.out
          clear hb20 hs20
          go_wp2_with (refine z1g rfl _ _ 29 38 rfl w.heap.size 112 (.agg (opV z05 none 0)) rfl (by decide) Tryz.underlying29 z54 Y (.slice oa N oc) L [y] (fun z hz=>by rw [List.mem_singleton.1 hz];exact HY.out.d.ref.1) ⟨w19.heap.size,0,none⟩ 1 1 rfl rfl HM20.out.own HM20.out.mine rfl HS20.out (by have h1:=HM20.out.len;simp only [List.length_singleton];omega) HM20.out.bel.size ?_)
          intro v' w' ho hg hd
          have HFIN:=Lib.hid (HM20.out.push HFIT.out (by have h1:=HMT.out.len;omega) ho.out hg.out hd.out)
          clear ho hg hd
          go_wp2_with fail
          exact ⟨⟨_,k + 1,Y,vo',vw',vn',vq',_,L ++ [y],rfl,by omega,by omega,by go_num,HFIN.out⟩,by simp [intOf];omega⟩
         ·have q3:decide ((100:Int) < (y.d.val.length:Int)) = true:=decide_eq_true (by omega)
          go_wp2_with fail
          exact ⟨⟨_,k + 1,X,vo,vw,vn,vq,s,L,rfl,by omega,by omega,by go_num,HMT.out.more (Nat.le_succ _)⟩,by simp [intOf];omega⟩
        ·have q2:decide ((100:Int) < (y.d.key.length:Int)) = true:=decide_eq_true (by omega)
         go_wp2_with fail
         exact ⟨⟨_,k + 1,X,vo,vw,vn,vq,s,L,rfl,by omega,by omega,by go_num,HMT.out.more (Nat.le_succ _)⟩,by simp [intOf];omega⟩
       ·have q1:decide ((70:Int) < (np:Int)) = true:=decide_eq_true (by omega)
        go_wp2_with fail
        exact ⟨⟨_,k + 1,X,vo,vw,vn,vq,s,L,rfl,by omega,by omega,by go_num,HMT.out.more (Nat.le_succ _)⟩,by simp [intOf];omega⟩
      ·have hq0:decide (0 < N) = false:=by simp [hN00]
       clear hN00
       go_upto_region 18 with (fail)
       obtain ⟨y,hy⟩:∃ y,y = m.op:=⟨_,rfl⟩
       obtain ⟨wt,hwt⟩:∃ x,x = w7:=⟨_,rfl⟩
       have HY:=Lib.hid (hy ▸ HIM.out.op:y.In)
       rw [← hy] at HC7 HIA7 HPA
       rw [← hwt] at HC7 HIA7 HMK7 ⊢
       have HMT:=HMK7
       have HCT:=HC7
       have HIT:=HIA7
       have HPT:=HPA
       obtain ⟨py,hpy⟩:∃ x,x = pa:=⟨_,rfl⟩
       obtain ⟨cy,hcy⟩:∃ x,x = pc:=⟨_,rfl⟩
       rw [← hpy] at HIT HPT HCT
       rw [← hcy] at HCT
       rw [hwt] at HMT HCT HIT ⊢
       clear hwt hpy hcy hy HMK7 HIA7 HC7 HPA
       obtain ⟨hrow,_,_,c37⟩:=z0k HY.out.d.ref.1 HCT.out
       obtain ⟨_,ck,cv,_⟩:=z5p hrow
       obtain ⟨np,hnp⟩:∃ i,y.preds.length = i:=⟨_,rfl⟩
       rw [hnp] at c37
       have HNP:=Shut.mk hnp
       clear hnp hrow
       by_cases hp70:np ≤ 70
       ·have q1:decide ((70:Int) < (np:Int)) = false:=decide_eq_false (by omega)
        by_cases hk100:y.d.key.length ≤ 100
        ·have q2:decide ((100:Int) < (y.d.key.length:Int)) = false:=decide_eq_false (by omega)
         by_cases hv100:y.d.val.length ≤ 100
         ·have q3:decide ((100:Int) < (y.d.val.length:Int)) = false:=decide_eq_false (by omega)
          obtain ⟨Y,hY1,hY2,hY3⟩:=HMT.out.less HPT.out HIT.out
          have HY1:=Lib.hid hY1
          have HY2:=Lib.hid hY2
          have HFIT:=Lib.hid (show y.Fit from ⟨⟨HY.out.d.ref,HY.out.d.low,HY.out.d.high,by omega,by omega⟩,HY.out.alow,HY.out.ahigh,HY.out.dlow,HY.out.dhigh,HY.out.preds,by rw [HNP.out];omega⟩)
          have HTK:=Lib.hid (z6t Y gs vo vw vn vq s y py cy _ hY1.ref hY1.hi hY1.tame HFIT.out HIT.out hY2 (by have:=hY1.cnt;omega))
          have HSY:=Lib.hid (show (Tryz.prog.info? 38).map (·.size) = some (opV y py cy).size by rw [z07 HY.out.d.ref.1];exact Tryz.sizeO)
          clear hY1 hY2 hY3
          go_wp2_with (refine z00 rfl 38 (.tmp 7) rfl g7 (opV y py cy) 38 _ rfl HCT.out Tryz.underlying38 rfl HSY.out ?_)
          refine HTK.out.mono ?_
          intro e w19 htp
          obtain ⟨v,vo',vw',vn',vq',rfl,hv,hm19,htu⟩:=HY1.out.take htp
          have HM19:=Lib.hid hm19
          have HC19:=Lib.hid (HCT.out.only htu.only (fun e=>by have h1:=HMK.out.ref.lt e;have h2:=HG7.out;omega))
          have HI19:=Lib.hid (HIT.out.only htu.only (HY2.out.mono (fun b hb=>HY1.out.ref.mine b hb)))
          clear hm19 htp hv htu HCT HIT HTK c37 ck cv
          go_wp2_with (first
           | (refine z00 rfl 38 (.tmp 7) rfl g7 (opV y py cy) 38 _ rfl HC19.out Tryz.underlying38 rfl HSY.out ?_)
           | (refine z2c rfl _ rfl Y y py cy HY.out.d.ref.1 rfl HI19.out HY2.out ?_))
          intro w20 hb20 hs20
          have HM20:=Lib.hid (HM19.out.below hb20.out)
          have HS20:=Lib.hid hs20.out
          clear hb20 hs20
          go_wp2_with (refine z1g rfl _ _ 29 38 rfl w.heap.size 112 (.agg (opV z05 none 0)) rfl (by decide) Tryz.underlying29 z54 Y (.slice oa N oc) L [y] (fun z hz=>by rw [List.mem_singleton.1 hz];exact HY.out.d.ref.1) ⟨w19.heap.size,0,none⟩ 1 1 rfl rfl HM20.out.own HM20.out.mine rfl HS20.out (by have h1:=HM20.out.len;simp only [List.length_singleton];omega) HM20.out.bel.size ?_)
          intro v' w' ho hg hd
          have HFIN:=Lib.hid (HM20.out.push HFIT.out (by have h1:=HMT.out.len;omega) ho.out hg.out hd.out)
          clear ho hg hd
          go_wp2_with fail
          exact ⟨⟨_,k + 1,Y,vo',vw',vn',vq',_,L ++ [y],rfl,by omega,by omega,by go_num,HFIN.out⟩,by simp [intOf];omega⟩
         ·have q3:decide ((100:Int) < (y.d.val.length:Int)) = true:=decide_eq_true (by omega)
          go_wp2_with fail
          exact ⟨⟨_,k + 1,X,vo,vw,vn,vq,s,L,rfl,by omega,by omega,by go_num,HMT.out.more (Nat.le_succ _)⟩,by simp [intOf];omega⟩
        ·have q2:decide ((100:Int) < (y.d.key.length:Int)) = true:=decide_eq_true (by omega)
         go_wp2_with fail
         exact ⟨⟨_,k + 1,X,vo,vw,vn,vq,s,L,rfl,by omega,by omega,by go_num,HMT.out.more (Nat.le_succ _)⟩,by simp [intOf];omega⟩
       ·have q1:decide ((70:Int) < (np:Int)) = true:=decide_eq_true (by omega)
        go_wp2_with fail
        exact ⟨⟨_,k + 1,X,vo,vw,vn,vq,s,L,rfl,by omega,by omega,by go_num,HMT.out.more (Nat.le_succ _)⟩,by simp [intOf];omega⟩
  ·obtain rfl:k = n:=by omega
   go_wp2_with fail
   go_ret
   exact HMK.out.done hk30
end Go.Proofs.YtnbldbbbibpobaaGreatDoor
