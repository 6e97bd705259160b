/-
  The law DagKeeps: for every input it answers true, and its arguments read as they did. Condition: the round constants' table lies as the program's text lays it (the card ties it).
-/
import Derived.Deep.MidRow
import Derived.Deep.Slices
import Derived.Great.BuildSlice
import Derived.OpenShut
import Derived.Test.YtnbldbbbibpobaaGreatDoorJ01
import Derived.Test.YtnbldbbbibpobaaGreatDoorJ02
import Derived.Test.YtnbldbbbibpobaaGreatDoorJ03
import Derived.Test.YtnbldbbbibpobaaGreatDoorJ04
import Derived.Test.YtnbldbbbibpobaaGreatDoorJ05
import Derived.Test.YtnbldbbbibpobaaGreatDoorJ06
import Derived.Test.YtnbldbbbibpobaaGreatDoorJ07
import Derived.Test.YtnbldbbbibpobaaGreatDoorJ08
import Derived.Test.YtnbldbbbibpobaaGreatDoorJ09
import Derived.Test.YtnbldbbbibpobaaGreatDoorJ10
import Derived.Test.YtnbldbbbibpobaaGreatDoorJ11
import Derived.Test.YtnbldbbbibpobaaGreatDoorJ12
import Derived.Test.YtnbldbbbibpobaaGreatDoorJ13
import Derived.Test.YtnbldbbbibpobaaGreatDoorJ14
import Derived.Test.YtnbldbbbibpobaaGreatDoorJ15
import Derived.Test.YtnbldbbbibpobaaGreatDoorJ16
import Derived.Test.YtnbldbbbibpobaaGreatDoorJ17
import Derived.Test.YtnbldbbbibpobaaGreatDoorJ18
import Derived.Test.YtnbldbbbibpobaaGreatDoorJ19
import Derived.Test.YtnbldbbbibpobaaGreatDoorJ20
import Derived.Test.YtnbldbbbibpobaaGreatDoorJ21
import Derived.Test.YtnbldbbbibpobaaGreatDoorJ22
set_option maxRecDepth 100000
set_option maxHeartbeats 20000000
namespace Go.Proofs.YtnbldbbbibpobaaGreatDoor
open Go.RowKit Go.ChangeShapes Go.WideShapes
theorem OwnI.byte {B g n c i j:Nat} {e:TypeId} {L:List (List Nat)} {w:World} (hn:n = L.length) (h:OwnI B e (.slice (some ⟨g,0,none⟩) n c) L w) (hL:Ids L) (hi:i < n) (hj:j < 32) :
 w.cell? ⟨g,i * 32 + j,none⟩ = some (.int .u8 (((L.getD i []).getD j 0:Nat):Int)):=by
 subst hn
 have hx:=(hL.getD hi).1
 rw [World.ownsRow.cellAt h (i * 32 + j) (by omega),Nat.mul_comm,z3x hL hi hj,z06,List.getElem?_map,List.getElem?_eq_getElem (by omega),List.getD_eq_getElem?_getD (l:=L.getD i []),List.getElem?_eq_getElem (by omega)]
 rfl
theorem OwnI.frozenByte {B g n c:Nat} {e:TypeId} {L:List (List Nat)} {w:World} (hn:n = L.length) (h:OwnI B e (.slice (some ⟨g,0,none⟩) n c) L w) (o:Nat):w.frozen? ⟨g,o,none⟩ = false:=by
 subst hn
 exact World.ownsRow.frozenAt h o
theorem zgz {x:List Nat} (hx:∀ y ∈ x,y < 256) (j:Nat) {z:Nat} (hz:z < 256):∀ y ∈ x.set j z,y < 256:=fun y hy=>by
 rcases List.mem_or_eq_of_mem_set hy with h | rfl
 ·exact hx y h
 ·exact hz
theorem zg7 {L:List (List Nat)} (hL:Ids L) {i j z:Nat} (hi:i < L.length) (hj:j < 32) (hz:z < 256):z1w (L.set i ((L.getD i []).set j z)) = (z1w L).set (i * 32 + j) (.int .u8 (z:Int)):=by
 obtain ⟨hx1,hx2⟩:=hL.getD hi
 have hfl:=z14 hL
 have hs1:((L.getD i []).set j z).length = 32:=by rw [List.length_set,hx1]
 have hns:(z06 .u8 ((L.getD i []).set j z)).length = 32:=by rw [z0v,hs1]
 rw [zdm hL hi hs1 (zgz hx2 j hz)]
 refine List.ext_getElem? fun q=>?_
 rw [z9f _ _ _ _ (by rw [hns,hfl];omega),hns]
 by_cases hq:32 * i ≤ q ∧ q < 32 * i + 32
 ·rw [if_pos hq]
  obtain ⟨m,rfl,hm⟩:∃ m,q = 32 * i + m ∧ m < 32:=⟨q - 32 * i,by omega,by omega⟩
  rw [show 32 * i + m - 32 * i = m by omega,z06,List.map_set]
  by_cases hmj:m = j
  ·subst hmj
   rw [List.getElem?_set_self (by rw [List.length_map];omega),show i * 32 + m = 32 * i + m by omega,List.getElem?_set_self (by omega)]
  ·rw [List.getElem?_set_ne (Ne.symm hmj),List.getElem?_set_ne (by omega),z3x hL hi hm]
   rfl
 ·rw [if_neg hq,List.getElem?_set_ne (by omega)]
theorem OwnI.setByte {B g n c i j z:Nat} {e:TypeId} {L:List (List Nat)} {w:World} (hn:n = L.length) (h:OwnI B e (.slice (some ⟨g,0,none⟩) n c) L w) (hL:Ids L) (hi:i < n) (hj:j < 32) (hz:z < 256) :
 OwnI B e (.slice (some ⟨g,0,none⟩) n c) (L.set i ((L.getD i []).set j z)) (w.setCell ⟨g,i * 32 + j,none⟩ (.int .u8 (z:Int))):=by
 subst hn
 have h1:=(World.ownsRow.stored h (i * 32 + j) (.int .u8 (z:Int))).1
 unfold OwnI
 rw [List.length_set,zg7 hL hi hj hz]
 exact h1
theorem Ids.setByte {L:List (List Nat)} (hL:Ids L) {i j z:Nat} (hi:i < L.length) (hz:z < 256):Ids (L.set i ((L.getD i []).set j z)):=by
 obtain ⟨hx1,hx2⟩:=hL.getD hi
 exact hL.set i (by rw [List.length_set,hx1]) (zgz hx2 j hz)
end Go.Proofs.YtnbldbbbibpobaaGreatDoor
namespace Go.Proofs.YtnbldbbbibpobaaGreatDoor
open Go.RowKit Go.BigFrame
theorem OwnX.formB {X:Nat → Prop} {B:Nat} {e:TypeId} {v:Value} {L:List OpN} {w:World} (h:OwnX X B e v L w):v = .slice none 0 0 ∧ L = [] ∨ ∃ g cap,v = .slice (some ⟨g,0,none⟩) L.length cap ∧ L.length ≤ cap ∧ B ≤ g ∧ g < w.heap.size:=by
 obtain ⟨C,h,_⟩:=h
 rcases h.2 with ⟨hv,h0⟩ | ⟨g,cap,cur,hv,hB,hg,hc,_⟩
 ·exact .inl ⟨hv,List.length_eq_zero_iff.1 h0⟩
 ·exact .inr ⟨g,cap,hv,hc,hB,lt_of_block hg⟩
theorem z9q (X:Nat → Prop) (gs:Nat) (vo vw vn vq:Value) (s:DagN) (w:World) (h:RefAt X gs vo vw vn vq s w) (hb:s.ops.length ≤ 1000000) :
 Calls Tryz.prog 54 #[.pointer (some ⟨gs,0,none⟩)] w fun e w'=>∃ v,e = .returned v ∧ OwnI w.heap.size 25 v (z0e s.names) w' ∧ Below w.heap.size w w':=by
 obtain ⟨ao,cap,rfl⟩:=h.names.form
 have hm:s.names.length ≤ 1000000:=by rw [DagN.names,List.length_map];exact hb
 have HL:=Lib.hid (show Ids s.names from z12)
 have HAT:=Lib.hid (h.names.at HL.out)
 obtain ⟨L,hLE⟩:∃ L,s.names = L:=⟨_,rfl⟩
 rw [hLE] at h hm HL HAT ⊢
 have hc:=h.cell.2.2.1
 obtain ⟨m,hme⟩:∃ m,L.length = m:=⟨_,rfl⟩
 have HM:=Shut.mk hme
 rw [hme] at hc hm
 clear h hLE hb hme
 go_enter Tryz.func54,Tryz.ntmps54
 go_wp2_with fail
 refine (z32 L ao m cap w HL.out HM.out HAT.out hm).mono ?_
 rintro e w1 ⟨v,rfl,hown,hb⟩
 have HO:=Lib.hid (And.intro hown hb)
 clear hown hb
 go_wp2_with fail
 go_ret
 exact ⟨v,rfl,HO.out⟩
theorem za2 (X:Nat → Prop) (gs:Nat) (vo vw vn vq:Value) (s:DagN) (w:World) (h:RefAt X gs vo vw vn vq s w) (hb:s.wait.length ≤ 1000000) :
 Calls Tryz.prog 56 #[.pointer (some ⟨gs,0,none⟩)] w fun e w'=>∃ v,e = .returned v ∧ OwnI w.heap.size 25 v (z0e s.waits) w' ∧ Below w.heap.size w w':=by
 obtain ⟨ao,cap,rfl⟩:=h.waits.form
 have hm:s.waits.length ≤ 1000000:=by rw [DagN.waits,List.length_map];exact hb
 have HL:=Lib.hid (show Ids s.waits from z12)
 have HAT:=Lib.hid (h.waits.at HL.out)
 obtain ⟨L,hLE⟩:∃ L,s.waits = L:=⟨_,rfl⟩
 rw [hLE] at h hm HL HAT ⊢
 have hc:=h.cell.2.2.2
 obtain ⟨m,hme⟩:∃ m,L.length = m:=⟨_,rfl⟩
 have HM:=Shut.mk hme
 rw [hme] at hc hm
 clear h hLE hb hme
 go_enter Tryz.func56,Tryz.ntmps56
 go_wp2_with fail
 refine (z32 L ao m cap w HL.out HM.out HAT.out hm).mono ?_
 rintro e w1 ⟨v,rfl,hown,hb⟩
 have HO:=Lib.hid (And.intro hown hb)
 clear hown hb
 go_wp2_with fail
 go_ret
 exact ⟨v,rfl,HO.out⟩
theorem zi7 {A B:List (List Nat)} (hl:A.length = B.length) (h:∀ j,j < A.length → A.getD j [] = B.getD j []):A = B:=by
 refine List.ext_getElem hl fun i h1 h2=>?_
 have:=h i h1
 rwa [List.getD_eq_getElem?_getD,List.getElem?_eq_getElem h1,List.getD_eq_getElem?_getD,List.getElem?_eq_getElem h2] at this
theorem zbd (ao bo:Option Addr) (ca cb m k0:Nat) (A B:List (List Nat)) (w:World) (ha:IAt ao A w) (hb:IAt bo B w) (hA:Ids A) (hB:Ids B) (hma:A.length = m) (hmb:B.length = k0) (hm:m ≤ 1000000) (hk0:k0 ≤ 1000000) :
 Calls Tryz.prog 15 #[.slice ao m ca,.slice bo k0 cb] w fun e w'=>e = .returned (.bool (decide (A = B))) ∧ Below w.heap.size w w':=by
 by_cases hne:m = k0
 ·subst hne
  have HMA:=Shut.mk hma
  have HMB:=Shut.mk hmb
  have HA:=Lib.hid ha
  have HB:=Lib.hid hb
  have HIA:=Lib.hid hA
  have HIB:=Lib.hid hB
  have hbq:((m:Int) != (m:Int)) = false:=by simp
  clear ha hb hA hB hma hmb
  go_enter Tryz.func15,Tryz.ntmps15
  go_wp2_with fail
  go_loopw [13] (fun i wr=>∃ k:Nat,k ≤ m ∧ i = .int .i64 k ∧ (∀ j,j < k → A.getD j [] = B.getD j []) ∧ Below w.heap.size w wr) (fun i _=>m - (intOf i).toNat)
  case atStart=>exact ⟨0,Nat.zero_le _,rfl,fun j hj=>by omega,Below.refl _ _⟩
  case round =>
   obtain ⟨k,hk,rfl,hj,hbw⟩:=hrel
   have HJ:=Lib.hid hj
   have HBW:=Lib.hid hbw
   have HAW:=Lib.hid (HA.out.below hbw)
   have HBB:=Lib.hid (HB.out.below hbw)
   clear hj hbw
   by_cases hlt:k < m
   ·obtain ⟨b,ob,rfl,hbl⟩:=HAW.out.some (by rw [HMA.out];omega)
    obtain ⟨c,oc,rfl,hcl⟩:=HBB.out.some (by rw [HMB.out];omega)
    have g1:=fun w' (q:Below wr.heap.size wr w')=>(HAW.out.below q).get (i:=k) (by rw [HMA.out];omega)
    have g2:=fun w' (q:Below wr.heap.size wr w')=>(HBB.out.below q).get (i:=k) (by rw [HMB.out];omega)
    have i1:=Ids.getD HIA.out (i:=k) (by rw [HMA.out];omega)
    have i2:=Ids.getD HIB.out (i:=k) (by rw [HMB.out];omega)
    obtain ⟨x,hx⟩:∃ x,A.getD k [] = x:=⟨_,rfl⟩
    obtain ⟨y,hy⟩:∃ y,B.getD k [] = y:=⟨_,rfl⟩
    rw [hx] at g1 i1
    rw [hy] at g2 i2
    have HXE:=Shut.mk hx
    have HYE:=Shut.mk hy
    have HG1:=Lib.hid g1
    have HG2:=Lib.hid g2
    have HS1:=Lib.hid (show (Tryz.prog.info? 25).map (·.size) = some x.length by rw [i1.1];exact Tryz.sizeI)
    have HS2:=Lib.hid (show (Tryz.prog.info? 25).map (·.size) = some y.length by rw [i2.1];exact Tryz.sizeI)
    have heq:=fun w'=>z2b x y i1.1 i2.1 i1.2 i2.2 w'
    obtain ⟨z,hz⟩:∃ z,(x == y) = z:=⟨_,rfl⟩
    rw [hz] at heq
    have HZ:=Shut.mk hz
    clear hx hy g1 g2 i1 i2 hbl hcl hz
    go_upto_region 6 with (fail)
    cases z with
    | true =>
      have HEQ:=Lib.hid (show x = y by have:=HZ.out;simpa using this)
      refine z09 (fun w'=>Below wr.heap.size wr w') (by kernel_rfl) (by kernel_rfl) (Below.refl _ _).drew ?_
      repeat (first
       | (go_big_quiet_want;refine z0c 25 _ rfl b (ob + k * 32) x _ rfl HG1.out Tryz.underlying25 rfl HS1.out ?_;go_big_quiet_on;simp only [Act.put,zS,zA,zB])
       | (go_big_quiet_want;refine z0c 25 _ rfl c (oc + k * 32) y _ rfl HG2.out Tryz.underlying25 rfl HS2.out ?_;go_big_quiet_on;simp only [Act.put,zS,zA,zB])
       | go_big_quiet_step ((intro hs';rfl)))
      refine wpQuiet_nil ?_
      intro w6 hs6
      have HB6:=Lib.hid (HBW.out.trans (hs6.mono HBW.out.size))
      clear hs6
      go_wp2_with fail
      refine ⟨⟨k + 1,by omega,by go_num,fun q hq=>?_,HB6.out⟩,by simp [intOf];omega⟩
      by_cases hqj:q = k
      ·subst hqj
       rw [HXE.out,HYE.out]
       exact HEQ.out
      ·exact HJ.out q (by omega)
    | false =>
      have HNE:=Lib.hid (show x ≠ y by have:=HZ.out;simpa using this)
      refine z09 (fun w'=>Below wr.heap.size wr w') (by kernel_rfl) (by kernel_rfl) (Below.refl _ _).drew ?_
      repeat (first
       | (go_big_quiet_want;refine z0c 25 _ rfl b (ob + k * 32) x _ rfl HG1.out Tryz.underlying25 rfl HS1.out ?_;go_big_quiet_on;simp only [Act.put,zS,zA,zB])
       | (go_big_quiet_want;refine z0c 25 _ rfl c (oc + k * 32) y _ rfl HG2.out Tryz.underlying25 rfl HS2.out ?_;go_big_quiet_on;simp only [Act.put,zS,zA,zB])
       | go_big_quiet_step ((intro hs';rfl)))
      refine wpQuiet_nil ?_
      intro w6 hs6
      have HB6:=Lib.hid (HBW.out.trans (hs6.mono HBW.out.size))
      clear hs6
      have HR:=Shut.mk (show decide (A = B) = false from decide_eq_false (fun e=>HNE.out (by rw [← HXE.out,← HYE.out,e])))
      go_wp2_with fail
      go_ret
      exact ⟨by rw [HR.out];rfl,HB6.out⟩
   ·obtain rfl:k = m:=by omega
    have HR:=Shut.mk (show decide (A = B) = true from decide_eq_true (zi7 (HMA.out.trans HMB.out.symm) (fun j hj=>HJ.out j (by rw [← HMA.out];exact hj))))
    go_wp2_with fail
    go_ret
    exact ⟨by rw [HR.out];rfl,HBW.out⟩
 ·have hbq:((m:Int) != (k0:Int)) = true:=by simp;omega
  have HR:=Shut.mk (show decide (A = B) = false from decide_eq_false (fun e=>hne (by rw [← hma,← hmb,e])))
  clear ha hb hA hB hma hmb hne
  go_enter Tryz.func15,Tryz.ntmps15
  go_wp2_with fail
  go_ret
  exact ⟨by rw [HR.out];rfl,Below.refl _ _⟩
theorem zbb {s:DagN} (hn:s.names.Nodup) {o:OpN} {x:List Nat} (ho:o ∈ s.ops) (hx:z0a o = x):∃ q:Nat,s.ops[q]? = some o ∧ atN s.names x = (q:Int):=by
 obtain ⟨q,hq,he⟩:=List.getElem_of_mem ho
 have hl:q < s.names.length:=by rw [DagN.names,List.length_map];exact hq
 have hg:s.names[q] = x:=by simp only [DagN.names,List.getElem_map,he,hx]
 refine ⟨q,by rw [List.getElem?_eq_getElem hq,he],?_⟩
 rw [atN,if_pos (hg ▸ List.getElem_mem hl),← hg,hn.idxOf_getElem]
theorem z9u (X X2:Nat → Prop) (B:Bs) (T:Ents) (s:DagN) (hs:List (List Nat)) (M:Bh) (gs:Nat) (vo vw vn vq:Value) (w:World) (h:SetAt X B T s hs M w) (hD:DInv s hs M [] []) (ht:Tame s) (hr:RefAt X2 gs vo vw vn vq s w) :
 Calls Tryz.prog 16 #[.pointer (some ⟨B.gs,0,none⟩),.pointer (some ⟨gs,0,none⟩)] w fun e w'=>e = .returned (.bool true) ∧ Below w.heap.size w w':=by
 have HTM:=Lib.hid ht
 have HDI:=Lib.hid hD
 have HST:=Lib.hid (fun w1 (b:Below w.heap.size w w1)=>h.below b)
 have HRF:=Lib.hid (fun w1 (b:Below w.heap.size w w1)=>hr.below b)
 have HDN:=Lib.hid (fun w1 (b:Below w.heap.size w w1)=>z7r (h.below b) (by have:=ht.many;omega))
 have HDH:=Lib.hid (fun w1 (b:Below w.heap.size w w1)=>z5z (h.below b) hD (by have:=ht.many;omega))
 have HDW:=Lib.hid (fun w1 (b:Below w.heap.size w w1)=>z71 (h.below b) (by have:=ht.many;omega))
 have HRN:=Lib.hid (fun w1 (b:Below w.heap.size w w1)=>z9q X2 gs vo vw vn vq s w1 (hr.below b) (by have:=ht.many;omega))
 have HRH:=Lib.hid (fun w1 (b:Below w.heap.size w w1)=>z96 X2 gs vo vw vn vq s w1 (hr.below b) (fun x hx=>⟨(ht.ops x hx).d.ref.1,(ht.ops x hx).preds,by have:=(ht.ops x hx).many;omega⟩) (by have:=ht.many;omega))
 have HRW:=Lib.hid (fun w1 (b:Below w.heap.size w w1)=>za2 X2 gs vo vw vn vq s w1 (hr.below b) (by have:=ht.many;omega))
 have hnl:(z0e s.names).length ≤ 1000:=by rw [(z1c _).length_eq,DagN.names,List.length_map];have:=ht.many;omega
 have hwl:(z0e s.waits).length ≤ 1000:=by rw [(z1c _).length_eq,DagN.waits,List.length_map];have:=ht.many;omega
 have hhl:(z19 s).length ≤ 1000:=by
  rw [z19,(z1c _).length_eq]
  exact Nat.le_trans (List.length_filter_le _ _) (by rw [DagN.names,List.length_map];have:=ht.many;omega)
 have HIN:=Lib.hid (show Ids (z0e s.names) from z15 z12)
 have HIW:=Lib.hid (show Ids (z0e s.waits) from z15 z12)
 have HIH:=Lib.hid (show Ids (z19 s) from z15 (L:=s.names.filter fun n=>!(s.ops.any fun o=>decide (n ∈ o.preds))) (fun x hx=>z12 x (List.mem_filter.1 hx).1))
 have HNP:=Lib.hid (fun x (hx:x ∈ z0e s.names)=>(z1c s.names).mem_iff.1 hx)
 obtain ⟨LN,hLN⟩:∃ L,z0e s.names = L:=⟨_,rfl⟩
 obtain ⟨LW,hLW⟩:∃ L,z0e s.waits = L:=⟨_,rfl⟩
 obtain ⟨LH,hLH⟩:∃ L,z19 s = L:=⟨_,rfl⟩
 rw [hLN] at HDN HRN hnl HIN HNP
 rw [hLW] at HDW HRW hwl HIW
 rw [hLH] at HDH HRH hhl HIH
 have HBN:=Lib.hid hnl
 have HBW:=Lib.hid hwl
 have HBH:=Lib.hid hhl
 have HEQ:=Lib.hid (fun (A:List (List Nat)) (ao bo:Option Addr) (ca cb:Nat) (w1:World) (ha:IAt ao A w1) (hb:IAt bo A w1) (hA:Ids A) (hl:A.length ≤ 1000)=>show Calls Tryz.prog 15 #[.slice ao A.length ca,.slice bo A.length cb] w1 fun e w'=>e = .returned (.bool true) ∧ Below w1.heap.size w1 w' from by
  have h:=zbd ao bo ca cb A.length A.length A A w1 ha hb hA hA rfl rfl (by omega) (by omega)
  rwa [decide_eq_true rfl] at h)
 clear h hD ht hr hnl hwl hhl hLN hLW hLH
 go_enter Tryz.func16,Tryz.ntmps16
 go_wp2_with fail
 refine (HDN.out w (Below.refl _ _)).mono ?_
 rintro e w2 ⟨v2,rfl,ho2,hb2⟩
 obtain ⟨a2,c2,rfl⟩:=ho2.form
 have HO2:=Lib.hid ho2
 have HB2:=Lib.hid hb2
 clear ho2 hb2
 go_wp2_with fail
 refine (HRN.out w2 HB2.out).mono ?_
 rintro e w3 ⟨v3,rfl,ho3,hb3⟩
 obtain ⟨a3,c3,rfl⟩:=ho3.form
 have HB3:=Lib.hid (HB2.out.trans (hb3.mono HB2.out.size))
 have HI3:=Lib.hid (HEQ.out LN a2 a3 c2 c3 w3 ((HO2.out.below hb3).at HIN.out) (ho3.at HIN.out) HIN.out HBN.out)
 clear ho3 hb3
 go_wp2_with fail
 refine HI3.out.mono ?_
 rintro e w4 ⟨rfl,hb4⟩
 have HB4:=Lib.hid (HB3.out.trans (hb4.mono HB3.out.size))
 clear hb4
 go_wp2_with fail
 refine (HDH.out w4 HB4.out).mono ?_
 rintro e w5 ⟨v5,rfl,ho5,hb5⟩
 obtain ⟨a5,c5,rfl⟩:=ho5.form
 have HO5:=Lib.hid ho5
 have HB5:=Lib.hid (HB4.out.trans (hb5.mono HB4.out.size))
 clear ho5 hb5
 go_wp2_with fail
 refine (HRH.out w5 HB5.out).mono ?_
 rintro e w6 ⟨v6,rfl,ho6,hb6⟩
 obtain ⟨a6,c6,rfl⟩:=ho6.form
 have HB6:=Lib.hid (HB5.out.trans (hb6.mono HB5.out.size))
 have HI6:=Lib.hid (HEQ.out LH a5 a6 c5 c6 w6 ((HO5.out.below hb6).at HIH.out) (ho6.at HIH.out) HIH.out HBH.out)
 clear ho6 hb6
 go_wp2_with fail
 refine HI6.out.mono ?_
 rintro e w7 ⟨rfl,hb7⟩
 have HB7:=Lib.hid (HB6.out.trans (hb7.mono HB6.out.size))
 clear hb7
 go_wp2_with fail
 refine (HDW.out w7 HB7.out).mono ?_
 rintro e w8 ⟨v8,rfl,ho8,hb8⟩
 obtain ⟨a8,c8,rfl⟩:=ho8.form
 have HO8:=Lib.hid ho8
 have HB8:=Lib.hid (HB7.out.trans (hb8.mono HB7.out.size))
 clear ho8 hb8
 go_wp2_with fail
 refine (HRW.out w8 HB8.out).mono ?_
 rintro e w9 ⟨v9,rfl,ho9,hb9⟩
 obtain ⟨a9,c9,rfl⟩:=ho9.form
 have HB9:=Lib.hid (HB8.out.trans (hb9.mono HB8.out.size))
 have HI9:=Lib.hid (HEQ.out LW a8 a9 c8 c9 w9 ((HO8.out.below hb9).at HIW.out) (ho9.at HIW.out) HIW.out HBW.out)
 clear ho9 hb9
 go_wp2_with fail
 refine HI9.out.mono ?_
 rintro e wa ⟨rfl,hba⟩
 have HBa:=Lib.hid (HB9.out.trans (hba.mono HB9.out.size))
 clear hba
 go_wp2_with fail
 refine (HRN.out wa HBa.out).mono ?_
 rintro e wb ⟨vb,rfl,hob,hbb⟩
 obtain ⟨ab,cb,rfl⟩:=hob.form
 have HBb:=Lib.hid (HBa.out.trans (hbb.mono HBa.out.size))
 have HOb:=Lib.hid (hob.at HIN.out)
 clear hob hbb
 obtain ⟨m,hm⟩:∃ m,LN.length = m:=⟨_,rfl⟩
 have HM:=Shut.mk hm
 have hmb:m ≤ 1000:=by rw [← hm];exact HBN.out
 rw [hm]
 clear hm HI3 HI6 HI9 HO2 HO5 HO8 HDN HDH HDW HRN HRH HRW HEQ HIW HIH HBN HBW HBH
 go_wp2_with fail
 go_loopw [34] (fun i wr=>∃ k:Nat,k ≤ m ∧ i = .int .i64 k ∧ Below wb.heap.size wb wr) (fun i _=>m - (intOf i).toNat)
 case atStart=>exact ⟨0,Nat.zero_le _,rfl,Below.refl _ _⟩
 case round =>
  obtain ⟨k,hk,rfl,hbw⟩:=hrel
  have HBW:=Lib.hid hbw
  have HAW:=Lib.hid (HOb.out.below hbw)
  clear hbw
  by_cases hlt:k < m
  ·obtain ⟨b,ob,rfl,hbl⟩:=HAW.out.some (by rw [HM.out];omega)
   have g1:=HAW.out.get (i:=k) (by rw [HM.out];omega)
   have i1:=Ids.getD HIN.out (i:=k) (by rw [HM.out];omega)
   have hmem:LN.getD k [] ∈ LN:=by
    rw [List.getD_eq_getElem?_getD,List.getElem?_eq_getElem (by rw [HM.out];exact hlt)]
    exact List.getElem_mem _
   obtain ⟨x,hx⟩:∃ x,LN.getD k [] = x:=⟨_,rfl⟩
   rw [hx] at g1 i1 hmem
   have HG1:=Lib.hid g1
   have HXI:=Lib.hid (show IdOk x from i1)
   have HIS:=Lib.hid (HNP.out x hmem)
   have HS1:=Lib.hid (show (Tryz.prog.info? 25).map (·.size) = some x.length by rw [i1.1];exact Tryz.sizeI)
   have HL2:=Lib.hid (show (List.replicate 32 0).length = x.length by rw [i1.1];rfl)
   clear hx g1 i1 hbl hmem
   go_wp2_with (first
    | (refine z0b rfl 25 _ rfl b (ob + k * 32) x _ rfl HG1.out Tryz.underlying25 rfl HS1.out ?_)
    | (refine z04 rfl 25 _ _ rfl rfl wr.heap.size .u8 (List.replicate 32 0) x 25 rfl rfl (heap_alloc_new wr _) HS1.out HL2.out ?_))
   intro w5 hc' hb'
   have hby:Below wr.heap.size wr w5:=But.toBelow ((Below.refl _ _).alloc (Nat.le_refl _) _) hb'.out (Nat.le_refl _) (by rw [World.size_alloc];exact Nat.le_succ _)
   have HB5:=Lib.hid (HBb.out.trans ((HBW.out.trans (hby.mono HBW.out.size)).mono HBb.out.size))
   have HB5b:=Lib.hid (HBW.out.trans (hby.mono HBW.out.size))
   have HY:=Lib.hid hc'.out
   obtain ⟨g6,hg6⟩:∃ g,wr.heap.size = g:=⟨_,rfl⟩
   rw [hg6] at HY ⊢
   clear hc' hb' hby hg6 HG1
   have HGT:=Lib.hid (z81 X B T s hs M x w5 (HST.out w5 HB5.out) HXI.out HTM.out.ops)
   go_wp2_with (refine z03 rfl 25 (.tmp 6) rfl g6 .u8 x 25 _ rfl HY.out Tryz.underlying25 rfl HS1.out ?_)
   refine HGT.out.mono ?_
   rintro e w6 ⟨⟨o,pa,pc,ho,hor⟩,hb6⟩
   obtain ⟨ho1,ho2,rfl⟩:o ∈ s.ops ∧ z0a o = x ∧ e = .returned (.tuple #[.agg (opV o pa pc),.int .i64 0]):=by
    rcases hor with h | ⟨h,_⟩
    ·exact h
    ·exact absurd HIS.out h
   have HOF:=Lib.hid (HTM.out.ops o ho1)
   obtain ⟨q,hq1,hq2⟩:=zbb HDI.out.nodupN ho1 ho2
   have HB6:=Lib.hid (HB5.out.trans (hb6.mono HB5.out.size))
   have HB6b:=Lib.hid (HB5b.out.trans (hb6.mono HB5b.out.size))
   have HY6:=Lib.hid (HY.out.below hb6)
   have HIO:=Lib.hid (ho.at HOF.out.preds)
   have HQ1:=Lib.hid hq1
   have HQ2:=Lib.hid hq2
   have HSV:=Lib.hid (show (Tryz.prog.info? 38).map (·.size) = some (opV o pa pc).size by rw [z07 HOF.out.d.ref.1];exact Tryz.sizeO)
   have HSZ:=Lib.hid (show (opV z05 none 0).size = (opV o pa pc).size by rw [z07 HOF.out.d.ref.1];rfl)
   have HZO:=Lib.hid (show (Tryz.prog.info? 38).bind (·.zero) = some (.agg (opL z05 none 0).toArray) by kernel_rfl)
   clear hor hb6 ho ho1 ho2 hq1 hq2 HGT
   go_wp2_with (first
    | (refine z0j rfl 38 rfl (opL z05 none 0) HZO.out ?_)
    | (refine z01 rfl 38 _ _ rfl rfl w6.heap.size (opV z05 none 0) (opV o pa pc) 38 rfl rfl (heap_alloc_new w6 _) HSV.out HSZ.out (z0z o pa pc) ?_))
   intro w7 hc7 hb7
   have hb67:Below w6.heap.size w6 w7:=But.toBelow ((Below.refl _ w6).alloc (Nat.le_refl _) _) hb7.out (Nat.le_refl _) (by rw [World.size_alloc];exact Nat.le_succ _)
   have HB7:=Lib.hid (HB6.out.trans (hb67.mono HB6.out.size))
   have HB7b:=Lib.hid (HB6b.out.trans (hb67.mono HB6b.out.size))
   have HY7:=Lib.hid (HY6.out.below hb67)
   have HO7:=Lib.hid hc7.out
   have HIO7:=Lib.hid (HIO.out.below hb67)
   obtain ⟨g7,hg7⟩:∃ g,w6.heap.size = g:=⟨_,rfl⟩
   rw [hg7] at HO7 ⊢
   clear hc7 hb7 hb67 hg7 HY HY6 HIO
   obtain ⟨ro,rc,rfl⟩:=(HRF.out w7 HB7.out).ops.form
   obtain ⟨bo,oo,rfl,hbo,py,cy,hry,hia,_⟩:=(HRF.out w7 HB7.out).ops.at.get HQ1.out
   have hqN:(q:Int) < (s.ops.length:Int):=by
    have:=(List.getElem?_eq_some_iff.1 HQ1.out).1
    omega
   have HRY:=Lib.hid (fun w' (r:Below w7.heap.size w7 w')=>z0g hry r hbo)
   have HCO:=Lib.hid (fun w' (r:Below w7.heap.size w7 w')=>show w'.cell? ⟨gs,0,none⟩ = some (.slice (some ⟨bo,oo,none⟩) s.ops.length rc) from ((HRF.out w7 HB7.out).cells.below r).at 0)
   have HYC:=Lib.hid (fun w' (r:Below w7.heap.size w7 w')=>HY7.out.below r)
   have HOC:=Lib.hid (fun w' (r:Below w7.heap.size w7 w')=>HO7.out.below r)
   have HAT:=Lib.hid (fun w' (r:Below w7.heap.size w7 w')=>show Calls Tryz.prog 21 #[.pointer (some ⟨gs,0,none⟩),.agg (z06 .u8 x).toArray] w' fun e w''=>e = .returned (.int .i64 (q:Int)) ∧ Below w'.heap.size w' w'' from by
    have h:=z69 X2 gs _ vw vn vq s x w' ((HRF.out w7 HB7.out).below r) HXI.out.1 HXI.out.2 (by have:=HTM.out.many;omega)
    rwa [HQ2.out] at h)
   have HSA:=Lib.hid (fun w' (r:Below w7.heap.size w7 w')=>show Calls Tryz.prog 20 #[.agg (opV o pa pc),.agg (opV o py cy)] w' fun e w''=>e = .returned (.bool true) ∧ Below w'.heap.size w' w'' from by
    have h:=z5h o o pa py pc cy w' HOF.out.ok HOF.out.ok (HIO7.out.below r) (hia.below r) (by have:=HOF.out.many;omega) (by have:=HOF.out.many;omega)
    rwa [decide_eq_true rfl] at h)
   have HSO:=Lib.hid (show (Tryz.prog.info? 38).map (·.size) = some (opL o py cy).length by rw [z2i HOF.out.d.ref.1];exact Tryz.sizeO)
   clear hry hia hbo
   obtain ⟨NN,hNN⟩:∃ NN,s.ops.length = NN:=⟨_,rfl⟩
   rw [hNN] at hqN HCO
   clear hNN
   go_upto_region 7 with (fail)
   refine z09 (fun w'=>Below w7.heap.size w7 w') (by kernel_rfl) (by kernel_rfl) (Below.refl _ _).drew ?_
   repeat (first
    | go_big_quiet_skip
    | (go_big_quiet_want;refine z0n 38 _ rfl g7 (opV o pa pc) 38 _ rfl HOC.out Tryz.underlying38 rfl HSV.out ?_;go_big_quiet_on;simp only [Act.put,zS,zA,zB])
    | (go_big_quiet_want;refine z02 29 _ rfl ⟨gs,0,none⟩ _ rfl HCO.out Tryz.isAgg29 ?_;go_big_quiet_on;simp only [Act.put,zS,zA,zB])
    | (go_big_quiet_want;refine z0q 25 _ rfl g6 .u8 x 25 _ rfl HYC.out Tryz.underlying25 rfl HS1.out ?_;go_big_quiet_on;simp only [Act.put,zS,zA,zB])
    | (go_big_quiet_want;refine z36 38 _ rfl bo (oo + q * 38) (opL o py cy) _ rfl HRY.out Tryz.underlying38 rfl HSO.out ?_;go_big_quiet_on;simp only [Act.put,zS,zA,zB])
    | go_big_quiet_step ((intro hs';first
     | (go_at_call 21;exact (HAT.out _ hs').mono fun e w' h=>⟨h.1,hs'.trans (h.2.mono hs'.size)⟩)
     | (go_at_call 20;exact (HSA.out _ hs').mono fun e w' h=>⟨h.1,hs'.trans (h.2.mono hs'.size)⟩)
     | rfl)))
   refine wpQuiet_nil ?_
   intro w8 hs8
   have HB8b:=Lib.hid (HB7b.out.trans (hs8.mono HB7b.out.size))
   clear hs8
   go_wp2_with fail
   exact ⟨⟨k + 1,by omega,by go_num,HB8b.out⟩,by simp [intOf];omega⟩
  ·obtain rfl:k = m:=by omega
   go_wp2_with fail
   go_ret
   exact ⟨rfl,HBb.out.trans (HBW.out.mono HBb.out.size)⟩
structure TwoAt (Z:Nat → Prop) (B:Bs) (gs:Nat) (w4:World) (k:Nat) (X:Nat → Prop) (T:Ents) (s t:DagN) (hs:List (List Nat)) (M:Bh) (vo vw vn vq:Value) (wr:World):Prop where
 set:SetAt X B T s hs M wr
 inv:DInv s hs M [] []
 tameS:Tame s
 tameT:Tame t
 ref:RefAt Z gs vo vw vn vq t wr
 cntS:s.ops.length + s.wait.length ≤ k
 cntT:t.ops.length + t.wait.length ≤ k
 xz:∀ b,X b → Z b
 hi:∀ b,wr.heap.size ≤ b → X b
 dis:∀ b,SetO B T b → ¬ RefX gs vo vw vn vq b
 mine:∀ b,RefX gs vo vw vn vq b → X b
 only:Only Z w4 wr
section
variable {Z:Nat → Prop} {B:Bs} {gs:Nat} {w4:World} {k:Nat} {X:Nat → Prop} {T:Ents} {s t:DagN} {hs:List (List Nat)} {M:Bh} {vo vw vn vq:Value} {wr w':World} {x:OpN}
theorem TwoAt.below (h:TwoAt Z B gs w4 k X T s t hs M vo vw vn vq wr) (b:Below wr.heap.size wr w'):TwoAt Z B gs w4 k X T s t hs M vo vw vn vq w' :=
 ⟨h.set.below b,h.inv,h.tameS,h.tameT,h.ref.below b,h.cntS,h.cntT,h.xz,fun c hc=>h.hi c (Nat.le_trans b.size hc),h.dis,h.mine,h.only.below b⟩
theorem TwoAt.but (h:TwoAt Z B gs w4 k X T s t hs M vo vw vn vq wr) {g:Nat} (ho:Only (fun b=>b = g) wr w') (hX:X g) (h1:¬ SetO B T g) (h2:¬ RefX gs vo vw vn vq g):TwoAt Z B gs w4 k X T s t hs M vo vw vn vq w' :=
 ⟨h.set.only ho (fun _ e=>e ▸ hX) (fun _ hb e=>h1 (e ▸ hb)),h.inv,h.tameS,h.tameT,h.ref.only ho (fun _ e=>e ▸ h.xz g hX) (fun _ hb e=>h2 (e ▸ hb)),h.cntS,h.cntT,h.xz,fun c hc=>h.hi c (Nat.le_trans ho.size hc),h.dis,h.mine,
  h.only.trans ho (fun _ e=>.inl (e ▸ h.xz g hX))⟩
theorem TwoAt.dev (h:TwoAt Z B gs w4 k X T s t hs M vo vw vn vq wr) {e:Ending} (hd:DevTake X B T (z1l s x) wr e w') :
 ∃ v X' T' hs' M',e = .returned (.tuple #[v,.int .i64 (z1l s x).2.1]) ∧ OwnI wr.heap.size 25 v (z1l s x).1 w' ∧ TwoAt Z B gs w4 (k + 1) X' T' (z1l s x).2.2 t hs' M' vo vw vn vq w' ∧ Turn (SetO B T) (SetO B T') wr w' ∧ (∀ b,b < wr.heap.size → X b → X' b):=by
 obtain ⟨v,X',T',hs',M',he,hv,h1,h2,h3,h4,_,h5,h6,h7⟩:=hd
 have hc:=(z2k h.tameS.shallow x).2
 have hs':=h.cntS
 refine ⟨v,X',T',_,M',he,hv,⟨h1,h2,h3,h.tameT,h.ref.only h4.only (fun b hb=>h.xz b (SetO.x h.set hb).1) (fun b hb e=>h.dis b e hb),by omega,Nat.le_succ_of_le h.cntT,fun b hb=>h.xz b (h5 b hb),h7,fun b hb e=>?_,fun b hb=>h6 b (h.ref.lt hb) (h.mine b hb),h.only.trans h4.only (fun b hb=>.inl (h.xz b (SetO.x h.set hb).1))⟩,h4,h6⟩
 rcases h4.own b hb with e' | e'
 ·exact h.dis b e' e
 ·have:=h.ref.lt e
  omega
theorem TwoAt.doc (h:TwoAt Z B gs w4 (k + 1) X T s t hs M vo vw vn vq wr) (ht:t.ops.length + t.wait.length ≤ k) {e:Ending} (hd:TakePost Z gs wr.heap.size (RefX gs vo vw vn vq) wr (z1l t x) e w') :
 ∃ v vo' vw' vn' vq',e = .returned (.tuple #[v,.int .i64 (z1l t x).2.1]) ∧ OwnI wr.heap.size 25 v (z1l t x).1 w' ∧ TwoAt Z B gs w4 (k + 1) X T s (z1l t x).2.2 hs M vo' vw' vn' vq' w' ∧ Turn (RefX gs vo vw vn vq) (RefX gs vo' vw' vn' vq') wr w':=by
 obtain ⟨v,vo',vw',vn',vq',he,hv,h1,h2,h3⟩:=hd
 have hc:=(z2k h.tameT.shallow x).2
 refine ⟨v,vo',vw',vn',vq',he,hv,⟨h.set.only h2.only h.mine (fun b hb=>h.dis b hb),h.inv,h.tameS,h3,h1,h.cntS,by omega,h.xz,fun b hb=>h.hi b (Nat.le_trans h2.only.size hb),fun b hb e=>?_,fun b hb=>?_,h.only.trans h2.only (fun b hb=>.inl (h.ref.mine b hb))⟩,h2⟩
 ·rcases h2.own b e with e' | e'
  ·exact h.dis b hb e'
  ·have:=(SetO.x h.set hb).2
   omega
 ·rcases h2.own b hb with e' | e'
  ·exact h.mine b e'
  ·exact h.hi b e'
end
theorem OpsX.only {X O:Nat → Prop} {ao:Option Addr} {L:List OpN} {w w':World} (h:OpsX X ao L w) (k:Only O w w') (hO:∀ b,O b → X b) (hb:∀ a,ao = some a → ¬ O a.block):OpsX X ao L w':=by
 rcases h with h | ⟨b,o,h1,h2,h3⟩
 ·exact .inl h
 ·refine .inr ⟨b,o,h1,Nat.lt_of_lt_of_le h2 k.size,fun i x hx=>?_⟩
  obtain ⟨pa,pc,q1,q2,q3⟩:=h3 i x hx
  exact ⟨pa,pc,fun j v hj=>(World.cell?_of_block (a:=⟨b,o + i * 38 + j,none⟩) (k.block b h2 (hb _ h1))).trans (q1 j v hj),q2.only k (q3.mono hO),q3⟩
def RowI (v:Value) (n:Nat) (w:World):Prop:=∃ P,OwnI 0 25 v P w ∧ Ids P ∧ P.length = n
theorem RowI.only {O:Nat → Prop} {v:Value} {n:Nat} {w w':World} (h:RowI v n w) (k:Only O w w') (hv:∀ g,v.ownBlock = some g → ¬ O g):RowI v n w':=by
 obtain ⟨P,h1,h2,h3⟩:=h
 exact ⟨P,h1.only k hv,h2,h3⟩
theorem own_of {X:Nat → Prop} {B:Nat} {e:TypeId} {a:Addr} {n c:Nat} {L:List OpN} {w:World} (h:OwnX X B e (.slice (some a) n c) L w):Value.ownBlock (.slice (some a) n c) = some a.block:=by
 rcases h.formB with ⟨h1,_⟩ | ⟨g,cap,h1,_⟩
 ·cases h1
 ·injection h1 with h1
  injection h1 with h1
  subst h1
  rfl
theorem z9l {x:List Nat} (h:∀ y ∈ x,y < 256):x.getD 0 0 < 256:=by
 cases x with
 | nil=>decide
 | cons a r=>exact h a (List.mem_cons_self ..)
theorem own_some {B g:Nat} {e:TypeId} {v:Value} {L:List (List Nat)} {w:World} (h:OwnI B e v L w) (hg:v.ownBlock = some g):∃ c,v = .slice (some ⟨g,0,none⟩) L.length c ∧ B ≤ g ∧ g < w.heap.size:=by
 rcases h.2 with ⟨h0,_⟩ | ⟨g',cap,cur,h0,hB,hc,_⟩
 ·rw [h0] at hg
  cases hg
 ·rw [h0] at hg
  obtain rfl:g' = g:=by injection hg
  exact ⟨cap,h0,hB,lt_of_block hc⟩
theorem z7q {P:Program} {w:World} (base:Nat) (t ty e:TypeId) (i:TypeInfo) (size c:Nat) (ht:P.underlying t = some (.slice e)) (hi:P.info? e = some i) (v:Value) (n:Nat) (xs:List Value) (hown:w.ownsRow base e size v n xs) :
 (Builtin.append_ #[t,t] ty #[v,.slice none 0 c]).run P w = .ok v w:=by
 rcases hown.2 with ⟨rfl,rfl⟩ | ⟨g,cap,cur,rfl,_,_,hnc,_⟩
 ·simp [Builtin.append_,run_underlying ht,sizeOf,typeInfo,hi,Builtin.lenOf,Builtin.firstCells]
 ·simp [Builtin.append_,run_underlying ht,sizeOf,typeInfo,hi,Builtin.lenOf,Builtin.firstCells,hnc,storeCells]
theorem z82 {ops:Array Oper} {rest:List Oper} {o:Oper} {a:Act} {w:World} {Q:Exit → Act → World → Prop} (hgd:o.guard = none) (s x:Operand)
 (ho:o.op = .call { callee:=.builtin .append,args:=#[s,x],argTypes:=#[34,34] })
 (B:Nat) (v:Value) (L M:List (List Nat)) (hM:Ids M) (ao:Option Addr) (n c:Nat) (hn:n = M.length) (hs:a.eval s = v) (hown:OwnI B 25 v L w) (hx:a.eval x = .slice ao n c) (hsrc:IAt ao M w)
 (h63:L.length + M.length ≤ 1000000) (hB:B ≤ w.heap.size)
 (h:∀ v' w',Hid (OwnI B 25 v' (L ++ M) w') → Hid (w.grownBy w' v.ownBlock) → Hid (v'.ownBlock = v.ownBlock ∨ v'.ownBlock = some w.heap.size) → wpList Tryz.prog ops Q rest (a.put o.dst v') w'):wpList Tryz.prog ops Q (o :: rest) a w:=by
 cases ao with
 | some ad=>exact z0u hgd s x 34 25 ho B (.agg (z06 .u8 (List.replicate 32 0)).toArray) rfl Tryz.underlying34 Tryz.infoI32 v L M hM (some ad) n c hn hs hown hx hsrc (fun h=>by cases h) h63 hB h
 | none =>
   obtain ⟨i,hi,hz0,hz1,hz2⟩:=info_parts Tryz.infoI32
   have hm:M = []:=by
    rcases hsrc with h | ⟨b,o',h,_⟩
    ·exact h
    ·cases h
   subst hm
   subst hn
   refine wpList_plain hgd fun K hK=>?_
   have hrun:=z7q (P:=Tryz.prog) (w:=w) B 34 o.type 25 i 32 c Tryz.underlying34 hi v L.length (z1w L) hown
   have hfin:=hK _ _ (h v w (Lib.hid (by rw [List.append_nil];exact hown)) (Lib.hid ⟨rfl,rfl,rfl,Nat.le_refl _,fun _ _ _=>rfl⟩) (Lib.hid (.inl rfl)))
   unfold Oper.wp execOp
   simp only [ho,resolve,invoke,builtin,Sem.run_bind,Sem.run_pure,Result.andThen_ok,List.map_toArray,List.map_cons,List.map_nil,hs,hx,List.length_nil,hrun]
   exact hfin
theorem index3_0 (a b c:Option Addr) (n m k x y z:Nat) (w:World):(Instr.index 56 (.agg #[.slice a n x,.slice b m y,.slice c k z]) (.int .i64 0)).run Tryz.prog w = .ok (.slice a n x) w:=by
 unfold Instr.index
 go_simp
theorem index3_1 (a b c:Option Addr) (n m k x y z:Nat) (w:World):(Instr.index 56 (.agg #[.slice a n x,.slice b m y,.slice c k z]) (.int .i64 1)).run Tryz.prog w = .ok (.slice b m y) w:=by
 unfold Instr.index
 go_simp
theorem index3_2 (a b c:Option Addr) (n m k x y z:Nat) (w:World):(Instr.index 56 (.agg #[.slice a n x,.slice b m y,.slice c k z]) (.int .i64 2)).run Tryz.prog w = .ok (.slice c k z) w:=by
 unfold Instr.index
 go_simp
namespace dagKeeps
theorem walk (W:World) (hk:KAt W) (ao:Option Addr) (l:List MakeN) (c:Nat) (hs:MksAt ao l W) (hn:∀ x ∈ l,x.In) (ht:l.length ≤ 140737488351232) :
 Calls Tryz.prog 5 #[.slice ao l.length c] W fun e W'=>e = .returned (.bool true) ∧ Below W.heap.size W W':=by
 have HK:=Lib.hid hk
 have HSO:=Lib.hid (show (Tryz.prog.info? 38).bind (·.zero) = some (.agg (opL z05 none 0).toArray) by kernel_rfl)
 have HMD:=Lib.hid (fun w1 (b:Below W.heap.size W w1)=>zb2 W ao l c w1 hs hn ht b)
 obtain ⟨nl,hnl⟩:∃ i,l.length = i:=⟨_,rfl⟩
 rw [hnl] at HMD ⊢
 clear hk hs hn ht hnl
 go_enter Tryz.func5,Tryz.ntmps5
 go_wp2_with fail
 refine (zeq W HK.out).mono ?_
 rintro e w1 ⟨rfl,hb1⟩
 have HB1:=Lib.hid hb1
 clear hb1
 go_wp2_with fail
 refine (za1 (fun b=>w1.heap.size ≤ b) w1 (fun b h=>h)).mono ?_
 rintro e w3 ⟨B,rfl,hs3,hb3⟩
 have HS3:=Lib.hid hs3
 have HB3:=Lib.hid hb3
 have hb4:Below w3.heap.size w3 (w3.alloc (.cells #[.slice none 0 0,.slice none 0 0,.slice none 0 0,.slice none 0 0] 36)):=(Below.refl _ _).alloc (Nat.le_refl _) _
 have hs4:(w3.alloc (.cells #[.slice none 0 0,.slice none 0 0,.slice none 0 0,.slice none 0 0] 36)).heap.size = w3.heap.size + 1:=World.size_alloc _ _
 have HRN:=Lib.hid (fun Z (h:Z w3.heap.size)=>z9y Z w3 h)
 clear hs3 hb3
 go_wp2_with fail
 obtain ⟨w4,hw4⟩:∃ z,z = w3.alloc (.cells #[.slice none 0 0,.slice none 0 0,.slice none 0 0,.slice none 0 0] 36):=⟨_,rfl⟩
 rw [← hw4] at hb4 hs4 HRN ⊢
 obtain ⟨gs,hgs⟩:∃ g,w3.heap.size = g:=⟨_,rfl⟩
 have HGS:=Shut.mk hgs
 have HB4:=Lib.hid hb4
 have HS4:=Shut.mk hs4
 have HBW4:=Lib.hid (HB1.out.trans ((HB3.out.trans (hb4.mono HB3.out.size)).mono HB1.out.size))
 try rw [hgs]
 clear hw4 hgs hb4 hs4
 refine (HMD.out w4 HBW4.out).mono ?_
 rintro e w5 ⟨v5,L,rfl,ho5,hf5,hl5,hb5⟩
 obtain ⟨Z,hZ⟩:∃ Z:Nat → Prop,Z = fun b=>W.heap.size ≤ b ∧ (b < w4.heap.size ∨ w5.heap.size ≤ b):=⟨_,rfl⟩
 rw [← hZ] at ho5
 have HZ:=Lib.hid (show ∀ b,Z b ↔ W.heap.size ≤ b ∧ (b < w4.heap.size ∨ w5.heap.size ≤ b) from fun b=>by rw [hZ])
 have HZL:=Lib.hid (show ∀ g,v5.ownBlock = some g → ¬ Z g from fun g hg e=>by have h1:=ho5.lt hg;have h2:=(HZ.out g).1 e;omega)
 obtain ⟨oa,oc,rfl⟩:=ho5.form
 have HO5:=Lib.hid ho5
 have HF5:=Lib.hid hf5
 have HB5:=Lib.hid (HBW4.out.trans (hb5.mono HBW4.out.size))
 have HTW:=Lib.hid (show TwoAt Z B gs w5 0 Z ⟨[],[],[]⟩ DagN.new DagN.new [] [] (.slice none 0 0) (.slice none 0 0) (.slice none 0 0) (.slice none 0 0) w5 from by
  have h1:SetAt Z B ⟨[],[],[]⟩ DagN.new [] [] w5:=(((HS3.out.below HB4.out).below hb5).mono (Y:=fun b=>w1.heap.size ≤ b ∧ b < w4.heap.size) (fun b h=>h.1) (fun b h=>⟨(SetO.x HS3.out h).1,by have h1:=(SetO.x HS3.out h).2;have h2:=HS4.out;omega⟩)).widen0 (fun b h=>(HZ.out b).2 ⟨Nat.le_trans HB1.out.size h.1,.inl h.2⟩)
  have h3:Z w3.heap.size:=(HZ.out _).2 ⟨Nat.le_trans HB1.out.size HB3.out.size,.inl (by have h2:=HS4.out;omega)⟩
  have h4:=(HRN.out Z h3).below hb5
  rw [HGS.out] at h4
  refine ⟨h1,DInv.new,z4b,z4b,h4,Nat.le_refl _,Nat.le_refl _,fun _ h=>h,fun b h=>(HZ.out b).2 ⟨Nat.le_trans HB5.out.size h,.inr h⟩,fun b h e=>?_,fun b e=>?_,Only.refl _ _⟩
  ·have h5:=(SetO.x HS3.out h).2
   rcases e with rfl | e | e | e | e
   ·have h6:=HGS.out;omega
   all_goals cases e
  ·rcases e with rfl | e | e | e | e
   ·rw [← HGS.out];exact h3
   all_goals cases e)
 obtain ⟨N,hN⟩:∃ i,L.length = i:=⟨_,rfl⟩
 rw [hN] at hl5 HO5 HZL ⊢
 have HNL:=Shut.mk hN
 clear ho5 hf5 hb5 hN HMD HS3 HB3 HB4 HS4 HBW4 HRN hZ
 go_wp2_with fail
 go_loopw [25] (fun i wq=>∃ (k:Nat) (X:Nat → Prop) (T:Ents) (s:DagN) (hs:List (List Nat)) (M:Bh) (vo vw vn vq:Value),k ≤ N ∧ i = .int .i64 k ∧ TwoAt Z B gs w5 k X T s s hs M vo vw vn vq wq) (fun i _=>N - (intOf i).toNat)
 case atStart=>exact ⟨0,_,_,_,_,_,_,_,_,_,Nat.zero_le _,rfl,HTW.out⟩
 case round =>
  clear HTW
  obtain ⟨wx,rfl⟩:∃ z,z = wr:=⟨_,rfl⟩
  obtain ⟨k,X,T,s,hs,M,vo,vw,vn,vq,hkn,rfl,htw⟩:=hrel
  have HTW:=Lib.hid htw
  have HBR:=Lib.hid (show Below W.heap.size W wx from Only.toBelow HB5.out htw.only (fun b h=>((HZ.out b).1 h).1) HB5.out.size)
  clear htw
  by_cases hlt:k < N
  ·obtain ⟨y,hy⟩:∃ y,L[k]? = some y:=⟨_,List.getElem?_eq_getElem (by rw [HNL.out];exact hlt)⟩
   have HY:=Lib.hid (HF5.out y (List.mem_of_getElem? hy))
   have hopx:=HO5.out.at.only HTW.out.only (fun _ h=>h) (fun a ha=>HZL.out a.block (by subst ha;exact own_of HO5.out))
   obtain ⟨bL,oL,rfl,hbL,pa,pc,hrow,hia,hoff⟩:=hopx.get hy
   have HRW:=Lib.hid hrow
   have HIA:=Lib.hid hia
   have HOF:=Lib.hid hoff
   have HSL:=Lib.hid (show (Tryz.prog.info? 38).map (·.size) = some (opL y pa pc).length by rw [z2i HY.out.d.ref.1];exact Tryz.sizeO)
   clear hy hbL hrow hia hoff hopx
   have HSV6:=Lib.hid (show (Tryz.prog.info? 38).map (·.size) = some (opV y pa pc).size by rw [z07 HY.out.d.ref.1];exact Tryz.sizeO)
   have HSZ6:=Lib.hid (show (opL z05 none 0).toArray.size = (opV y pa pc).size by rw [z07 HY.out.d.ref.1];rfl)
   go_wp2_with (first
    | (refine wpList_load_mid rfl 38 _ rfl bL (oL + k * 38) rfl (opL y pa pc) _ HRW.out Tryz.underlying38 rfl HSL.out ?_)
    | (refine z0j rfl 38 rfl (opL z05 none 0) HSO.out ?_)
    | (refine z01 rfl 38 _ _ rfl rfl wx.heap.size (opL z05 none 0).toArray (opV y pa pc) 38 rfl rfl (heap_alloc_new wx _) HSV6.out HSZ6.out (z0z y pa pc) ?_))
   intro w6 hcs hbs
   have hbb:Below wx.heap.size wx w6:=But.toBelow ((Below.refl _ wx).alloc (Nat.le_refl _) _) hbs.out (Nat.le_refl _) (by rw [World.size_alloc];exact Nat.le_succ _)
   have HC6:=Lib.hid hcs.out
   have HB6:=Lib.hid (hbb)
   have HIA6:=Lib.hid (HIA.out.below hbb)
   obtain ⟨g6,hgg⟩:∃ g,wx.heap.size = g:=⟨_,rfl⟩
   have HG6:=Lib.hid (show wx.heap.size ≤ g6 from hgg ▸ Nat.le_refl _)
   have HG6L:=Lib.hid (show g6 < w6.heap.size from hgg ▸ hcs.out.lt)
   rw [hgg] at HC6 ⊢
   clear hcs hbs hbb hgg HSZ6
   have HSV77:=Lib.hid (show (Tryz.prog.info? 38).map (·.size) = some (opV y pa pc).size by rw [z07 HY.out.d.ref.1];exact Tryz.sizeO)
   have HSZ77:=Lib.hid (show (opL z05 none 0).toArray.size = (opV y pa pc).size by rw [z07 HY.out.d.ref.1];rfl)
   go_wp2_with (first
    | (refine z00 rfl 38 (.tmp 6) rfl g6 (opV y pa pc) 38 _ rfl HC6.out Tryz.underlying38 rfl HSV6.out ?_)
    | (refine z0j rfl 38 rfl (opL z05 none 0) HSO.out ?_)
    | (refine z01 rfl 38 _ _ rfl rfl w6.heap.size (opL z05 none 0).toArray (opV y pa pc) 38 rfl rfl (heap_alloc_new w6 _) HSV77.out HSZ77.out (z0z y pa pc) ?_))
   intro w7 hcs hbs
   have hbb:Below w6.heap.size w6 w7:=But.toBelow ((Below.refl _ w6).alloc (Nat.le_refl _) _) hbs.out (Nat.le_refl _) (by rw [World.size_alloc];exact Nat.le_succ _)
   have HC77:=Lib.hid hcs.out
   have HB7:=Lib.hid (HB6.out.trans (hbb.mono HB6.out.size))
   have HIA7:=Lib.hid (HIA6.out.below hbb)
   have HC67:=Lib.hid (HC6.out.below hbb)
   obtain ⟨g7,hgg⟩:∃ g,w6.heap.size = g:=⟨_,rfl⟩
   have HG7:=Lib.hid (show w6.heap.size ≤ g7 from hgg ▸ Nat.le_refl _)
   have HG7S:=Lib.hid (show wx.heap.size ≤ g7 from hgg ▸ HB6.out.size)
   rw [hgg] at HC77 ⊢
   clear hcs hbs hbb hgg HSZ77
   obtain ⟨np,hnp⟩:∃ i,y.preds.length = i:=⟨_,rfl⟩
   have HNP:=Shut.mk hnp
   have hl1:OwnI w7.heap.size 25 (.slice (some ⟨w7.heap.size,0,none⟩) 0 0) [] (w7.alloc (.cells #[] 25)):=World.ownsRow_lit w7 #[] 0 (Nat.le_refl _) (by unfold maxLen;omega) rfl
   have hb1:Below w7.heap.size w7 (w7.alloc (.cells #[] 25)):=(Below.refl _ _).alloc (Nat.le_refl _) _
   have c37:=(z0k HY.out.d.ref.1 (HC67.out.below hb1)).2.2.2
   rw [hnp] at c37
   have HL1:=Lib.hid hl1
   have HLB:=Lib.hid hb1
   have HLI:=Lib.hid (HIA7.out.below hb1)
   have HPI:=Lib.hid (show Ids y.preds from HY.out.preds)
   clear hnp hl1 hb1
   go_wp2_with (refine z82 rfl _ _ rfl w7.heap.size (.slice (some ⟨w7.heap.size,0,none⟩) 0 0) [] y.preds HPI.out pa np pc HNP.out.symm rfl HL1.out rfl HLI.out (by have:=HY.out.many;simp only [List.length_nil];omega) HLB.out.size ?_)
   intro v8 w8 ho8 hg8 hd8
   have hb8:Below w7.heap.size w7 w8:=HLB.out.grown hg8.out HLB.out.size (fun g hg=>by
    obtain rfl:w7.heap.size = g:=by injection hg
    exact Nat.le_refl _)
   obtain ⟨gm,hgm⟩:∃ g,v8.ownBlock = some g:=hd8.out.elim (fun e=>⟨_,e⟩) (fun e=>⟨_,e⟩)
   obtain ⟨cm,rfl,hgm1,hgm2⟩:=own_some ho8.out hgm
   have HO8:=Lib.hid (show OwnI w7.heap.size 25 (.slice (some ⟨gm,0,none⟩) np cm) y.preds w8 by
    have h:=ho8.out
    rw [HNP.out] at h
    exact h)
   rw [HNP.out]
   have HC78:=Lib.hid (HC77.out.below hb8)
   have HC68:=Lib.hid (HC67.out.below hb8)
   have HIA8:=Lib.hid (HIA7.out.below hb8)
   have HB8:=Lib.hid (HB7.out.trans (hb8.mono HB7.out.size))
   have HGM:=Lib.hid (And.intro hgm1 hgm2)
   have hg7lt:=HC77.out.lt
   have HG7L:=Lib.hid hg7lt
   have c37':=(z0k HY.out.d.ref.1 HC78.out).2.2.2
   have f37:=HC78.out.frozen 37
   clear ho8 hg8 hd8 hb8 hgm hgm1 hgm2 c37 HC77 HC67 HIA7 HL1 HLB HLI hg7lt
   go_upto_region 9 with (fail)
   have hk9:But g7 w8 (w8.setCell ⟨g7,37,none⟩ (.slice (some ⟨gm,0,none⟩) np cm)):=(But.refl g7 w8).setCell 37 _
   have ho9:Only (fun b=>b = g7) w8 (w8.setCell ⟨g7,37,none⟩ (.slice (some ⟨gm,0,none⟩) np cm)):=(Only.refl _ _).but hk9 (.inl rfl)
   have h79:=HC78.out.set 37 (.slice (some ⟨gm,0,none⟩) np cm)
   rw [← HNP.out,z7a (d:=y.d) (a:=y.author) (b:=y.depth) (L:=y.preds) (M:=y.preds) HY.out.d.ref.1 rfl pa (some ⟨gm,0,none⟩) pc cm,HNP.out] at h79
   obtain ⟨w9,hw9⟩:∃ z,z = w8.setCell ⟨g7,37,none⟩ (.slice (some ⟨gm,0,none⟩) np cm):=⟨_,rfl⟩
   rw [← hw9] at hk9 ho9 h79 ⊢
   have hgmg7:gm ≠ g7:=fun e=>by have h1:=HGM.out.1;have h2:=HG7L.out;omega
   have hg67:g6 ≠ g7:=fun e=>by have h1:=HG6L.out;have h2:=HG7.out;omega
   have HC79:=Lib.hid (show Cells g7 38 (opV y (some ⟨gm,0,none⟩) cm) w9 from h79)
   have HC69:=Lib.hid (HC68.out.only ho9 hg67)
   have HO9:=Lib.hid (HO8.out.only ho9 (fun g hg e=>by
    obtain rfl:gm = g:=by injection hg
    exact hgmg7 e))
   have HIA9:=Lib.hid (HIA8.out.only ho9 (fun a ha h0 e=>by have h1:=HIA.out.lt h0 ha;have h2:=HG7S.out;omega))
   have HB9:=Lib.hid (show Below wx.heap.size wx w9 from But.toBelow HB8.out hk9 HG7S.out HB8.out.size)
   have HTW9:=Lib.hid (HTW.out.below HB9.out)
   have HIM9:=Lib.hid (HO9.out.at HPI.out)
   have HSV7:=Lib.hid (show (Tryz.prog.info? 38).map (·.size) = some (opV y (some ⟨gm,0,none⟩) cm).size by rw [z07 HY.out.d.ref.1];exact Tryz.sizeO)
   have hgmx:gm < w9.heap.size:=Nat.lt_of_lt_of_le HGM.out.2 ho9.size
   have HGMX:=Lib.hid (show wx.heap.size ≤ gm by have h1:=HGM.out.1;have h2:=HB7.out.size;omega)
   have HTK:=Lib.hid (z6a X B T s hs M y (some ⟨gm,0,none⟩) cm w9 HTW9.out.set HTW9.out.hi HTW9.out.inv HTW9.out.tameS HY.out HIM9.out (HK.out.below (HBR.out.trans (HB9.out.mono HBR.out.size))) (by have:=HTW9.out.cntS;omega))
   clear hw9 hk9 ho9 h79 c37' f37 HC78 HC68 HO8 HIA8 HB8
   go_wp2_with (refine z00 rfl 38 (.tmp 7) rfl g7 (opV y (some ⟨gm,0,none⟩) cm) 38 _ rfl HC79.out Tryz.underlying38 rfl HSV7.out ?_)
   refine HTK.out.mono ?_
   intro e w10 hdt
   obtain ⟨v10,X6,T6,hs6,M6,rfl,_,htw6,htu6,hx6⟩:=HTW9.out.dev hdt
   have HTW6:=Lib.hid htw6
   have HX6:=Lib.hid (show X6 gm from hx6 gm hgmx (HTW.out.hi gm HGMX.out))
   have hset:∀ b,wx.heap.size ≤ b → ¬ SetO B T b:=fun b hb e=>by have:=(SetO.x HTW.out.set e).2;omega
   have HC710:=Lib.hid (HC79.out.only htu6.only (hset g7 HG7S.out))
   have HC610:=Lib.hid (HC69.out.only htu6.only (hset g6 HG6.out))
   have HO10:=Lib.hid (HO9.out.only htu6.only (fun g hg=>by
    obtain rfl:gm = g:=by injection hg
    exact hset gm HGMX.out))
   have HIA10:=Lib.hid (HIA9.out.only htu6.only (HOF.out.mono (fun b hb=>HTW9.out.xz b (SetO.x HTW9.out.set hb).1)))
   have HNSO:=Lib.hid (show ¬ SetO B T6 gm from fun e=>by
    rcases htu6.own gm e with e' | e'
    ·exact hset gm HGMX.out e'
    ·omega)
   have HS910:=Lib.hid htu6.only.size
   clear hdt htw6 htu6 hx6 hset HTK HC79 HC69 HO9 HIA9
   have HTK2:=Lib.hid (z6t Z gs vo vw vn vq s y pa pc w10 HTW6.out.ref (fun b hb=>HTW6.out.xz b (HTW6.out.hi b hb)) HTW6.out.tameT HY.out HIA10.out HOF.out (by have:=HTW.out.cntT;omega))
   go_wp2_with (refine z00 rfl 38 (.tmp 6) rfl g6 (opV y pa pc) 38 _ rfl HC610.out Tryz.underlying38 rfl HSV6.out ?_)
   refine HTK2.out.mono ?_
   intro e w11 hdt
   obtain ⟨v11,vo7,vw7,vn7,vq7,rfl,_,htw7,htu7⟩:=HTW6.out.doc HTW.out.cntT hdt
   have HTW7:=Lib.hid htw7
   have hrx:∀ b,wx.heap.size ≤ b → ¬ RefX gs vo vw vn vq b:=fun b hb e=>by have:=HTW.out.ref.lt e;omega
   have HC711:=Lib.hid (HC710.out.only htu7.only (hrx g7 HG7S.out))
   have HC611:=Lib.hid (HC610.out.only htu7.only (hrx g6 HG6.out))
   have HO11:=Lib.hid (HO10.out.only htu7.only (fun g hg=>by
    obtain rfl:gm = g:=by injection hg
    exact hrx gm HGMX.out))
   have HIA11:=Lib.hid (HIA10.out.only htu7.only (HOF.out.mono (fun b hb=>HTW6.out.ref.mine b hb)))
   have HNRX:=Lib.hid (show ¬ RefX gs vo7 vw7 vn7 vq7 gm from fun e=>by
    rcases htu7.own gm e with e' | e'
    ·exact hrx gm HGMX.out e'
    ·have h1:=HS910.out;omega)
   have HSAM:=Lib.hid (show Calls Tryz.prog 20 #[.agg (opV y (some ⟨gm,0,none⟩) cm),.agg (opV y pa pc)] w11 fun e w''=>e = .returned (.bool true) ∧ Below w11.heap.size w11 w'' from by
    have h:=z5h y y (some ⟨gm,0,none⟩) pa cm pc w11 HY.out.ok HY.out.ok (HO11.out.at HPI.out) HIA11.out (by have:=HY.out.many;omega) (by have:=HY.out.many;omega)
    rwa [decide_eq_true rfl] at h)
   clear hdt htw7 htu7 hrx HTK2 HC710 HC610 HO10 HIA10
   go_wp2_with (first
    | (refine z00 rfl 38 (.tmp 7) rfl g7 (opV y (some ⟨gm,0,none⟩) cm) 38 _ rfl HC711.out Tryz.underlying38 rfl HSV7.out ?_)
    | (refine z00 rfl 38 (.tmp 6) rfl g6 (opV y pa pc) 38 _ rfl HC611.out Tryz.underlying38 rfl HSV6.out ?_))
   refine HSAM.out.mono ?_
   rintro e w12 ⟨rfl,hb12⟩
   have HTW8:=Lib.hid (HTW7.out.below hb12)
   have HC712:=Lib.hid (HC711.out.below hb12)
   have HO12:=Lib.hid ((HO11.out.below hb12).mono (Nat.zero_le _))
   obtain ⟨am,ham⟩:∃ a,a = (some ⟨gm,0,none⟩:Option Addr):=⟨_,rfl⟩
   have HAM:=Shut.mk ham
   rw [← ham] at HC712 HO12 ⊢
   have c37:=(z0k HY.out.d.ref.1 HC712.out).2.2.2
   rw [HNP.out] at c37
   clear hb12 ham HSAM HC711 HC611 HO11 HIA11
   have hnpb:np ≤ 70:=by rw [← HNP.out];exact HY.out.many
   go_wp2_with fail
   clear c37
   go_loopw [48] (fun iv wq=>∃ (j:Nat) (P:List (List Nat)),j ≤ np ∧ iv = .int .i64 j ∧ OwnI 0 25 (.slice am np cm) P wq ∧ Ids P ∧ P.length = np ∧ Only (fun b=>Value.ownBlock (.slice am np cm) = some b) w12 wq) (fun iv _=>np - (intOf iv).toNat)
   case atStart=>exact ⟨0,_,Nat.zero_le _,rfl,HO12.out,HPI.out,HNP.out,Only.refl _ _⟩
   case round =>
    obtain ⟨wz,rfl⟩:∃ z,z = wr:=⟨_,rfl⟩
    obtain ⟨j,P,hjn,rfl,hp1,hp2,hp3,hp4⟩:=hrel
    have HP1:=Lib.hid hp1
    have HP2:=Lib.hid hp2
    have HP3:=Shut.mk hp3
    have HP4:=Lib.hid hp4
    clear hp2 hp3 hp4
    by_cases hltj:j < np
    ·have HFL:=Lib.hid (fun w' (b:Below wz.heap.size wz w')=>(show w'.cell? ⟨g7,37,none⟩ = some (.slice am np cm) from HNP.out ▸ (z0k HY.out.d.ref.1 ((HC712.out.only HP4.out (fun e=>by have h1:=HAM.out;rw [h1] at e;injection e with e;exact hgmg7 e)).below b)).2.2.2))
     obtain ⟨g,c',hv,_,hg⟩:=hp1.formB (by rw [HP3.out];omega)
     rw [HP3.out] at hv
     obtain ⟨rfl,rfl⟩:am = some ⟨g,0,none⟩ ∧ cm = c':=by injection hv with h1 _ h3;exact ⟨h1,h3⟩
     have hltz:(j:Int) < (np:Int):=by omega
     have hc:=HP1.out.byte HP3.out.symm HP2.out hltj (j:=0) (by decide)
     have hf:=HP1.out.frozenByte HP3.out.symm (j * 32 + 0)
     have hb2:(P.getD j []).getD 0 0 < 256:=z9l (HP2.out.getD (i:=j) (by rw [HP3.out];exact hltj)).2
     obtain ⟨b,hbe⟩:∃ b,(P.getD j []).getD 0 0 = b:=⟨_,rfl⟩
     rw [hbe] at hc hb2
     rw [Nat.add_zero] at hc hf
     clear hp1 hv hbe
     go_upto_region 16 with (fail)
     refine z08 (fun w'=>Below wz.heap.size wz w') 9 (by kernel_rfl) (by kernel_rfl) (Below.refl _ _).drew ?_
     simp only [zC,zD,zE,zF]
     repeat (first
      | (go_big_quiet_want;refine z02 5 _ rfl ⟨g,j * 32,none⟩ (.int .u8 (b:Int)) rfl (fun w' h=>(h.cell (p:=⟨g,j * 32,none⟩) hg).trans hc) Tryz.isAgg5 ?_;go_big_quiet_on;simp only [Act.put,zS,zA,zB])
      | (go_big_quiet_want;refine z02 34 _ rfl ⟨g7,37,none⟩ _ rfl HFL.out Tryz.isAgg34 ?_;go_big_quiet_on;simp only [Act.put,zS,zA,zB])
      | go_big_quiet_step ((intro hs';rfl)))
     refine wpQuiet_nil ?_
     intro wc hs7
     have HO7:=Lib.hid (HP1.out.below hs7)
     have hz:(b + 1) % 256 < 256:=Nat.mod_lt _ (by decide)
     have hzi:((b:Int) + 1) % 256 = (((b + 1) % 256:Nat):Int):=by omega
     rw [hzi]
     have HO8:=Lib.hid (show OwnI 0 25 (.slice (some ⟨g,0,none⟩) np cm) (P.set j ((P.getD j []).set 0 ((b + 1) % 256))) (wc.setCell ⟨g,j * 32,none⟩ (.int .u8 (((b + 1) % 256:Nat):Int))) from HO7.out.setByte HP3.out.symm HP2.out hltj (j:=0) (by decide) hz)
     have HB8:=Lib.hid (show Only (fun b=>Value.ownBlock (.slice (some ⟨g,0,none⟩) np cm) = some b) w12 (wc.setCell ⟨g,j * 32,none⟩ (.int .u8 (((b + 1) % 256:Nat):Int))) from (HP4.out.below hs7).setCell _ _ (.inl rfl))
     have HT8:=Lib.hid (show Ids (P.set j ((P.getD j []).set 0 ((b + 1) % 256))) from HP2.out.setByte (by rw [HP3.out];exact hltj) hz)
     have hc7:=(hs7.cell (p:=⟨g,j * 32,none⟩) hg).trans hc
     have hf7:=HO7.out.frozenByte HP3.out.symm (j * 32)
     clear hs7 hc hf hzi HO7 HP1 HP2 HP4
     generalize (b + 1) % 256 = z at *
     go_wp2_with fail
     exact ⟨⟨j + 1,_,by omega,by go_num,HO8.out,HT8.out,by rw [List.length_set];exact HP3.out,HB8.out⟩,by simp [intOf];omega⟩
    ·obtain rfl:j = np:=by omega
     clear hp1
     have HFI:=Lib.hid (HTW8.out.but (g:=gm) ⟨HP4.out.os,HP4.out.tape,HP4.out.output,HP4.out.size,fun i hi hne=>HP4.out.block i hi (fun e=>hne (by
      rw [HAM.out] at e
      injection e with e
      exact e.symm))⟩ HX6.out HNSO.out HNRX.out)
     go_wp2_with fail
     exact ⟨⟨k + 1,X6,T6,_,hs6,M6,vo7,vw7,vn7,vq7,by omega,by go_num,HFI.out⟩,by simp [intOf];omega⟩
  ·obtain rfl:k = N:=by omega
   have HST:=Lib.hid (fun w' (b:Below wx.heap.size wx w')=>HTW.out.below b)
   have HDI:=Lib.hid HTW.out.inv
   have HTM:=Lib.hid HTW.out.tameS
   have HIN2:=Lib.hid (show Ids (z0e s.names) from z15 z12)
   have HNP:=Lib.hid (fun x (hx:x ∈ z0e s.names)=>(z1c s.names).mem_iff.1 hx)
   have hnl:(z0e s.names).length ≤ 1000:=by rw [z1x,DagN.names,List.length_map];have:=HTM.out.many;omega
   have hnw:(z0e s.waits).length ≤ 1000:=by rw [z1x,DagN.waits,List.length_map];have:=HTM.out.many;omega
   have hnh:(z19 s).length ≤ 1000:=Nat.le_trans (z6c s) (by have:=HTM.out.many;omega)
   have HNM:=Lib.hid (fun w' (b:Below wx.heap.size wx w')=>z7r (HST.out w' b).set (by have:=HTM.out.many;omega))
   have HHD:=Lib.hid (fun w' (b:Below wx.heap.size wx w')=>z5z (HST.out w' b).set HDI.out (by have:=HTM.out.many;omega))
   have HWT:=Lib.hid (fun w' (b:Below wx.heap.size wx w')=>z71 (HST.out w' b).set (by have:=HTM.out.many;omega))
   have HIW:=Lib.hid (show Ids (z0e s.waits) from z15 z12)
   have HIH:=Lib.hid (show Ids (z19 s) from z15 (L:=s.names.filter fun n=>!(s.ops.any fun o=>decide (n ∈ o.preds))) (fun x hx=>z12 x (List.mem_filter.1 hx).1))
   obtain ⟨LN,hLN⟩:∃ z,z0e s.names = z:=⟨_,rfl⟩
   obtain ⟨LH,hLH⟩:∃ z,z19 s = z:=⟨_,rfl⟩
   obtain ⟨LW,hLW⟩:∃ z,z0e s.waits = z:=⟨_,rfl⟩
   rw [hLN] at HIN2 HNP hnl HNM
   rw [hLH] at HHD HIH hnh
   rw [hLW] at HWT HIW hnw
   clear hLN hLH hLW
   go_wp2_with fail
   refine (HNM.out wx (Below.refl _ _)).mono ?_
   rintro e w15 ⟨v15,rfl,ho15,hb15⟩
   obtain ⟨a5,c5,rfl⟩:=ho15.form
   have HA5:=Lib.hid (ho15.at HIN2.out)
   have HB15:=Lib.hid hb15
   obtain ⟨m,hm⟩:∃ i,LN.length = i:=⟨_,rfl⟩
   have hnl0:=hnl
   rw [hm] at hnl ⊢
   have HM:=Shut.mk hm
   clear ho15 hb15 hm
   go_wp2_with fail
   go_loopw [65] (fun i wq=>∃ k:Nat,k ≤ m ∧ i = .int .i64 k ∧ Below w15.heap.size w15 wq) (fun i _=>m - (intOf i).toNat)
   case atStart=>exact ⟨0,Nat.zero_le _,rfl,Below.refl _ _⟩
   case round =>
    obtain ⟨wy,rfl⟩:∃ z,z = wr:=⟨_,rfl⟩
    obtain ⟨k2,hk2,rfl,hby⟩:=hrel
    have HBY:=Lib.hid hby
    have HBX:=Lib.hid (HB15.out.trans (hby.mono HB15.out.size))
    have HAX:=Lib.hid (HA5.out.below hby)
    clear hby
    by_cases hlt2:k2 < m
    ·obtain ⟨b,ob2,rfl,hbl⟩:=HAX.out.some (by rw [HM.out];omega)
     have g1:=HAX.out.get (i:=k2) (by rw [HM.out];omega)
     have i1:=Ids.getD HIN2.out (i:=k2) (by rw [HM.out];omega)
     have hmem:LN.getD k2 [] ∈ LN:=by
      rw [List.getD_eq_getElem?_getD,List.getElem?_eq_getElem (by rw [HM.out];exact hlt2)]
      exact List.getElem_mem _
     obtain ⟨x,hx⟩:∃ x,LN.getD k2 [] = x:=⟨_,rfl⟩
     rw [hx] at g1 i1 hmem
     have HG1:=Lib.hid g1
     have HXI:=Lib.hid (show IdOk x from i1)
     have HIS:=Lib.hid (HNP.out x hmem)
     have HS1:=Lib.hid (show (Tryz.prog.info? 25).map (·.size) = some x.length by rw [i1.1];exact Tryz.sizeI)
     have HL2:=Lib.hid (show (List.replicate 32 0).length = x.length by rw [i1.1];rfl)
     clear hx g1 i1 hbl hmem
     go_wp2_with (first
      | (refine z0b rfl 25 _ rfl b (ob2 + k2 * 32) x _ rfl HG1.out Tryz.underlying25 rfl HS1.out ?_)
      | (refine z04 rfl 25 _ _ rfl rfl wy.heap.size .u8 (List.replicate 32 0) x 25 rfl rfl (heap_alloc_new wy _) HS1.out HL2.out ?_))
     intro w16 hc' hb'
     have hby6:Below wy.heap.size wy w16:=But.toBelow ((Below.refl _ _).alloc (Nat.le_refl _) _) hb'.out (Nat.le_refl _) (by rw [World.size_alloc];exact Nat.le_succ _)
     have HB6:=Lib.hid (HBX.out.trans (hby6.mono HBX.out.size))
     have HB6y:=Lib.hid (HBY.out.trans (hby6.mono HBY.out.size))
     have HX6:=Lib.hid hc'.out
     obtain ⟨g10,hg10⟩:∃ g,wy.heap.size = g:=⟨_,rfl⟩
     rw [hg10] at HX6 ⊢
     clear hc' hb' hby6 hg10 HG1
     have HGT:=Lib.hid (z81 X B T s hs M x w16 (HST.out w16 HB6.out).set HXI.out HTM.out.ops)
     go_wp2_with (refine z03 rfl 25 (.tmp 10) rfl g10 .u8 x 25 _ rfl HX6.out Tryz.underlying25 rfl HS1.out ?_)
     refine HGT.out.mono ?_
     rintro e w17 ⟨⟨o,pa,pc,ho,hor⟩,hb17⟩
     obtain ⟨ho1,ho2,rfl⟩:o ∈ s.ops ∧ z0a o = x ∧ e = .returned (.tuple #[.agg (opV o pa pc),.int .i64 0]):=by
      rcases hor with h | ⟨h,_⟩
      ·exact h
      ·exact absurd HIS.out h
     have HOF:=Lib.hid (HTM.out.ops o ho1)
     have HB7y:=Lib.hid (HB6y.out.trans (hb17.mono HB6y.out.size))
     have HOW:=Lib.hid ho
     have HS6:=Lib.hid HB6y.out.size
     clear hor hb17 ho ho1 ho2 HGT HX6
     have HSV11:=Lib.hid (show (Tryz.prog.info? 38).map (·.size) = some (opV o pa pc).size by rw [z07 HOF.out.d.ref.1];exact Tryz.sizeO)
     have HSZ11:=Lib.hid (show (opL z05 none 0).toArray.size = (opV o pa pc).size by rw [z07 HOF.out.d.ref.1];rfl)
     go_wp2_with (first
      | (refine z0j rfl 38 rfl (opL z05 none 0) HSO.out ?_)
      | (refine z01 rfl 38 _ _ rfl rfl w17.heap.size (opL z05 none 0).toArray (opV o pa pc) 38 rfl rfl (heap_alloc_new w17 _) HSV11.out HSZ11.out (z0z o pa pc) ?_))
     intro w18 hcs hbs
     have hbb:Below w17.heap.size w17 w18:=But.toBelow ((Below.refl _ w17).alloc (Nat.le_refl _) _) hbs.out (Nat.le_refl _) (by rw [World.size_alloc];exact Nat.le_succ _)
     have HC11:=Lib.hid hcs.out
     have HB8y:=Lib.hid (HB7y.out.trans (hbb.mono HB7y.out.size))
     have HOW8:=Lib.hid (HOW.out.below hbb)
     obtain ⟨g11,hgg⟩:∃ g,w17.heap.size = g:=⟨_,rfl⟩
     have HG11:=Lib.hid (show ∀ g,Value.ownBlock (.slice pa o.preds.length pc) = some g → g < g11 from fun g hg=>hgg ▸ (World.ownsRow.lt HOW.out g hg).2)
     rw [hgg] at HC11 ⊢
     clear hcs hbs hbb hgg HSZ11
     obtain ⟨np,hnp⟩:∃ i,o.preds.length = i:=⟨_,rfl⟩
     have HNPE:=Shut.mk hnp
     have c37:=(z0k HOF.out.d.ref.1 HC11.out).2.2.2
     rw [hnp] at c37 HOW8
     clear hnp
     have hnpb:np ≤ 70:=by rw [← HNPE.out];exact HOF.out.many
     go_wp2_with fail
     clear c37
     go_loopw [78] (fun iv wq=>∃ (j:Nat) (P:List (List Nat)),j ≤ np ∧ iv = .int .i64 j ∧ OwnI 0 25 (.slice pa np pc) P wq ∧ Ids P ∧ P.length = np ∧ Only (fun b=>Value.ownBlock (.slice pa np pc) = some b) w18 wq) (fun iv _=>np - (intOf iv).toNat)
     case atStart=>exact ⟨0,_,Nat.zero_le _,rfl,(HOW8.out.mono (Nat.zero_le _)),HOF.out.preds,HNPE.out,Only.refl _ _⟩
     case round =>
      obtain ⟨wz,rfl⟩:∃ z,z = wr:=⟨_,rfl⟩
      obtain ⟨j,P,hjn,rfl,hp1,hp2,hp3,hp4⟩:=hrel
      have HP1:=Lib.hid hp1
      have HP2:=Lib.hid hp2
      have HP3:=Shut.mk hp3
      have HP4:=Lib.hid hp4
      clear hp2 hp3 hp4
      by_cases hltj:j < np
      ·have HFL:=Lib.hid (fun w' (b:Below wz.heap.size wz w')=>(show w'.cell? ⟨g11,37,none⟩ = some (.slice pa np pc) from HNPE.out ▸ (z0k HOF.out.d.ref.1 ((HC11.out.only HP4.out (fun e=>by have h1:=HG11.out g11 (by rw [HNPE.out];exact e);omega)).below b)).2.2.2))
       obtain ⟨g,c',hv,_,hg⟩:=hp1.formB (by rw [HP3.out];omega)
       rw [HP3.out] at hv
       obtain ⟨rfl,rfl⟩:pa = some ⟨g,0,none⟩ ∧ pc = c':=by injection hv with h1 _ h3;exact ⟨h1,h3⟩
       have hltz:(j:Int) < (np:Int):=by omega
       have hc:=HP1.out.byte HP3.out.symm HP2.out hltj (j:=0) (by decide)
       have hf:=HP1.out.frozenByte HP3.out.symm (j * 32 + 0)
       have hb2:(P.getD j []).getD 0 0 < 256:=z9l (HP2.out.getD (i:=j) (by rw [HP3.out];exact hltj)).2
       obtain ⟨b,hbe⟩:∃ b,(P.getD j []).getD 0 0 = b:=⟨_,rfl⟩
       rw [hbe] at hc hb2
       rw [Nat.add_zero] at hc hf
       clear hp1 hv hbe
       go_upto_region 26 with (fail)
       refine z08 (fun w'=>Below wz.heap.size wz w') 9 (by kernel_rfl) (by kernel_rfl) (Below.refl _ _).drew ?_
       simp only [zC,zD,zE,zF]
       repeat (first
        | (go_big_quiet_want;refine z02 5 _ rfl ⟨g,j * 32,none⟩ (.int .u8 (b:Int)) rfl (fun w' h=>(h.cell (p:=⟨g,j * 32,none⟩) hg).trans hc) Tryz.isAgg5 ?_;go_big_quiet_on;simp only [Act.put,zS,zA,zB])
        | (go_big_quiet_want;refine z02 34 _ rfl ⟨g11,37,none⟩ _ rfl HFL.out Tryz.isAgg34 ?_;go_big_quiet_on;simp only [Act.put,zS,zA,zB])
        | go_big_quiet_step ((intro hs';rfl)))
       refine wpQuiet_nil ?_
       intro wc hs7
       have HO7:=Lib.hid (HP1.out.below hs7)
       have hz:(b + 1) % 256 < 256:=Nat.mod_lt _ (by decide)
       have hzi:((b:Int) + 1) % 256 = (((b + 1) % 256:Nat):Int):=by omega
       rw [hzi]
       have HO8:=Lib.hid (show OwnI 0 25 (.slice (some ⟨g,0,none⟩) np pc) (P.set j ((P.getD j []).set 0 ((b + 1) % 256))) (wc.setCell ⟨g,j * 32,none⟩ (.int .u8 (((b + 1) % 256:Nat):Int))) from HO7.out.setByte HP3.out.symm HP2.out hltj (j:=0) (by decide) hz)
       have HB8:=Lib.hid (show Only (fun b=>Value.ownBlock (.slice (some ⟨g,0,none⟩) np pc) = some b) w18 (wc.setCell ⟨g,j * 32,none⟩ (.int .u8 (((b + 1) % 256:Nat):Int))) from (HP4.out.below hs7).setCell _ _ (.inl rfl))
       have HT8:=Lib.hid (show Ids (P.set j ((P.getD j []).set 0 ((b + 1) % 256))) from HP2.out.setByte (by rw [HP3.out];exact hltj) hz)
       have hc7:=(hs7.cell (p:=⟨g,j * 32,none⟩) hg).trans hc
       have hf7:=HO7.out.frozenByte HP3.out.symm (j * 32)
       clear hs7 hc hf hzi HO7 HP1 HP2 HP4
       generalize (b + 1) % 256 = z at *
       go_wp2_with fail
       exact ⟨⟨j + 1,_,by omega,by go_num,HO8.out,HT8.out,by rw [List.length_set];exact HP3.out,HB8.out⟩,by simp [intOf];omega⟩
      ·obtain rfl:j = np:=by omega
       clear hp1
       have HFI:=Lib.hid (show Below w15.heap.size w15 wz from Only.toBelow HB8y.out HP4.out (fun g hg=>Nat.le_trans HS6.out (World.ownsRow.lt HOW.out g (by rw [HNPE.out];exact hg)).1) HB8y.out.size)
       go_wp2_with fail
       exact ⟨⟨k2 + 1,by omega,by go_num,HFI.out⟩,by simp [intOf];omega⟩
    ·obtain rfl:k2 = m:=by omega
     go_wp2_with fail
     refine (HNM.out wy HBX.out).mono ?_
     rintro e w20 ⟨v20,rfl,ho20,hb20⟩
     obtain ⟨x1,y1,rfl⟩:=ho20.form
     have HR1:=Lib.hid ho20
     have HB20:=Lib.hid (HBX.out.trans (hb20.mono HBX.out.size))
     clear ho20 hb20
     go_wp2_with fail
     refine (HHD.out w20 HB20.out).mono ?_
     rintro e w21 ⟨v21,rfl,ho21,hb21⟩
     obtain ⟨x2,y2,rfl⟩:=ho21.form
     have HR2:=Lib.hid ho21
     have HR12:=Lib.hid (HR1.out.below hb21)
     have HB21:=Lib.hid (HB20.out.trans (hb21.mono HB20.out.size))
     have HS2021:=Lib.hid hb21.size
     clear ho21 hb21
     go_wp2_with fail
     refine (HWT.out w21 HB21.out).mono ?_
     rintro e w22 ⟨v22,rfl,ho22,hb22⟩
     obtain ⟨x3,y3,rfl⟩:=ho22.form
     have HQ3:=Lib.hid (show RowI (.slice x3 LW.length y3) LW.length w22 from ⟨LW,ho22.mono (Nat.zero_le _),HIW.out,rfl⟩)
     have HQ2:=Lib.hid (show RowI (.slice x2 LH.length y2) LH.length w22 from ⟨LH,(HR2.out.below hb22).mono (Nat.zero_le _),HIH.out,rfl⟩)
     have HQ1:=Lib.hid (show RowI (.slice x1 LN.length y1) LN.length w22 from ⟨LN,(HR12.out.below hb22).mono (Nat.zero_le _),HIN2.out,rfl⟩)
     have HB22:=Lib.hid (HB21.out.trans (hb22.mono HB21.out.size))
     have HN1:=Lib.hid (fun g (hg:Value.ownBlock (.slice x1 LN.length y1) = some g)=>show wx.heap.size ≤ g ∧ g < w20.heap.size from ⟨Nat.le_trans HBX.out.size (World.ownsRow.lt HR1.out g hg).1,(World.ownsRow.lt HR1.out g hg).2⟩)
     have HN2:=Lib.hid (fun g (hg:Value.ownBlock (.slice x2 LH.length y2) = some g)=>show w20.heap.size ≤ g ∧ g < w21.heap.size from World.ownsRow.lt HR2.out g hg)
     have HN3:=Lib.hid (fun g (hg:Value.ownBlock (.slice x3 LW.length y3) = some g)=>show w21.heap.size ≤ g from (World.ownsRow.lt ho22 g hg).1)
     have HS20:=Lib.hid (And.intro HB20.out.size HS2021.out)
     obtain ⟨n1,hn1⟩:∃ i,LN.length = i:=⟨_,rfl⟩
     obtain ⟨n2,hn2⟩:∃ i,LH.length = i:=⟨_,rfl⟩
     obtain ⟨n3,hn3⟩:∃ i,LW.length = i:=⟨_,rfl⟩
     rw [hn1] at HQ1 HN1 hnl0
     rw [hn2] at HQ2 HN2 hnh
     rw [hn3] at HQ3 HN3 hnw
     simp only [hn1,hn2,hn3]
     clear ho22 hb22 HR1 HR2 HR12 hn1 hn2 hn3
     go_wp2_with fail
     go_loopw [99] (fun i wq=>∃ q:Nat,q ≤ 3 ∧ i = .int .i64 q ∧ RowI (.slice x1 n1 y1) n1 wq ∧ RowI (.slice x2 n2 y2) n2 wq ∧ RowI (.slice x3 n3 y3) n3 wq ∧ Below wx.heap.size wx wq) (fun i _=>3 - (intOf i).toNat)
     case atStart=>exact ⟨0,by decide,rfl,HQ1.out,HQ2.out,HQ3.out,HB22.out⟩
     case round =>
      obtain ⟨wv,rfl⟩:∃ z,z = wr:=⟨_,rfl⟩
      obtain ⟨q,hq3,rfl,hr1,hr2,hr3,hbv⟩:=hrel
      have HQ1:=Lib.hid hr1
      have HQ2:=Lib.hid hr2
      have HQ3:=Lib.hid hr3
      have HBV:=Lib.hid hbv
      clear hr1 hr2 hr3 hbv
      rcases (by omega:q = 0 ∨ q = 1 ∨ q = 2 ∨ q = 3) with rfl | rfl | rfl | rfl
      ·obtain ⟨P0,hp0,hi0,hl0⟩:=HQ1.out
       have HP0:=Lib.hid hp0
       have HI0:=Lib.hid hi0
       have HL0:=Shut.mk hl0
       clear hp0 hi0 hl0
       have hix:=index3_0 x1 x2 x3 n1 n2 n3 y1 y2 y3
       go_wp2_with fail
       clear hix
       go_loopw [104] (fun iv wq=>∃ (j:Nat) (P:List (List Nat)),j ≤ n1 ∧ iv = .int .i64 j ∧ OwnI 0 25 (.slice x1 n1 y1) P wq ∧ Ids P ∧ P.length = n1 ∧ Only (fun b=>Value.ownBlock (.slice x1 n1 y1) = some b) wv wq) (fun iv _=>n1 - (intOf iv).toNat)
       case atStart=>exact ⟨0,_,Nat.zero_le _,rfl,HP0.out,HI0.out,HL0.out,Only.refl _ _⟩
       case round =>
        obtain ⟨wz,rfl⟩:∃ z,z = wr:=⟨_,rfl⟩
        obtain ⟨j,P,hjn,rfl,hp1,hp2,hp3,hp4⟩:=hrel
        have HP1:=Lib.hid hp1
        have HP2:=Lib.hid hp2
        have HP3:=Shut.mk hp3
        have HP4:=Lib.hid hp4
        clear hp2 hp3 hp4
        by_cases hltj:j < n1
        ·obtain ⟨g,c',hv,_,hg⟩:=hp1.formB (by rw [HP3.out];omega)
         rw [HP3.out] at hv
         obtain ⟨rfl,rfl⟩:x1 = some ⟨g,0,none⟩ ∧ y1 = c':=by injection hv with h1 _ h3;exact ⟨h1,h3⟩
         have hltz:(j:Int) < (n1:Int):=by omega
         have hc:=HP1.out.byte HP3.out.symm HP2.out hltj (j:=0) (by decide)
         have hf:=HP1.out.frozenByte HP3.out.symm (j * 32 + 0)
         have hb2:(P.getD j []).getD 0 0 < 256:=z9l (HP2.out.getD (i:=j) (by rw [HP3.out];exact hltj)).2
         obtain ⟨b,hbe⟩:∃ b,(P.getD j []).getD 0 0 = b:=⟨_,rfl⟩
         rw [hbe] at hc hb2
         rw [Nat.add_zero] at hc hf
         clear hp1 hv hbe
         go_upto_region 35 with (fail)
         refine z08 (fun w'=>Below wz.heap.size wz w') 8 (by kernel_rfl) (by kernel_rfl) (Below.refl _ _).drew ?_
         simp only [zC,zD,zE,zF]
         repeat (first
          | (go_big_quiet_want;refine z02 5 _ rfl ⟨g,j * 32,none⟩ (.int .u8 (b:Int)) rfl (fun w' h=>(h.cell (p:=⟨g,j * 32,none⟩) hg).trans hc) Tryz.isAgg5 ?_;go_big_quiet_on;simp only [Act.put,zS,zA,zB])
          | go_big_quiet_step ((intro hs';rfl)))
         refine wpQuiet_nil ?_
         intro wc hs7
         have HO7:=Lib.hid (HP1.out.below hs7)
         have hz:(b + 1) % 256 < 256:=Nat.mod_lt _ (by decide)
         have hzi:((b:Int) + 1) % 256 = (((b + 1) % 256:Nat):Int):=by omega
         rw [hzi]
         have HO8:=Lib.hid (show OwnI 0 25 (.slice (some ⟨g,0,none⟩) n1 y1) (P.set j ((P.getD j []).set 0 ((b + 1) % 256))) (wc.setCell ⟨g,j * 32,none⟩ (.int .u8 (((b + 1) % 256:Nat):Int))) from HO7.out.setByte HP3.out.symm HP2.out hltj (j:=0) (by decide) hz)
         have HB8:=Lib.hid (show Only (fun b=>Value.ownBlock (.slice (some ⟨g,0,none⟩) n1 y1) = some b) wv (wc.setCell ⟨g,j * 32,none⟩ (.int .u8 (((b + 1) % 256:Nat):Int))) from (HP4.out.below hs7).setCell _ _ (.inl rfl))
         have HT8:=Lib.hid (show Ids (P.set j ((P.getD j []).set 0 ((b + 1) % 256))) from HP2.out.setByte (by rw [HP3.out];exact hltj) hz)
         have hc7:=(hs7.cell (p:=⟨g,j * 32,none⟩) hg).trans hc
         have hf7:=HO7.out.frozenByte HP3.out.symm (j * 32)
         clear hs7 hc hf hzi HO7 HP1 HP2 HP4
         generalize (b + 1) % 256 = z at *
         go_wp2_with fail
         exact ⟨⟨j + 1,_,by omega,by go_num,HO8.out,HT8.out,by rw [List.length_set];exact HP3.out,HB8.out⟩,by simp [intOf];omega⟩
        ·obtain rfl:j = n1:=by omega
         clear hp1
         have HFI:=Lib.hid (show Below wx.heap.size wx wz from Only.toBelow HBV.out HP4.out (fun g hg=>(HN1.out g hg).1) HBV.out.size)
         go_wp2_with fail
         exact ⟨⟨1,by decide,by go_num,⟨_,HP1.out,HP2.out,HP3.out⟩,(HQ2.out.only HP4.out (fun g hg e=>by have h1:=HN1.out g e;have h2:=HN2.out g hg;omega)),(HQ3.out.only HP4.out (fun g hg e=>by have h1:=HN1.out g e;have h2:=HN3.out g hg;have h3:=HS20.out;omega)),HFI.out⟩,by simp [intOf]⟩
      ·obtain ⟨P0,hp0,hi0,hl0⟩:=HQ2.out
       have HP0:=Lib.hid hp0
       have HI0:=Lib.hid hi0
       have HL0:=Shut.mk hl0
       clear hp0 hi0 hl0
       have hix:=index3_1 x1 x2 x3 n1 n2 n3 y1 y2 y3
       go_wp2_with fail
       clear hix
       go_loopw [104] (fun iv wq=>∃ (j:Nat) (P:List (List Nat)),j ≤ n2 ∧ iv = .int .i64 j ∧ OwnI 0 25 (.slice x2 n2 y2) P wq ∧ Ids P ∧ P.length = n2 ∧ Only (fun b=>Value.ownBlock (.slice x2 n2 y2) = some b) wv wq) (fun iv _=>n2 - (intOf iv).toNat)
       case atStart=>exact ⟨0,_,Nat.zero_le _,rfl,HP0.out,HI0.out,HL0.out,Only.refl _ _⟩
       case round =>
        obtain ⟨wz,rfl⟩:∃ z,z = wr:=⟨_,rfl⟩
        obtain ⟨j,P,hjn,rfl,hp1,hp2,hp3,hp4⟩:=hrel
        have HP1:=Lib.hid hp1
        have HP2:=Lib.hid hp2
        have HP3:=Shut.mk hp3
        have HP4:=Lib.hid hp4
        clear hp2 hp3 hp4
        by_cases hltj:j < n2
        ·obtain ⟨g,c',hv,_,hg⟩:=hp1.formB (by rw [HP3.out];omega)
         rw [HP3.out] at hv
         obtain ⟨rfl,rfl⟩:x2 = some ⟨g,0,none⟩ ∧ y2 = c':=by injection hv with h1 _ h3;exact ⟨h1,h3⟩
         have hltz:(j:Int) < (n2:Int):=by omega
         have hc:=HP1.out.byte HP3.out.symm HP2.out hltj (j:=0) (by decide)
         have hf:=HP1.out.frozenByte HP3.out.symm (j * 32 + 0)
         have hb2:(P.getD j []).getD 0 0 < 256:=z9l (HP2.out.getD (i:=j) (by rw [HP3.out];exact hltj)).2
         obtain ⟨b,hbe⟩:∃ b,(P.getD j []).getD 0 0 = b:=⟨_,rfl⟩
         rw [hbe] at hc hb2
         rw [Nat.add_zero] at hc hf
         clear hp1 hv hbe
         go_upto_region 35 with (fail)
         refine z08 (fun w'=>Below wz.heap.size wz w') 8 (by kernel_rfl) (by kernel_rfl) (Below.refl _ _).drew ?_
         simp only [zC,zD,zE,zF]
         repeat (first
          | (go_big_quiet_want;refine z02 5 _ rfl ⟨g,j * 32,none⟩ (.int .u8 (b:Int)) rfl (fun w' h=>(h.cell (p:=⟨g,j * 32,none⟩) hg).trans hc) Tryz.isAgg5 ?_;go_big_quiet_on;simp only [Act.put,zS,zA,zB])
          | go_big_quiet_step ((intro hs';rfl)))
         refine wpQuiet_nil ?_
         intro wc hs7
         have HO7:=Lib.hid (HP1.out.below hs7)
         have hz:(b + 1) % 256 < 256:=Nat.mod_lt _ (by decide)
         have hzi:((b:Int) + 1) % 256 = (((b + 1) % 256:Nat):Int):=by omega
         rw [hzi]
         have HO8:=Lib.hid (show OwnI 0 25 (.slice (some ⟨g,0,none⟩) n2 y2) (P.set j ((P.getD j []).set 0 ((b + 1) % 256))) (wc.setCell ⟨g,j * 32,none⟩ (.int .u8 (((b + 1) % 256:Nat):Int))) from HO7.out.setByte HP3.out.symm HP2.out hltj (j:=0) (by decide) hz)
         have HB8:=Lib.hid (show Only (fun b=>Value.ownBlock (.slice (some ⟨g,0,none⟩) n2 y2) = some b) wv (wc.setCell ⟨g,j * 32,none⟩ (.int .u8 (((b + 1) % 256:Nat):Int))) from (HP4.out.below hs7).setCell _ _ (.inl rfl))
         have HT8:=Lib.hid (show Ids (P.set j ((P.getD j []).set 0 ((b + 1) % 256))) from HP2.out.setByte (by rw [HP3.out];exact hltj) hz)
         have hc7:=(hs7.cell (p:=⟨g,j * 32,none⟩) hg).trans hc
         have hf7:=HO7.out.frozenByte HP3.out.symm (j * 32)
         clear hs7 hc hf hzi HO7 HP1 HP2 HP4
         generalize (b + 1) % 256 = z at *
         go_wp2_with fail
         exact ⟨⟨j + 1,_,by omega,by go_num,HO8.out,HT8.out,by rw [List.length_set];exact HP3.out,HB8.out⟩,by simp [intOf];omega⟩
        ·obtain rfl:j = n2:=by omega
         clear hp1
         have HFI:=Lib.hid (show Below wx.heap.size wx wz from Only.toBelow HBV.out HP4.out (fun g hg=>by have h1:=HN2.out g hg;have h2:=HS20.out;omega) HBV.out.size)
         go_wp2_with fail
         exact ⟨⟨2,by decide,by go_num,(HQ1.out.only HP4.out (fun g hg e=>by have h1:=HN2.out g e;have h2:=HN1.out g hg;omega)),⟨_,HP1.out,HP2.out,HP3.out⟩,(HQ3.out.only HP4.out (fun g hg e=>by have h1:=HN2.out g e;have h2:=HN3.out g hg;omega)),HFI.out⟩,by simp [intOf]⟩
      ·obtain ⟨P0,hp0,hi0,hl0⟩:=HQ3.out
       have HP0:=Lib.hid hp0
       have HI0:=Lib.hid hi0
       have HL0:=Shut.mk hl0
       clear hp0 hi0 hl0
       have hix:=index3_2 x1 x2 x3 n1 n2 n3 y1 y2 y3
       go_wp2_with fail
       clear hix
       go_loopw [104] (fun iv wq=>∃ (j:Nat) (P:List (List Nat)),j ≤ n3 ∧ iv = .int .i64 j ∧ OwnI 0 25 (.slice x3 n3 y3) P wq ∧ Ids P ∧ P.length = n3 ∧ Only (fun b=>Value.ownBlock (.slice x3 n3 y3) = some b) wv wq) (fun iv _=>n3 - (intOf iv).toNat)
       case atStart=>exact ⟨0,_,Nat.zero_le _,rfl,HP0.out,HI0.out,HL0.out,Only.refl _ _⟩
       case round =>
        obtain ⟨wz,rfl⟩:∃ z,z = wr:=⟨_,rfl⟩
        obtain ⟨j,P,hjn,rfl,hp1,hp2,hp3,hp4⟩:=hrel
        have HP1:=Lib.hid hp1
        have HP2:=Lib.hid hp2
        have HP3:=Shut.mk hp3
        have HP4:=Lib.hid hp4
        clear hp2 hp3 hp4
        by_cases hltj:j < n3
        ·obtain ⟨g,c',hv,_,hg⟩:=hp1.formB (by rw [HP3.out];omega)
         rw [HP3.out] at hv
         obtain ⟨rfl,rfl⟩:x3 = some ⟨g,0,none⟩ ∧ y3 = c':=by injection hv with h1 _ h3;exact ⟨h1,h3⟩
         have hltz:(j:Int) < (n3:Int):=by omega
         have hc:=HP1.out.byte HP3.out.symm HP2.out hltj (j:=0) (by decide)
         have hf:=HP1.out.frozenByte HP3.out.symm (j * 32 + 0)
         have hb2:(P.getD j []).getD 0 0 < 256:=z9l (HP2.out.getD (i:=j) (by rw [HP3.out];exact hltj)).2
         obtain ⟨b,hbe⟩:∃ b,(P.getD j []).getD 0 0 = b:=⟨_,rfl⟩
         rw [hbe] at hc hb2
         rw [Nat.add_zero] at hc hf
         clear hp1 hv hbe
         go_upto_region 35 with (fail)
         refine z08 (fun w'=>Below wz.heap.size wz w') 8 (by kernel_rfl) (by kernel_rfl) (Below.refl _ _).drew ?_
         simp only [zC,zD,zE,zF]
         repeat (first
          | (go_big_quiet_want;refine z02 5 _ rfl ⟨g,j * 32,none⟩ (.int .u8 (b:Int)) rfl (fun w' h=>(h.cell (p:=⟨g,j * 32,none⟩) hg).trans hc) Tryz.isAgg5 ?_;go_big_quiet_on;simp only [Act.put,zS,zA,zB])
          | go_big_quiet_step ((intro hs';rfl)))
         refine wpQuiet_nil ?_
         intro wc hs7
         have HO7:=Lib.hid (HP1.out.below hs7)
         have hz:(b + 1) % 256 < 256:=Nat.mod_lt _ (by decide)
         have hzi:((b:Int) + 1) % 256 = (((b + 1) % 256:Nat):Int):=by omega
         rw [hzi]
         have HO8:=Lib.hid (show OwnI 0 25 (.slice (some ⟨g,0,none⟩) n3 y3) (P.set j ((P.getD j []).set 0 ((b + 1) % 256))) (wc.setCell ⟨g,j * 32,none⟩ (.int .u8 (((b + 1) % 256:Nat):Int))) from HO7.out.setByte HP3.out.symm HP2.out hltj (j:=0) (by decide) hz)
         have HB8:=Lib.hid (show Only (fun b=>Value.ownBlock (.slice (some ⟨g,0,none⟩) n3 y3) = some b) wv (wc.setCell ⟨g,j * 32,none⟩ (.int .u8 (((b + 1) % 256:Nat):Int))) from (HP4.out.below hs7).setCell _ _ (.inl rfl))
         have HT8:=Lib.hid (show Ids (P.set j ((P.getD j []).set 0 ((b + 1) % 256))) from HP2.out.setByte (by rw [HP3.out];exact hltj) hz)
         have hc7:=(hs7.cell (p:=⟨g,j * 32,none⟩) hg).trans hc
         have hf7:=HO7.out.frozenByte HP3.out.symm (j * 32)
         clear hs7 hc hf hzi HO7 HP1 HP2 HP4
         generalize (b + 1) % 256 = z at *
         go_wp2_with fail
         exact ⟨⟨j + 1,_,by omega,by go_num,HO8.out,HT8.out,by rw [List.length_set];exact HP3.out,HB8.out⟩,by simp [intOf];omega⟩
        ·obtain rfl:j = n3:=by omega
         clear hp1
         have HFI:=Lib.hid (show Below wx.heap.size wx wz from Only.toBelow HBV.out HP4.out (fun g hg=>by have h1:=HN3.out g hg;have h2:=HS20.out;omega) HBV.out.size)
         go_wp2_with fail
         exact ⟨⟨3,by decide,by go_num,(HQ1.out.only HP4.out (fun g hg e=>by have h1:=HN3.out g e;have h2:=HN1.out g hg;have h3:=HS20.out;omega)),(HQ2.out.only HP4.out (fun g hg e=>by have h1:=HN3.out g e;have h2:=HN2.out g hg;omega)),⟨_,HP1.out,HP2.out,HP3.out⟩,HFI.out⟩,by simp [intOf]⟩
      ·go_wp2_with fail
       have HSM:=Lib.hid (z9u X Z B T s hs M gs vo vw vn vq wv (HST.out wv HBV.out).set HDI.out HTM.out (HST.out wv HBV.out).ref)
       refine HSM.out.mono ?_
       rintro e w30 ⟨rfl,hb30⟩
       have HEND:=Lib.hid (HBR.out.trans ((HBV.out.trans (hb30.mono HBV.out.size)).mono HBR.out.size))
       clear hb30
       go_wp2_with fail
       go_ret
       exact ⟨rfl,HEND.out⟩
end dagKeeps
end Go.Proofs.YtnbldbbbibpobaaGreatDoor
namespace Go.Proofs.YtnbldbbbibpobaaGreatDoor.dagKeeps
open Go.ChangeShapes Go.WideShapes Go.ChangeAt Go.RowKit
open Go.ChangeMaps (open_string shut_string)
set_option linter.unusedVariables false
theorem z7n (os:Os):laidMet Tryz.prog Rows.dagKeepsRow.laid ((z2p os).forCall (fun _ _=>0) ⟨#[],#[.slice none 0 0],[]⟩).memory :=
 laidMet_of_run' 8 (by kernel_rfl) (by kernel_rfl)
theorem reads (os:Os) {H:Type} (enc:TypeId × Value → H):∃ x,DataW.whole enc Tryz.prog ((z2p os).forCall (fun _ _=>0) ⟨#[],#[.slice none 0 0],[]⟩).memory Tryz.f5.params.toList Rows.dagKeepsSpec.vars false (#[.slice none 0 0]:Array Value).toList 8 = some x :=
 ⟨([.nil],[],[]),by kernel_rfl⟩
theorem lifted (os:Os) (started:os.Started) (H:Type) (enc:TypeId × Value → H) (F:Stop.Interp) :
 ReturnsInHanded {} Tryz.checked os 5 .any ((OpenSpec.ofChange Rows.dagKeepsSpec).preRow enc Tryz.prog Tryz.f5 Rows.dagKeepsRow.domain false Rows.dagKeepsRow.laid) (((OpenSpec.ofChange Rows.dagKeepsSpec).at F).post enc Tryz.prog Tryz.f5 false true false false):=by
 obtain ⟨x,hx⟩:=reads os enc
 refine returnsInHanded_of_row (C:=Tryz.checked) (s:=OpenSpec.ofChange Rows.dagKeepsSpec) zev started (by kernel_rfl) Tryz.func5
  (witness_row_at (enc:=enc) (C:=Tryz.checked) false (z2p os) #[.slice none 0 0] rfl (by kernel_rfl) (by kernel_rfl) (by kernel_rfl)
   (OpenSpec.preRow_of_cond 8 hx rfl (fun k hk=>by cases hk) (by kernel_rfl) (z7n os))) ?_
 intro W base args ds gs before hval0 hW hcnd _ hsz0 hL _ _
 have hk:KAt W:=zi5 hL
 have hsz:(DataW.weightsEach Tryz.prog (Tryz.f5.params.toList ++ (OpenSpec.ofChange Rows.dagKeepsSpec).bare.plain.varTypes Tryz.prog) (ds ++ gs)).all (· ≤ reachBytes) = true:=hsz0
 have hval:∀ (j:Nat) t v,Tryz.f5.params[j]? = some t → args[j]? = some v → Value.okWide Tryz.prog W .any base t v:=hval0
 have hW':=hW
 obtain ⟨p,q,hA0,hV,rfl,hfz,hnd⟩:=hW
 have hA:DataW.TrodAll enc Tryz.prog W 0 (fun _=>true) true Tryz.f5.params.toList args.toList ds p:=hA0
 rw [Tryz.params5] at hA hval hsz
 obtain ⟨v0,vs0,d0,ds0,p0,q0,hargs,rfl,rfl,h0,r0⟩:=trodAll_cons hA
 obtain ⟨rfl,rfl,rfl⟩:=trodAll_nil r0
 obtain rfl:args = #[v0]:=by cases args;simp_all
 obtain ⟨rfl,rfl⟩:=trodVars_none hV
 have k0:=h0
 have lt0:∀ x ∈ p0,x.block < W.heap.size:=by obtain ⟨m,hm⟩:=k0;exact DataW.trod_lt m _ _ _ hm
 have z0:∀ n ∈ DataW.weights Tryz.prog 22 d0,n ≤ 140737488351232:=fun n hn=>of_decide_eq_true (List.all_eq_true.1 hsz n (DataW.weights_mem_each (j:=0) (t:=22) rfl rfl n hn))
 obtain ⟨ao0,l0,c0,rfl,s0,n0,t0⟩:=z8a (hval 0 22 v0 rfl rfl) h0 z0
 clear hA0 hval0
 refine (walk W hk ao0 l0 c0 s0 n0 t0).mono fun e W' ⟨he,bel⟩=>?_
 subst he
 exact ⟨_,rfl,_,_,_,[],_,[],hW',trodAll_mk1 (shut_bool Tryz.underlying4 _),(trodAll_cons_mk (Below.trod z2g (by kernel_rfl) (of_decide_eq_true (by kernel_rfl)) k0 bel lt0) trodAll_mk0),rfl,bel.frame _,fun h=>by cases h⟩
theorem said:Rows.DagKeepsSaid :=
 OpenClaim.holds_of_cond 5 Tryz.f5 rfl rfl rfl rfl rfl rfl rfl ⟨rfl,rfl,rfl,rfl,rfl⟩ rfl rfl rfl rfl rfl (by kernel_rfl) Tryz.func5 (by kernel_rfl)
  (of_decide_eq_true (by kernel_rfl)) (by unfold Func.isWrapper;first | (rw [if_pos (by decide +kernel)];kernel_rfl) | (rw [if_neg (by decide +kernel)];exact ⟨rfl,rfl⟩))
  (fun os started H enc _ F=>by rw [OpenClaim.pre_eq_preRow];exact lifted os started H enc F)
theorem zbs (f : FuncId) (fn : Func) (hf : Tryz.pinned.checked.prog.funcNamed "tribunal/tribunallaw10.DagKeeps" = some f) (hfn : Tryz.pinned.checked.prog.funcs[f]? = some fn) :
 true = Tryz.pinned.checked.prog.looks [] ∧ ∀ (j:Nat) t,fn.params[j]? = some t → Tryz.pinned.checked.prog.wantsStandIn t = false:=by
 obtain rfl : f = 5 := Option.some.inj ((show Tryz.prog.funcNamed "tribunal/tribunallaw10.DagKeeps" = some 5 by kernel_rfl).symm.trans hf) |>.symm
 obtain rfl:fn = Tryz.f5:=(Option.some.inj (Tryz.func5.symm.trans hfn)).symm
 refine ⟨by kernel_rfl,fun j t ht=>?_⟩
 have hall:Tryz.f5.params.toList.all (fun t=>!Tryz.prog.wantsStandIn t) = true:=by kernel_rfl
 have hm:t ∈ Tryz.f5.params.toList:=Array.mem_toList_iff.2 (Array.mem_of_getElem? ht)
 have h0:=List.all_eq_true.1 hall t hm
 have h1:Tryz.prog.wantsStandIn t = false:=by simpa using h0
 exact h1
theorem proved:Rows.DagKeepsCardSaid :=
 Claim7.holds_tied_plain_at .later [] _ _ _ _ said (fun _ h=>by cases h) (by kernel_rfl) (fun _ h=>by cases h) dagKeeps_row_tie rfl ⟨rfl,rfl⟩ (by kernel_rfl) rfl zbs (by kernel_rfl)
#print axioms proved
end Go.Proofs.YtnbldbbbibpobaaGreatDoor.dagKeeps
