/-
  Joined: The document's At, waiting, whole: a set is looked through.; The document's Depth.; The developers' depth and fits.; A row behind a name grows, in a map: what holds while the statement's operations come up in whatever order.
-/
import Derived.Test.YthggbfgijeicbaaGreatDoorJ04
import Derived.Test.YthggbfgijeicbaaGreatDoorJ06
import Derived.Test.YthggbfgijeicbaaGreatDoorJ08
namespace Go.Proofs.YthggbfgijeicbaaGreatDoor
open Go.RowKit Go.BigFrame
theorem atN_here {L:List (List Nat)} {n:List Nat} {k:Nat} (hk:k < L.length) (he:L.getD k [] = n) (h:∀ j,j < k → L.getD j [] ≠ n):atN L n = k:=by
 have hm:n ∈ L:=by
  rw [← he,List.getD_eq_getElem?_getD,List.getElem?_eq_getElem hk]
  exact List.getElem_mem hk
 have h1:L.idxOf n = k:=by
  have hi:=List.idxOf_lt_length_of_mem hm
  have hg:L[L.idxOf n] = n:=List.getElem_idxOf hi
  rcases Nat.lt_trichotomy (L.idxOf n) k with hlt | heq | hgt
  ·refine absurd ?_ (h _ hlt)
   rw [List.getD_eq_getElem?_getD,List.getElem?_eq_getElem hi]
   exact hg
  ·exact heq
  ·have:=List.not_of_lt_findIdx (p:=(· == n)) (xs:=L) (i:=k) hgt
   rw [List.getD_eq_getElem?_getD,List.getElem?_eq_getElem hk] at he
   simp only [Option.getD_some] at he
   simp [he] at this
 rw [atN,if_pos hm,h1]
theorem atN_not {L:List (List Nat)} {n:List Nat} (h:∀ j,j < L.length → L.getD j [] ≠ n):atN L n = -1 ∧ n ∉ L:=by
 have hm:n ∉ L:=fun hm=>by
  obtain ⟨j,hj,he⟩:=List.getElem_of_mem hm
  refine h j hj ?_
  rw [List.getD_eq_getElem?_getD,List.getElem?_eq_getElem hj]
  exact he
 exact ⟨by rw [atN,if_neg hm],hm⟩
theorem atN_neg {L:List (List Nat)} {n:List Nat}:decide (atN L n < 0) = !decide (n ∈ L):=by
 rw [atN]
 by_cases hm:n ∈ L
 ·rw [if_pos hm]
  simp [hm]
 ·simp [hm]
set_option maxHeartbeats 2000000 in
set_option maxRecDepth 100000 in
theorem ref_at10 (X:Nat → Prop) (gs:Nat) (vo vw vn vq:Value) (s:DagN) (n:List Nat) (w:World) (h:RefAt X gs vo vw vn vq s w) (hn:n.length = 32) (hnl:∀ y ∈ n,y < 256) (hb:s.ops.length ≤ 1000000) :
 Calls Tryz.prog 21 #[.pointer (some ⟨gs,0,none⟩),.agg (nums .u8 n).toArray] w fun e w'=>e = .returned (.int .i64 (atN s.names n)) ∧ Below w.heap.size w w':=by
 obtain ⟨ao,cap,rfl⟩:=h.names.form
 have hm:s.names.length ≤ 1000000:=by rw [DagN.names,List.length_map];exact hb
 have hL:Ids s.names:=names_ok
 have hat:=h.names.at hL
 obtain ⟨L,hLE⟩:∃ L,s.names = L:=⟨_,rfl⟩
 rw [hLE] at h hm hL hat ⊢
 have hc:=h.cell.2.2.1
 have hgs:=h.cells.lt
 obtain ⟨m,hme⟩:∃ m,L.length = m:=⟨_,rfl⟩
 rw [hme] at hc hm h
 have HM:=Shut.mk hme
 have HL:=Lib.hid hL
 have b1:Below w.heap.size w (w.alloc (.cells (nums .u8 n).toArray 36)):=(Below.refl _ _).alloc (Nat.le_refl _) _
 have x1:Blk w.heap.size 36 .u8 n (w.alloc (.cells (nums .u8 n).toArray 36)):=heap_alloc_new w _
 have HB:=Lib.hid b1
 have HX:=Lib.hid x1
 have HAT:=Lib.hid (hat.below b1)
 have HC:=Lib.hid ((b1.cell (p:=⟨gs,2,none⟩) hgs).trans hc)
 have HG:=Lib.hid (show gs < (w.alloc (.cells (nums .u8 n).toArray 36)).heap.size from Nat.lt_of_lt_of_le hgs b1.size)
 have HN:=Lib.hid hn
 have HNL:=Lib.hid hnl
 have HSN:=Lib.hid (show (Tryz.prog.info? 36).map (·.size) = some n.length by rw [hn];exact Tryz.sizeI)
 clear h hLE hL hat hc hgs hme b1 x1 hn hnl hb
 go_enter Tryz.func21,Tryz.ntmps21
 go_upto_region 1 with (fail)
 obtain ⟨w1,hw1⟩:∃ x,x = w.alloc (.cells (nums .u8 n).toArray 36):=⟨_,rfl⟩
 rw [← hw1] at HB HX HAT HC HG ⊢
 clear hw1
 have hc:=HC.out
 go_wp2_with fail
 clear hc
 go_loopw [12] (fun i wr=>∃ k:Nat,k ≤ m ∧ i = .int .i64 k ∧ (∀ j,j < k → L.getD j [] ≠ n) ∧ Below w1.heap.size w1 wr) (fun i _=>m - (intOf i).toNat)
 case atStart=>exact ⟨0,Nat.zero_le _,rfl,fun j hj=>by omega,Below.refl _ _⟩
 case round =>
  obtain ⟨k,hk,rfl,hj,hbw⟩:=hrel
  have HJ:=Lib.hid hj
  have HBW:=Lib.hid hbw
  have HXW:=Lib.hid (HX.out.below hbw)
  have HATW:=Lib.hid (HAT.out.below hbw)
  clear hj hbw
  by_cases hlt:k < m
  ·obtain ⟨b,ob,rfl,hbl⟩:=HATW.out.some (by rw [HM.out];omega)
   have g1:=HATW.out.get (i:=k) (by rw [HM.out];omega)
   have i1:=Ids.getD HL.out (i:=k) (by rw [HM.out];omega)
   obtain ⟨x,hx⟩:∃ x,L.getD k [] = x:=⟨_,rfl⟩
   rw [hx] at g1 i1
   have HXE:=Shut.mk hx
   have HG1:=Lib.hid g1
   have HS1:=Lib.hid (show (Tryz.prog.info? 36).map (·.size) = some x.length by rw [i1.1];exact Tryz.sizeI)
   have HL2:=Lib.hid (show (List.replicate 32 0).length = x.length by rw [i1.1];rfl)
   have HEQ:=Lib.hid (fun w'=>equal_idI x n i1.1 HN.out i1.2 HNL.out w')
   have HXL:=Lib.hid i1.1
   have hxw:=HXW.out.lt
   have hgw:w.heap.size ≠ wr.heap.size:=by omega
   clear hx g1 i1 hbl hxw
   go_wp2_with (first
    | (refine wpList_load_id rfl 36 _ rfl b (ob + k * 32) x _ rfl HG1.out Tryz.underlying36 rfl HS1.out ?_)
    | (refine wpList_store_nums rfl 36 _ _ rfl rfl wr.heap.size .u8 (List.replicate 32 0) x 36 rfl rfl (heap_alloc_new wr _) HS1.out HL2.out ?_))
   intro w5 hc' hb'
   have HY:=Lib.hid hc'.out
   have HX5:=Lib.hid ((HXW.out.alloc _).but hb'.out hgw)
   have HB5:=Lib.hid (show Below w1.heap.size w1 w5 from But.toBelow (HBW.out.alloc HBW.out.size _) hb'.out HBW.out.size (Nat.le_trans HBW.out.size (by rw [World.size_alloc];exact Nat.le_succ _)))
   clear hc' hb' HL2 hgw
   have heq:=HEQ.out
   have hs1:=HS1.out
   obtain ⟨z,hz⟩:∃ z,(x == n) = z:=⟨_,rfl⟩
   rw [hz] at heq
   have HZ:=Shut.mk hz
   clear hz HEQ
   cases z with
   | true =>
     have HR:=Shut.mk (show atN L n = (k:Int) from atN_here (by rw [HM.out];exact hlt) (by rw [HXE.out];have:=HZ.out;simpa using this) HJ.out)
     go_wp2_with (first
      | (refine wpList_load_nums rfl 36 (.tmp 6) rfl wr.heap.size .u8 _ 36 _ rfl HY.out Tryz.underlying36 rfl HS1.out ?_)
      | (refine wpList_load_nums rfl 36 (.tmp 3) rfl w.heap.size .u8 _ 36 _ rfl HX5.out Tryz.underlying36 rfl HSN.out ?_))
     go_ret
     exact ⟨by rw [HR.out];rfl,HB.out.trans (HB5.out.mono HB.out.size)⟩
   | false =>
     have HNE:=Lib.hid (show x ≠ n by have:=HZ.out;simpa using this)
     go_wp2_with (first
      | (refine wpList_load_nums rfl 36 (.tmp 6) rfl wr.heap.size .u8 _ 36 _ rfl HY.out Tryz.underlying36 rfl HS1.out ?_)
      | (refine wpList_load_nums rfl 36 (.tmp 3) rfl w.heap.size .u8 _ 36 _ rfl HX5.out Tryz.underlying36 rfl HSN.out ?_))
     refine ⟨⟨k + 1,by omega,by go_num,fun q hq=>?_,HB5.out⟩,by simp [intOf];omega⟩
     by_cases hqj:q = k
     ·subst hqj
      rw [HXE.out]
      exact HNE.out
     ·exact HJ.out q (by omega)
  ·obtain rfl:k = m:=by omega
   have HR:=Shut.mk (show atN L n = -1 from (atN_not (fun j hj=>HJ.out j (by rw [← HM.out];exact hj))).1)
   go_wp2_with fail
   go_ret
   exact ⟨by rw [HR.out];rfl,HB.out.trans (HBW.out.mono HB.out.size)⟩
set_option maxHeartbeats 2000000 in
set_option maxRecDepth 100000 in
theorem ref_waiting (X:Nat → Prop) (gs:Nat) (vo vw vn vq:Value) (s:DagN) (n:List Nat) (w:World) (h:RefAt X gs vo vw vn vq s w) (hn:n.length = 32) (hnl:∀ y ∈ n,y < 256) (hb:s.wait.length ≤ 1000000) :
 Calls Tryz.prog 54 #[.pointer (some ⟨gs,0,none⟩),.agg (nums .u8 n).toArray] w fun e w'=>e = .returned (.bool (decide (n ∈ s.waits))) ∧ Below w.heap.size w w':=by
 obtain ⟨ao,cap,rfl⟩:=h.waits.form
 have hm:s.waits.length ≤ 1000000:=by rw [DagN.waits,List.length_map];exact hb
 have hL:Ids s.waits:=names_ok
 have hat:=h.waits.at hL
 obtain ⟨L,hLE⟩:∃ L,s.waits = L:=⟨_,rfl⟩
 rw [hLE] at h hm hL hat ⊢
 have hc:=h.cell.2.2.2
 have hgs:=h.cells.lt
 obtain ⟨m,hme⟩:∃ m,L.length = m:=⟨_,rfl⟩
 rw [hme] at hc hm h
 have HM:=Shut.mk hme
 have HL:=Lib.hid hL
 have b1:Below w.heap.size w (w.alloc (.cells (nums .u8 n).toArray 36)):=(Below.refl _ _).alloc (Nat.le_refl _) _
 have x1:Blk w.heap.size 36 .u8 n (w.alloc (.cells (nums .u8 n).toArray 36)):=heap_alloc_new w _
 have HB:=Lib.hid b1
 have HX:=Lib.hid x1
 have HAT:=Lib.hid (hat.below b1)
 have HC:=Lib.hid ((b1.cell (p:=⟨gs,3,none⟩) hgs).trans hc)
 have HG:=Lib.hid (show gs < (w.alloc (.cells (nums .u8 n).toArray 36)).heap.size from Nat.lt_of_lt_of_le hgs b1.size)
 have HN:=Lib.hid hn
 have HNL:=Lib.hid hnl
 have HSN:=Lib.hid (show (Tryz.prog.info? 36).map (·.size) = some n.length by rw [hn];exact Tryz.sizeI)
 clear h hLE hL hat hc hgs hme b1 x1 hn hnl hb
 go_enter Tryz.func54,Tryz.ntmps54
 go_upto_region 1 with (fail)
 obtain ⟨w1,hw1⟩:∃ x,x = w.alloc (.cells (nums .u8 n).toArray 36):=⟨_,rfl⟩
 rw [← hw1] at HB HX HAT HC HG ⊢
 clear hw1
 have hc:=HC.out
 go_wp2_with fail
 clear hc
 go_loopw [12] (fun i wr=>∃ k:Nat,k ≤ m ∧ i = .int .i64 k ∧ (∀ j,j < k → L.getD j [] ≠ n) ∧ Below w1.heap.size w1 wr) (fun i _=>m - (intOf i).toNat)
 case atStart=>exact ⟨0,Nat.zero_le _,rfl,fun j hj=>by omega,Below.refl _ _⟩
 case round =>
  obtain ⟨k,hk,rfl,hj,hbw⟩:=hrel
  have HJ:=Lib.hid hj
  have HBW:=Lib.hid hbw
  have HXW:=Lib.hid (HX.out.below hbw)
  have HATW:=Lib.hid (HAT.out.below hbw)
  clear hj hbw
  by_cases hlt:k < m
  ·obtain ⟨b,ob,rfl,hbl⟩:=HATW.out.some (by rw [HM.out];omega)
   have g1:=HATW.out.get (i:=k) (by rw [HM.out];omega)
   have i1:=Ids.getD HL.out (i:=k) (by rw [HM.out];omega)
   obtain ⟨x,hx⟩:∃ x,L.getD k [] = x:=⟨_,rfl⟩
   rw [hx] at g1 i1
   have HXE:=Shut.mk hx
   have HG1:=Lib.hid g1
   have HS1:=Lib.hid (show (Tryz.prog.info? 36).map (·.size) = some x.length by rw [i1.1];exact Tryz.sizeI)
   have HL2:=Lib.hid (show (List.replicate 32 0).length = x.length by rw [i1.1];rfl)
   have HEQ:=Lib.hid (fun w'=>equal_idI x n i1.1 HN.out i1.2 HNL.out w')
   have HXL:=Lib.hid i1.1
   have hxw:=HXW.out.lt
   have hgw:w.heap.size ≠ wr.heap.size:=by omega
   clear hx g1 i1 hbl hxw
   go_wp2_with (first
    | (refine wpList_load_id rfl 36 _ rfl b (ob + k * 32) x _ rfl HG1.out Tryz.underlying36 rfl HS1.out ?_)
    | (refine wpList_store_nums rfl 36 _ _ rfl rfl wr.heap.size .u8 (List.replicate 32 0) x 36 rfl rfl (heap_alloc_new wr _) HS1.out HL2.out ?_))
   intro w5 hc' hb'
   have HY:=Lib.hid hc'.out
   have HX5:=Lib.hid ((HXW.out.alloc _).but hb'.out hgw)
   have HB5:=Lib.hid (show Below w1.heap.size w1 w5 from But.toBelow (HBW.out.alloc HBW.out.size _) hb'.out HBW.out.size (Nat.le_trans HBW.out.size (by rw [World.size_alloc];exact Nat.le_succ _)))
   clear hc' hb' HL2 hgw
   have heq:=HEQ.out
   have hs1:=HS1.out
   obtain ⟨z,hz⟩:∃ z,(x == n) = z:=⟨_,rfl⟩
   rw [hz] at heq
   have HZ:=Shut.mk hz
   clear hz HEQ
   cases z with
   | true =>
     have HR:=Shut.mk (show decide (n ∈ L) = true from decide_eq_true (by rw [show n = L.getD k [] by rw [HXE.out];exact (by have:=HZ.out;simpa using this:x = n).symm,List.getD_eq_getElem?_getD,List.getElem?_eq_getElem (by rw [HM.out];exact hlt)];exact List.getElem_mem _))
     go_wp2_with (first
      | (refine wpList_load_nums rfl 36 (.tmp 6) rfl wr.heap.size .u8 _ 36 _ rfl HY.out Tryz.underlying36 rfl HS1.out ?_)
      | (refine wpList_load_nums rfl 36 (.tmp 3) rfl w.heap.size .u8 _ 36 _ rfl HX5.out Tryz.underlying36 rfl HSN.out ?_))
     go_ret
     exact ⟨by rw [HR.out];rfl,HB.out.trans (HB5.out.mono HB.out.size)⟩
   | false =>
     have HNE:=Lib.hid (show x ≠ n by have:=HZ.out;simpa using this)
     go_wp2_with (first
      | (refine wpList_load_nums rfl 36 (.tmp 6) rfl wr.heap.size .u8 _ 36 _ rfl HY.out Tryz.underlying36 rfl HS1.out ?_)
      | (refine wpList_load_nums rfl 36 (.tmp 3) rfl w.heap.size .u8 _ 36 _ rfl HX5.out Tryz.underlying36 rfl HSN.out ?_))
     refine ⟨⟨k + 1,by omega,by go_num,fun q hq=>?_,HB5.out⟩,by simp [intOf];omega⟩
     by_cases hqj:q = k
     ·subst hqj
      rw [HXE.out]
      exact HNE.out
     ·exact HJ.out q (by omega)
  ·obtain rfl:k = m:=by omega
   have HR:=Shut.mk (show decide (n ∈ L) = false from decide_eq_false (atN_not (fun j hj=>HJ.out j (by rw [← HM.out];exact hj))).2)
   go_wp2_with fail
   go_ret
   exact ⟨by rw [HR.out];rfl,HB.out.trans (HBW.out.mono HB.out.size)⟩
theorem wholeN_step {L P:List (List Nat)}:∀ (n:Nat),P.length = n → (∀ j,j < n → P.getD j [] ∈ L) → (P.all fun p=>decide (p ∈ L)) = true:=by
 intro n hn h
 rw [List.all_eq_true]
 intro p hp
 obtain ⟨j,hj,rfl⟩:=List.getElem_of_mem hp
 have:=h j (by omega)
 rw [List.getD_eq_getElem?_getD,List.getElem?_eq_getElem hj] at this
 exact decide_eq_true this
theorem wholeN_not {L P:List (List Nat)} {k:Nat} (hk:k < P.length) (h:P.getD k [] ∉ L):(P.all fun p=>decide (p ∈ L)) = false:=by
 rw [List.all_eq_false]
 refine ⟨P.getD k [],?_,by simpa using h⟩
 rw [List.getD_eq_getElem?_getD,List.getElem?_eq_getElem hk]
 exact List.getElem_mem hk
set_option maxHeartbeats 2000000 in
set_option maxRecDepth 100000 in
theorem ref_whole (X:Nat → Prop) (gs:Nat) (vo vw vn vq:Value) (s:DagN) (o:OpN) (pa:Option Addr) (pc:Nat) (w:World) (h:RefAt X gs vo vw vn vq s w) (ho:o.d.ref.length = 32) (hP:Ids o.preds) (hp:IAt pa o.preds w) (hq:o.preds.length ≤ 1000000) (hb:s.ops.length ≤ 1000000) :
 Calls Tryz.prog 55 #[.pointer (some ⟨gs,0,none⟩),.agg (opV o pa pc)] w fun e w'=>e = .returned (.bool (wholeN s.names o)) ∧ Below w.heap.size w w':=by
 obtain ⟨L,hLE⟩:∃ L,s.names = L:=⟨_,rfl⟩
 have HAT:=Lib.hid (fun (n:List Nat) (hn:n.length = 32) (hnl:∀ y ∈ n,y < 256) (w1:World) (b:Below w.heap.size w w1)=>show Calls Tryz.prog 21 #[.pointer (some ⟨gs,0,none⟩),.agg (nums .u8 n).toArray] w1 fun e w'=>e = .returned (.int .i64 (atN L n)) ∧ Below w1.heap.size w1 w' from hLE ▸ ref_at10 X gs vo vw vn vq s n w1 (h.below b) hn hnl hb)
 have HWE:=Shut.mk (show wholeN s.names o = o.preds.all fun p=>decide (p ∈ L) by rw [wholeN,hLE])
 obtain ⟨W,hW⟩:∃ W,wholeN s.names o = W:=⟨_,rfl⟩
 rw [hW] at HWE ⊢
 have b1:Below w.heap.size w (w.alloc (.cells (opV o pa pc) 40)):=(Below.refl _ _).alloc (Nat.le_refl _) _
 have x1:Cells w.heap.size 40 (opV o pa pc) (w.alloc (.cells (opV o pa pc) 40)):=heap_alloc_new w _
 have HB:=Lib.hid b1
 have HX:=Lib.hid x1
 have HPA:=Lib.hid (hp.below b1)
 have HO:=Lib.hid ho
 have HPI:=Lib.hid hP
 obtain ⟨m,hme⟩:∃ m,o.preds.length = m:=⟨_,rfl⟩
 have HM:=Shut.mk hme
 rw [hme] at hq
 clear h hLE hW b1 x1 hp ho hP hme hb
 go_enter Tryz.func55,Tryz.ntmps55
 go_upto_region 1 with (fail)
 obtain ⟨w1,hw1⟩:∃ x,x = w.alloc (.cells (opV o pa pc) 40):=⟨_,rfl⟩
 rw [← hw1] at HB HX HPA ⊢
 clear hw1
 obtain ⟨_,_,_,c37⟩:=op_cells HO.out HX.out
 rw [HM.out] at c37
 go_wp2_with fail
 clear c37
 go_loopw [10] (fun i wr=>∃ k:Nat,k ≤ m ∧ i = .int .i64 k ∧ (∀ j,j < k → o.preds.getD j [] ∈ L) ∧ Below w1.heap.size w1 wr) (fun i _=>m - (intOf i).toNat)
 case atStart=>exact ⟨0,Nat.zero_le _,rfl,fun j hj=>by omega,Below.refl _ _⟩
 case round =>
  obtain ⟨k,hk,rfl,hj,hbw⟩:=hrel
  have HJ:=Lib.hid hj
  have HBW:=Lib.hid hbw
  have HPW:=Lib.hid (HPA.out.below hbw)
  clear hj hbw
  by_cases hlt:k < m
  ·obtain ⟨b,ob,rfl,hbl⟩:=HPW.out.some (by rw [HM.out];omega)
   have g1:=HPW.out.get (i:=k) (by rw [HM.out];omega)
   have i1:=Ids.getD HPI.out (i:=k) (by rw [HM.out];omega)
   obtain ⟨x,hx⟩:∃ x,o.preds.getD k [] = x:=⟨_,rfl⟩
   rw [hx] at g1 i1
   have HXE:=Shut.mk hx
   have HG1:=Lib.hid g1
   have HS1:=Lib.hid (show (Tryz.prog.info? 36).map (·.size) = some x.length by rw [i1.1];exact Tryz.sizeI)
   have HL2:=Lib.hid (show (List.replicate 32 0).length = x.length by rw [i1.1];rfl)
   have HC:=Lib.hid (fun w1 b=>HAT.out x i1.1 i1.2 w1 b)
   obtain ⟨q,hq2⟩:∃ q,atN L x = q:=⟨_,rfl⟩
   rw [hq2] at HC
   have HQ:=Shut.mk (show decide (q < 0) = !decide (x ∈ L) by rw [← hq2,atN_neg])
   clear hx g1 i1 hbl hq2
   go_wp2_with (first
    | (refine wpList_load_id rfl 36 _ rfl b (ob + k * 32) x _ rfl HG1.out Tryz.underlying36 rfl HS1.out ?_)
    | (refine wpList_store_nums rfl 36 _ _ rfl rfl wr.heap.size .u8 (List.replicate 32 0) x 36 rfl rfl (heap_alloc_new wr _) HS1.out HL2.out ?_))
   intro w5 hc' hb'
   have HY:=Lib.hid hc'.out
   have HB5:=Lib.hid (show Below w1.heap.size w1 w5 from But.toBelow (HBW.out.alloc HBW.out.size _) hb'.out HBW.out.size (Nat.le_trans HBW.out.size (by rw [World.size_alloc];exact Nat.le_succ _)))
   clear hc' hb' HL2
   go_wp2_with (refine wpList_load_nums rfl 36 (.tmp 6) rfl wr.heap.size .u8 _ 36 _ rfl HY.out Tryz.underlying36 rfl HS1.out ?_)
   refine (HC.out _ (HB.out.trans (HB5.out.mono HB.out.size))).mono ?_
   rintro e w6 ⟨rfl,hb6⟩
   have HB6:=Lib.hid (HB5.out.trans (hb6.mono HB5.out.size))
   clear hb6
   by_cases hin:x ∈ L
   ·have hqn:¬ q < 0:=by have:=HQ.out;simpa [hin] using this
    have HIN:=Lib.hid hin
    clear hin
    go_wp2_with fail
    refine ⟨⟨k + 1,by omega,by go_num,fun i hi=>?_,HB6.out⟩,by simp [intOf];omega⟩
    by_cases hqj:i = k
    ·subst hqj
     rw [HXE.out]
     exact HIN.out
    ·exact HJ.out i (by omega)
   ·have hqn:q < 0:=by have:=HQ.out;simpa [hin] using this
    have HR:=Shut.mk (show W = false by rw [HWE.out];exact wholeN_not (by rw [HM.out];exact hlt) (by rw [HXE.out];exact hin))
    clear hin
    go_wp2_with fail
    go_ret
    exact ⟨by rw [HR.out];rfl,HB.out.trans (HB6.out.mono HB.out.size)⟩
  ·obtain rfl:k = m:=by omega
   have HR:=Shut.mk (show W = true by rw [HWE.out];exact wholeN_step k HM.out HJ.out)
   go_wp2_with fail
   go_ret
   exact ⟨by rw [HR.out];rfl,HB.out.trans (HBW.out.mono HB.out.size)⟩
end Go.Proofs.YthggbfgijeicbaaGreatDoor
namespace Go.Proofs.YthggbfgijeicbaaGreatDoor
open Go.RowKit Go.BigFrame
theorem maxD_step {ops:List OpN} {P:List (List Nat)} {k:Nat} (hk:k < P.length):maxD ops (P.take (k + 1)) = if maxD ops (P.take k) < depthAt ops (P.getD k []) then depthAt ops (P.getD k []) else maxD ops (P.take k):=by
 rw [maxD,maxD,List.take_succ_eq_append_getElem hk,List.foldl_append,List.foldl_cons,List.foldl_nil,List.getD_eq_getElem?_getD,List.getElem?_eq_getElem hk]
 rfl
theorem at_of_mem {ops:List OpN} {x:List Nat} (h:x ∈ ops.map nameN):∃ (q:Nat) (y:OpN),q < ops.length ∧ atN (ops.map nameN) x = (q:Int) ∧ ops[q]? = some y ∧ nameN y = x ∧ depthAt ops x = y.depth:=by
 have hi:=List.idxOf_lt_length_of_mem h
 have hl:(ops.map nameN).length = ops.length:=List.length_map _
 have hg:(ops.map nameN)[(ops.map nameN).idxOf x] = x:=List.getElem_idxOf hi
 rw [hl] at hi
 refine ⟨(ops.map nameN).idxOf x,ops[(ops.map nameN).idxOf x],hi,by rw [atN,if_pos h],List.getElem?_eq_getElem hi,?_,?_⟩
 ·rw [List.getElem_map] at hg
  exact hg
 ·rw [depthAt,List.getElem?_eq_getElem hi]
  rfl
theorem opL_depth {x:OpN} {pa:Option Addr} {pc:Nat} (hr:x.d.ref.length = 32):(opL x pa pc)[36]? = some (.int .i64 x.depth):=by
 rw [opL,List.getElem?_append_right (by rw [draftL_len hr];omega),draftL_len hr]
 rfl
set_option maxHeartbeats 4000000 in
set_option maxRecDepth 100000 in
theorem ref_depth (X:Nat → Prop) (gs:Nat) (vo vw vn vq:Value) (s:DagN) (o:OpN) (pa:Option Addr) (pc:Nat) (w:World) (h:RefAt X gs vo vw vn vq s w) (hrr:∀ x ∈ s.ops,x.d.ref.length = 32) (ho:o.d.ref.length = 32) (hP:Ids o.preds) (hp:IAt pa o.preds w) (hq:o.preds.length ≤ 1000000) (hb:s.ops.length ≤ 1000000)
 (hsh:s.Shallow) (hwh:∀ x ∈ o.preds,x ∈ s.names) :
 Calls Tryz.prog 56 #[.pointer (some ⟨gs,0,none⟩),.agg (opV o pa pc)] w fun e w'=>e = .returned (.int .i64 (depthN s.ops o)) ∧ Below w.heap.size w w':=by
 obtain ⟨vb,cap,rfl⟩:=h.ops.form
 have hat:=h.ops.at
 have HAT:=Lib.hid (fun (n:List Nat) (hn:n.length = 32) (hnl:∀ y ∈ n,y < 256) (w1:World) (b:Below w.heap.size w w1)=>ref_at10 X gs _ vw vn vq s n w1 (h.below b) hn hnl hb)
 have HMD:=Lib.hid (fun P:List (List Nat)=>show 0 ≤ maxD s.ops P ∧ maxD s.ops P ≤ 1000000 from ⟨(maxD_le hsh (by omega) P).1,Int.le_trans (maxD_le hsh (by omega) P).2 (by omega)⟩)
 have hc:=h.cell.1
 have hgs:=h.cells.lt
 have b1:Below w.heap.size w (w.alloc (.cells (opV o pa pc) 40)):=(Below.refl _ _).alloc (Nat.le_refl _) _
 have x1:Cells w.heap.size 40 (opV o pa pc) (w.alloc (.cells (opV o pa pc) 40)):=heap_alloc_new w _
 have HB:=Lib.hid b1
 have HX:=Lib.hid x1
 have HPA:=Lib.hid (hp.below b1)
 have HO:=Lib.hid ho
 have HPI:=Lib.hid hP
 have HRR:=Lib.hid hrr
 have HWH:=Lib.hid hwh
 obtain ⟨N,hN⟩:∃ N,s.ops.length = N:=⟨_,rfl⟩
 have HN:=Shut.mk hN
 rw [hN] at hc
 have HC:=Lib.hid (fun (w1:World) (b:Below w.heap.size w w1)=>(b.cell (p:=⟨gs,0,none⟩) hgs).trans hc)
 have HOA:=Lib.hid (fun (w1:World) (b:Below w.heap.size w w1)=>hat.below b)
 obtain ⟨m,hme⟩:∃ m,o.preds.length = m:=⟨_,rfl⟩
 have HM:=Shut.mk hme
 rw [hme] at hq
 rw [hN] at hb
 have HDE:=Shut.mk (show depthN s.ops o = maxD s.ops o.preds + 1 from rfl)
 obtain ⟨DD,hDD⟩:∃ DD,depthN s.ops o = DD:=⟨_,rfl⟩
 rw [hDD] at HDE ⊢
 clear h hat b1 x1 hp ho hP hme hrr hwh hsh hc hgs hN hDD
 go_enter Tryz.func56,Tryz.ntmps56
 go_upto_region 1 with (fail)
 obtain ⟨w1,hw1⟩:∃ x,x = w.alloc (.cells (opV o pa pc) 40):=⟨_,rfl⟩
 rw [← hw1] at HB HX HPA ⊢
 clear hw1
 obtain ⟨_,_,_,c37⟩:=op_cells HO.out HX.out
 rw [HM.out] at c37
 go_wp2_with fail
 clear c37
 go_loopw [5,12] (fun v i wr=>∃ k:Nat,k ≤ m ∧ i = .int .i64 k ∧ v = .int .i64 (maxD s.ops (o.preds.take k)) ∧ Below w1.heap.size w1 wr) (fun _ i _=>m - (intOf i).toNat)
 case atStart=>exact ⟨0,Nat.zero_le _,rfl,rfl,Below.refl _ _⟩
 case round =>
  obtain ⟨k,hk,rfl,rfl,hbw⟩:=hrel
  have HBW:=Lib.hid hbw
  have HPW:=Lib.hid (HPA.out.below hbw)
  clear hbw
  by_cases hlt:k < m
  ·obtain ⟨b,ob,rfl,hbl⟩:=HPW.out.some (by rw [HM.out];omega)
   have g1:=HPW.out.get (i:=k) (by rw [HM.out];omega)
   have i1:=Ids.getD HPI.out (i:=k) (by rw [HM.out];omega)
   have HST:=Shut.mk (maxD_step (ops:=s.ops) (P:=o.preds) (k:=k) (by rw [HM.out];omega))
   have hmem:o.preds.getD k [] ∈ s.names:=HWH.out _ (by rw [List.getD_eq_getElem?_getD,List.getElem?_eq_getElem (by rw [HM.out];exact hlt)];exact List.getElem_mem _)
   obtain ⟨x,hx⟩:∃ x,o.preds.getD k [] = x:=⟨_,rfl⟩
   rw [hx] at g1 i1 HST hmem
   obtain ⟨q,y,hqN,haq,hy,_,hdy⟩:=at_of_mem hmem
   rw [HN.out] at hqN
   obtain ⟨bo,oo,rfl,hbo,hO⟩:=(HOA.out w (Below.refl _ _)).get hy
   obtain ⟨py,cy,hr1,_,_⟩:=hO
   have hd0:=hr1 36 _ (opL_depth (HRR.out y (List.mem_of_getElem? hy)))
   rw [hdy] at HST
   obtain ⟨D,hD⟩:∃ D,y.depth = D:=⟨_,rfl⟩
   rw [hD] at HST hd0
   obtain ⟨M,hM⟩:∃ M,maxD s.ops (o.preds.take k) = M:=⟨_,rfl⟩
   rw [hM] at HST ⊢
   have HD0:=Lib.hid (fun (w1:World) (b:Below w.heap.size w w1)=>(b.cell (p:=⟨bo,oo + q * 38 + 36,none⟩) hbo).trans hd0)
   have HG1:=Lib.hid g1
   have HS1:=Lib.hid (show (Tryz.prog.info? 36).map (·.size) = some x.length by rw [i1.1];exact Tryz.sizeI)
   have HL2:=Lib.hid (show (List.replicate 32 0).length = x.length by rw [i1.1];rfl)
   have HCA:=Lib.hid (fun w1 b=>show Calls Tryz.prog 21 #[.pointer (some ⟨gs,0,none⟩),.agg (nums .u8 x).toArray] w1 fun e w'=>e = .returned (.int .i64 (q:Int)) ∧ Below w1.heap.size w1 w' from haq ▸ HAT.out x i1.1 i1.2 w1 b)
   clear hx g1 i1 hbl hmem haq hy hdy hr1 hd0 hD hM
   go_wp2_with (first
    | (refine wpList_load_id rfl 36 _ rfl b (ob + k * 32) x _ rfl HG1.out Tryz.underlying36 rfl HS1.out ?_)
    | (refine wpList_store_nums rfl 36 _ _ rfl rfl wr.heap.size .u8 (List.replicate 32 0) x 36 rfl rfl (heap_alloc_new wr _) HS1.out HL2.out ?_))
   intro w5 hc' hb'
   have HY:=Lib.hid hc'.out
   have HB5:=Lib.hid (show Below w1.heap.size w1 w5 from But.toBelow (HBW.out.alloc HBW.out.size _) hb'.out HBW.out.size (Nat.le_trans HBW.out.size (by rw [World.size_alloc];exact Nat.le_succ _)))
   clear hc' hb' HL2
   have HB0:=Lib.hid (HB.out.trans (HB5.out.mono HB.out.size))
   have HC5:=Lib.hid (fun (w':World) (b:Below w5.heap.size w5 w')=>HC.out w' (HB0.out.trans (b.mono HB0.out.size)))
   have HD5:=Lib.hid (fun (w':World) (b:Below w5.heap.size w5 w')=>HD0.out w' (HB0.out.trans (b.mono HB0.out.size)))
   have HY5:=Lib.hid (fun (w':World) (b:Below w5.heap.size w5 w')=>HY.out.below b)
   have HCA5:=Lib.hid (fun (w':World) (b:Below w5.heap.size w5 w')=>HCA.out w' (HB0.out.trans (b.mono HB0.out.size)))
   clear HCA HD0 HY
   go_upto_region 5 with (fail)
   refine wp_region_class (fun w'=>Below w5.heap.size w5 w') (by kernel_rfl) (by kernel_rfl) (Below.refl _ _).drew ?_
   repeat (first
    | go_big_quiet_skip
    | (go_big_quiet_want;refine quiet_load_cell 29 _ rfl ⟨gs,0,none⟩ _ rfl HC5.out Tryz.isAgg29 ?_;go_big_quiet_on;simp only [Act.put,List.setIfInBounds_toArray,List.set_cons_zero,List.set_cons_succ])
    | (go_big_quiet_want;refine quiet_load_nums 36 _ rfl wr.heap.size .u8 x 36 _ rfl HY5.out Tryz.underlying36 rfl HS1.out ?_;go_big_quiet_on;simp only [Act.put,List.setIfInBounds_toArray,List.set_cons_zero,List.set_cons_succ])
    | (go_big_quiet_want;refine quiet_load_cell 3 _ rfl ⟨bo,oo + q * 38 + 36,none⟩ _ rfl HD5.out Tryz.isAgg3 ?_;go_big_quiet_on;simp only [Act.put,List.setIfInBounds_toArray,List.set_cons_zero,List.set_cons_succ])
    | go_big_quiet_step ((intro hs';first
     | (go_at_call 21;exact (HCA5.out _ hs').mono fun e w' h=>⟨h.1,hs'.trans (h.2.mono hs'.size)⟩)
     | rfl)))
   refine wpQuiet_nil ?_
   intro w6 hb6
   have HB6:=Lib.hid (HB5.out.trans (hb6.mono HB5.out.size))
   clear hb6 HC5 HD5 HY5 HCA5
   by_cases hmd:M < D
   ·rw [if_pos hmd] at HST
    go_wp2_with fail
    exact ⟨⟨k + 1,by omega,by go_num,by rw [HST.out],HB6.out⟩,by simp [intOf];omega⟩
   ·rw [if_neg hmd] at HST
    go_wp2_with fail
    exact ⟨⟨k + 1,by omega,by go_num,by rw [HST.out],HB6.out⟩,by simp [intOf];omega⟩
  ·obtain rfl:k = m:=by omega
   have HR:=Shut.mk (show DD = maxD s.ops (o.preds.take k) + 1 by rw [HDE.out,List.take_of_length_le (Nat.le_of_eq HM.out)])
   have hmd:=HMD.out (o.preds.take k)
   obtain ⟨M,hM⟩:∃ M,maxD s.ops (o.preds.take k) = M:=⟨_,rfl⟩
   rw [hM] at HR hmd ⊢
   obtain ⟨hm1,hm2⟩:=hmd
   clear hM
   go_wp2_with fail
   go_ret
   exact ⟨by rw [HR.out];rfl,HB.out.trans (HBW.out.mono HB.out.size)⟩
end Go.Proofs.YthggbfgijeicbaaGreatDoor
namespace Go.Proofs.YthggbfgijeicbaaGreatDoor
open Go.RowKit Go.BigFrame
theorem depthAt_get {L:List OpN} (hd:(L.map nameN).Nodup) {i:Nat} {x:OpN} (h:L[i]? = some x):depthAt L (nameN x) = x.depth:=by
 have hi:=(List.getElem?_eq_some_iff.1 h).1
 have hm:nameN x ∈ L.map nameN:=List.mem_map.2 ⟨x,List.mem_of_getElem? h,rfl⟩
 have hx:=List.idxOf_lt_length_of_mem hm
 have h1:(L.map nameN)[(L.map nameN).idxOf (nameN x)]? = (L.map nameN)[i]?:=by
  rw [List.getElem?_eq_getElem hx,List.getElem_idxOf hx,List.getElem?_map,h]
  rfl
 have h2:=(List.getElem?_inj hx hd).1 h1
 rw [depthAt,h2,h]
 rfl
theorem depthAt_not {L:List OpN} {n:List Nat} (h:n ∉ L.map nameN):depthAt L n = 0:=by
 rw [depthAt,List.getElem?_eq_none]
 ·rfl
 ·rw [List.idxOf_eq_length h,List.length_map]
  exact Nat.le_refl _
set_option maxRecDepth 100000 in
theorem quiet_depth {o:Oper} {a:Act} {C:World → Prop} {K:Act → Prop} (x:Operand) (ho:o.op = .field 40 x 2) (y:OpN) (pa:Option Addr) (pc:Nat) (hy:y.d.ref.length = 32) (hx:a.eval x = .agg (opV y pa pc)) (hk:K (a.put o.dst (.int .i64 y.depth))):o.quiet Tryz.prog a C K:=by
 have hc:(opV y pa pc)[36]? = some (.int .i64 y.depth):=by rw [opV,List.getElem?_toArray];exact opL_depth hy
 refine ⟨_,fun w _=>?_,hk⟩
 unfold Oper.quietAt execOp
 have hr:(Instr.field 40 (.agg (opV y pa pc)) 2).run Tryz.prog w = .ok (.int .i64 y.depth) w:=by
  obtain ⟨Z,hZ⟩:∃ Z,opV y pa pc = Z:=⟨_,rfl⟩
  rw [hZ] at hc ⊢
  go_simp
  exact part_cell (Tryz.isAgg3 w) hc
 simp only [ho,hx,hr,Sem.run_bind,Sem.run_pure,Result.andThen_ok]
 exact ⟨rfl,rfl⟩
set_option maxHeartbeats 4000000 in
set_option maxRecDepth 100000 in
theorem dev_depth (X:Nat → Prop) (B:Bs) (T:Ents) (s:DagN) (hs:List (List Nat)) (M:Bh) (P:List (List Nat)) (pa:Option Addr) (m pc:Nat) (w:World) (h:SetAt X B T s hs M w) (hP:Ids P) (hp:IAt pa P w) (hm:P.length = m) (hq:m ≤ 1000000) (hro:∀ x ∈ s.ops,x.d.ref.length = 32) (hsh:s.Shallow) (hb:s.ops.length ≤ 1000000) :
 Calls Tryz.prog 74 #[.pointer (some ⟨B.gs,0,none⟩),.slice pa m pc] w fun e w'=>e = .returned (.int .i64 (maxD s.ops P + 1)) ∧ Below w.heap.size w w':=by
 have HLK:=Lib.hid (fun n=>show ∃ (x:OpN) (qa:Option Addr) (qc:Nat),atE T.p (.agg (opV zeroO none 0)) n = .agg (opV x qa qc) ∧ x.d.ref.length = 32 ∧ depthAt s.ops n = x.depth from by
  obtain ⟨x,qa,qc,e1,_,e3,_,e5⟩:=ents_look h.ops h.pm.nodup hro n
  refine ⟨x,qa,qc,e1,e3,?_⟩
  rcases e5 with ⟨_,_,e,_,_,i,hi,_⟩ | ⟨e,rfl,_⟩
  ·rw [← e]
   exact depthAt_get (by rw [← h.ops.keys];exact h.pm.nodup) hi
  ·exact depthAt_not e)
 have HMD:=Lib.hid (fun P:List (List Nat)=>show 0 ≤ maxD s.ops P ∧ maxD s.ops P ≤ 1000000 from ⟨(maxD_le hsh (by omega) P).1,Int.le_trans (maxD_le hsh (by omega) P).2 (by omega)⟩)
 have HS:=Lib.hid h
 have HPA:=Lib.hid hp
 have HPI:=Lib.hid hP
 have HM:=Shut.mk hm
 clear h hp hP hm hro hsh hb
 go_enter Tryz.func74,Tryz.ntmps74
 go_upto_region 2 with (fail)
 go_wp2_with fail
 have H0:=Shut.mk (show maxD s.ops (P.take 0) = 0 from rfl)
 go_loopw [10,5] (fun i g wr=>∃ k:Nat,k ≤ m ∧ i = .int .i64 k ∧ g = .int .i64 (maxD s.ops (P.take k)) ∧ Below w.heap.size w wr) (fun i _ _=>m - (intOf i).toNat)
 case atStart=>exact ⟨0,Nat.zero_le _,rfl,by rw [H0.out],Below.refl _ _⟩
 case round =>
  obtain ⟨k,hk,rfl,rfl,hbw⟩:=hrel
  have HB:=Lib.hid hbw
  have HPW:=Lib.hid (HPA.out.below hbw)
  have HSW:=Lib.hid (HS.out.below hbw)
  clear hbw
  have hmd:=HMD.out (P.take k)
  obtain ⟨D,hD⟩:∃ D,maxD s.ops (P.take k) = D:=⟨_,rfl⟩
  rw [hD] at hmd ⊢
  have HD:=Shut.mk hD
  clear hD
  by_cases hlt:k < m
  ·obtain ⟨b,ob,rfl,hbl⟩:=HPW.out.some (by rw [HM.out];omega)
   have g1:=HPW.out.get (i:=k) (by rw [HM.out];omega)
   have i1:=Ids.getD HPI.out (i:=k) (by rw [HM.out];omega)
   obtain ⟨x,hx⟩:∃ x,P.getD k [] = x:=⟨_,rfl⟩
   rw [hx] at g1 i1
   have HXE:=Shut.mk hx
   have HXI:=Lib.hid i1
   have HG1:=Lib.hid g1
   have HS1:=Lib.hid (show (Tryz.prog.info? 36).map (·.size) = some x.length by rw [i1.1];exact Tryz.sizeI)
   have HL2:=Lib.hid (show (List.replicate 32 0).length = x.length by rw [i1.1];rfl)
   obtain ⟨y,qa,qc,e1,e2,e3⟩:=HLK.out x
   have HE1:=Shut.mk e1
   have HE2:=Lib.hid e2
   have HNX:=Shut.mk (show maxD s.ops (P.take (k + 1)) = if D < y.depth then y.depth else D by rw [maxD_step (by rw [HM.out];exact hlt),hx,HD.out,e3])
   clear hx g1 i1 hbl e1 e2 e3
   go_wp2_with (first
    | (refine wpList_load_id rfl 36 _ rfl b (ob + k * 32) x _ rfl HG1.out Tryz.underlying36 rfl HS1.out ?_)
    | (refine wpList_store_nums rfl 36 _ _ rfl rfl wr.heap.size .u8 (List.replicate 32 0) x 36 rfl rfl (heap_alloc_new wr _) HS1.out HL2.out ?_))
   intro w5 hc' hb'
   have HB5a:=Lib.hid (show Below wr.heap.size wr w5 from But.toBelow ((Below.refl _ _).alloc (Nat.le_refl _) _) hb'.out (Nat.le_refl _) (by rw [World.size_alloc];exact Nat.le_succ _))
   have HB5:=Lib.hid (HB.out.trans (HB5a.out.mono HB.out.size))
   have HS5:=Lib.hid (fun w' (hb:Below w5.heap.size w5 w')=>(HSW.out.below HB5a.out).below hb)
   have HC5:=Lib.hid (fun w' (hb:Below w5.heap.size w5 w')=>show Blk wr.heap.size 36 .u8 x w' from Blk.below (show Blk wr.heap.size 36 .u8 x w5 from hc'.out) hb)
   clear hc' hb'
   go_upto_region 5 with (fail)
   have HCE:=Lib.hid (fun w' (hb:Below w5.heap.size w5 w')=>(HS5.out w' hb).cell.1)
   refine wp_region_class_tail (fun w'=>Below w5.heap.size w5 w') 9 (by kernel_rfl) (by kernel_rfl) (Below.refl _ _).drew ?_
   simp only [List.take_succ_cons,List.take_zero,List.drop_succ_cons,List.drop_zero]
   repeat (first
    | (go_big_quiet_want;refine quiet_load_cell 79 _ rfl ⟨B.gs,0,none⟩ _ rfl HCE.out Tryz.isAgg79 ?_;go_big_quiet_on;simp only [Act.put,List.setIfInBounds_toArray,List.set_cons_zero,List.set_cons_succ])
    | (go_big_quiet_want;refine quiet_load_nums 36 _ rfl wr.heap.size .u8 x 36 _ rfl HC5.out Tryz.underlying36 rfl HS1.out ?_;go_big_quiet_on;simp only [Act.put,List.setIfInBounds_toArray,List.set_cons_zero,List.set_cons_succ])
    | (go_big_quiet_want;refine quiet_lookup_id _ _ 79 36 40 false rfl Tryz.idKey Tryz.underlying79 (.agg (opV zeroO none 0)) zero_op B.p T.p (fun w' hb=>(HS5.out w' hb).pm) x HXI.out rfl rfl _ HE1.out ?_;go_big_quiet_on;simp only [Act.put,List.setIfInBounds_toArray,List.set_cons_zero,List.set_cons_succ])
    | (go_big_quiet_want;refine quiet_depth _ rfl y qa qc HE2.out rfl ?_;go_big_quiet_on;simp only [Act.put,List.setIfInBounds_toArray,List.set_cons_zero,List.set_cons_succ])
    | go_big_quiet_step ((intro hs';rfl)))
   refine wpQuiet_nil ?_
   intro w6 hs6
   have HB6:=Lib.hid (HB5.out.trans (hs6.mono HB5.out.size))
   clear hs6
   obtain ⟨D2,hD2⟩:∃ D2,(if D < y.depth then y.depth else D) = D2:=⟨_,rfl⟩
   have HN2:=Shut.mk (HNX.out.trans hD2)
   have hD3:max D y.depth = D2:=by rw [← hD2];split <;> omega
   first | rw [hD2] | rw [hD3]
   clear hD2 hD3 HNX
   go_wp2_with fail
   exact ⟨⟨k + 1,by omega,by go_num,by rw [HN2.out],HB6.out⟩,by simp [intOf];omega⟩
  ·obtain rfl:k = m:=by omega
   have HR:=Shut.mk (show maxD s.ops P = D by rw [← HD.out,List.take_of_length_le (by rw [HM.out];exact Nat.le_refl _)])
   go_wp2_with fail
   go_ret
   exact ⟨by rw [HR.out];rfl,HB.out⟩
set_option maxHeartbeats 4000000 in
set_option maxRecDepth 100000 in
theorem dev_fits (X:Nat → Prop) (B:Bs) (T:Ents) (s:DagN) (hs:List (List Nat)) (M:Bh) (o:OpN) (pa:Option Addr) (pc:Nat) (w:World) (h:SetAt X B T s hs M w) (ho:o.d.ref.length = 32) (hP:Ids o.preds) (hp:IAt pa o.preds w) (hq:o.preds.length ≤ 1000000) (hro:∀ x ∈ s.ops,x.d.ref.length = 32) (hsh:s.Shallow) (hb:s.ops.length ≤ 1000000) :
 Calls Tryz.prog 49 #[.pointer (some ⟨B.gs,0,none⟩),.agg (opV o pa pc)] w fun e w'=>e = .returned (.bool (decide (o.depth = depthN s.ops o))) ∧ Below w.heap.size w w':=by
 have b1:Below w.heap.size w (w.alloc (.cells (opV o pa pc) 40)):=(Below.refl _ _).alloc (Nat.le_refl _) _
 have x1:Cells w.heap.size 40 (opV o pa pc) (w.alloc (.cells (opV o pa pc) 40)):=heap_alloc_new w _
 have HB:=Lib.hid b1
 have HX:=Lib.hid x1
 obtain ⟨m,hm⟩:∃ m,o.preds.length = m:=⟨_,rfl⟩
 have HD:=Lib.hid (fun w1 (b:Below w.heap.size w w1)=>dev_depth X B T s hs M o.preds pa m pc w1 (h.below b) hP (hp.below b) hm (hm ▸ hq) hro hsh hb)
 have HE:=Shut.mk (show depthN s.ops o = maxD s.ops o.preds + 1 from rfl)
 obtain ⟨DD,hDD⟩:∃ DD,depthN s.ops o = DD:=⟨_,rfl⟩
 rw [hDD] at HE ⊢
 rw [← HE.out] at HD
 have HO:=Lib.hid ho
 have HM:=Shut.mk hm
 clear h b1 x1 hp ho hP hm hro hsh hb hq HE hDD
 go_enter Tryz.func49,Tryz.ntmps49
 go_upto_region 1 with (fail)
 obtain ⟨w1,hw1⟩:∃ x,x = w.alloc (.cells (opV o pa pc) 40):=⟨_,rfl⟩
 rw [← hw1] at HB HX ⊢
 clear hw1
 have HC36:=Lib.hid (fun w' (hb:Below w1.heap.size w1 w')=>(op_cells HO.out (HX.out.below hb)).2.2.1)
 have HC37:=Lib.hid (fun w' (hb:Below w1.heap.size w1 w')=>(op_cells HO.out (HX.out.below hb)).2.2.2)
 rw [HM.out] at HC37
 have HD1:=Lib.hid (fun w' (hb:Below w1.heap.size w1 w')=>HD.out w' (HB.out.trans (hb.mono HB.out.size)))
 refine wp_region_class_tail (fun w'=>Below w1.heap.size w1 w') 7 (by kernel_rfl) (by kernel_rfl) (Below.refl _ _).drew ?_
 simp only [List.take_succ_cons,List.take_zero,List.drop_succ_cons,List.drop_zero]
 repeat (first
  | (go_big_quiet_want;refine quiet_load_cell 3 _ rfl ⟨w.heap.size,36,none⟩ _ rfl HC36.out Tryz.isAgg3 ?_;go_big_quiet_on;simp only [Act.put,List.setIfInBounds_toArray,List.set_cons_zero,List.set_cons_succ])
  | (go_big_quiet_want;refine quiet_load_cell 31 _ rfl ⟨w.heap.size,37,none⟩ _ rfl HC37.out Tryz.isAgg31 ?_;go_big_quiet_on;simp only [Act.put,List.setIfInBounds_toArray,List.set_cons_zero,List.set_cons_succ])
  | go_big_quiet_step ((intro hs';first
   | (go_at_call 74;exact (HD1.out _ hs').mono fun e w' h=>⟨h.1,hs'.trans (h.2.mono hs'.size)⟩)
   | rfl)))
 refine wpQuiet_nil ?_
 intro w6 hs6
 have HB6:=Lib.hid (HB.out.trans (hs6.mono HB.out.size))
 clear hs6
 go_wp2_with fail
 go_ret
 exact ⟨by congr 2,HB6.out⟩
end Go.Proofs.YthggbfgijeicbaaGreatDoor
namespace Go.Proofs.YthggbfgijeicbaaGreatDoor
open Go.RowKit Go.BigFrame
theorem op_mapEntry {P:Program} {o:Oper} {a:Act} {w:World} {K:Act → World → Prop} {Q:Exit → Act → World → Prop} (m x:Operand) (T:TypeId) (ho:o.op = .mapEntry T m x) (b:Nat) (n:List Nat) (r:Value) (C:World → Prop) (hr:∃ w',(Instr.mapEntry T (.map (some b)) (idV n)).run P w = .ok r w' ∧ C w')
 (hm:a.eval m = .map (some b)) (hx:a.eval x = idV n) (h:∀ w',C w' → K (a.put o.dst r) w'):OpWp P o a w K Q:=by
 refine ⟨?_⟩
 obtain ⟨w',h1,h2⟩:=hr
 unfold Oper.wp execOp
 simp only [ho,hm,hx,h1,Sem.run_bind,Sem.run_pure,Result.andThen_ok]
 exact h w' h2
theorem Blk.only {O:Nat → Prop} {g:Nat} {t:TypeId} {k:IntKind} {l:List Nat} {w w':World} (h:Blk g t k l w) (ho:Only O w w') (hb:¬ O g):Blk g t k l w':=(ho.block g h.lt hb).trans h
structure WtI (w1:World) (bb:Nat) (L:List (List Nat × Value)) (p n:List Nat) (r:Value) (l:List (List Nat)) (born:Int) (s:Nat → Bool) (V:Nat → Value) (w:World):Prop where
 on:Only (fun b=>r.ownBlock = some b ∨ b = bb) w1 w
 lit:s 6 = true → ∃ g,V 6 = .slice (some ⟨g,0,none⟩) 1 1 ∧ w1.heap.size ≤ g ∧ Blk g 36 .u8 n w
 map0:s 7 = false → w.heap[bb]? = w1.heap[bb]?
 map1:s 7 = true → V 7 = .tuple #[r,.int .i64 born] ∧ MapE bb (entE L (.slice none 0 0) p) p born w
 row0:s 9 = false → OwnI 0 36 r l w
 row1:s 9 = true → OwnI 0 36 (V 9) (l ++ [n]) w ∧ Moved (V 9) r w1
section
variable {w1 w w':World} {bb:Nat} {L:List (List Nat × Value)} {p n:List Nat} {r:Value} {l:List (List Nat)} {born:Int} {s:Nat → Bool} {V:Nat → Value}
theorem WtI.none (h2:OwnI 0 36 r l w1):WtI w1 bb L p n r l born (fun _=>false) V w1.drew :=
 ⟨Only.of (Below.refl _ _).drew,(fun h=>by cases h),fun _=>rfl,(fun h=>by cases h),fun _=>h2.below (Below.refl _ _).drew,(fun h=>by cases h)⟩
theorem seen_at {s:Nat → Bool} {i k:Nat} (h:i ≠ k) (b:Bool):((s i || i == k) = b) = (s i = b):=by rw [beq_false_of_ne h,Bool.or_false]
theorem WtI.ne {k:Nat} {u:Value} (h:WtI w1 bb L p n r l born s V w) (h6:6 ≠ k) (h7:7 ≠ k) (h9:9 ≠ k):WtI w1 bb L p n r l born (fun i=>s i || i == k) (upd V k u) w:=by
 refine ⟨h.on,fun hs=>?_,fun hs=>?_,fun hs=>?_,fun hs=>?_,fun hs=>?_⟩
 ·rw [upd_ne V u h6];exact h.lit (by rwa [seen_at h6] at hs)
 ·exact h.map0 (by rwa [seen_at h7] at hs)
 ·rw [upd_ne V u h7];exact h.map1 (by rwa [seen_at h7] at hs)
 ·exact h.row0 (by rwa [seen_at h9] at hs)
 ·rw [upd_ne V u h9];exact h.row1 (by rwa [seen_at h9] at hs)
theorem WtI.made (h:WtI w1 bb L p n r l born s V w) (hbb:bb < w1.heap.size) (hb:Below w.heap.size w w') (hg:Blk w.heap.size 36 .u8 n w'):WtI w1 bb L p n r l born (fun i=>s i || i == 6) (upd V 6 (.slice (some ⟨w.heap.size,0,Option.none⟩) 1 1)) w':=by
 refine ⟨h.on.below hb,fun _=>⟨w.heap.size,upd_same _ _ _,h.on.size,hg⟩,fun hs=>?_,fun hs=>?_,fun hs=>?_,fun hs=>?_⟩
 ·exact (hb.block bb (Nat.lt_of_lt_of_le hbb h.on.size)).trans (h.map0 (by rwa [seen_at (by decide)] at hs))
 ·obtain ⟨e1,e2⟩:=h.map1 (by rwa [seen_at (by decide)] at hs)
  exact ⟨by rw [upd_ne V _ (by decide)];exact e1,e2.only (Only.of (O:=fun _=>False) hb) id⟩
 ·exact (h.row0 (by rwa [seen_at (by decide)] at hs)).below hb
 ·obtain ⟨e1,e2⟩:=h.row1 (by rwa [seen_at (by decide)] at hs)
  rw [upd_ne V _ (by decide)]
  exact ⟨e1.below hb,e2⟩
theorem WtI.entry (h:WtI w1 bb L p n r l born s V w) (hbb:bb < w1.heap.size) (hL:MapN bb L w) (k:Only (fun x=>x = bb) w w') (hm:MapE bb (entE L (.slice Option.none 0 0) p) p born w'):WtI w1 bb L p n r l born (fun i=>s i || i == 7) (upd V 7 (.tuple #[r,.int .i64 born])) w':=by
 have hnr:=hL
 refine ⟨⟨k.os.trans h.on.os,k.tape.trans h.on.tape,k.output.trans h.on.output,Nat.le_trans h.on.size k.size,fun i hi hn=>(k.block i (Nat.lt_of_lt_of_le hi h.on.size) (fun e=>hn (.inr e))).trans (h.on.block i hi hn)⟩,fun hs=>?_,fun hs=>?_,fun _=>⟨upd_same _ _ _,hm⟩,fun hs=>?_,fun hs=>?_⟩
 ·obtain ⟨g,e1,e2,e3⟩:=h.lit (by rwa [seen_at (by decide)] at hs)
  exact ⟨g,by rw [upd_ne V _ (by decide)];exact e1,e2,e3.only k (by omega)⟩
 ·simp at hs
 ·have hr:=h.row0 (by rwa [seen_at (by decide)] at hs)
  exact hr.only k (fun g hg e=>hnr.notRow hr (e ▸ hg))
 ·obtain ⟨e1,e2⟩:=h.row1 (by rwa [seen_at (by decide)] at hs)
  rw [upd_ne V _ (by decide)]
  exact ⟨e1.only k (fun g hg e=>hnr.notRow e1 (e ▸ hg)),e2⟩
theorem WtI.push {v:Value} (h:WtI w1 bb L p n r l born s V w) (hbb:bb < w1.heap.size) (hrl:∀ b,r.ownBlock = some b → b < w1.heap.size) (k:w.grownBy w' r.ownBlock) (hv:OwnI 0 36 v (l ++ [n]) w') (hl:v.ownBlock = r.ownBlock ∨ v.ownBlock = some w.heap.size) (hbr:r.ownBlock ≠ some bb):WtI w1 bb L p n r l born (fun i=>s i || i == 9) (upd V 9 v) w':=by
 have ko:Only (fun b=>r.ownBlock = some b) w w':=(Only.refl _ w).grown k (fun b hb=>.inl hb)
 refine ⟨⟨ko.os.trans h.on.os,ko.tape.trans h.on.tape,ko.output.trans h.on.output,Nat.le_trans h.on.size ko.size,fun i hi hn=>(ko.block i (Nat.lt_of_lt_of_le hi h.on.size) (fun e=>hn (.inl e))).trans (h.on.block i hi hn)⟩,fun hs=>?_,fun hs=>?_,fun hs=>?_,fun hs=>?_,fun _=>?_⟩
 ·obtain ⟨g,e1,e2,e3⟩:=h.lit (by rwa [seen_at (by decide)] at hs)
  exact ⟨g,by rw [upd_ne V _ (by decide)];exact e1,e2,e3.only ko (fun e=>by have:=hrl g e;omega)⟩
 ·exact (ko.block bb (Nat.lt_of_lt_of_le hbb h.on.size) hbr).trans (h.map0 (by rwa [seen_at (by decide)] at hs))
 ·obtain ⟨e1,e2⟩:=h.map1 (by rwa [seen_at (by decide)] at hs)
  exact ⟨by rw [upd_ne V _ (by decide)];exact e1,e2.only ko hbr⟩
 ·simp at hs
 ·rw [upd_same]
  exact ⟨hv,Moved.of hl h.on.size⟩
theorem op_lit_blk {o:Oper} {a:Act} {w:World} {K:Act → World → Prop} {Q:Exit → Act → World → Prop} (hg:o.guard = Option.none) (z:Operand) (t:TypeId) (ht:Tryz.prog.underlying t = some (.slice 36)) (ho:o.op = .buildSlice t 1 #[(0,z)]) (y:List Nat) (hy:y.length = 32) (hz:a.eval z = .agg (nums .u8 y).toArray)
 (h:∀ w',Below w.heap.size w w' → Blk w.heap.size 36 .u8 y w' → K (a.put o.dst (.slice (some ⟨w.heap.size,0,Option.none⟩) 1 1)) w'):OpWp Tryz.prog o a w K Q :=
 op_of_list (ops:=#[]) hg (wpList_build_id hg t 36 z ho y hz hy ht Tryz.infoI32 (fun w' h1 h2=>⟨rfl,h w' h2.out h1.out⟩))
end
end Go.Proofs.YthggbfgijeicbaaGreatDoor
