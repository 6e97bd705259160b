/-
  Joined: The document's Heads.; The document's Next. Written by dag/gen/gen_next.py.; Names pushed onto a row of the call's own, in a region whose order is open; the rows of 32 bytes of a text, one by one.; The document's Made: what holds round by round; steps of its regions.
-/
import Derived.Test.YtnbldbbbibpobaaGreatDoorJ04
import Derived.Test.YtnbldbbbibpobaaGreatDoorJ05
import Derived.Test.YtnbldbbbibpobaaGreatDoorJ06
import Derived.Test.YtnbldbbbibpobaaGreatDoorJ07
import Derived.Test.YtnbldbbbibpobaaGreatDoorJ11
import Derived.Test.YtnbldbbbibpobaaGreatDoorJ12
import Derived.Test.YtnbldbbbibpobaaGreatDoorJ17
set_option maxRecDepth 100000
set_option maxHeartbeats 8000000
namespace Go.Proofs.YtnbldbbbibpobaaGreatDoor
open Go.RowKit Go.BigFrame
def zaf (ops:List OpN) (n:List Nat) (k:Nat):Bool:=(ops.take k).any fun o=>decide (n ∈ o.preds)
def inP (P:List (List Nat)) (n:List Nat) (k:Nat):Bool:=(P.take k).any fun p=>p == n
theorem inP_step {P:List (List Nat)} {n:List Nat} {k:Nat} (h:k < P.length):inP P n (k + 1) = (inP P n k || (P.getD k [] == n)):=by
 rw [inP,inP,List.take_succ_eq_append_getElem h,List.any_append,List.any_cons,List.any_nil,Bool.or_false,List.getD_eq_getElem?_getD,List.getElem?_eq_getElem h]
 rfl
theorem inP_full {P:List (List Nat)} {n:List Nat} {k:Nat} (h:P.length = k):inP P n k = decide (n ∈ P):=by
 rw [inP,List.take_of_length_le (Nat.le_of_eq h),Bool.eq_iff_iff,List.any_eq_true,decide_eq_true_iff]
 constructor
 ·rintro ⟨p,hp,he⟩
  rw [← eq_of_beq he]
  exact hp
 ·exact fun hn=>⟨n,hn,beq_self_eq_true n⟩
theorem zfy {ops:List OpN} {n:List Nat} {k:Nat} {y:OpN} (h:ops[k]? = some y):zaf ops n (k + 1) = (zaf ops n k || decide (n ∈ y.preds)):=by
 have hk:=(List.getElem?_eq_some_iff.1 h).1
 have he:ops[k] = y:=(List.getElem?_eq_some_iff.1 h).2
 rw [zaf,zaf,List.take_succ_eq_append_getElem hk,List.any_append,List.any_cons,List.any_nil,Bool.or_false,he]
def z7z (s:DagN) (k:Nat):List (List Nat):=(s.names.take k).filter fun n=>!(s.ops.any fun o=>decide (n ∈ o.preds))
theorem zfv {s:DagN} {k:Nat} {x:List Nat} (h:k < s.names.length) (hx:s.names.getD k [] = x) {N:Nat} (hN:s.ops.length = N):z7z s (k + 1) = z7z s k ++ (if zaf s.ops x N then [] else [x]):=by
 rw [List.getD_eq_getElem?_getD,List.getElem?_eq_getElem h] at hx
 rw [z7z,z7z,List.take_succ_eq_append_getElem h,List.filter_append,zaf,List.take_of_length_le (Nat.le_of_eq hN)]
 have hx:s.names[k] = x:=hx
 rw [hx]
 cases hq:s.ops.any fun o=>decide (x ∈ o.preds) <;> simp [hq]
theorem zdf (s:DagN) (k:Nat):(z7z s k).length ≤ s.names.length:=Nat.le_trans (List.length_filter_le _ _) (by rw [List.length_take];omega)
theorem zi4 (s:DagN) (k:Nat):Ids (z7z s k):=fun x hx=>z12 x (List.mem_of_mem_take (List.mem_filter.1 hx).1)
theorem z96 (X:Nat → Prop) (gs:Nat) (vo vw vn vq:Value) (s:DagN) (w:World) (h:RefAt X gs vo vw vn vq s w) (hrr:∀ x ∈ s.ops,x.d.ref.length = 32 ∧ Ids x.preds ∧ x.preds.length ≤ 1000000) (hb:s.ops.length ≤ 1000000) :
 Calls Tryz.prog 55 #[.pointer (some ⟨gs,0,none⟩)] w fun e w'=>∃ v,e = .returned v ∧ OwnI w.heap.size 25 v (z19 s) w' ∧ Below w.heap.size w w':=by
 obtain ⟨an,cn,rfl⟩:=h.names.form
 obtain ⟨ap,cp,rfl⟩:=h.ops.form
 have hl:s.names.length = s.ops.length:=List.length_map _
 have HNA:=Lib.hid (show Ids s.names from z12)
 have HAN:=Lib.hid (h.names.at HNA.out)
 have HAO:=Lib.hid h.ops.at
 have hc:=h.cell
 have hgs:=h.cells.lt
 have HC:=Lib.hid (fun (w1:World) (b:Below w.heap.size w w1)=>(b.cell (p:=⟨gs,0,none⟩) hgs).trans hc.1)
 have hc2:=hc.2.2.1
 obtain ⟨N,hN⟩:∃ N,s.ops.length = N:=⟨_,rfl⟩
 have HN:=Shut.mk hN
 have HNN:=Shut.mk (hl.trans hN)
 rw [hN] at HC hb
 rw [hl,hN] at hc2
 have HRR:=Lib.hid hrr
 have HZO:=Lib.hid (show (Tryz.prog.info? 38).bind (·.zero) = some (.agg (opL z05 none 0).toArray) by kernel_rfl)
 clear h hl hc hgs hN hrr
 go_enter Tryz.func55,Tryz.ntmps55
 go_wp2_with fail
 clear hc2
 go_loopw [3,16] (fun v i wr=>∃ k:Nat,k ≤ N ∧ i = .int .i64 k ∧ OwnI w.heap.size 25 v (z7z s k) wr ∧ Below w.heap.size w wr) (fun _ i _=>N - (intOf i).toNat)
 case atStart=>exact ⟨0,Nat.zero_le _,rfl,OwnI.nil _ _ _,Below.refl _ _⟩
 case round =>
  obtain ⟨k,hk,rfl,hown,hbw⟩:=hrel
  have HBW:=Lib.hid hbw
  have HOWN:=Lib.hid hown
  have HANW:=Lib.hid (HAN.out.below hbw)
  clear hown hbw
  by_cases hlt:k < N
  ·obtain ⟨b,ob,rfl,hbl⟩:=HANW.out.some (by rw [HNN.out];omega)
   have g1:=HANW.out.get (i:=k) (by rw [HNN.out];omega)
   have i1:=Ids.getD HNA.out (i:=k) (by rw [HNN.out];omega)
   obtain ⟨x,hx⟩:∃ x,s.names.getD k [] = x:=⟨_,rfl⟩
   have HST:=Shut.mk (zfv (k:=k) (by rw [HNN.out];omega) hx HN.out)
   rw [hx] at g1 i1
   have HG1:=Lib.hid g1
   have HI1:=Lib.hid i1
   have HS1:=Lib.hid (show (Tryz.prog.info? 25).map (·.size) = some x.length by rw [i1.1];exact Tryz.sizeI)
   have HL2:=Lib.hid (show (List.replicate 32 0).length = x.length by rw [i1.1];rfl)
   clear hx g1 i1 hbl
   go_wp2_with (first
    | (refine z0b rfl 25 _ rfl b (ob + k * 32) x _ rfl HG1.out Tryz.underlying25 rfl HS1.out ?_)
    | (refine z04 rfl 25 _ _ rfl rfl wr.heap.size .u8 (List.replicate 32 0) x 25 rfl rfl (heap_alloc_new wr _) HS1.out HL2.out ?_))
   intro w5 hc' hb'
   have HY:=Lib.hid hc'.out
   have HBY:=Lib.hid (show Below wr.heap.size wr w5 from But.toBelow ((Below.refl _ _).alloc (Nat.le_refl _) _) hb'.out (Nat.le_refl _) (by rw [World.size_alloc];exact Nat.le_succ _))
   have HB5:=Lib.hid (HBW.out.trans (HBY.out.mono HBW.out.size))
   have HO5:=Lib.hid (HOWN.out.below HBY.out)
   clear hc' hb' HL2 HOWN
   have hc5:=HC.out w5 HB5.out
   go_wp2_with fail
   clear hc5
   obtain ⟨wo,hwo⟩:∃ x,x = wr:=⟨_,rfl⟩
   subst hwo
   go_loopw [6,25] (fun v i wq=>∃ j:Nat,j ≤ N ∧ i = .int .i64 j ∧ v = .bool (zaf s.ops x j) ∧ Below w5.heap.size w5 wq) (fun _ i _=>N - (intOf i).toNat)
   case atStart=>exact ⟨0,Nat.zero_le _,rfl,rfl,Below.refl _ _⟩
   case round =>
    obtain ⟨j,hj,rfl,rfl,hbq⟩:=hrel
    have HBQ:=Lib.hid hbq
    by_cases hjn:j < N
    ·obtain ⟨y,hy⟩:∃ y,s.ops[j]? = some y:=⟨_,List.getElem?_eq_getElem (by rw [HN.out];exact hjn)⟩
     have HAS:=Shut.mk (zfy (n:=x) hy)
     have hyr:=HRR.out y (List.mem_of_getElem? hy)
     obtain ⟨bo,oo,rfl,hbo,py,cy,hr,hia,_⟩:=((HAO.out.below (HB5.out.trans (hbq.mono HB5.out.size)))).get hy
     have HR:=Lib.hid hr
     have HIA:=Lib.hid hia
     have HYR:=Lib.hid hyr
     have HSO:=Lib.hid (show (Tryz.prog.info? 38).map (·.size) = some (opL y py cy).length by rw [z2i hyr.1];exact Tryz.sizeO)
     have HSV:=Lib.hid (show (Tryz.prog.info? 38).map (·.size) = some (opV y py cy).size by rw [z07 hyr.1];exact Tryz.sizeO)
     have HSZ:=Lib.hid (show (opV z05 none 0).size = (opV y py cy).size by rw [z07 hyr.1];rfl)
     clear hy hyr hr hia hbo hbq
     go_wp2_with (first
      | (refine wpList_load_mid rfl 38 _ rfl bo (oo + j * 38) rfl _ _ HR.out Tryz.underlying38 rfl HSO.out ?_)
      | (refine z0j rfl 38 rfl (opL z05 none 0) HZO.out ?_)
      | (refine z01 rfl 38 _ _ rfl rfl wr.heap.size (opV z05 none 0) (opV y py cy) 38 rfl rfl (heap_alloc_new wr _) HSV.out HSZ.out (z0z y py cy) ?_))
     intro w7 hc7 hb7
     have hb78:Below wr.heap.size wr w7:=But.toBelow ((Below.refl _ wr).alloc (Nat.le_refl _) _) hb7.out (Nat.le_refl _) (by rw [World.size_alloc];exact Nat.le_succ _)
     have HB7:=Lib.hid (HBQ.out.trans (hb78.mono HBQ.out.size))
     have HIA7:=Lib.hid (HIA.out.below hb78)
     obtain ⟨_,_,_,c37⟩:=z0k HYR.out.1 hc7.out
     have hm:=HYR.out.2.2
     obtain ⟨P,hP⟩:∃ P,y.preds = P:=⟨_,rfl⟩
     rw [hP] at c37 hm HIA7 HAS
     have HPI:=Lib.hid (show Ids P by rw [← hP];exact HYR.out.2.1)
     obtain ⟨m,hme⟩:∃ m,P.length = m:=⟨_,rfl⟩
     rw [hme] at c37 hm
     have HM:=Shut.mk hme
     have HPF:=Shut.mk (inP_full (n:=x) hme)
     have HY7:=Lib.hid (HY.out.below HB7.out)
     clear hc7 hb7 hb78 hP hme HR HIA HSO HSV HSZ HYR
     go_wp2_with fail
     clear c37
     obtain ⟨A,hA⟩:∃ A,zaf s.ops x j = A:=⟨_,rfl⟩
     rw [hA] at HAS ⊢
     clear hA
     obtain ⟨wi,hwi⟩:∃ x,x = wr:=⟨_,rfl⟩
     subst hwi
     go_loopw [6,32] (fun v i wq=>∃ q:Nat,q ≤ m ∧ i = .int .i64 q ∧ v = .bool (A || inP P x q) ∧ Below w7.heap.size w7 wq) (fun _ i _=>m - (intOf i).toNat)
     case atStart=>exact ⟨0,Nat.zero_le _,rfl,by simp [inP],Below.refl _ _⟩
     case round =>
      obtain ⟨q,hq,rfl,rfl,hbz⟩:=hrel
      have HBZ:=Lib.hid hbz
      have HIAZ:=Lib.hid (HIA7.out.below hbz)
      have HYZ:=Lib.hid (HY7.out.below hbz)
      clear hbz
      by_cases hqm:q < m
      ·obtain ⟨bp,op,rfl,hbp⟩:=HIAZ.out.some (by rw [HM.out];omega)
       have g2:=HIAZ.out.get (i:=q) (by rw [HM.out];omega)
       have i2:=Ids.getD HPI.out (i:=q) (by rw [HM.out];omega)
       have HPS:=Shut.mk (inP_step (P:=P) (n:=x) (k:=q) (by rw [HM.out];omega))
       obtain ⟨z,hz⟩:∃ z,P.getD q [] = z:=⟨_,rfl⟩
       rw [hz] at g2 i2 HPS
       have HG2:=Lib.hid g2
       have HS2:=Lib.hid (show (Tryz.prog.info? 25).map (·.size) = some z.length by rw [i2.1];exact Tryz.sizeI)
       have HL3:=Lib.hid (show (List.replicate 32 0).length = z.length by rw [i2.1];rfl)
       have HEQ:=Lib.hid (fun w'=>z2b z x i2.1 HI1.out.1 i2.2 HI1.out.2 w')
       have hyl:=HYZ.out.lt
       have hgw:wo.heap.size ≠ wr.heap.size:=by omega
       clear hz g2 i2 hbp hyl
       go_wp2_with (first
        | (refine z0b rfl 25 _ rfl bp (op + q * 32) z _ rfl HG2.out Tryz.underlying25 rfl HS2.out ?_)
        | (refine z04 rfl 25 _ _ rfl rfl wr.heap.size .u8 (List.replicate 32 0) z 25 rfl rfl (heap_alloc_new wr _) HS2.out HL3.out ?_))
       intro w9 hc9 hb9
       have HZ9:=Lib.hid hc9.out
       have HY9:=Lib.hid ((HYZ.out.alloc _).but hb9.out hgw)
       have HB9:=Lib.hid (show Below w7.heap.size w7 w9 from But.toBelow (HBZ.out.alloc HBZ.out.size _) hb9.out HBZ.out.size (Nat.le_trans HBZ.out.size (by rw [World.size_alloc];exact Nat.le_succ _)))
       clear hc9 hb9 HL3 hgw
       obtain ⟨B,hB⟩:∃ B,(A || inP P x q) = B:=⟨_,rfl⟩
       rw [hB]
       have HNB:=Shut.mk (show (A || inP P x (q + 1)) = (B || (z == x)) by rw [HPS.out,← Bool.or_assoc,hB])
       clear hB
       cases B with
       | true =>
         go_wp2_with fail
         exact ⟨⟨q + 1,by omega,by go_num,by rw [HNB.out];rfl,HB9.out⟩,by simp [intOf];omega⟩
       | false =>
         rw [Bool.false_or] at HNB
         have heq:=HEQ.out
         obtain ⟨c,hcz⟩:∃ c,(z == x) = c:=⟨_,rfl⟩
         rw [hcz] at heq HNB
         clear hcz HEQ
         go_upto_region 12 with (fail)
         refine wp_region_lit ?_
         iterate 6 (first | go_skip | go_guarded | go_step)
         refine z3h (by rfl) 25 (.tmp 10) rfl wr.heap.size .u8 _ 25 _ rfl HZ9.out Tryz.underlying25 rfl HS2.out ?_
         simp only [Act.put,zS,zA,zB]
         refine z3h (by rfl) 25 (.tmp 5) rfl wo.heap.size .u8 _ 25 _ rfl HY9.out Tryz.underlying25 rfl HS1.out ?_
         simp only [Act.put,zS,zA,zB]
         go_wp2_with fail
         exact ⟨⟨q + 1,by omega,by go_num,by rw [HNB.out],HB9.out⟩,by simp [intOf];omega⟩
      ·obtain rfl:q = m:=by omega
       have HAA:=Shut.mk (show (A || inP P x q) = zaf s.ops x (j + 1) by rw [HAS.out,HPF.out])
       rw [HAA.out]
       have HBZ2:=Lib.hid (HB7.out.trans (HBZ.out.mono HB7.out.size))
       go_wp2_with fail
       exact ⟨⟨j + 1,by omega,by go_num,rfl,HBZ2.out⟩,by simp [intOf];omega⟩
    ·obtain rfl:j = N:=by omega
     have HBX:=Lib.hid (HB5.out.trans (HBQ.out.mono HB5.out.size))
     have HOX:=Lib.hid (HO5.out.below hbq)
     have HYX:=Lib.hid (HY.out.below hbq)
     obtain ⟨A,hA⟩:∃ A,zaf s.ops x j = A:=⟨_,rfl⟩
     rw [hA] at HST ⊢
     clear hA hbq
     cases A with
     | true =>
       go_wp2_with fail
       exact ⟨⟨k + 1,by omega,by go_num,by rw [HST.out,if_pos rfl,List.append_nil];exact HOX.out,HBX.out⟩,by simp [intOf];omega⟩
     | false =>
       have HLM:=Lib.hid (show (z7z s k).length + [x].length ≤ 4398046511104 by have:=zdf s k;rw [HNN.out] at this;simp;omega)
       go_wp2_with (first
        | (refine z03 rfl 25 (.tmp 5) rfl wo.heap.size .u8 _ 25 _ rfl HYX.out Tryz.underlying25 rfl HS1.out ?_)
        | (refine z17 rfl 34 25 (.tmp 47) rfl x rfl HI1.out.1 Tryz.underlying34 Tryz.infoI32 ?_))
       intro w17 hk17 hb17
       have HK17:=Lib.hid (z62 (z4x hk17.out) (Ids.one HI1.out.1 HI1.out.2))
       have HB17:=Lib.hid (HBX.out.trans (hb17.out.mono HBX.out.size))
       have HO17:=Lib.hid (HOX.out.below hb17.out)
       clear hk17 hb17
       go_wp2_with (refine z8e rfl (.tmp 46) (.tmp 48) 34 25 rfl w.heap.size (.agg (z06 .u8 (List.replicate 32 0)).toArray) rfl Tryz.underlying34 Tryz.infoI32 _ (z7z s k) [x] (Ids.one HI1.out.1 HI1.out.2) ⟨wr.heap.size,0,none⟩ 1 1 rfl rfl HO17.out rfl HK17.out HLM.out HB17.out.size ?_)
       intro v18 w18 ho18 hb18
       have HB18:=Lib.hid (HB17.out.trans hb18.out)
       clear hb18
       go_wp2_with fail
       exact ⟨⟨k + 1,by omega,by go_num,by rw [HST.out,if_neg (by decide)];exact ho18.out,HB18.out⟩,by simp [intOf];omega⟩
  ·obtain rfl:k = N:=by omega
   have HHD:=Shut.mk (show z0e (z7z s k) = z19 s by rw [z7z,List.take_of_length_le (Nat.le_of_eq HNN.out)];rfl)
   have HHI:=Lib.hid (zi4 s k)
   have HLM:=Lib.hid (show (z7z s k).length ≤ 1000000 by have:=zdf s k;rw [HNN.out] at this;omega)
   obtain ⟨ah,ch,hv⟩:=HOWN.out.form
   have HAH:=Lib.hid (OwnI.at (hv ▸ HOWN.out) HHI.out)
   subst hv
   obtain ⟨H,hH⟩:∃ H,z7z s k = H:=⟨_,rfl⟩
   rw [hH] at HHD HHI HLM HAH ⊢
   obtain ⟨n,hn⟩:∃ n,H.length = n:=⟨_,rfl⟩
   have HHN:=Shut.mk hn
   rw [hn] at HLM ⊢
   have HRI:=Lib.hid (z32 H ah n ch wr HHI.out hn HAH.out HLM.out)
   clear hH hn HOWN
   go_wp2_with fail
   refine HRI.out.mono ?_
   rintro e w9 ⟨v,rfl,ho9,hb9⟩
   have HO9:=Lib.hid (And.intro ho9 hb9)
   clear ho9 hb9
   go_wp2_with fail
   go_ret
   exact ⟨v,rfl,by rw [← HHD.out];exact HO9.out.1.mono HBW.out.size,HBW.out.trans (HO9.out.2.mono HBW.out.size)⟩
theorem OwnI.notCells {B g:Nat} {e u:TypeId} {v:Value} {L:List (List Nat)} {cs:Array Value} {w:World} (h:OwnI B e v L w) (hc:Cells g u cs w) (hne:e ≠ u):∀ k,v.ownBlock = some k → g ≠ k:=by
 rintro k hk rfl
 rcases h.2 with ⟨h1,_⟩ | ⟨g',cap,cur,h1,_,h3,_⟩
 ·rw [h1] at hk
  cases hk
 ·rw [h1] at hk
  obtain rfl:g' = g:=by injection hk
  have h4:w.heap[g']? = some (.cells cs u (0,0)):=hc
  rw [h3] at h4
  injection h4 with h4
  injection h4 with _ h5
  exact hne h5
def HdIs (B:Nat) (H:List (List Nat)) (o:OpN) (s:Nat → Bool) (V:Nat → Value) (w:World):Prop :=
 (s 4 = true → s 3 = true) ∧ (s 3 = true → ∃ ah ch,V 3 = .slice ah H.length ch ∧ OwnI B 25 (.slice ah H.length ch) H w ∧ (s 4 = true → V 4 = .agg (opV o ah ch)))
theorem HdIs.none {B:Nat} {H:List (List Nat)} {o:OpN} {V:Nat → Value} {w:World}:HdIs B H o (fun _=>false) V w:=⟨(fun h=>by cases h),(fun h=>by cases h)⟩
theorem HdIs.ne {B:Nat} {H:List (List Nat)} {o:OpN} {s:Nat → Bool} {V:Nat → Value} {w w':World} (h:HdIs B H o s V w) {k:Nat} {v:Value} (h3:3 ≠ k) (h4:4 ≠ k) (hb:Below w.heap.size w w'):HdIs B H o (fun n=>s n || n == k) (upd V k v) w':=by
 have e3:(s 3 || 3 == k) = s 3:=by simp [h3]
 have e4:(s 4 || 4 == k) = s 4:=by simp [h4]
 refine ⟨fun hh=>?_,fun hh=>?_⟩
 ·show (s 3 || 3 == k) = true
  rw [e3]
  exact h.1 (by rw [← e4];exact hh)
 ·obtain ⟨ah,ch,q1,q2,q4⟩:=h.2 (by rw [← e3];exact hh)
  exact ⟨ah,ch,by rw [z1r V v h3];exact q1,q2.below hb,fun h5=>by rw [z1r V v h4];exact q4 (by rw [← e4];exact h5)⟩
theorem HdIs.call {B:Nat} {H:List (List Nat)} {o:OpN} {s:Nat → Bool} {V:Nat → Value} {w w':World} (h:HdIs B H o s V w) (hu:s 3 = false) {ah:Option Addr} {ch:Nat} (h1:OwnI B 25 (.slice ah H.length ch) H w') :
 HdIs B H o (fun n=>s n || n == 3) (upd V 3 (.slice ah H.length ch)) w':=by
 have e4:s 4 = false:=by
  cases hh:s 4 with
  | false=>rfl
  | true=>rw [h.1 hh] at hu;cases hu
 refine ⟨fun _=>by simp,fun _=>⟨ah,ch,z28 _ _ _,h1,fun h5=>?_⟩⟩
 simp [e4] at h5
theorem HdIs.build {B:Nat} {H:List (List Nat)} {o:OpN} {s:Nat → Bool} {V:Nat → Value} {w:World} (h:HdIs B H o s V w) (h3:s 3 = true) {ah:Option Addr} {ch:Nat} (hv:V 3 = .slice ah H.length ch) :
 HdIs B H o (fun n=>s n || n == 4) (upd V 4 (.agg (opV o ah ch))) w:=by
 refine ⟨fun _=>by simp [h3],fun _=>?_⟩
 obtain ⟨ah',ch',q1,q2,_⟩:=h.2 h3
 rw [q1] at hv
 injection hv with e1 _ e2
 subst e1 e2
 exact ⟨ah',ch',by rw [z1r V _ (by decide)];exact q1,q2,fun _=>z28 _ _ _⟩
theorem zat (d:DraftN) (A:Int) (H:List (List Nat)) (ah:Option Addr) (ch:Nat) (hr:d.ref.length = 32):Tryz.prog.built 38 [(0,.agg (z0d d)),(1,.int .i64 A),(3,.slice ah H.length ch)] = some (opV ⟨d,A,0,H⟩ ah ch):=by
 rw [zdw]
 refine (z3p z8p 0 0 35 _ _ [] (z18 z8d) [.int .i64 0,.int .i64 0,.slice none 0 0] (z18 d) rfl rfl (z0s hr) rfl rfl).trans ?_
 refine (z3p z8p 1 35 1 _ _ (z18 d) [.int .i64 0] [.int .i64 0,.slice none 0 0] [.int .i64 A] rfl rfl rfl rfl (z0s hr)).trans ?_
 show Instr.fill _ (z18 d ++ ([Value.int .i64 A] ++ ([Value.int .i64 0] ++ [Value.slice none 0 0]))).toArray _ = _
 rw [← List.append_assoc,← List.append_assoc,List.append_assoc (z18 d)]
 refine (z3p z8p 3 37 1 (.slice ah H.length ch) [] (z18 d ++ ([.int .i64 A] ++ [.int .i64 0])) [.slice none 0 0] [] [.slice ah H.length ch] rfl rfl rfl rfl (by rw [List.length_append,z0s hr];rfl)).trans ?_
 rw [zba,opV,opL]
 simp
theorem zbe {d:DraftN} {a b D:Int} {L:List (List Nat)} (hr:d.ref.length = 32) (pa:Option Addr) (pc:Nat):(opV ⟨d,a,b,L⟩ pa pc).setIfInBounds 36 (.int .i64 D) = opV ⟨d,a,D,L⟩ pa pc:=by
 rw [opV,opV,opL,opL,List.setIfInBounds_toArray,List.set_append_right _ _ (by rw [z0s hr];decide),z0s hr]
 rfl
theorem z80 {s:DagN} {x:List Nat} (h:x ∈ z19 s):x ∈ s.names:=(List.mem_filter.1 (risingN_mem.1 h)).1
theorem z6c (s:DagN):(z19 s).length ≤ s.ops.length:=by
 rw [z19,z1x]
 exact Nat.le_trans (List.length_filter_le _ _) (Nat.le_of_eq (List.length_map _))
def NextPost (B:Nat) (r:Option OpN × Int) (e:Ending) (w':World):Prop :=
 ∃ pa pc,e = .returned (.tuple #[.agg (opV (r.1.getD z05) pa pc),.int .i64 r.2]) ∧ IAt pa (r.1.getD z05).preds w' ∧ ∀ a,pa = some a → B ≤ a.block
theorem zf8 (X:Nat → Prop) (gs:Nat) (vo vw vn vq:Value) (s:DagN) (A:Int) (d:DraftN) (w:World) (h:RefAt X gs vo vw vn vq s w) (hd:IdOk d.ref) (hk:d.key.length ≤ 140737488351232) (hv:d.val.length ≤ 140737488351232) (hrr:∀ x ∈ s.ops,x.d.ref.length = 32 ∧ Ids x.preds ∧ x.preds.length ≤ 1000000) (hb:s.ops.length ≤ 1000000) (hsh:s.Shallow) :
 Calls Tryz.prog 18 #[.pointer (some ⟨gs,0,none⟩),.int .i64 A,.agg (z0d d)] w fun e w'=>NextPost w.heap.size (z2a s A d) e w' ∧ Below w.heap.size w w':=by
 have HS:=Lib.hid (show (Tryz.prog.info? 38).map (·.size) = some (opV z05 none 0).size from Tryz.sizeO)
 have HSD:=Lib.hid (show (Tryz.prog.info? 27).map (·.size) = some (z0d d).size by rw [z5a hd.1];exact Tryz.sizeD)
 have HGD:=Lib.hid (fun w'=>z7b d hd hk hv w')
 have HGS:=Lib.hid h.cells.lt
 have HRF:=Lib.hid h
 have HRR:=Lib.hid hrr
 have HD:=Lib.hid hd
 have HSH:=Lib.hid hsh
 have x1:Cells w.heap.size 27 (z0d d) (w.alloc (.cells (z0d d) 27)):=heap_alloc_new w _
 have b1:Below w.heap.size w (w.alloc (.cells (z0d d) 27)):=(Below.refl _ _).alloc (Nat.le_refl _) _
 have s1:(w.alloc (.cells (z0d d) 27)).heap.size = w.heap.size + 1:=World.size_alloc _ _
 have b2:Below (w.alloc (.cells (z0d d) 27)).heap.size (w.alloc (.cells (z0d d) 27)) ((w.alloc (.cells (z0d d) 27)).alloc (.cells (opV z05 none 0) 38)):=(Below.refl _ _).alloc (Nat.le_refl _) _
 have x2:Cells (w.alloc (.cells (z0d d) 27)).heap.size 38 (opV z05 none 0) ((w.alloc (.cells (z0d d) 27)).alloc (.cells (opV z05 none 0) 38)):=heap_alloc_new _ _
 rw [s1] at x2
 have y1:=x1.below b2
 have hb2:=b1.trans (b2.mono b1.size)
 clear h hd hk hv hrr hsh x1 b1 s1 b2
 go_enter Tryz.func18,Tryz.ntmps18
 go_upto_region 1 with (fail)
 obtain ⟨w2,hw2⟩:∃ x,x = (w.alloc (.cells (z0d d) 27)).alloc (.cells (opV z05 none 0) 38):=⟨_,rfl⟩
 rw [← hw2] at x2 y1 hb2
 rw [z5w] at hw2
 rw [← hw2]
 have HX:=Lib.hid x2
 have HY:=Lib.hid y1
 have HB:=Lib.hid hb2
 clear hw2 x2 y1 hb2
 go_upto_region 1 with (fail)
 refine wp_region_lit ?_
 refine z00 rfl 27 (.tmp 5) rfl w.heap.size (z0d d) 27 _ rfl HY.out Tryz.underlying27 rfl HSD.out ?_
 simp only [Act.put,zS,zA,zB]
 go_wp2_with fail
 refine (HGD.out w2).mono ?_
 rintro e w3 ⟨rfl,hb3⟩
 have HX3:=Lib.hid (HX.out.below hb3)
 have HY3:=Lib.hid (HY.out.below hb3)
 have HB3:=Lib.hid (HB.out.trans (hb3.mono HB.out.size))
 clear hb3 HX HY HB
 by_cases hg:GoodD d ∧ 0 ≤ A ∧ A ≤ 4
 ·rw [decide_eq_true hg.1]
  obtain ⟨hg1,hg2,hg3⟩:=hg
  have HHC:=Lib.hid (fun (w':World) (b:Below w3.heap.size w3 w')=>z96 X gs vo vw vn vq s w' (HRF.out.below (HB3.out.trans (b.mono HB3.out.size))) HRR.out hb)
  have HHI:=Lib.hid (show Ids (z19 s) from z15 (L:=s.names.filter fun n=>!(s.ops.any fun o=>decide (n ∈ o.preds))) (fun x hx=>z12 x (List.mem_filter.1 hx).1))
  have HHM:=Lib.hid (fun x (hx:x ∈ z19 s)=>z80 hx)
  have HHL:=Lib.hid (show (z19 s).length ≤ 1000000 from Nat.le_trans (z6c s) hb)
  obtain ⟨H,hH⟩:∃ H,z19 s = H:=⟨_,rfl⟩
  rw [hH] at HHC HHI HHM HHL
  have HHE:=Shut.mk hH
  clear hH
  have HAL:=Lib.hid (show ∀ w:World,(Instr.alloc 38 true (.tuple #[])).run Tryz.prog w = .ok (.pointer (some ⟨w.heap.size,0,none⟩)) (w.alloc (.cells (opV z05 none 0) 38)) from fun w=>by kernel_rfl)
  have HGG:=Lib.hid (show ¬ (¬ GoodD d ∨ A < 0 ∨ 4 < A) by rintro (h | h | h) <;> first | exact h hg1 | omega)
  clear hg1
  go_wp2_with fail
  refine z0f 6 (fun q V w'=>Vals q V [(0,.agg (z0d d)),(1,.int .i64 A),(2,.pointer (some ⟨gs,0,none⟩))] ∧ NewC q V w3.heap.size 5 38 ((opV z05 none 0)) w' ∧ Below w3.heap.size w3 w' ∧ HdIs w3.heap.size H ⟨d,A,0,H⟩ q V w') (fun | 0=>undef | 1=>undef | 2=>undef | 3=>undef | 4=>undef | 5=>undef | _=>undef) (by kernel_rfl) (by kernel_rfl) (by kernel_rfl) (by simp only [zC,zD,z0i,Act.put,zS,zA,zB]) ⟨Vals.none,NewC.none,(Below.refl _ _).drew,HdIs.none⟩ ?_ ?_
  ·simp only [zC,zD,z0i,Nat.zero_add,Nat.reduceAdd,Act.put,zS,zA,zB]
   refine zQc ?_ (zQc ?_ (zQc ?_ (zQc ?_ (zQc ?_ (zQc ?_ (zQn))))))
   all_goals (refine zQf rfl ?_;rintro q V wq hr hu ⟨hVs,h5,hb,hhd⟩ K hK)
   ·exact z1o 27 (.tmp 5) rfl w.heap.size (z0d d) 27 _ rfl (HY3.out.below hb) Tryz.underlying27 rfl HSD.out (hK _ _ ⟨hVs.set rfl,h5.ne (by decide) (Below.refl _ _),hb,hhd.ne (by decide) (by decide) (Below.refl _ _)⟩)
   ·exact z0h (.tmp 1) rfl _ rfl (hK _ _ ⟨hVs.set rfl,h5.ne (by decide) (Below.refl _ _),hb,hhd.ne (by decide) (by decide) (Below.refl _ _)⟩)
   ·exact z0h (.tmp 0) rfl _ rfl (hK _ _ ⟨hVs.set rfl,h5.ne (by decide) (Below.refl _ _),hb,hhd.ne (by decide) (by decide) (Below.refl _ _)⟩)
   ·refine z4u Tryz.func55 rfl rfl rfl [.pointer (some ⟨gs,0,none⟩)] (z4i (hVs.get 2 (hr { on:=2,ground:=.data } (by simp) rfl) rfl) rfl) (HHC.out wq hb) ?_
    rintro e w' ⟨vh,rfl,ho,hb'⟩
    obtain ⟨ah,ch,rfl⟩:=ho.form
    have hia:=ho.mono hb.size
    exact ⟨_,rfl,(hK _ _ ⟨hVs.off rfl,h5.ne (by decide) hb',hb.trans (hb'.mono hb.size),hhd.call hu hia⟩)⟩
   ·obtain ⟨ah,ch,q1,_,_⟩:=hhd.2 (hr { on:=3,ground:=.data } (by simp) rfl)
    exact z5l 38 #[(0,.tmp 21),(1,.tmp 22),(3,.tmp 24)] rfl [(0,.agg (z0d d)),(1,.int .i64 A),(3,.slice ah H.length ch)] (opV ⟨d,A,0,H⟩ ah ch) (by rw [List.map_toArray];show List.toArray [(0,V 0),(1,V 1),(3,V 3)] = _;rw [(hVs.get 0 (hr { on:=0,ground:=.data } (by simp) rfl) rfl),(hVs.get 1 (hr { on:=1,ground:=.data } (by simp) rfl) rfl),q1]) (zat d A H ah ch HD.out.1) (hK _ _ ⟨hVs.off rfl,h5.ne (by decide) (Below.refl _ _),hb,hhd.build (hr { on:=3,ground:=.data } (by simp) rfl) q1⟩)
   ·exact z2s 38 rfl (opV z05 none 0) HAL.out (hK _ _ ⟨hVs.off rfl,.same hb.size,hb.alloc hb.size _,hhd.ne (by decide) (by decide) ((Below.refl _ _).alloc (Nat.le_refl _) _)⟩)
  rintro q V wq hall ⟨hVs,h5,hb,hhd⟩
  have v0:=hVs.get 0 (hall 0 (by decide)) rfl
  have v1:=hVs.get 1 (hall 1 (by decide)) rfl
  have v2:=hVs.get 2 (hall 2 (by decide)) rfl
  obtain ⟨u3,v3⟩:∃ v,V 3 = v:=⟨_,rfl⟩
  obtain ⟨u4,v4⟩:∃ v,V 4 = v:=⟨_,rfl⟩
  obtain ⟨g5,v5,hg5,hc5⟩:=h5 (hall 5 (by decide))
  obtain ⟨ah,ch,q1,q2,q4⟩:=hhd.2 (hall 3 (by decide))
  have q4:=q4 (hall 4 (by decide))
  rw [v3] at q1
  rw [v4] at q4
  subst q1 q4
  simp only [zC,zD,zE,zF,z0i,Nat.zero_add,Nat.reduceAdd,v0,v1,v2,v3,v4,v5,Act.put,zS,zA,zB]
  clear hVs v0 v1 v2 v3 v4 v5 hall
  have HBQ:=Lib.hid hb
  have HIH:=Lib.hid q2
  have HC5:=Lib.hid hc5
  have HG5:=Lib.hid hg5
  have HSV:=Lib.hid (show (Tryz.prog.info? 38).map (·.size) = some (opV ⟨d,A,0,H⟩ ah ch).size by rw [z07 HD.out.1];exact Tryz.sizeO)
  have HSZ:=Lib.hid (show (opV z05 none 0).size = (opV ⟨d,A,0,H⟩ ah ch).size by rw [z07 (o:=⟨d,A,0,H⟩) HD.out.1];rfl)
  clear hhd q2 hb hc5 hg5
  refine z01 rfl 38 _ _ rfl rfl g5 (opV z05 none 0) (opV ⟨d,A,0,H⟩ ah ch) 38 rfl rfl HC5.out HSV.out HSZ.out (z0z _ ah ch) ?_
  intro w5 hc hb
  have HX5:=Lib.hid hc.out
  have HB35:=Lib.hid (show Below w3.heap.size w3 w5 from But.toBelow HBQ.out hb.out HG5.out HBQ.out.size)
  have HIH5:=Lib.hid (OwnI.but HIH.out hb.out (HIH.out.notCells HC5.out (by decide)))
  have HX3L:=Lib.hid HX3.out.lt
  have HB5:=Lib.hid (HB3.out.trans (HB35.out.mono HB3.out.size))
  have HX35:=Lib.hid (HX3.out.below HB35.out)
  have HRF5:=Lib.hid (HRF.out.below HB5.out)
  have HCN:=Lib.hid (OwnI.cap HIH.out)
  clear hc hb HIH HC5 HBQ HGD HHC HSZ HAL HY3 HX3 HRF
  obtain ⟨_,_,c36,c37⟩:=z0k HD.out.1 HX5.out
  have hn1:=HHL.out
  obtain ⟨n,hn⟩:∃ n,H.length = n:=⟨_,rfl⟩
  have HNE:=Shut.mk hn
  replace c37:w5.cell? ⟨g5,37,none⟩ = some (.slice ah n ch):=by rw [← hn];exact c37
  rw [hn] at hn1 ⊢
  clear hn c36
  by_cases hlong:32 < n
  ·have HR:=Shut.mk (show z2a s A d = (none,3) by rw [z2a,if_neg HGG.out,HHE.out,if_pos (by rw [HNE.out];exact hlong)])
   go_upto_region 5 with (fail)
   clear c37
   refine wp_region_lit ?_
   refine z0r rfl 38 #[] rfl [] _ (by simp) z26 ?_
   simp only [Act.put,zS,zA,zB]
   refine z01 rfl 38 _ _ rfl rfl (w.heap.size + 1) (opV z05 none 0) (opV z05 none 0) 38 rfl rfl HX35.out HS.out rfl (z0z z05 none 0) ?_
   intro w9 hc hb
   have HX9:=Lib.hid hc.out
   have HB9:=Lib.hid (show Below w.heap.size w w9 from But.toBelow HB5.out hb.out (Nat.le_succ _) HB5.out.size)
   clear hc hb HX35 HX5
   go_wp2_with fail
   refine bodyPost_ret (z0p rfl _ _ (w.heap.size + 1) (opV z05 none 0) 38 _ _ rfl rfl HX9.out Tryz.underlying38 rfl HS.out) rfl ?_
   exact ⟨by rw [HR.out];exact ⟨none,0,rfl,.inl rfl,fun a h=>by cases h⟩,HB9.out⟩
  ·have HR:=Shut.mk (show z2a s A d = (some ⟨d,A,z4a s.ops H + 1,H⟩,0) by rw [z2a,if_neg HGG.out,HHE.out,if_neg (by rw [HNE.out];exact hlong)])
   have HDP:=Lib.hid (z98 X gs vo vw vn vq s ⟨d,A,0,H⟩ ah ch w5 HRF5.out (fun x hx=>(HRR.out x hx).1) HD.out.1 HHI.out (HIH5.out.at HHI.out) HHL.out hb HSH.out HHM.out)
   have HDE:=Shut.mk (show z1h s.ops ⟨d,A,0,H⟩ = z4a s.ops H + 1 from rfl)
   rw [HDE.out] at HDP
   obtain ⟨De,h27⟩:∃ q,z4a s.ops H + 1 = q:=⟨_,rfl⟩
   rw [h27] at HDP HR
   clear h27 HDE
   go_upto_region 6 with (fail)
   clear c37
   go_wp2_with (refine z00 rfl 38 (.tmp 8) rfl g5 (opV ⟨d,A,0,H⟩ ah ch) 38 _ rfl HX5.out Tryz.underlying38 rfl HSV.out ?_)
   refine HDP.out.mono ?_
   rintro e w6 ⟨rfl,hb6⟩
   have HX6:=Lib.hid (HX5.out.below hb6)
   have HX36:=Lib.hid (HX35.out.below hb6)
   have HI6:=Lib.hid (HIH5.out.below hb6)
   have HB6:=Lib.hid (HB5.out.trans (hb6.mono HB5.out.size))
   have HG6:=Lib.hid (show w.heap.size + 1 < g5 from Nat.lt_of_lt_of_le HX3L.out HG5.out)
   clear hb6 HX5 HX35 HIH5 HB5 HDP
   obtain ⟨_,_,c36,_⟩:=z0k HD.out.1 HX6.out
   have f36:=HX6.out.frozen 36
   have HCN6:=Lib.hid (HX6.out.set 36 (.int .i64 De))
   rw [zbe HD.out.1] at HCN6
   have HX37:=Lib.hid (HX36.out.but ((But.refl g5 w6).setCell 36 (.int .i64 De)) (by have:=HG6.out;omega))
   have HB7:=Lib.hid (show Below w.heap.size w (w6.setCell ⟨g5,36,none⟩ (.int .i64 De)) from But.toBelow HB6.out ((But.refl g5 w6).setCell 36 (.int .i64 De)) (by have:=HG6.out;omega) HB6.out.size)
   have HI7:=Lib.hid (OwnI.but HI6.out ((But.refl g5 w6).setCell 36 (.int .i64 De)) (HI6.out.notCells HX6.out (by decide)))
   clear HX36 HB6 HI6
   go_upto_region 7 with (fail)
   obtain ⟨w7,hw7⟩:∃ x,x = w6.setCell ⟨g5,36,none⟩ (.int .i64 De):=⟨_,rfl⟩
   rw [← hw7] at HCN6 HX37 HB7 HI7 ⊢
   have HSV7:=Lib.hid (show (Tryz.prog.info? 38).map (·.size) = some (opV ⟨d,A,De,H⟩ ah ch).size by rw [z07 HD.out.1];exact Tryz.sizeO)
   have HSZ7:=Lib.hid (show (opV z05 none 0).size = (opV ⟨d,A,De,H⟩ ah ch).size by rw [z07 (o:=⟨d,A,De,H⟩) HD.out.1];rfl)
   clear hw7 c36 f36 HX6
   go_wp2_with (first
    | (refine z00 rfl 38 (.tmp 8) rfl g5 (opV ⟨d,A,De,H⟩ ah ch) 38 _ rfl HCN6.out Tryz.underlying38 rfl HSV7.out ?_)
    | (refine z01 rfl 38 _ _ rfl rfl (w.heap.size + 1) (opV z05 none 0) (opV ⟨d,A,De,H⟩ ah ch) 38 rfl rfl HX37.out HSV7.out HSZ7.out (z0z _ ah ch) ?_))
   intro w9 hc hb
   have HX9:=Lib.hid hc.out
   have HB9:=Lib.hid (show Below w.heap.size w w9 from But.toBelow HB7.out hb.out (Nat.le_succ _) HB7.out.size)
   have HI9:=Lib.hid (OwnI.but HI7.out hb.out (HI7.out.notCells HX37.out (by decide)))
   clear hc hb HX37
   go_wp2_with fail
   refine bodyPost_ret (z0p rfl _ _ (w.heap.size + 1) (opV ⟨d,A,De,H⟩ ah ch) 38 _ _ rfl rfl HX9.out Tryz.underlying38 rfl HSV7.out) rfl ?_
   exact ⟨by rw [HR.out];exact ⟨ah,ch,rfl,HI9.out.at HHI.out,fun a ha=>Nat.le_trans HB3.out.size (World.ownsRow.lt HI9.out a.block (by rw [ha];rfl)).1⟩,HB9.out⟩
 ·have HR:=Shut.mk (show z2a s A d = (none,1) by
   rw [z2a,if_pos]
   by_cases h1:GoodD d
   ·have h3:¬ (0 ≤ A ∧ A ≤ 4):=fun h=>hg ⟨h1,h⟩
    exact .inr (by omega)
   ·exact .inl h1)
  obtain ⟨g,hgd⟩:∃ g,decide (GoodD d) = g:=⟨_,rfl⟩
  rw [hgd]
  have hca:g = true → ¬ A < 0 → 4 < A:=fun h1 h2=>by
   rw [h1] at hgd
   have h3:¬ (0 ≤ A ∧ A ≤ 4):=fun h=>hg ⟨of_decide_eq_true hgd,h⟩
   omega
  have HCA:=Lib.hid hca
  clear hg hgd hca
  cases g with
  | false =>
    go_upto_region 2 with (fail)
    refine wp_region_lit ?_
    refine z0r rfl 38 #[] rfl [] _ (by simp) z26 ?_
    simp only [Act.put,zS,zA,zB]
    refine z01 rfl 38 _ _ rfl rfl (w.heap.size + 1) (opV z05 none 0) (opV z05 none 0) 38 rfl rfl HX3.out HS.out rfl (z0z z05 none 0) ?_
    intro w9 hc hb
    have HX9:=Lib.hid hc.out
    have HB9:=Lib.hid (show Below w.heap.size w w9 from But.toBelow HB3.out hb.out (Nat.le_succ _) HB3.out.size)
    clear hc hb HX3 HB3
    go_wp2_with fail
    refine bodyPost_ret (z0p rfl _ _ (w.heap.size + 1) (opV z05 none 0) 38 _ _ rfl rfl HX9.out Tryz.underlying38 rfl HS.out) rfl ?_
    exact ⟨by rw [HR.out];exact ⟨none,0,rfl,.inl rfl,fun a h=>by cases h⟩,HB9.out⟩
  | true =>
    by_cases hA:A < 0
    ·go_upto_region 2 with (fail)
     refine wp_region_lit ?_
     refine z0r rfl 38 #[] rfl [] _ (by simp) z26 ?_
     simp only [Act.put,zS,zA,zB]
     refine z01 rfl 38 _ _ rfl rfl (w.heap.size + 1) (opV z05 none 0) (opV z05 none 0) 38 rfl rfl HX3.out HS.out rfl (z0z z05 none 0) ?_
     intro w9 hc hb
     have HX9:=Lib.hid hc.out
     have HB9:=Lib.hid (show Below w.heap.size w w9 from But.toBelow HB3.out hb.out (Nat.le_succ _) HB3.out.size)
     clear hc hb HX3 HB3
     go_wp2_with fail
     refine bodyPost_ret (z0p rfl _ _ (w.heap.size + 1) (opV z05 none 0) 38 _ _ rfl rfl HX9.out Tryz.underlying38 rfl HS.out) rfl ?_
     exact ⟨by rw [HR.out];exact ⟨none,0,rfl,.inl rfl,fun a h=>by cases h⟩,HB9.out⟩
    ·have h4:=HCA.out rfl hA
     go_upto_region 2 with (fail)
     refine wp_region_lit ?_
     refine z0r rfl 38 #[] rfl [] _ (by simp) z26 ?_
     simp only [Act.put,zS,zA,zB]
     refine z01 rfl 38 _ _ rfl rfl (w.heap.size + 1) (opV z05 none 0) (opV z05 none 0) 38 rfl rfl HX3.out HS.out rfl (z0z z05 none 0) ?_
     intro w9 hc hb
     have HX9:=Lib.hid hc.out
     have HB9:=Lib.hid (show Below w.heap.size w w9 from But.toBelow HB3.out hb.out (Nat.le_succ _) HB3.out.size)
     clear hc hb HX3 HB3
     go_wp2_with fail
     refine bodyPost_ret (z0p rfl _ _ (w.heap.size + 1) (opV z05 none 0) 38 _ _ rfl rfl HX9.out Tryz.underlying38 rfl HS.out) rfl ?_
     exact ⟨by rw [HR.out];exact ⟨none,0,rfl,.inl rfl,fun a h=>by cases h⟩,HB9.out⟩
theorem z7a {d:DraftN} {a b:Int} {L M:List (List Nat)} {n:Nat} (hr:d.ref.length = 32) (hn:M.length = n) (pa pb:Option Addr) (pc pd:Nat):(opV ⟨d,a,b,L⟩ pa pc).setIfInBounds 37 (.slice pb n pd) = opV ⟨d,a,b,M⟩ pb pd:=by
 subst hn
 rw [opV,opV,opL,opL,List.setIfInBounds_toArray,List.set_append_right _ _ (by rw [z0s hr];decide),z0s hr]
 rfl
theorem RefAt.lt {X:Nat → Prop} {gs:Nat} {vo vw vn vq:Value} {s:DagN} {w:World} (h:RefAt X gs vo vw vn vq s w) {b:Nat} (hb:RefX gs vo vw vn vq b):b < w.heap.size:=h.l.lt hb
theorem RefAt.monoX {X Y:Nat → Prop} {gs:Nat} {vo vw vn vq:Value} {s:DagN} {w:World} (h:RefAt X gs vo vw vn vq s w) (k:∀ b,Y b → X b) (hY:∀ b,RefX gs vo vw vn vq b → Y b):RefAt Y gs vo vw vn vq s w :=
 ⟨h.cells,h.ops.mono k (Nat.le_refl _),h.wait.mono k (Nat.le_refl _),h.names,h.waits,hY,h.apart,h.apartN⟩
theorem RefAt.only {X O:Nat → Prop} {gs:Nat} {vo vw vn vq:Value} {s:DagN} {w w':World} (h:RefAt X gs vo vw vn vq s w) (k:Only O w w') (hO:∀ b,O b → X b) (hn:∀ b,RefX gs vo vw vn vq b → ¬ O b):RefAt X gs vo vw vn vq s w' :=
 (h.l.only k hO hn).at
structure MkAt (W w:World) (X:Nat → Prop) (gs:Nat) (vo vw vn vq:Value) (s:DagN) (vt:Value) (L:List OpN) (k:Nat) (wr:World):Prop where
 ref:RefAt X gs vo vw vn vq s wr
 tame:Tame s
 cnt:s.ops.length + s.wait.length ≤ k
 own:OwnX X w.heap.size 38 vt L wr
 off:∀ b,vt.ownBlock = some b → ¬ RefX gs vo vw vn vq b
 mine:∀ b,vt.ownBlock = some b → X b
 fit:∀ x ∈ L,x.Fit
 len:L.length ≤ k
 bel:Below w.heap.size w wr
 low:∀ b,RefX gs vo vw vn vq b → w.heap.size ≤ b
 lo:∀ b,W.heap.size ≤ b → b < w.heap.size → X b
 hi:∀ b,wr.heap.size ≤ b → X b
def PaAt (W w:World) (gs:Nat) (vo vw vn vq vt:Value) (pa:Option Addr) (P:List (List Nat)):Prop :=
 ∀ a,pa = some a → P ≠ [] → ¬ RefX gs vo vw vn vq a.block ∧ vt.ownBlock ≠ some a.block ∧ (a.block < W.heap.size ∨ w.heap.size ≤ a.block)
section
variable {W w:World} {X:Nat → Prop} {gs:Nat} {vo vw vn vq:Value} {s:DagN} {vt:Value} {L:List OpN} {k:Nat} {wr w':World} {pa:Option Addr} {x:OpN} {P:List (List Nat)}
theorem MkAt.below (h:MkAt W w X gs vo vw vn vq s vt L k wr) (b:Below wr.heap.size wr w'):MkAt W w X gs vo vw vn vq s vt L k w' :=
 ⟨h.ref.below b,h.tame,h.cnt,h.own.below b,h.off,h.mine,h.fit,h.len,h.bel.trans (b.mono h.bel.size),h.low,h.lo,fun c hc=>h.hi c (Nat.le_trans b.size hc)⟩
theorem MkAt.more (h:MkAt W w X gs vo vw vn vq s vt L k wr) {m:Nat} (hm:k ≤ m):MkAt W w X gs vo vw vn vq s vt L m wr :=
 ⟨h.ref,h.tame,Nat.le_trans h.cnt hm,h.own,h.off,h.mine,h.fit,Nat.le_trans h.len hm,h.bel,h.low,h.lo,h.hi⟩
theorem MkAt.paOld (h:MkAt W w X gs vo vw vn vq s vt L k wr) (hw:W.heap.size ≤ w.heap.size) (hp:∀ a,pa = some a → P ≠ [] → a.block < W.heap.size):PaAt W w gs vo vw vn vq vt pa P:=fun a ha h0=>by
 have h1:=hp a ha h0
 refine ⟨fun e=>?_,fun e=>?_,.inl h1⟩
 ·have:=h.low _ e
  omega
 ·have:=(h.own.lt e).1
  omega
theorem MkAt.paNew (h:MkAt W w X gs vo vw vn vq s vt L k wr) (hp:∀ a,pa = some a → wr.heap.size ≤ a.block):PaAt W w gs vo vw vn vq vt pa P:=fun a ha _=>by
 have h1:=hp a ha
 refine ⟨fun e=>?_,fun e=>?_,.inr (Nat.le_trans h.bel.size h1)⟩
 ·have:=h.ref.lt e
  omega
 ·have:=(h.own.lt e).2
  omega
theorem MkAt.less (h:MkAt W w X gs vo vw vn vq s vt L k wr) (hp:PaAt W w gs vo vw vn vq vt pa P) (hi:IAt pa P wr) :
 ∃ Y,MkAt W w Y gs vo vw vn vq s vt L k wr ∧ OffX Y pa P ∧ ∀ b,Y b → X b:=by
 refine ⟨fun b=>X b ∧ ∀ a,pa = some a → P ≠ [] → b ≠ a.block,?_,fun a ha h0 hy=>hy.2 a ha h0 rfl,fun b hb=>hb.1⟩
 refine ⟨h.ref.monoX (fun b hb=>hb.1) (fun b hb=>⟨h.ref.mine b hb,fun a ha h0 e=>(hp a ha h0).1 (e ▸ hb)⟩),h.tame,h.cnt,h.own.mono (fun b hb=>hb.1) (Nat.le_refl _),h.off,fun b hb=>⟨h.mine b hb,fun a ha h0 e=>(hp a ha h0).2.1 (e ▸ hb)⟩,h.fit,h.len,h.bel,h.low,
  fun b h1 h2=>⟨h.lo b h1 h2,fun a ha h0 e=>?_⟩,fun b hb=>⟨h.hi b hb,fun a ha h0 e=>?_⟩⟩
 ·have:=(hp a ha h0).2.2
  omega
 ·have:=hi.lt h0 ha
  omega
theorem MkAt.take (h:MkAt W w X gs vo vw vn vq s vt L k wr) {e:Ending} (ht:TakePost X gs wr.heap.size (RefX gs vo vw vn vq) wr (z1l s x) e w') :
 ∃ v vo' vw' vn' vq',e = .returned (.tuple #[v,.int .i64 (z1l s x).2.1]) ∧ OwnI wr.heap.size 25 v (z1l s x).1 w' ∧ MkAt W w X gs vo' vw' vn' vq' (z1l s x).2.2 vt L (k + 1) w' ∧ Turn (RefX gs vo vw vn vq) (RefX gs vo' vw' vn' vq') wr w':=by
 obtain ⟨v,vo',vw',vn',vq',he,hv,hr,htu,htm⟩:=ht
 refine ⟨v,vo',vw',vn',vq',he,hv,⟨hr,htm,?_,h.own.only htu.only h.ref.mine (fun g hg=>h.off g hg),fun b hb e=>?_,h.mine,h.fit,Nat.le_succ_of_le h.len,Only.toBelow h.bel htu.only h.low h.bel.size,fun b hb=>?_,h.lo,fun b hb=>h.hi b (Nat.le_trans htu.only.size hb)⟩,htu⟩
 ·have:=(z2k h.tame.shallow x).2
  have:=h.cnt
  omega
 ·rcases htu.own b e with e | e
  ·exact h.off b hb e
  ·have:=(h.own.lt hb).2
   omega
 ·rcases htu.own b hb with e | e
  ·exact h.low b e
  ·exact Nat.le_trans h.bel.size e
theorem MkAt.push (h:MkAt W w X gs vo vw vn vq s vt L k wr) (hx:x.Fit) (hlen:L.length + 1 ≤ k) {v':Value} (hown:OwnX (fun b=>X b ∨ wr.heap.size ≤ b) w.heap.size 38 v' (L ++ [x]) w') (hg:wr.grownBy w' vt.ownBlock) (hv:v'.ownBlock = vt.ownBlock ∨ v'.ownBlock = some wr.heap.size) :
 MkAt W w X gs vo vw vn vq s v' (L ++ [x]) k w':=by
 have ho:Only (fun b=>vt.ownBlock = some b) wr w':=(Only.refl _ wr).grown hg (fun b hb=>.inl hb)
 have new:∀ b,v'.ownBlock = some b → vt.ownBlock = some b ∨ b = wr.heap.size:=fun b hb=>by
  rcases hv with e | e
  ·exact .inl (e ▸ hb)
  ·rw [e] at hb
   injection hb with hb
   exact .inr hb.symm
 refine ⟨h.ref.only ho h.mine (fun b hb e=>h.off b e hb),h.tame,h.cnt,hown.mono (fun b hb=>.inl hb) (Nat.le_refl _),fun b hb e=>?_,fun b hb=>?_,fun y hy=>?_,by rw [List.length_append];exact hlen,Only.toBelow h.bel ho (fun b hb=>(h.own.lt hb).1) h.bel.size,h.low,h.lo,fun b hb=>h.hi b (Nat.le_trans ho.size hb)⟩
 ·rcases new b hb with h1 | h1
  ·exact h.off b h1 e
  ·have:=h.ref.lt e
   omega
 ·rcases new b hb with h1 | h1
  ·exact h.mine b h1
  ·exact h.hi b (by omega)
 ·rcases List.mem_append.1 hy with hy | hy
  ·exact h.fit y hy
  ·rw [List.mem_singleton.1 hy]
   exact hx
end
def Is (q:Nat → Bool) (V:Nat → Value) (k:Nat) (R:Value → World → Prop) (w:World):Prop:=q k = true → R (V k) w
theorem Is.none {V:Nat → Value} {k:Nat} {R:Value → World → Prop} {w:World}:Is (fun _=>false) V k R w:=fun h=>by cases h
theorem Is.ne {q:Nat → Bool} {V:Nat → Value} {k n:Nat} {v:Value} {R:Value → World → Prop} {w w':World} (h:Is q V k R w) (hk:k ≠ n) (hR:∀ v,R v w → R v w'):Is (fun m=>q m || m == n) (upd V n v) k R w':=fun hq=>by
 have e:(k == n) = false:=beq_false_of_ne hk
 rw [z1r V v hk]
 exact hR _ (h (by simpa [e] using hq))
theorem Is.same {q:Nat → Bool} {V:Nat → Value} {k:Nat} {v:Value} {R:Value → World → Prop} {w:World} (h:R v w):Is (fun m=>q m || m == k) (upd V k v) k R w:=fun _=>by
 rw [z28]
 exact h
def NameR (B:Nat) (P:List (List Nat)) (F:Option Addr → Nat → Value) (v:Value) (w:World):Prop:=∃ ah ch,v = F ah ch ∧ IAt ah P w ∧ ∀ a,ah = some a → B ≤ a.block
theorem NameR.below {B:Nat} {P:List (List Nat)} {F:Option Addr → Nat → Value} {v:Value} {w w':World} (h:NameR B P F v w) (k:Below w.heap.size w w'):NameR B P F v w':=by
 obtain ⟨ah,ch,h1,h2,h3⟩:=h
 exact ⟨ah,ch,h1,h2.below k,h3⟩
structure PutP (s:Nat → Bool) (V:Nat → Value) (B i j i':Nat) (t:TypeId) (c0 c1:Array Value) (w:World):Prop where
 a:PutC s V B i j t c0 c1 w
 b:NewC s V B i' t c0 w
 ne:s i = true → s i' = true → V i ≠ V i'
 late:s j = true → s i = true
section
variable {s:Nat → Bool} {V:Nat → Value} {B i j i' m g:Nat} {t:TypeId} {c0 c1:Array Value} {w w':World} {u:Value}
theorem z4l {n:Nat} (h:(s n || n == m) = true) (hne:n ≠ m):s n = true:=by
 rw [beq_false_of_ne hne,Bool.or_false] at h
 exact h
theorem PutP.none:PutP (fun _=>false) V B i j i' t c0 c1 w:=⟨PutC.none,NewC.none,(fun h=>by cases h),(fun h=>by cases h)⟩
theorem PutP.keep (h:PutP s V B i j i' t c0 c1 w) (h1:i ≠ m) (h2:j ≠ m) (h3:i' ≠ m) (hb:Below w.heap.size w w'):PutP (fun n=>s n || n == m) (upd V m u) B i j i' t c0 c1 w' :=
 ⟨h.a.ne h1 h2 hb,h.b.ne h3 hb,fun e1 e2=>by
  rw [z1r V u h1,z1r V u h3]
  exact h.ne (z4l e1 h1) (z4l e2 h3),fun e=>by
  show (s i || i == m) = true
  rw [h.late (z4l e h2)]
  rfl⟩
theorem PutP.madeA (h:PutP s V B i j i' t c0 c1 w) (hB:B ≤ w.heap.size) (hu:s i = false) (h2:j ≠ i) (h3:i' ≠ i):PutP (fun n=>s n || n == i) (upd V i (.pointer (some ⟨w.heap.size,0,Option.none⟩))) B i j i' t c0 c1 (w.alloc (.cells c0 t)):=by
 have hj:s j = false:=by
  cases e:s j with
  | false=>rfl
  | true=>rw [h.late e] at hu;cases hu
 refine ⟨PutC.made hB hj h2,h.b.ne h3 ((Below.refl _ _).alloc (Nat.le_refl _) _),fun _ e2=>?_,fun e=>?_⟩
 ·rw [z28,z1r V _ h3]
  obtain ⟨g,hV,_,hc⟩:=h.b (z4l e2 h3)
  rw [hV]
  have:=hc.lt
  intro e
  injection e with e
  injection e with e
  injection e with e
  omega
 ·show (s i || i == i) = true
  simp
theorem PutP.madeB (h:PutP s V B i j i' t c0 c1 w) (hB:B ≤ w.heap.size) (h1:i ≠ i') (h2:j ≠ i'):PutP (fun n=>s n || n == i') (upd V i' (.pointer (some ⟨w.heap.size,0,Option.none⟩))) B i j i' t c0 c1 (w.alloc (.cells c0 t)):=by
 refine ⟨h.a.ne h1 h2 ((Below.refl _ _).alloc (Nat.le_refl _) _),NewC.same hB,fun e1 _=>?_,fun e=>?_⟩
 ·rw [z28,z1r V _ h1]
  obtain ⟨g,hV,_,hc⟩:=h.a (z4l e1 h1)
  rw [hV]
  have:=hc.lt
  intro e
  injection e with e
  injection e with e
  injection e with e
  omega
 ·show (s i || i == i') = true
  rw [h.late (z4l e h2)]
  rfl
theorem PutP.stored (h:PutP s V B i j i' t c0 c1 w) (hi:s i = true) (hV:V i = .pointer (some ⟨g,0,Option.none⟩)) (hB:B ≤ g) (h1:i ≠ j) (h3:i' ≠ j) (hc:Cells g t c1 w') (hbt:But g w w'):PutP (fun n=>s n || n == j) (upd V j u) B i j i' t c0 c1 w':=by
 refine ⟨PutC.stored hV hB h1 hc,fun e=>?_,fun e1 e2=>?_,fun _=>?_⟩
 ·obtain ⟨g',hV',hg',hc'⟩:=h.b (z4l e h3)
  refine ⟨g',by rw [z1r V _ h3];exact hV',hg',(hbt.block g' hc'.lt (fun e'=>?_)).trans hc'⟩
  have hn:=h.ne hi (z4l e h3)
  rw [hV,hV',e'] at hn
  exact hn rfl
 ·rw [z1r V u h1,z1r V u h3]
  exact h.ne (z4l e1 h1) (z4l e2 h3)
 ·show (s i || i == j) = true
  rw [hi]
  rfl
end
section
variable {o:Oper} {a:Act} {w:World} {K:Act → World → Prop} {Q:Exit → Act → World → Prop}
theorem zap (x:Operand) (ho:o.op = .call { callee:=.builtin .len,args:=#[x],argTypes:=#[29] }) (ao:Option Addr) (n c:Nat) (hx:a.eval x = .slice ao n c)
 (h:K (a.put o.dst (.int .i64 (n:Int))) w):OpWp Tryz.prog o a w K Q:=by
 have hl:∀ ty,(Builtin.len_ #[29] ty #[.slice ao n c]).run Tryz.prog w = .ok (.int .i64 (n:Int)) w:=fun ty=>by
  go_simp
 refine ⟨?_⟩
 unfold Oper.wp execOp
 simp only [ho,resolve,invoke,builtin,Sem.run_bind,Sem.run_pure,Result.andThen_ok,List.map_toArray,List.map_cons,List.map_nil,hx,hl]
 exact h
end
theorem zd1 (p:Int) {n:Nat} (h0:0 < n) (hn:n ≤ 1000000):∃ (A R:Int) (q:Nat),q < n ∧ (∀ w,(convert 3 39 (.int .i64 p)).run Tryz.prog w = .ok (.int .u64 A) w) ∧ (∀ w,(convert 3 39 (.int .i64 (n:Int))).run Tryz.prog w = .ok (.int .u64 (n:Int)) w) ∧
 (∀ w,(binOp .rem 39 (.int .u64 A) (.int .u64 (n:Int))).run Tryz.prog w = .ok (.int .u64 R) w) ∧ ∀ w,(convert 39 3 (.int .u64 R)).run Tryz.prog w = .ok (.int .i64 (q:Int)) w:=by
 have e:IntKind.u64.wrap p = p % 18446744073709551616:=by simp [IntKind.wrap,IntKind.bits,IntKind.signed]
 have en:IntKind.u64.wrap (n:Int) = (n:Int):=by
  simp [IntKind.wrap,IntKind.bits,IntKind.signed]
  omega
 have k0:0 ≤ IntKind.u64.wrap p:=by rw [e];omega
 have c1:∀ w,(convert 3 39 (.int .i64 p)).run Tryz.prog w = .ok (.int .u64 (IntKind.u64.wrap p)) w:=fun w=>by go_simp
 generalize IntKind.u64.wrap p = u at c1 k0
 have h1:0 ≤ u % (n:Int):=Int.emod_nonneg _ (by omega)
 have h2:u % (n:Int) < (n:Int):=Int.emod_lt_of_pos _ (by omega)
 have c2:∀ w,(convert 3 39 (.int .i64 (n:Int))).run Tryz.prog w = .ok (.int .u64 (n:Int)) w:=fun w=>by
  rw [← en]
  go_simp
 have c3:∀ w,(binOp .rem 39 (.int .u64 u) (.int .u64 (n:Int))).run Tryz.prog w = .ok (.int .u64 (u % (n:Int))) w:=fun w=>by
  rw [← Int.tmod_eq_emod_of_nonneg k0]
  go_simp
  omega
 generalize u % (n:Int) = r at c3 h1 h2
 refine ⟨u,r,r.toNat,by omega,c1,c2,c3,fun w=>?_⟩
 have er:IntKind.i64.wrap r = (r.toNat:Int):=by
  simp [IntKind.wrap,IntKind.bits,IntKind.signed]
  omega
 rw [← er]
 go_simp
def zbf (m:MakeN) (pa:Option Addr) (pc:Nat):Array Value:=(z4p m pa pc).toArray
theorem zhs (m:MakeN) (pa:Option Addr) (pc:Nat):∀ u ∈ z4p m pa pc,u.oneCell' = true:=fun u hu=>by
 simp only [z4p,List.mem_append,List.mem_cons,List.not_mem_nil,or_false] at hu
 rcases hu with ((((rfl | rfl) | h) | rfl | rfl | rfl) | h)
 ·rfl
 ·rfl
 ·exact zay _ u h
 ·rfl
 ·rfl
 ·rfl
 ·exact zdy _ _ _ u h
theorem zhw (m:MakeN) (pa:Option Addr) (pc:Nat):(zbf m pa pc).all (·.oneCell') = true:=by
 rw [zbf,List.all_toArray]
 exact List.all_eq_true.2 (zhs m pa pc)
theorem zas {m:MakeN} (h:m.In) (pa:Option Addr) (pc:Nat):(zbf m pa pc).size = 78:=zd2 h pa pc
structure MakeAt (g:Nat) (m:MakeN) (pa:Option Addr) (pc:Nat) (w:World):Prop where
 kind:w.cell? ⟨g,0,none⟩ = some (.int .i64 m.kind)
 author:w.cell? ⟨g,1,none⟩ = some (.int .i64 m.author)
 d:w.rangeAt g 2 (z18 m.d)
 pos:w.cell? ⟨g,37,none⟩ = some (.int .i64 m.pos)
 other:w.cell? ⟨g,38,none⟩ = some (.int .i64 m.other)
 deep:w.cell? ⟨g,39,none⟩ = some (.int .i64 m.deep)
 op:w.rangeAt g 40 (opL m.op pa pc)
theorem z34 {g:Nat} {t:TypeId} {m:MakeN} {pa:Option Addr} {pc:Nat} {w:World} (hm:m.In) (h:Cells g t (zbf m pa pc) w):MakeAt g m pa pc w:=by
 have hl:=z0s hm.d.ref.1
 have e0:∀ j,w.cell? ⟨g,j,none⟩ = (z4p m pa pc)[j]?:=fun j=>by rw [h.at,zbf,List.getElem?_toArray]
 have e37:∀ j,(z4p m pa pc)[37 + j]? = ([.int .i64 m.pos,.int .i64 m.other,.int .i64 m.deep] ++ opL m.op pa pc)[j]?:=fun j=>by
  rw [z4p,List.append_assoc,List.getElem?_append_right (by simp [hl])]
  congr 1
  simp [hl]
 refine ⟨by rw [e0];rfl,by rw [e0];rfl,fun j v hj=>?_,by rw [e0,e37 0];rfl,by rw [e0,e37 1];rfl,by rw [e0,e37 2];rfl,fun j v hj=>?_⟩
 ·have hj2:=(List.getElem?_eq_some_iff.1 hj).1
  rw [e0,z4p,List.append_assoc,List.getElem?_append_left (by simp;omega),List.getElem?_append_right (by simp)]
  rw [show 2 + j - ([Value.int .i64 m.kind,Value.int .i64 m.author]:List Value).length = j by simp]
  exact hj
 ·rw [show 40 + j = 37 + (3 + j) by omega,e0,e37,List.getElem?_append_right (by simp)]
  rw [show 3 + j - ([Value.int .i64 m.pos,Value.int .i64 m.other,Value.int .i64 m.deep]:List Value).length = j by simp]
  exact hj
theorem zhu {m:MakeN} (h:m.In) (pa:Option Addr) (pc:Nat):(Tryz.prog.info? 74).map (·.size) = some (zbf m pa pc).size:=by
 rw [zas h]
 kernel_rfl
theorem z2c {ops:Array Oper} {rest:List Oper} {o:Oper} {a:Act} {w:World} {Q:Exit → Act → World → Prop} (hg:o.guard = none) (z:Operand) (ho:o.op = .buildSlice 29 1 #[(0,z)]) (X:Nat → Prop) (y:OpN) (pa:Option Addr) (pc:Nat) (hy:y.d.ref.length = 32) (hz:a.eval z = .agg (opV y pa pc)) (hia:IAt pa y.preds w) (hoff:OffX X pa y.preds)
 (h:∀ w',Hid (Below w.heap.size w w') → Hid (OpsX X (some ⟨w.heap.size,0,none⟩) [y] w') → wpList Tryz.prog ops Q rest (a.put o.dst (.slice (some ⟨w.heap.size,0,none⟩) 1 1)) w'):wpList Tryz.prog ops Q (o :: rest) a w :=
 wpList_plain hg fun _ hK=>(z6b z ho X y pa pc hy hz hia hoff (fun w' h1 h2=>hK _ _ (h w' (Lib.hid h1) (Lib.hid h2)))).out
theorem MkAt.done {W w:World} {X:Nat → Prop} {gs:Nat} {vo vw vn vq:Value} {s:DagN} {vt:Value} {L:List OpN} {k:Nat} {wr:World} (h:MkAt W w X gs vo vw vn vq s vt L k wr) (hk:k ≤ 30) :
 ∃ v L,Ending.returned vt = .returned v ∧ OwnX (fun b=>W.heap.size ≤ b ∧ (b < w.heap.size ∨ wr.heap.size ≤ b)) w.heap.size 38 v L wr ∧ (∀ x ∈ L,x.Fit) ∧ L.length ≤ 30 ∧ Below w.heap.size w wr :=
 ⟨vt,L,rfl,h.own.mono (fun b hb=>hb.2.elim (h.lo b hb.1) (h.hi b)) (Nat.le_refl _),h.fit,Nat.le_trans h.len hk,h.bel⟩
theorem zan (s:DagN) (A:Int) (d:DraftN):(∃ c:Int,z2a s A d = (none,c) ∧ c ≠ 0) ∨ z2a s A d = (some ⟨d,A,z4a s.ops (z19 s) + 1,z19 s⟩,0):=by
 unfold z2a
 split
 ·exact .inl ⟨1,rfl,by decide⟩
 ·split
  ·exact .inl ⟨3,rfl,by decide⟩
  ·exact .inr rfl
theorem next_in {s:DagN} {A:Int} {d:DraftN} (hA:I64 A) (hd:d.In) (hs:s.Shallow) (hm:s.ops.length ≤ 1000):OpN.In ⟨d,A,z4a s.ops (z19 s) + 1,z19 s⟩:=by
 have h1:=z5m hs (by omega) (z19 s)
 have h2:=z6c s
 exact ⟨hd,hA.1,hA.2,by show _ ≤ z4a s.ops (z19 s) + 1;omega,by show z4a s.ops (z19 s) + 1 ≤ _;omega,fun p hp=>z12 p (z80 hp),Nat.le_trans h2 (by omega)⟩
theorem MkAt.nextable {W w:World} {X:Nat → Prop} {gs:Nat} {vo vw vn vq:Value} {s:DagN} {vt:Value} {L:List OpN} {k:Nat} {wr:World} (h:MkAt W w X gs vo vw vn vq s vt L k wr):∀ x ∈ s.ops,x.d.ref.length = 32 ∧ Ids x.preds ∧ x.preds.length ≤ 1000000 :=
 fun x hx=>⟨(h.tame.ops x hx).d.ref.1,(h.tame.ops x hx).preds,by have:=(h.tame.ops x hx).many;omega⟩
theorem zh9 (g:Nat) (w:World):(Instr.fieldAt 74 (.pointer (some ⟨g,0,none⟩)) 1).run Tryz.prog w = .ok (.pointer (some ⟨g,1,none⟩)) w:=by go_simp
theorem zh2 (g:Nat) (w:World):(Instr.fieldAt 74 (.pointer (some ⟨g,0,none⟩)) 2).run Tryz.prog w = .ok (.pointer (some ⟨g,2,none⟩)) w:=by go_simp
theorem zho (g:Nat) (w:World):(Instr.fieldAt 74 (.pointer (some ⟨g,0,none⟩)) 3).run Tryz.prog w = .ok (.pointer (some ⟨g,37,none⟩)) w:=by go_simp
theorem zhq (g:Nat) (w:World):(Instr.fieldAt 74 (.pointer (some ⟨g,0,none⟩)) 4).run Tryz.prog w = .ok (.pointer (some ⟨g,38,none⟩)) w:=by go_simp
theorem zh3 (g:Nat) (w:World):(Instr.fieldAt 38 (.pointer (some ⟨g,0,none⟩)) 3).run Tryz.prog w = .ok (.pointer (some ⟨g,37,none⟩)) w:=by go_simp
theorem zgi {o:Oper} {a:Act} {w:World} {K:Act → World → Prop} {Q:Exit → Act → World → Prop} (z1 z2:Operand) (ho:o.op = .buildSlice 34 2 #[(0,z1),(1,z2)]) (x y:List Nat) (hx:x.length = 32) (hy:y.length = 32) (e1:a.eval z1 = .agg (z06 .u8 x).toArray) (e2:a.eval z2 = .agg (z06 .u8 y).toArray)
 (h:∀ w',Below w.heap.size w w' → IAt (some ⟨w.heap.size,0,none⟩) [x,y] w' → K (a.put o.dst (.slice (some ⟨w.heap.size,0,none⟩) 2 2)) w'):OpWp Tryz.prog o a w K Q:=by
 obtain ⟨ie,hi,hz0,hz1,_⟩:=info_parts Tryz.infoI32
 have hr:(Instr.buildSlice 34 2 #[(0,.agg (z06 .u8 x).toArray),(1,.agg (z06 .u8 y).toArray)]).run Tryz.prog w = .ok (.slice (some ⟨w.heap.size,0,none⟩) 2 2) (w.alloc (.cells (z06 .u8 x ++ z06 .u8 y).toArray 25)):=by
  refine run_buildSlice (P:=Tryz.prog) w 34 25 2 _ (z06 .u8 x ++ z06 .u8 y).toArray ie (.agg (z06 .u8 (List.replicate 32 0)).toArray) Tryz.underlying34 hi hz0 (by rw [hz1];decide) (by rw [hz1];decide) ?_
  rw [hz1]
  have h1:=Great.fill_whole (s:=32) (by decide) [Value.agg (z06 .u8 x).toArray,.agg (z06 .u8 y).toArray] ((Array.range (2 * 32)).map ((Value.agg (z06 .u8 (List.replicate 32 0)).toArray).cells[· % (Value.agg (z06 .u8 (List.replicate 32 0)).toArray).cells.size]!))
   (fun v hv=>by
    rcases List.mem_cons.1 hv with rfl | hv
    ·show (z06 .u8 x).toArray.size = 32
     rw [List.size_toArray,z0v,hx]
    ·obtain rfl:=List.mem_singleton.1 hv
     show (z06 .u8 y).toArray.size = 32
     rw [List.size_toArray,z0v,hy]) (by simp)
  have q1:(#[(0,Value.agg (z06 .u8 x).toArray),(1,.agg (z06 .u8 y).toArray)]:Array (Nat × Value)).toList = ([Value.agg (z06 .u8 x).toArray,.agg (z06 .u8 y).toArray].zipIdx 0).map fun x=>(x.2,x.1):=by simp [List.zipIdx_cons]
  have q2:([Value.agg (z06 .u8 x).toArray,.agg (z06 .u8 y).toArray].flatMap fun v=>v.cells.toList).toArray = (z06 .u8 x ++ z06 .u8 y).toArray:=by
   rw [List.flatMap_cons,List.flatMap_cons,List.flatMap_nil,List.append_nil]
   rfl
  rw [q1,h1,q2]
 have hb:Below w.heap.size w (w.alloc (.cells (z06 .u8 x ++ z06 .u8 y).toArray 25)):=(Below.refl _ _).alloc (Nat.le_refl _) _
 have hc:∀ j,(w.alloc (.cells (z06 .u8 x ++ z06 .u8 y).toArray 25)).cell? ⟨w.heap.size,j,none⟩ = (z06 .u8 x ++ z06 .u8 y)[j]?:=fun j=>by
  have e:=Lib.cell_of_heap (heap_alloc_new w (.cells (z06 .u8 x ++ z06 .u8 y).toArray 25)) j
  rw [List.getElem?_toArray] at e
  exact e
 have hk:=h _ hb (.inr ⟨w.heap.size,0,rfl,by rw [World.size_alloc];exact Nat.lt_succ_self _,fun i hi j v hj=>?_⟩)
 ·refine ⟨?_⟩
  have q:((#[(0,z1),(1,z2)]:Array (Nat × Operand)).map fun (i,x)=>(i,a.eval x)) = #[(0,.agg (z06 .u8 x).toArray),(1,.agg (z06 .u8 y).toArray)]:=by simp [e1,e2]
  unfold Oper.wp execOp
  simp only [ho,q,Sem.run_bind,Sem.run_pure,hr,Result.andThen_ok]
  exact hk
 ·have hjl:=(List.getElem?_eq_some_iff.1 hj).1
  rw [hc]
  match i,hi with
  | 0, _ =>
    have hj0:(z06 .u8 x)[j]? = some v:=hj
    rw [show 0 + 32 * 0 + j = j by omega,List.getElem?_append_left (by
     have:=(List.getElem?_eq_some_iff.1 hj0).1
     exact this)]
    exact hj0
  | 1, _ =>
    have hj1:(z06 .u8 y)[j]? = some v:=hj
    rw [List.getElem?_append_right (by rw [z0v,hx];omega),z0v,hx,show 0 + 32 * 1 + j - 32 = j by omega]
    exact hj1
theorem zd6 (i:Int):I64 (wrap64 i):=by
 unfold wrap64 I64
 omega
end Go.Proofs.YtnbldbbbibpobaaGreatDoor
