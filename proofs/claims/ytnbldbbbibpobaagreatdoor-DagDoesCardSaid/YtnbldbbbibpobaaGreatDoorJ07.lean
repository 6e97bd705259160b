/-
  Joined: The document's Depth.; The developers' GoodDraft.; pack.Num: the number's bytes.; A builder of the call's own; pack.List.; The developers' DraftText.; The developers' joined.; The developers' Text.; The document's own Num, Text and List, walked.
-/
import Derived.Deep.OwnRows
import Derived.Laws.IdiomStrings
import Derived.Lib.AppendStr
import Derived.Lib.Builder
import Derived.Lib.UnsafeStr
import Derived.Lib.Walk
import Derived.Shelf.Small.Bits
import Derived.Shelf.Strconv.Itoa0
import Derived.Shelf.Strings.Builder1
import Derived.Shelf.Strings.BuilderF
import Derived.Shelf.Strings.BuilderK
import Derived.Test.YtnbldbbbibpobaaGreatDoorProg
import Derived.Test.YtnbldbbbibpobaaGreatDoorJ01
import Derived.Test.YtnbldbbbibpobaaGreatDoorJ04
import Derived.Test.YtnbldbbbibpobaaGreatDoorJ06
set_option maxRecDepth 100000
set_option maxHeartbeats 4000000
namespace Go.Proofs.YtnbldbbbibpobaaGreatDoor
open Go.RowKit Go.BigFrame
theorem zda {ops:List OpN} {P:List (List Nat)} {k:Nat} (hk:k < P.length):z4a ops (P.take (k + 1)) = if z4a ops (P.take k) < z1d ops (P.getD k []) then z1d ops (P.getD k []) else z4a ops (P.take k):=by
 rw [z4a,z4a,List.take_succ_eq_append_getElem hk,List.foldl_append,List.foldl_cons,List.foldl_nil,List.getD_eq_getElem?_getD,List.getElem?_eq_getElem hk]
 rfl
theorem zih {ops:List OpN} {x:List Nat} (h:x ∈ ops.map z0a):∃ (q:Nat) (y:OpN),q < ops.length ∧ atN (ops.map z0a) x = (q:Int) ∧ ops[q]? = some y ∧ z0a y = x ∧ z1d ops x = y.depth:=by
 have hi:=List.idxOf_lt_length_of_mem h
 have hl:(ops.map z0a).length = ops.length:=List.length_map _
 have hg:(ops.map z0a)[(ops.map z0a).idxOf x] = x:=List.getElem_idxOf hi
 rw [hl] at hi
 refine ⟨(ops.map z0a).idxOf x,ops[(ops.map z0a).idxOf x],hi,by rw [atN,if_pos h],List.getElem?_eq_getElem hi,?_,?_⟩
 ·rw [List.getElem_map] at hg
  exact hg
 ·rw [z1d,List.getElem?_eq_getElem hi]
  rfl
theorem zdk {x:OpN} {pa:Option Addr} {pc:Nat} (hr:x.d.ref.length = 32):(opL x pa pc)[36]? = some (.int .i64 x.depth):=by
 rw [opL,List.getElem?_append_right (by rw [z0s hr];omega),z0s hr]
 rfl
theorem z98 (X:Nat → Prop) (gs:Nat) (vo vw vn vq:Value) (s:DagN) (o:OpN) (pa:Option Addr) (pc:Nat) (w:World) (h:RefAt X gs vo vw vn vq s w) (hrr:∀ x ∈ s.ops,x.d.ref.length = 32) (ho:o.d.ref.length = 32) (hP:Ids o.preds) (hp:IAt pa o.preds w) (hq:o.preds.length ≤ 1000000) (hb:s.ops.length ≤ 1000000)
 (hsh:s.Shallow) (hwh:∀ x ∈ o.preds,x ∈ s.names) :
 Calls Tryz.prog 52 #[.pointer (some ⟨gs,0,none⟩),.agg (opV o pa pc)] w fun e w'=>e = .returned (.int .i64 (z1h s.ops o)) ∧ Below w.heap.size w w':=by
 obtain ⟨vb,cap,rfl⟩:=h.ops.form
 have hat:=h.ops.at
 have HAT:=Lib.hid (fun (n:List Nat) (hn:n.length = 32) (hnl:∀ y ∈ n,y < 256) (w1:World) (b:Below w.heap.size w w1)=>z69 X gs _ vw vn vq s n w1 (h.below b) hn hnl hb)
 have HMD:=Lib.hid (fun P:List (List Nat)=>show 0 ≤ z4a s.ops P ∧ z4a s.ops P ≤ 1000000 from ⟨(z5m hsh (by omega) P).1,Int.le_trans (z5m hsh (by omega) P).2 (by omega)⟩)
 have hc:=h.cell.1
 have hgs:=h.cells.lt
 have b1:Below w.heap.size w (w.alloc (.cells (opV o pa pc) 38)):=(Below.refl _ _).alloc (Nat.le_refl _) _
 have x1:Cells w.heap.size 38 (opV o pa pc) (w.alloc (.cells (opV o pa pc) 38)):=heap_alloc_new w _
 have HB:=Lib.hid b1
 have HX:=Lib.hid x1
 have HPA:=Lib.hid (hp.below b1)
 have HO:=Lib.hid ho
 have HPI:=Lib.hid hP
 have HRR:=Lib.hid hrr
 have HWH:=Lib.hid hwh
 obtain ⟨N,hN⟩:∃ N,s.ops.length = N:=⟨_,rfl⟩
 have HN:=Shut.mk hN
 rw [hN] at hc
 have HC:=Lib.hid (fun (w1:World) (b:Below w.heap.size w w1)=>(b.cell (p:=⟨gs,0,none⟩) hgs).trans hc)
 have HOA:=Lib.hid (fun (w1:World) (b:Below w.heap.size w w1)=>hat.below b)
 obtain ⟨m,hme⟩:∃ m,o.preds.length = m:=⟨_,rfl⟩
 have HM:=Shut.mk hme
 rw [hme] at hq
 rw [hN] at hb
 have HDE:=Shut.mk (show z1h s.ops o = z4a s.ops o.preds + 1 from rfl)
 obtain ⟨DD,hDD⟩:∃ DD,z1h s.ops o = DD:=⟨_,rfl⟩
 rw [hDD] at HDE ⊢
 clear h hat b1 x1 hp ho hP hme hrr hwh hsh hc hgs hN hDD
 go_enter Tryz.func52,Tryz.ntmps52
 go_upto_region 1 with (fail)
 obtain ⟨w1,hw1⟩:∃ x,x = w.alloc (.cells (opV o pa pc) 38):=⟨_,rfl⟩
 rw [← hw1] at HB HX HPA ⊢
 clear hw1
 obtain ⟨_,_,_,c37⟩:=z0k HO.out HX.out
 rw [HM.out] at c37
 go_wp2_with fail
 clear c37
 go_loopw [5,12] (fun v i wr=>∃ k:Nat,k ≤ m ∧ i = .int .i64 k ∧ v = .int .i64 (z4a s.ops (o.preds.take k)) ∧ Below w1.heap.size w1 wr) (fun _ i _=>m - (intOf i).toNat)
 case atStart=>exact ⟨0,Nat.zero_le _,rfl,rfl,Below.refl _ _⟩
 case round =>
  obtain ⟨k,hk,rfl,rfl,hbw⟩:=hrel
  have HBW:=Lib.hid hbw
  have HPW:=Lib.hid (HPA.out.below hbw)
  clear hbw
  by_cases hlt:k < m
  ·obtain ⟨b,ob,rfl,hbl⟩:=HPW.out.some (by rw [HM.out];omega)
   have g1:=HPW.out.get (i:=k) (by rw [HM.out];omega)
   have i1:=Ids.getD HPI.out (i:=k) (by rw [HM.out];omega)
   have HST:=Shut.mk (zda (ops:=s.ops) (P:=o.preds) (k:=k) (by rw [HM.out];omega))
   have hmem:o.preds.getD k [] ∈ s.names:=HWH.out _ (by rw [List.getD_eq_getElem?_getD,List.getElem?_eq_getElem (by rw [HM.out];exact hlt)];exact List.getElem_mem _)
   obtain ⟨x,hx⟩:∃ x,o.preds.getD k [] = x:=⟨_,rfl⟩
   rw [hx] at g1 i1 HST hmem
   obtain ⟨q,y,hqN,haq,hy,_,hdy⟩:=zih hmem
   rw [HN.out] at hqN
   obtain ⟨bo,oo,rfl,hbo,hO⟩:=(HOA.out w (Below.refl _ _)).get hy
   obtain ⟨py,cy,hr1,_,_⟩:=hO
   have hd0:=hr1 36 _ (zdk (HRR.out y (List.mem_of_getElem? hy)))
   rw [hdy] at HST
   obtain ⟨D,hD⟩:∃ D,y.depth = D:=⟨_,rfl⟩
   rw [hD] at HST hd0
   obtain ⟨M,hM⟩:∃ M,z4a s.ops (o.preds.take k) = M:=⟨_,rfl⟩
   rw [hM] at HST ⊢
   have HD0:=Lib.hid (fun (w1:World) (b:Below w.heap.size w w1)=>(b.cell (p:=⟨bo,oo + q * 38 + 36,none⟩) hbo).trans hd0)
   have HG1:=Lib.hid g1
   have HS1:=Lib.hid (show (Tryz.prog.info? 25).map (·.size) = some x.length by rw [i1.1];exact Tryz.sizeI)
   have HL2:=Lib.hid (show (List.replicate 32 0).length = x.length by rw [i1.1];rfl)
   have HCA:=Lib.hid (fun w1 b=>show Calls Tryz.prog 21 #[.pointer (some ⟨gs,0,none⟩),.agg (z06 .u8 x).toArray] w1 fun e w'=>e = .returned (.int .i64 (q:Int)) ∧ Below w1.heap.size w1 w' from haq ▸ HAT.out x i1.1 i1.2 w1 b)
   clear hx g1 i1 hbl hmem haq hy hdy hr1 hd0 hD hM
   go_wp2_with (first
    | (refine z0b rfl 25 _ rfl b (ob + k * 32) x _ rfl HG1.out Tryz.underlying25 rfl HS1.out ?_)
    | (refine z04 rfl 25 _ _ rfl rfl wr.heap.size .u8 (List.replicate 32 0) x 25 rfl rfl (heap_alloc_new wr _) HS1.out HL2.out ?_))
   intro w5 hc' hb'
   have HY:=Lib.hid hc'.out
   have HB5:=Lib.hid (show Below w1.heap.size w1 w5 from But.toBelow (HBW.out.alloc HBW.out.size _) hb'.out HBW.out.size (Nat.le_trans HBW.out.size (by rw [World.size_alloc];exact Nat.le_succ _)))
   clear hc' hb' HL2
   have HB0:=Lib.hid (HB.out.trans (HB5.out.mono HB.out.size))
   have HC5:=Lib.hid (fun (w':World) (b:Below w5.heap.size w5 w')=>HC.out w' (HB0.out.trans (b.mono HB0.out.size)))
   have HD5:=Lib.hid (fun (w':World) (b:Below w5.heap.size w5 w')=>HD0.out w' (HB0.out.trans (b.mono HB0.out.size)))
   have HY5:=Lib.hid (fun (w':World) (b:Below w5.heap.size w5 w')=>HY.out.below b)
   have HCA5:=Lib.hid (fun (w':World) (b:Below w5.heap.size w5 w')=>HCA.out w' (HB0.out.trans (b.mono HB0.out.size)))
   clear HCA HD0 HY
   go_upto_region 5 with (fail)
   refine z09 (fun w'=>Below w5.heap.size w5 w') (by kernel_rfl) (by kernel_rfl) (Below.refl _ _).drew ?_
   repeat (first
    | go_big_quiet_skip
    | (go_big_quiet_want;refine z02 29 _ rfl ⟨gs,0,none⟩ _ rfl HC5.out Tryz.isAgg29 ?_;go_big_quiet_on;simp only [Act.put,zS,zA,zB])
    | (go_big_quiet_want;refine z0q 25 _ rfl wr.heap.size .u8 x 25 _ rfl HY5.out Tryz.underlying25 rfl HS1.out ?_;go_big_quiet_on;simp only [Act.put,zS,zA,zB])
    | (go_big_quiet_want;refine z02 3 _ rfl ⟨bo,oo + q * 38 + 36,none⟩ _ rfl HD5.out Tryz.isAgg3 ?_;go_big_quiet_on;simp only [Act.put,zS,zA,zB])
    | go_big_quiet_step ((intro hs';first
     | (go_at_call 21;exact (HCA5.out _ hs').mono fun e w' h=>⟨h.1,hs'.trans (h.2.mono hs'.size)⟩)
     | rfl)))
   refine wpQuiet_nil ?_
   intro w6 hb6
   have HB6:=Lib.hid (HB5.out.trans (hb6.mono HB5.out.size))
   clear hb6 HC5 HD5 HY5 HCA5
   by_cases hmd:M < D
   ·rw [if_pos hmd] at HST
    go_wp2_with fail
    exact ⟨⟨k + 1,by omega,by go_num,by rw [HST.out],HB6.out⟩,by simp [intOf];omega⟩
   ·rw [if_neg hmd] at HST
    go_wp2_with fail
    exact ⟨⟨k + 1,by omega,by go_num,by rw [HST.out],HB6.out⟩,by simp [intOf];omega⟩
  ·obtain rfl:k = m:=by omega
   have HR:=Shut.mk (show DD = z4a s.ops (o.preds.take k) + 1 by rw [HDE.out,List.take_of_length_le (Nat.le_of_eq HM.out)])
   have hmd:=HMD.out (o.preds.take k)
   obtain ⟨M,hM⟩:∃ M,z4a s.ops (o.preds.take k) = M:=⟨_,rfl⟩
   rw [hM] at HR hmd ⊢
   obtain ⟨hm1,hm2⟩:=hmd
   clear hM
   go_wp2_with fail
   go_ret
   exact ⟨by rw [HR.out];rfl,HB.out.trans (HBW.out.mono HB.out.size)⟩
def z8w (d:DraftN):Bool:=if d.kind = 1 ∨ d.kind = 2 ∨ d.kind = 3 then (d.ref == zeroI) else if d.kind = 4 then true else if d.kind = 5 then !(d.ref == zeroI) && d.val == [] else false
theorem zim (d:DraftN):GoodD d ↔ 1 ≤ d.key.length ∧ d.key.length ≤ 16 ∧ d.val.length ≤ 64 ∧ z8w d = true:=by
 unfold GoodD z8w
 constructor
 ·rintro ⟨h1,h2,h3,h4,h5,h6,h7⟩
  refine ⟨h3,h4,h5,?_⟩
  split
  ·rw [h6 (by omega)];simp
  ·split
   ·rfl
   ·split
    ·obtain ⟨a,b⟩:=h7 (by omega)
     simp [a,b]
    ·omega
 ·rintro ⟨h3,h4,h5,h⟩
  split at h
  ·exact ⟨by omega,by omega,h3,h4,h5,fun _=>by simpa using h,fun h=>by omega⟩
  ·split at h
   ·exact ⟨by omega,by omega,h3,h4,h5,fun h=>by omega,fun h=>by omega⟩
   ·split at h
    ·simp at h
     exact ⟨by omega,by omega,h3,h4,h5,fun h=>by omega,fun _=>h⟩
    ·cases h
theorem zco (d:DraftN) (hr:IdOk d.ref) (w:World) :
 Calls Tryz.prog 82 #[.agg (z0d d)] w fun e w'=>e = .returned (.bool (z8w d)) ∧ Below w.heap.size w w':=by
 have hx:Cells w.heap.size 27 (z0d d) (w.alloc (.cells (z0d d) 27)):=heap_alloc_new w _
 have hb:Below w.heap.size w (w.alloc (.cells (z0d d) 27)):=(Below.refl _ _).alloc (Nat.le_refl _) _
 obtain ⟨c0,c1,c2,c3⟩:=z2z hx
 have HC3:=Lib.hid c3
 have HB:=Lib.hid hb
 have heq:=fun w'=>z2b d.ref zeroI hr.1 zeroI_ok.1 hr.2 zeroI_ok.2 w'
 have HI:=Lib.hid (show (Tryz.prog.info? 25).map (·.size) = some d.ref.length by rw [hr.1];exact Tryz.sizeI)
 obtain ⟨k,hkd⟩:∃ k,d.kind = k:=⟨_,rfl⟩
 obtain ⟨z,hz2⟩:∃ z,(d.ref == zeroI) = z:=⟨_,rfl⟩
 have HG:=Shut.mk (show z8w d = if k = 1 ∨ k = 2 ∨ k = 3 then z else if k = 4 then true else if k = 5 then !z && d.val == [] else false by rw [z8w,hkd,hz2])
 rw [hkd] at c0
 rw [hz2,zdr] at heq
 clear hx hb c3 hz2
 by_cases h1:k = 1
 ·subst h1
  have hgd:z8w d = z:=HG.out
  rw [hgd]
  clear hgd
  go_enter Tryz.func82,Tryz.ntmps82
  cases z <;> go_wp2_with (refine z0b rfl 25 _ rfl w.heap.size 3 d.ref _ rfl HC3.out Tryz.underlying25 rfl HI.out ?_)
  all_goals
   go_ret
   exact ⟨rfl,HB.out⟩
 by_cases h2:k = 2
 ·subst h2
  have hgd:z8w d = z:=HG.out
  rw [hgd]
  clear hgd
  go_enter Tryz.func82,Tryz.ntmps82
  cases z <;> go_wp2_with (refine z0b rfl 25 _ rfl w.heap.size 3 d.ref _ rfl HC3.out Tryz.underlying25 rfl HI.out ?_)
  all_goals
   go_ret
   exact ⟨rfl,HB.out⟩
 by_cases h3:k = 3
 ·subst h3
  have hgd:z8w d = z:=HG.out
  rw [hgd]
  clear hgd
  go_enter Tryz.func82,Tryz.ntmps82
  cases z <;> go_wp2_with (refine z0b rfl 25 _ rfl w.heap.size 3 d.ref _ rfl HC3.out Tryz.underlying25 rfl HI.out ?_)
  all_goals
   go_ret
   exact ⟨rfl,HB.out⟩
 by_cases h4:k = 4
 ·subst h4
  have hgd:z8w d = true:=HG.out
  rw [hgd]
  clear hgd
  go_enter Tryz.func82,Tryz.ntmps82
  cases z <;> go_wp2_with (refine z0b rfl 25 _ rfl w.heap.size 3 d.ref _ rfl HC3.out Tryz.underlying25 rfl HI.out ?_)
  all_goals
   go_ret
   exact ⟨rfl,HB.out⟩
 by_cases h5:k = 5
 ·subst h5
  have hgd:z8w d = (!z && d.val == []):=HG.out
  rw [hgd]
  clear hgd
  go_enter Tryz.func82,Tryz.ntmps82
  cases z <;> go_wp2_with (refine z0b rfl 25 _ rfl w.heap.size 3 d.ref _ rfl HC3.out Tryz.underlying25 rfl HI.out ?_)
  all_goals
   go_ret
   exact ⟨rfl,HB.out⟩
 have t1:(k == 1) = false:=by simp [h1]
 have t2:(k == 2) = false:=by simp [h2]
 have t3:(k == 3) = false:=by simp [h3]
 have t4:(k == 4) = false:=by simp [h4]
 have t5:(k == 5) = false:=by simp [h5]
 have hgd:z8w d = false:=by rw [HG.out,if_neg (by omega),if_neg h4,if_neg h5]
 rw [hgd]
 clear hgd
 go_enter Tryz.func82,Tryz.ntmps82
 cases z <;> go_wp2_with (refine z0b rfl 25 _ rfl w.heap.size 3 d.ref _ rfl HC3.out Tryz.underlying25 rfl HI.out ?_)
 all_goals
  go_ret
  exact ⟨rfl,HB.out⟩
theorem z7j (d:DraftN) (hr:IdOk d.ref) (hk:d.key.length ≤ 140737488351232) (hv:d.val.length ≤ 140737488351232) (w:World) :
 Calls Tryz.prog 57 #[.agg (z0d d)] w fun e w'=>e = .returned (.bool (decide (GoodD d))) ∧ Below w.heap.size w w':=by
 have hx:Cells w.heap.size 27 (z0d d) (w.alloc (.cells (z0d d) 27)):=heap_alloc_new w _
 have hb:Below w.heap.size w (w.alloc (.cells (z0d d) 27)):=(Below.refl _ _).alloc (Nat.le_refl _) _
 obtain ⟨c0,c1,c2,c3⟩:=z2z hx
 have HX:=Lib.hid hx
 have HB:=Lib.hid hb
 have HSD:=Lib.hid (show (Tryz.prog.info? 27).map (·.size) = some (z0d d).size by rw [z5a hr.1];exact Tryz.sizeD)
 have HF:=Lib.hid (fun w'=>zco d hr w')
 obtain ⟨f,hf⟩:∃ f,z8w d = f:=⟨_,rfl⟩
 obtain ⟨kl,hkl⟩:∃ n,d.key.length = n:=⟨_,rfl⟩
 obtain ⟨vl,hvl⟩:∃ n,d.val.length = n:=⟨_,rfl⟩
 have hke:(d.key == []) = decide (kl = 0):=by rw [z9t,← hkl];simp [List.length_eq_zero_iff]
 have HG:=Shut.mk (show decide (GoodD d) = decide (1 ≤ kl ∧ kl ≤ 16 ∧ vl ≤ 64 ∧ f = true) from decide_eq_decide.2 (by rw [zim,hkl,hvl,hf]))
 rw [hf] at HF
 clear hx hb c0 c3 hf
 by_cases h1:kl = 0
 ·have e1:(d.key == []) = true:=by rw [hke];exact decide_eq_true h1
  have HR:=Shut.mk (HG.out.trans (decide_eq_false (by omega)))
  clear hke
  go_enter Tryz.func57,Tryz.ntmps57
  go_wp2_with fail
  go_ret
  exact ⟨by rw [HR.out];rfl,HB.out⟩
 have e1:(d.key == []) = false:=by rw [hke];exact decide_eq_false h1
 clear hke
 by_cases h2:16 < kl
 ·have HR:=Shut.mk (HG.out.trans (decide_eq_false (by omega)))
  have h2b:decide ((kl:Int) ≤ 16) = false:=decide_eq_false (by omega)
  go_enter Tryz.func57,Tryz.ntmps57
  go_wp2_with fail
  go_ret
  exact ⟨by rw [HR.out];rfl,HB.out⟩
 have h2b:decide ((kl:Int) ≤ 16) = true:=decide_eq_true (by omega)
 by_cases h3:64 < vl
 ·have HR:=Shut.mk (HG.out.trans (decide_eq_false (by omega)))
  have h3b:decide ((vl:Int) ≤ 64) = false:=decide_eq_false (by omega)
  go_enter Tryz.func57,Tryz.ntmps57
  go_wp2_with fail
  go_ret
  exact ⟨by rw [HR.out];rfl,HB.out⟩
 have h3b:decide ((vl:Int) ≤ 64) = true:=decide_eq_true (by omega)
 have HR:=Shut.mk (show decide (GoodD d) = f by rw [HG.out];cases f with | true=>exact decide_eq_true ⟨by omega,by omega,by omega,rfl⟩ | false=>exact decide_eq_false (fun h=>by cases h.2.2.2))
 go_enter Tryz.func57,Tryz.ntmps57
 go_wp2_with (refine z2w (by rfl) 27 _ rfl w.heap.size (z0d d) 27 _ rfl HX.out Tryz.underlying27 rfl HSD.out ?_)
 refine (HF.out _).mono ?_
 rintro e w1 ⟨rfl,hb⟩
 have HB1:=Lib.hid (HB.out.trans (hb.mono HB.out.size))
 clear hb
 go_wp2_with fail
 go_ret
 exact ⟨by rw [HR.out];rfl,HB1.out⟩
end Go.Proofs.YtnbldbbbibpobaaGreatDoor
namespace Go.Proofs
open Go.Shelf Go.RowKit
def Tryz.lays125_ren:Go.Shelf.Ren:=⟨fun | 125=>94 | 128=>123 | 129=>124 | n=>n,fun | 46=>39 | 3=>3 | 51=>143 | 53=>142 | 4=>4 | 5=>5 | 9=>9 | n=>n,fun | n=>n⟩
theorem Tryz.lays125:Go.Proofs.Lays.n125 Tryz.prog Tryz.lays125_ren:={
 mixed:=by kernel_rfl
 f125:=Tryz.func94.trans (congrArg some (by kernel_rfl))
 f128:=Tryz.func123.trans (congrArg some (by kernel_rfl))
 f129:=Tryz.func124.trans (congrArg some (by kernel_rfl))
 t3:=Tryz.underlying3
 a3:=Tryz.isAgg3
 z3:=Tryz.sizeOf3
 v3:=Tryz.zeroValue3
 t4:=Tryz.underlying4
 a4:=Tryz.isAgg4
 z4:=Tryz.sizeOf4
 v4:=Tryz.zeroValue4
 t5:=Tryz.underlying5
 a5:=Tryz.isAgg5
 z5:=Tryz.sizeOf5
 v5:=Tryz.zeroValue5
 t9:=Tryz.underlying9
 a9:=Tryz.isAgg9
 z9:=Tryz.sizeOf9
 v9:=Tryz.zeroValue9
 t46:=Tryz.underlying39
 a46:=Tryz.isAgg39
 z46:=Tryz.sizeOf39
 v46:=Tryz.zeroValue39
 t51:=Tryz.underlying143
 a51:=Tryz.isAgg143
 z51:=Tryz.sizeOf143
 v51:=Tryz.zeroValue143
 t53:=Tryz.underlying142
 a53:=Tryz.isAgg142
 z53:=Tryz.sizeOf142
 v53:=Tryz.zeroValue142 }
theorem Tryz.bits_Len (x:Int) (w:World) (h0:0 ≤ x) (h1:x ≤ 18446744073709551615) :
 Calls Tryz.prog 94 #[.int .u64 x] w fun e w'=>e = .returned (.int .i64 (Lib.bitLen x.toNat)) ∧ w' = w:=Any.bits_Len Tryz.lays125 x w h0 h1
end Go.Proofs
namespace Go.Proofs.YtnbldbbbibpobaaGreatDoor
open Go.RowKit
theorem Tryz.infoByte:(Tryz.prog.info? 5).map (fun i=>(i.zero,i.size,i.bytes)) = some (some (.int .u8 0),1,1):=by kernel_rfl
def z8i (n L k j:Nat):Value:=if j = 0 then .int .u8 L else if L - k < j then .int .u8 ((n:Int) / 2 ^ (8 * (L - j)) % 256) else .int .u8 0
theorem zhl {n L:Nat} (hL:(dig n).length = L) (h8:L ≤ 8) (j:Nat) (hj:j < (z2h n).length):z8i n L L j = .int .u8 ((z2h n)[j].toNat:Int):=by
 unfold z8i
 cases j with
 | zero =>
   rw [if_pos rfl]
   have:(z2h n)[0].toNat = L:=by simp only [z2h,List.getElem_cons_zero,hL];simp;omega
   rw [this]
 | succ j =>
   have hj2:j < (dig n).length:=by rw [z5b] at hj;omega
   rw [if_neg (by omega),if_pos (by omega)]
   have e:(z2h n)[j + 1].toNat = n / 256 ^ (L - (j + 1)) % 256:=by
    simp only [z2h,List.getElem_cons_succ]
    rw [dig_get n j hj2,hL,show L - 1 - j = L - (j + 1) by omega]
   rw [e,show (256:Nat) = 2 ^ 8 by decide,← Nat.pow_mul]
   simp
theorem ze7 {n L k:Nat} (hk:k < L) (i:Nat) :
 (fun j=>if j = L - k then Value.int .u8 ((n:Int) / 2 ^ (8 * k) % 256) else z8i n L k j) i = z8i n L (k + 1) i:=by
 unfold z8i
 by_cases e:i = L - k
 ·subst e
  rw [if_neg (by omega),if_pos (by omega),show L - (L - k) = k by omega]
  simp
 ·simp only [e,if_false]
  by_cases e0:i = 0
  ·simp [e0]
  ·simp only [e0,if_false]
   by_cases e1:L - k < i
   ·rw [if_pos e1,if_pos (by omega)]
   ·rw [if_neg e1,if_neg (by omega)]
theorem zf0 (n:Nat) (w:World) (hn:n < 9223372036854775808) :
 Calls Tryz.prog 97 #[.int .i64 n] w fun e w'=>e = .returned (.string ⟨(z2h n).toArray⟩) ∧ Below w.heap.size w w':=by
 have b1:=zhf hn
 have b2:((Lib.bitLen n:Int) + 7) / 8 = ((dig n).length:Int):=by have:=zgl hn;omega
 have h8:=z5t hn
 have hD:=Lib.hid (rfl:dig n = dig n)
 generalize hL:(dig n).length = L at b2 h8
 have HL:=Lib.hid hL
 clear hL hD
 have hmk:=run_make_row' (P:=Tryz.prog) 121 5 (.int .u8 0) 1 Tryz.underlying121 Tryz.infoByte rfl .i64 .i64 (1 + L) (by omega) (by omega)
 simp only [Int.natCast_add,Int.natCast_one] at hmk
 have hrow:=World.rowIs_made w (.int .u8 0) (1 + L) 5
 have hrow2:=hrow.set 0 (.int .u8 (L:Int))
 have c0:=hrow.cell (i:=0) (by omega)
 have f0:=hrow.frozen 0
 have HR:=Lib.hid hrow2
 clear hrow hrow2
 go_enter Tryz.func97,Tryz.ntmps97
 go_wp2_with (go_at_call 94;refine (Tryz.bits_Len _ _ (by omega) (by omega)).mono ?_;rintro e w' ⟨rfl,rfl⟩)
 rw [b2]
 have B2:=Lib.hid b2
 clear b2 c0 f0 HR hmk
 go_loopw [21] (fun i wr=>∃ k:Nat,k ≤ L ∧ i = .int .i64 k ∧ wr.rowIs w'.heap.size 5 (1 + L) (z8i n L k) ∧ Below w'.heap.size w' wr) (fun i _=>L - (intOf i).toNat)
 case atStart =>
  refine ⟨0,Nat.zero_le _,rfl,?_,(Below.refl _ _).alloc (Nat.le_refl _) _⟩
  have h:=World.rowIs_alloc w' ((madeCells #[Value.int IntKind.u8 0] (1 + L)).setIfInBounds 0 (Value.int IntKind.u8 ↑L)) 5 (z8i n L 0) (by
   intro i hi
   simp only [Array.size_setIfInBounds,size_madeCells] at hi
   rw [Array.getElem?_setIfInBounds]
   unfold z8i
   by_cases e:i = 0
   ·subst e;simp [size_madeCells]
   ·rw [if_neg (by omega),if_neg e,if_neg (by omega)]
    simp [madeCells,hi,Nat.mod_one])
  simpa [size_madeCells] using h
 case round =>
  obtain ⟨k,hk,rfl,hrow,hbel⟩:=hrel
  by_cases hlt:k < L
  ·have c0:=hrow.cell (i:=L - k) (by omega)
   have f0:=hrow.frozen (L - k)
   have HR:=Lib.hid hrow
   have HB:=Lib.hid hbel
   clear hrow hbel
   go_wp2
   refine ⟨⟨k + 1,by omega,by go_num,?_,HB.out.setCell (by simp) _⟩,by simp [intOf];omega⟩
   exact (HR.out.set (L - k) _).congr (fun i _=>ze7 hlt i)
  ·have hkL:k = L:=by omega
   subst hkL
   have hconv:(convert 121 9 (.slice (some ⟨w'.heap.size,0,none⟩) (1 + k) (1 + k))).run Tryz.prog wr = .ok (.string ⟨(z2h n).toArray⟩) wr:=by
    have hlen:(z2h n).length = 1 + k:=by rw [z5b,HL.out]
    rw [← hlen]
    refine run_convert_bytes_back wr _ _ 5 ⟨w'.heap.size,0,none⟩ _ (z2h n) Tryz.underlying121 Tryz.underlying5 Tryz.underlying9 ?_
    intro j hj
    have:=hrow.cell (i:=j) (by omega)
    rw [zhl HL.out h8 j hj] at this
    rw [show Addr.add ⟨w'.heap.size,0,none⟩ j = ⟨w'.heap.size,j,none⟩ by simp only [Addr.add];split <;> simp_all]
    exact this
   have HB:=Lib.hid hbel
   clear hrow hbel
   go_wp2
   go_ret
   exact ⟨rfl,HB.out⟩
theorem num_neg (n:Int) (w:World) (hn:n < 0) (hlo:-9223372036854775808 ≤ n) :
 Calls Tryz.prog 97 #[.int .i64 n] w fun e w'=>e = .returned (.string ⟨#[0]⟩) ∧ Below w.heap.size w w':=by
 have b0:Lib.bitLen 0 = 0:=by decide
 have hmax:max n 0 = 0:=by omega
 have hmk:∀ w:World,(Instr.makeSlice 121 (.int .i64 1) (.int .i64 1)).run Tryz.prog w = .ok (.slice (some ⟨w.heap.size,0,none⟩) 1 1) (w.alloc (.cells #[.int .u8 0] 5)):=fun w=>by kernel_rfl
 have hconv:(convert 121 9 (.slice (some ⟨w.heap.size,0,none⟩) 1 1)).run Tryz.prog (w.alloc (.cells #[.int .u8 0] 5)) = .ok (.string ⟨#[0]⟩) (w.alloc (.cells #[.int .u8 0] 5)):=by
  refine run_convert_bytes_back _ _ _ 5 ⟨w.heap.size,0,none⟩ _ [0] Tryz.underlying121 Tryz.underlying5 Tryz.underlying9 ?_
  intro j hj
  have:j = 0:=by simpa using hj
  subst this
  simp [Addr.add]
 go_enter Tryz.func97,Tryz.ntmps97
 go_wp2_with (go_at_call 94;refine (Tryz.bits_Len _ _ (by omega) (by omega)).mono ?_;rintro e w' ⟨rfl,rfl⟩)
 refine wp_loop_rounds 1 ?_
 rw [rounds_succ]
 go_wp2
 go_ret
 exact ⟨rfl,(Below.refl _ _).alloc (Nat.le_refl _) _⟩
theorem ze4 (n:Int) (w:World) (hlo:-9223372036854775808 ≤ n) (hhi:n ≤ 9223372036854775807) :
 Calls Tryz.prog 97 #[.int .i64 n] w fun e w'=>e = .returned (.string ⟨(z2h n.toNat).toArray⟩) ∧ Below w.heap.size w w':=by
 by_cases h:n < 0
 ·have e:z2h n.toNat = [0]:=by rw [show n.toNat = 0 by omega];simp [z2h,z65]
  rw [e]
  exact num_neg n w h hlo
 ·obtain ⟨m,rfl⟩:∃ m:Nat,n = m:=⟨n.toNat,by omega⟩
  exact zf0 m w (by omega)
end Go.Proofs.YtnbldbbbibpobaaGreatDoor
namespace Go.Proofs
open Go.Shelf Go.RowKit
def Tryz.lays169_ren:Go.Shelf.Ren:=⟨fun | 169=>130 | n=>n,fun | 70=>168 | 9=>9 | 0=>0 | 72=>170 | 37=>121 | 127=>198 | 3=>3 | 5=>5 | n=>n,fun | n=>n⟩
theorem Tryz.lays169:Go.Proofs.Lays.n169 Tryz.prog Tryz.lays169_ren:={
 mixed:=by kernel_rfl
 f169:=Tryz.func130.trans (congrArg some (by kernel_rfl))
 t0:=Tryz.underlying0
 a0:=Tryz.isAgg0
 z0:=Tryz.sizeOf0
 v0:=Tryz.zeroValue0
 t3:=Tryz.underlying3
 a3:=Tryz.isAgg3
 z3:=Tryz.sizeOf3
 v3:=Tryz.zeroValue3
 t9:=Tryz.underlying9
 a9:=Tryz.isAgg9
 z9:=Tryz.sizeOf9
 v9:=Tryz.zeroValue9
 t37:=Tryz.underlying121
 a37:=Tryz.isAgg121
 z37:=Tryz.sizeOf121
 v37:=Tryz.zeroValue121
 t70:=Tryz.underlying168
 a70:=Tryz.isAgg168
 z70:=Tryz.sizeOf168
 v70:=Tryz.zeroValue168
 t72:=Tryz.underlying170
 a72:=Tryz.isAgg170
 z72:=Tryz.sizeOf170
 v72:=Tryz.zeroValue170
 t127:=Tryz.underlying198
 a127:=Tryz.isAgg198
 z127:=Tryz.sizeOf198
 v127:=Tryz.zeroValue198 }
theorem Tryz.Builder_Extra_169:Builder.Extra Tryz.prog Tryz.lays169_ren:={
 sizeBuilder:=by kernel_rfl
 liesBuilder:=by kernel_rfl
 t5:=Tryz.underlying5
 a5:=Tryz.isAgg5
 z5:=Tryz.sizeOf5
 v5:=Tryz.zeroValue5
 infoByte:=by kernel_rfl
 cellsByte:=by kernel_rfl
 sizeByte:=by kernel_rfl
 neB5:=by decide }
theorem Tryz.Builder_String_any (B b:Nat) (l:List UInt8) (w:World) (h:Lib.IsBuilder 170 5 B b (Lib.byteCells l) w) (hBw:B ≤ w.heap.size) :
 Calls Tryz.prog 130 #[.pointer (some ⟨b,0,none⟩)] w fun e w'=>e = .returned (.string ⟨l.toArray⟩) ∧ Below B w w':=Any.Builder_String_any Tryz.lays169 Tryz.Builder_Extra_169 B b l w h hBw
end Go.Proofs
namespace Go.Proofs.YtnbldbbbibpobaaGreatDoor
open Go.RowKit
theorem z7i {T e:TypeId} {B b:Nat} {bs:List Value} {w w':World} (h:Lib.IsBuilder T e B b bs w) (k:Below w.heap.size w w'):Lib.IsBuilder T e B b bs w':=by
 have one:∀ p,Lib.BuilderAt T e B b p bs w → Lib.BuilderAt T e B b p bs w':=by
  intro p hp
  have hlt:=hp.lt
  obtain ⟨hB,v,hb,hown,hne⟩:=hp
  refine ⟨hB,v,(k.block b hlt).trans hb,?_,hne⟩
  exact hown.kept (row:=none) ⟨k.os,k.tape,k.output,k.size,fun i hi _=>k.block i hi⟩ (by
   rcases h:v.ownBlock with _ | g
   ·exact Or.inl rfl
   ·exact Or.inr (by simp))
 rcases h with h | h
 ·exact Or.inl (one _ h)
 ·exact Or.inr (one _ h)
theorem za8 (b:Nat) (w:World) (h0:w.cell? ⟨b,0,none⟩ = some (.pointer (some ⟨b,0,none⟩))) :
 Calls Tryz.prog 152 #[.pointer (some ⟨b,0,none⟩)] w fun e w'=>e = .returned (.tuple #[]) ∧ w' = w:=by
 obtain ⟨j,hj,_⟩:=Option.map_eq_some_iff.1 Tryz.Builder_Extra_169.sizeBuilder
 go_enter Tryz.func152,Tryz.ntmps152
 go_wp2
 rw [Lib.run_neq_ptr_same w _ Tryz.underlying168 hj]
 go_wp2
 go_end0
 exact ⟨rfl,rfl⟩
theorem z9i (b:Nat) (w:World) (h0:w.cell? ⟨b,0,none⟩ = some (.pointer none)) (hsh:w.shape? b = some (170,2)) (hfz:w.frozen? ⟨b,0,none⟩ = false) :
 Calls Tryz.prog 152 #[.pointer (some ⟨b,0,none⟩)] w fun e w'=>e = .returned (.tuple #[]) ∧ w' = w.setCell ⟨b,0,none⟩ (.pointer (some ⟨b,0,none⟩)):=by
 obtain ⟨j,hj,hjs⟩:=Option.map_eq_some_iff.1 Tryz.Builder_Extra_169.sizeBuilder
 go_enter Tryz.func152,Tryz.ntmps152
 go_wp2
 rw [Lib.run_to_unsafe w ⟨b,0,none⟩ Tryz.underlying168 Tryz.underlying209 hj (by rw [hjs];decide) hsh (Nat.zero_lt_succ 1)]
 simp only [Result.andThen]
 rw [Oper.upon_value]
 go_wp2
 rw [run_callFunc_extern Tryz.func166 (by kernel_rfl) (by kernel_rfl) (by kernel_rfl) (e:=Extern.AbiNoEscape.same) (by kernel_rfl)]
 rw [Lib.run_noEscape]
 simp only [Result.andThen]
 rw [Oper.upon_value]
 go_wp2
 rw [Lib.run_from_unsafe w ⟨b,0,none⟩ Tryz.underlying209 Tryz.underlying168 hj hsh Tryz.Builder_Extra_169.liesBuilder]
 simp only [Result.andThen]
 rw [Oper.upon_value]
 go_wp2
 go_end0
 exact ⟨rfl,rfl⟩
theorem zbh (B b:Nat) (bs:List Value) (w:World) (h:Lib.IsBuilder 170 5 B b bs w) :
 Calls Tryz.prog 152 #[.pointer (some ⟨b,0,none⟩)] w fun e w'=>e = .returned (.tuple #[]) ∧ (Lib.BuilderAt 170 5 B b (.pointer (some ⟨b,0,none⟩)) bs w' ∧ Below B w w'):=by
 rcases h with h | h
 ·refine (z9i b w h.cell0 h.shape h.frozen0).mono ?_
  rintro e w' ⟨rfl,rfl⟩
  exact ⟨rfl,h.used _,(Below.refl B w).setCell (p:=⟨b,0,none⟩) h.1 _⟩
 ·refine (za8 b w h.cell0).mono ?_
  rintro e w' ⟨rfl,rfl⟩
  exact ⟨rfl,h,Below.refl B _⟩
theorem z44 (B b:Nat) (bs:List Value) (s:ByteArray) (w:World) (h:Lib.IsBuilder 170 5 B b bs w) (hlen:bs.length + s.size ≤ 140737488355328) (hBw:B ≤ w.heap.size) :
 Calls Tryz.prog 129 #[.pointer (some ⟨b,0,none⟩),.string s] w fun e w'=>e = .returned (.tuple #[.int .i64 s.size,.nilIface]) ∧ (Lib.IsBuilder 170 5 B b (bs ++ Lib.strCells s) w' ∧ Below B w w'):=by
 obtain ⟨i0,hi,hz0,hz1,hz2⟩:=info_parts Tryz.Builder_Extra_169.infoByte
 have hi:Tryz.prog.info? 5 = some i0:=hi
 go_enter Tryz.func129,Tryz.ntmps129
 go_wp2_with (go_at_call 152;refine (zbh B b bs _ h).mono ?_)
 rintro e w1 ⟨rfl,h1,hb1⟩
 obtain ⟨hB,v,hbk,hown,hne⟩:=h1
 have c0:w1.cell? ⟨b,0,none⟩ = some (.pointer (some ⟨b,0,none⟩)):=by rw [Lib.cell_of_heap hbk];rfl
 have c1:w1.cell? ⟨b,1,none⟩ = some v:=by rw [Lib.cell_of_heap hbk];rfl
 go_wp2_with (at_builtin;refine Lib.wpList_append_own_string _ rfl _ _ 121 9 rfl B 5 i0 Tryz.underlying121 Tryz.underlying9 hi hz0 hz1 hz2 _ _ _ rfl hown s rfl ?c3 ?c4 ?c5 ?_)
 case c3=>unfold maxLen;omega
 case c4=>omega
 case c5=>have:=hb1.size;omega
 intro v' w2 hown' hgrow _
 have hlt:b < w1.heap.size:=lt_of_block hbk
 have hb2:w2.heap[b]? = some (.cells #[.pointer (some ⟨b,0,none⟩),v] 170 (0,0)):=by
  rw [hgrow.block b hlt (fun e=>hne e.symm)]
  exact hbk
 have d0:w2.cell? ⟨b,0,none⟩ = some (.pointer (some ⟨b,0,none⟩)):=by rw [Lib.cell_of_heap hb2];rfl
 have d1:w2.cell? ⟨b,1,none⟩ = some v:=by rw [Lib.cell_of_heap hb2];rfl
 have f1:w2.frozen? ⟨b,1,none⟩ = false:=Lib.frozen_of_heap hb2 1
 obtain ⟨ao,n',cap,rfl⟩:∃ ao n' cap,v' = .slice ao n' cap:=by
  rcases hown'.2 with ⟨hv,_⟩ | ⟨g,cap,cur,hv,_⟩
  ·exact ⟨_,_,_,hv⟩
  ·exact ⟨_,_,_,hv⟩
 go_wp2
 go_ret2
 refine ⟨rfl,Or.inr ?_,?_⟩
 ·exact Lib.BuilderAt.put (T:=170) (e:=5) hB hb2 (bs':=bs ++ Lib.strCells s) (by simpa [Lib.strCells_length] using hown') (by decide)
 ·exact (hb1.grown hgrow (by have:=hb1.size;omega) (fun k hk=>(hown.lt k hk).1)).setCell (p:=⟨b,1,none⟩) hB _
theorem z4h (l:List UInt8):Lib.strCells ⟨l.toArray⟩ = Lib.byteCells l:=by simp [Lib.strCells,Lib.byteCells]
theorem zbi (ao:Option Addr) (cap:Nat) (l:List (List UInt8)) (w:World) (h:StrsAt ao l w) (hl:l.length ≤ 9223372036854775807) (hlen:(z2l l).length ≤ 140737488355328) :
 Calls Tryz.prog 96 #[.slice ao l.length cap] w fun e w'=>e = .returned (.string ⟨(z2l l).toArray⟩) ∧ Below w.heap.size w w':=by
 have hfresh:=Lib.fresh_isBuilder 170 5 w
 have HF:=Lib.hid hfresh
 have HS:=Lib.hid h
 clear hfresh h
 go_enter Tryz.func96,Tryz.ntmps96
 go_wp2_with fail
 refine (zf0 l.length _ (by omega)).mono ?_
 rintro e w1 ⟨rfl,hb1⟩
 have hA:=(Below.refl w.heap.size w).alloc (Nat.le_refl _) (.cells #[Value.pointer none,Value.slice none 0 0] 170)
 have HI1:=Lib.hid (z7i HF.out hb1)
 have HB1:=Lib.hid (hA.trans (hb1.mono (by simp)))
 have hsz1:=hb1.size
 simp at hsz1
 have hlb:=z3c l
 have HL:=Lib.hid hlb
 clear hb1 HF hA
 go_wp2_with fail
 have hnum:=HL.out
 refine (z44 w.heap.size w.heap.size [] _ _ HI1.out (by show _ + (List.toArray _).size ≤ _;simp;omega) (by omega)).mono ?_
 rintro e w2 ⟨rfl,hI2,hb2⟩
 rw [z4h,List.nil_append] at hI2
 have HI2:=Lib.hid hI2
 have HB2:=Lib.hid (HB1.out.trans hb2)
 clear hI2 hb2 HI1 HB1 hsz1 hnum
 go_wp2_with fail
 go_loopw [12] (fun i wr=>∃ q:Nat,q ≤ l.length ∧ i = .int .i64 q ∧ Lib.IsBuilder 170 5 w.heap.size w.heap.size (Lib.byteCells (z2h l.length ++ z1j (l.take q))) wr ∧ Below w.heap.size w wr) (fun i _=>l.length - (intOf i).toNat)
 case atStart=>exact ⟨0,Nat.zero_le _,rfl,by simpa [z1j] using HI2.out,HB2.out⟩
 case round =>
  obtain ⟨q,hq,rfl,hI,hbel⟩:=hrel
  by_cases hlt:q < l.length
  ·have hparts:=z8k l q hlt
   have htl:=z4d l[q]
   have hpos:=numB_pos l[q].length
   have hlist:=HL.out
   have HP:=Lib.hid hparts
   have HT:=Lib.hid htl
   have hcell:∃ b o,ao = some ⟨b,o,none⟩ ∧ wr.cell? ⟨b,o + q,none⟩ = some (.string ⟨l[q].toArray⟩):=by
    rcases HS.out.below hbel with h | ⟨b,o,ha,hb,hc⟩
    ·subst h;simp at hlt
    ·exact ⟨b,o,ha,hc q hlt⟩
   obtain ⟨cb,co,hao,hc⟩:=hcell
   have hlq:l[q].length ≤ 140737488355328:=by omega
   have hsum:(z2h l.length).length + (z1j (l.take q)).length + (z2h l[q].length).length + l[q].length ≤ 140737488355328:=by omega
   have HI:=Lib.hid hI
   have HB:=Lib.hid hbel
   subst hao
   clear hI hbel hparts htl hlist
   go_wp2_with fail
   refine (zf0 l[q].length _ (by omega)).mono ?_
   rintro e w3 ⟨rfl,hb3⟩
   have HI3:=Lib.hid (z7i HI.out hb3)
   have hsz3:=HB.out.size
   have HB3:=Lib.hid (HB.out.trans (hb3.mono hsz3))
   clear hb3 HI HB hc
   go_wp2_with fail
   refine (z44 w.heap.size w.heap.size _ _ _ HI3.out (by show _ + (List.toArray _).size ≤ _;rw [Lib.byteCells_length];simp;omega) HB3.out.size).mono ?_
   rintro e w4 ⟨rfl,hI4,hb4⟩
   rw [z4h,← Lib.byteCells_append] at hI4
   have HI4:=Lib.hid hI4
   have HB4:=Lib.hid (HB3.out.trans hb4)
   clear hb4 hI4 HI3 HB3 hsz3
   go_wp2_with fail
   refine (z44 w.heap.size w.heap.size _ _ _ HI4.out (by show _ + (List.toArray _).size ≤ _;rw [Lib.byteCells_length];simp;omega) HB4.out.size).mono ?_
   rintro e w5 ⟨rfl,hI5,hb5⟩
   rw [z4h,← Lib.byteCells_append] at hI5
   have HI5:=Lib.hid (show Lib.IsBuilder 170 5 w.heap.size w.heap.size (Lib.byteCells (z2h l.length ++ z1j (l.take (q + 1)))) w5 by rw [z5d l q hlt];simpa [List.append_assoc] using hI5)
   have HB5:=Lib.hid (HB4.out.trans hb5)
   clear hb5 hI5 HI4 HB4
   go_wp2_with fail
   refine ⟨⟨q + 1,by omega,by go_num,HI5.out,HB5.out⟩,by simp [intOf];omega⟩
  ·obtain rfl:q = l.length:=by omega
   rw [List.take_length] at hI
   have HI:=Lib.hid hI
   have HB:=Lib.hid hbel
   clear hI hbel
   go_wp2_with fail
   refine (Tryz.Builder_String_any w.heap.size w.heap.size _ _ HI.out HB.out.size).mono ?_
   rintro e w3 ⟨rfl,hb3⟩
   have HB3:=Lib.hid (HB.out.trans hb3)
   clear hb3 HI HB
   go_wp2_with fail
   go_ret
   exact ⟨rfl,HB3.out⟩
open Go.BigFrame
theorem z91 (w:World) (p q r s:List UInt8):StrsAt (some ⟨w.heap.size,0,none⟩) [p,q,r,s] (w.alloc (.cells #[.string ⟨p.toArray⟩,.string ⟨q.toArray⟩,.string ⟨r.toArray⟩,.string ⟨s.toArray⟩] 9)):=by
 refine z64 (B:=w.heap.size) (c:=4) ?_
 exact World.ownsRow_lit (base:=w.heap.size) (e:=9) (size:=1) w #[.string ⟨p.toArray⟩,.string ⟨q.toArray⟩,.string ⟨r.toArray⟩,.string ⟨s.toArray⟩] 4 (Nat.le_refl _) (by unfold maxLen;omega) rfl
theorem zfh {P:Program} {src dst e:TypeId} (hs:P.underlying src = some (.slice e)) (he:P.underlying e = some (.int .u8)) (hd:P.underlying dst = some .string) {g o c n:Nat} {l:List Nat} {w:World} (hn:n = l.length) (hl:∀ x ∈ l,x < 256) (h:w.rangeAt g o (z06 .u8 l)) :
 (convert src dst (.slice (some ⟨g,o,none⟩) n c)).run P w = .ok (.string ⟨(txt l).toArray⟩) w:=by
 subst hn
 have h2:=run_convert_bytes_back (P:=P) w src dst e ⟨g,o,none⟩ c (txt l) hs he hd (fun j hj=>by
  rw [z2f] at hj
  rw [Addr.add_mid,h j _ (by rw [z06,List.getElem?_map,List.getElem?_eq_getElem hj];rfl)]
  have h1:=hl _ (List.getElem_mem hj)
  simp only [txt,List.getElem_map]
  rw [show (UInt8.ofNat l[j]).toNat = l[j] by simp;omega])
 rw [z2f] at h2
 exact h2
theorem zau {d:DraftN} (h:d.Fit):(z3j d).length ≤ 1200:=zcb (by have:=h.high;omega) h.key h.val h.ref.1
theorem zb0 (d:DraftN) (hd:d.Fit) (w:World) :
 Calls Tryz.prog 99 #[.agg (z0d d)] w fun e w'=>e = .returned (.string ⟨(z3j d).toArray⟩) ∧ Below w.heap.size w w':=by
 have hx:Cells w.heap.size 27 (z0d d) (w.alloc (.cells (z0d d) 27)):=heap_alloc_new w _
 have hb:Below w.heap.size w (w.alloc (.cells (z0d d) 27)):=(Below.refl _ _).alloc (Nat.le_refl _) _
 have HX:=Lib.hid hx
 have HB:=Lib.hid hb
 have HD:=Lib.hid hd
 have HLEN:=Lib.hid (zau hd)
 clear hx hb hd
 go_enter Tryz.func99,Tryz.ntmps99
 go_upto_region 1 with (fail)
 obtain ⟨w1,hw1⟩:∃ x,x = w.alloc (.cells (z0d d) 27):=⟨_,rfl⟩
 rw [← hw1] at HX HB ⊢
 clear hw1
 obtain ⟨c0,c1,c2,c3⟩:=z2z HX.out
 have hg:=HX.out.lt
 obtain ⟨k,hk⟩:∃ k,d.kind = k:=⟨_,rfl⟩
 have HK:=Shut.mk hk
 rw [hk] at c0
 have HC0:=Lib.hid (fun (w':World) (q:Below w1.heap.size w1 w')=>(q.cell (p:=⟨w.heap.size,0,none⟩) hg).trans c0)
 have HC1:=Lib.hid (fun (w':World) (q:Below w1.heap.size w1 w')=>(q.cell (p:=⟨w.heap.size,1,none⟩) hg).trans c1)
 have HC2:=Lib.hid (fun (w':World) (q:Below w1.heap.size w1 w')=>(q.cell (p:=⟨w.heap.size,2,none⟩) hg).trans c2)
 have HC3:=Lib.hid (fun (w':World) (q:Below w1.heap.size w1 w')=>zfh (P:=Tryz.prog) (src:=121) (dst:=9) (c:=32) Tryz.underlying121 Tryz.underlying5 Tryz.underlying9 HD.out.ref.1.symm HD.out.ref.2 (z0g c3 q hg))
 have HN:=Lib.hid (fun w'=>ze4 k w' (by have:=HD.out.low;rw [hk] at this;exact this) (by have:=HD.out.high;rw [hk] at this;exact this))
 clear c0 c1 c2 c3 hg hk
 refine z08 (fun w'=>Below w1.heap.size w1 w') 10 (by kernel_rfl) (by kernel_rfl) (Below.refl _ _).drew ?_
 simp only [zC,zD,zE,zF]
 repeat (first
  | (go_big_quiet_want;refine z02 3 _ rfl ⟨w.heap.size,0,none⟩ _ rfl HC0.out Tryz.isAgg3 ?_;go_big_quiet_on;simp only [Act.put,zS,zA,zB])
  | (go_big_quiet_want;refine z02 9 _ rfl ⟨w.heap.size,1,none⟩ _ rfl HC1.out Tryz.isAgg9 ?_;go_big_quiet_on;simp only [Act.put,zS,zA,zB])
  | (go_big_quiet_want;refine z02 9 _ rfl ⟨w.heap.size,2,none⟩ _ rfl HC2.out Tryz.isAgg9 ?_;go_big_quiet_on;simp only [Act.put,zS,zA,zB])
  | (go_big_quiet_want;refine zar 121 9 _ rfl (.slice (some ⟨w.heap.size,3,none⟩) 32 32) _ rfl HC3.out ?_;go_big_quiet_on;simp only [Act.put,zS,zA,zB])
  | go_big_quiet_step ((intro hs';first
   | (go_at_call 97;exact (HN.out _).mono fun e w' h=>⟨h.1,hs'.trans (h.2.mono hs'.size)⟩)
   | rfl)))
 refine wpQuiet_nil ?_
 intro w2 hs2
 have HB2:=Lib.hid (HB.out.trans (hs2.mono HB.out.size))
 clear hs2 HX HB HC0 HC1 HC2 HC3 HN
 go_wp2_with fail
 refine (zbi (some ⟨w2.heap.size,0,none⟩) 4 [z2h k.toNat,d.key,d.val,txt d.ref] _ (z91 w2 _ _ _ _) (by simp) (by have:=HLEN.out;rw [z3j,HK.out] at this;omega)).mono ?_
 rintro e w3 ⟨rfl,hb⟩
 have HB3:=Lib.hid (HB2.out.trans (((Below.refl _ w2).alloc (Nat.le_refl _) _).trans (hb.mono (by simp)) |>.mono HB2.out.size))
 clear hb HB2
 go_wp2_with fail
 go_ret
 exact ⟨by rw [z3j,HK.out];rfl,HB3.out⟩
def z3l (L:List (List Nat)) (k:Nat):List Nat:=(L.take k).flatten
theorem zdb {L:List (List Nat)} (h:∀ p ∈ L,IdOk p) {k:Nat} (hk:k ≤ L.length):(z3l L k).length = 32 * k:=by
 rw [z3l,zbt (K:=32) (fun x hx=>(h x (List.mem_of_mem_take hx)).1),List.length_take]
 omega
theorem joinN_lt {L:List (List Nat)} (h:∀ p ∈ L,IdOk p) (k:Nat):∀ y ∈ z3l L k,y < 256:=fun y hy=>by
 obtain ⟨p,hp,hyp⟩:=List.mem_flatten.1 hy
 exact (h p (List.mem_of_mem_take hp)).2 y hyp
theorem zam {L:List (List Nat)} {k:Nat} (hk:k < L.length):z3l L (k + 1) = z3l L k ++ L.getD k []:=by
 rw [z3l,z3l,List.take_succ_eq_append_getElem hk,List.flatten_append,List.getD_eq_getElem?_getD,List.getElem?_eq_getElem hk]
 simp
theorem zcw (L:List (List Nat)):txt (z3l L L.length) = z3k L:=by
 rw [z3l,List.take_length,z3k,txt,List.map_flatten]
 rfl
theorem zgq (L:List (List Nat)) (pa:Option Addr) (pc:Nat) (w:World) (hL:∀ p ∈ L,IdOk p) (hp:IAt pa L w) (hn:L.length ≤ 1000000) :
 Calls Tryz.prog 98 #[.slice pa L.length pc] w fun e w'=>e = .returned (.string ⟨(z3k L).toArray⟩) ∧ Below w.heap.size w w':=by
 obtain ⟨i0,hi2,hz0,hz1,hz2⟩:=info_parts Tryz.infoU8
 have HY:=Lib.hid hi2
 have HY0:=Lib.hid hz0
 have HY1:=Lib.hid hz1
 have HY2:=Lib.hid hz2
 have HP:=Lib.hid hp
 have HO:=Lib.hid hL
 obtain ⟨n,hnn⟩:∃ n,L.length = n:=⟨_,rfl⟩
 have HNN:=Shut.mk hnn
 rw [hnn] at hn ⊢
 clear hnn hp hL hi2 hz0 hz1 hz2
 have HR0:=Lib.hid (show ∀ k,k ≤ n → (z3l L k).length = 32 * k from fun k hk=>zdb HO.out (by rw [HNN.out];exact hk))
 go_enter Tryz.func98,Tryz.ntmps98
 go_wp2_with (at_make;refine wpList_make_own _ rfl _ _ 121 rfl w.heap.size 5 i0 (.int .u8 0) 1 Tryz.underlying121 HY.out HY0.out HY1.out .i64 .i64 _ (32 * n) rfl rfl (by first | rfl | omega | (go_num)) (by rw [HY2.out];omega) (by unfold maxLen;omega) (Nat.le_refl _) ?_)
 intro w2 ho hgrow
 have hb2:Below w.heap.size w w2:=(Below.refl w.heap.size w).grown hgrow (Nat.le_refl _) (by intro g hg;cases hg)
 have HOW:=Lib.hid (show OwnN w.heap.size 5 .u8 (.slice (some ⟨w.heap.size,0,none⟩) 0 (32 * n)) [] w2 from ho)
 have HB2:=Lib.hid hb2
 clear ho hgrow hb2
 go_wp2_with fail
 go_loopw [3,12] (fun v i wr=>∃ k:Nat,k ≤ n ∧ i = .int .i64 k ∧ OwnN w.heap.size 5 .u8 v (z3l L k) wr ∧ Below w.heap.size w wr) (fun _ i _=>n - (intOf i).toNat)
 case atStart=>exact ⟨0,Nat.zero_le _,rfl,HOW.out,HB2.out⟩
 case round =>
  clear HOW HB2
  obtain ⟨k,hk,rfl,ho,hb⟩:=hrel
  obtain ⟨ao,cp,rfl⟩:=ho.form
  have HLK:=Shut.mk (HR0.out k hk)
  have HOW:=Lib.hid ho
  have HB:=Lib.hid hb
  have HW:=Lib.hid hb.size
  have HPW:=Lib.hid (HP.out.below hb)
  clear ho hb
  by_cases hlt:k < n
  ·obtain ⟨b,ob,rfl,hbl⟩:=HPW.out.some (by rw [HNN.out];omega)
   have g1:=HPW.out.get (i:=k) (by rw [HNN.out];omega)
   have i1:=Ids.getD HO.out (i:=k) (by rw [HNN.out];omega)
   have HNX:=Shut.mk (show z3l L (k + 1) = z3l L k ++ L.getD k [] from zam (by rw [HNN.out];exact hlt))
   obtain ⟨x,hx⟩:∃ x,L.getD k [] = x:=⟨_,rfl⟩
   obtain ⟨R,hR⟩:∃ R,z3l L k = R:=⟨_,rfl⟩
   rw [hx] at g1 i1 HNX
   rw [hR] at HOW HLK HNX ⊢
   have HG1:=Lib.hid g1
   have HS1:=Lib.hid (show (Tryz.prog.info? 25).map (·.size) = some x.length by rw [i1.1];exact Tryz.sizeI)
   have HL2:=Lib.hid (show (List.replicate 32 0).length = x.length by rw [i1.1];rfl)
   have HXL:=Shut.mk i1.1
   have HAP:=Lib.hid (show ∀ g,(Value.slice ao R.length cp).ownBlock = some g → wr.heap.size ≠ g from fun g hg e=>by have:=(World.ownsRow.lt HOW.out g hg).2;omega)
   have HOA:=Lib.hid (fun o=>HOW.out.alloc o)
   clear hx hR g1 i1
   go_wp2_with (first
    | (refine z0b rfl 25 _ rfl b (ob + k * 32) x _ rfl HG1.out Tryz.underlying25 rfl HS1.out ?_)
    | (refine z04 rfl 25 _ _ rfl rfl wr.heap.size .u8 (List.replicate 32 0) x 25 rfl rfl (heap_alloc_new wr _) HS1.out HL2.out ?_))
   intro w5 hc' hb'
   have HX5:=Lib.hid (show Blk wr.heap.size 25 .u8 x w5 from hc'.out)
   have HB5:=Lib.hid (show Below w.heap.size w w5 from But.toBelow (HB.out.alloc HW.out _) hb'.out HW.out (Nat.le_trans HW.out (by rw [World.size_alloc];exact Nat.le_succ _)))
   have HO5:=Lib.hid ((HOA.out _).but hb'.out HAP.out)
   have HLA:=Lib.hid (show R.length + x.length ≤ maxLen by rw [HLK.out,HXL.out];unfold maxLen;omega)
   have HLB:=Lib.hid (show (R.length + x.length) * 1 ≤ 140737488355328 by rw [HLK.out,HXL.out];omega)
   clear hc' hb' HOW HB HOA HL2
   go_wp2_with (refine z7y rfl (.tmp 16) (.tmp 17) 121 5 rfl w.heap.size .u8 1 Tryz.underlying121 Tryz.infoU8 (.slice ao R.length cp) R x ⟨wr.heap.size,0,none⟩ 32 32 HXL.out.symm rfl HO5.out rfl (blk_news HX5.out) HLA.out HLB.out HB5.out.size ?_)
   intro v6 w6 ho6 hb6
   have HB6:=Lib.hid (show Below w.heap.size w w6 from HB5.out.trans hb6.out)
   clear hb6
   go_wp2_with fail
   exact ⟨⟨k + 1,by omega,by go_num,by rw [HNX.out];exact ho6.out,HB6.out⟩,by simp [intOf];omega⟩
  ·obtain rfl:k = n:=by omega
   have hat:=HOW.out.at
   have hconv:=fun ql=>conv_in (P:=Tryz.prog) (src:=121) (dst:=9) (c:=cp) (ao:=ao) (b:=z3k L) (w:=ql) Tryz.underlying121 Tryz.underlying5 Tryz.underlying9
   have e:z10 (z3k L) = z3l L k:=by rw [← zcw,HNN.out,z3s (joinN_lt HO.out k)]
   have e2:(z3k L).length = (z3l L k).length:=by rw [← e,z0w]
   rw [e,e2] at hconv
   have hconv:=hconv wr hat
   obtain ⟨R,hR⟩:∃ R,z3l L k = R:=⟨_,rfl⟩
   rw [hR] at hconv ⊢
   clear hat e e2 hR
   go_wp2_with fail
   go_ret
   exact ⟨rfl,HB.out⟩
theorem zeh {o:OpN} (h:o.Fit):(opB o).length ≤ 4000:=opB_le (by have:=h.d.high;omega) (by have:=h.ahigh;omega) (by have:=h.dhigh;omega) h.d.key h.d.val h.ok h.many
theorem zie (o:OpN) (pa:Option Addr) (pc:Nat) (w:World) (ho:o.Fit) (hp:IAt pa o.preds w) :
 Calls Tryz.prog 77 #[.agg (opV o pa pc)] w fun e w'=>e = .returned (.string ⟨(opB o).toArray⟩) ∧ Below w.heap.size w w':=by
 have hx:Cells w.heap.size 38 (opV o pa pc) (w.alloc (.cells (opV o pa pc) 38)):=heap_alloc_new w _
 have hb:Below w.heap.size w (w.alloc (.cells (opV o pa pc) 38)):=(Below.refl _ _).alloc (Nat.le_refl _) _
 have HX:=Lib.hid hx
 have HB:=Lib.hid hb
 have HP:=Lib.hid (hp.below hb)
 have HD:=Lib.hid ho
 have HLEN:=Lib.hid (zeh ho)
 clear hx hb ho hp
 go_enter Tryz.func77,Tryz.ntmps77
 go_upto_region 1 with (fail)
 obtain ⟨w1,hw1⟩:∃ x,x = w.alloc (.cells (opV o pa pc) 38):=⟨_,rfl⟩
 rw [← hw1] at HX HB HP ⊢
 clear hw1
 obtain ⟨c0,c35,c36,c37⟩:=z0k HD.out.ok.ref.1 HX.out
 have hg:=HX.out.lt
 have HSD:=Lib.hid (show (Tryz.prog.info? 27).map (·.size) = some (z18 o.d).length by rw [z0s HD.out.ok.ref.1];exact Tryz.sizeD)
 have HJ:=Lib.hid (fun w' (q:Below w1.heap.size w1 w')=>zgq o.preds pa pc w' HD.out.preds (HP.out.below q) (by have:=HD.out.many;omega))
 have HT:=Lib.hid (fun w'=>zb0 o.d HD.out.d w')
 obtain ⟨A,hA⟩:∃ x,o.author = x:=⟨_,rfl⟩
 obtain ⟨D,hD⟩:∃ x,o.depth = x:=⟨_,rfl⟩
 obtain ⟨n,hn⟩:∃ x,o.preds.length = x:=⟨_,rfl⟩
 have HE:=Shut.mk (show opB o = z2l [z2h A.toNat,z2h D.toNat,z3k o.preds,z3j o.d] by rw [opB,hA,hD])
 rw [hA] at c35
 rw [hD] at c36
 rw [hn] at c37 HJ
 have HNA:=Lib.hid (fun w'=>ze4 A w' (by have:=HD.out.alow;rw [hA] at this;exact this) (by have:=HD.out.ahigh;rw [hA] at this;exact this))
 have HND:=Lib.hid (fun w'=>ze4 D w' (by have:=HD.out.dlow;rw [hD] at this;exact this) (by have:=HD.out.dhigh;rw [hD] at this;exact this))
 have HC0:=Lib.hid (fun (w':World) (q:Below w1.heap.size w1 w')=>show w'.rangeAt w.heap.size 0 (z18 o.d) from z0g c0 q hg)
 have HC5:=Lib.hid (fun (w':World) (q:Below w1.heap.size w1 w')=>(q.cell (p:=⟨w.heap.size,35,none⟩) hg).trans c35)
 have HC6:=Lib.hid (fun (w':World) (q:Below w1.heap.size w1 w')=>(q.cell (p:=⟨w.heap.size,36,none⟩) hg).trans c36)
 have HC7:=Lib.hid (fun (w':World) (q:Below w1.heap.size w1 w')=>(q.cell (p:=⟨w.heap.size,37,none⟩) hg).trans c37)
 obtain ⟨PB,hPB⟩:∃ x,z3k o.preds = x:=⟨_,rfl⟩
 obtain ⟨DB,hDB⟩:∃ x,z3j o.d = x:=⟨_,rfl⟩
 rw [hPB] at HJ HE
 rw [hDB] at HT HE
 have HLN:=Lib.hid (show (z2l [z2h A.toNat,z2h D.toNat,PB,DB]).length ≤ 4000 by rw [← HE.out];exact HLEN.out)
 clear c0 c35 c36 c37 hg hA hD hn hPB hDB HX HLEN
 refine z08 (fun w'=>Below w1.heap.size w1 w') 12 (by kernel_rfl) (by kernel_rfl) (Below.refl _ _).drew ?_
 simp only [zC,zD,zE,zF]
 repeat (first
  | (go_big_quiet_want;refine z02 3 _ rfl ⟨w.heap.size,35,none⟩ _ rfl HC5.out Tryz.isAgg3 ?_;go_big_quiet_on;simp only [Act.put,zS,zA,zB])
  | (go_big_quiet_want;refine z02 3 _ rfl ⟨w.heap.size,36,none⟩ _ rfl HC6.out Tryz.isAgg3 ?_;go_big_quiet_on;simp only [Act.put,zS,zA,zB])
  | (go_big_quiet_want;refine z02 34 _ rfl ⟨w.heap.size,37,none⟩ _ rfl HC7.out Tryz.isAgg34 ?_;go_big_quiet_on;simp only [Act.put,zS,zA,zB])
  | (go_big_quiet_want;refine z36 27 _ rfl w.heap.size 0 (z18 o.d) _ rfl HC0.out Tryz.underlying27 rfl HSD.out ?_;go_big_quiet_on;simp only [Act.put,zS,zA,zB])
  | go_big_quiet_step ((intro hs';first
   | (go_at_call_of 97 (Value.int .i64 A);exact (HNA.out _).mono fun e w' h=>⟨h.1,hs'.trans (h.2.mono hs'.size)⟩)
   | (go_at_call_of 97 (Value.int .i64 D);exact (HND.out _).mono fun e w' h=>⟨h.1,hs'.trans (h.2.mono hs'.size)⟩)
   | (go_at_call 98;exact (HJ.out _ hs').mono fun e w' h=>⟨h.1,hs'.trans (h.2.mono hs'.size)⟩)
   | (go_at_call 99;exact (HT.out _).mono fun e w' h=>⟨h.1,hs'.trans (h.2.mono hs'.size)⟩)
   | rfl)))
 refine wpQuiet_nil ?_
 intro w2 hs2
 have HB2:=Lib.hid (HB.out.trans (hs2.mono HB.out.size))
 clear hs2 HB HC0 HC5 HC6 HC7 HNA HND HJ HT
 go_wp2_with fail
 refine (zbi (some ⟨w2.heap.size,0,none⟩) 4 [z2h A.toNat,z2h D.toNat,PB,DB] _ (z91 w2 _ _ _ _) (by simp) (by have:=HLN.out;omega)).mono ?_
 rintro e w3 ⟨rfl,hb⟩
 have HB3:=Lib.hid (HB2.out.trans (((Below.refl _ w2).alloc (Nat.le_refl _) _).trans (hb.mono (by simp)) |>.mono HB2.out.size))
 clear hb HB2
 go_wp2_with fail
 go_ret
 exact ⟨by rw [HE.out];rfl,HB3.out⟩
end Go.Proofs.YtnbldbbbibpobaaGreatDoor
namespace Go.Proofs.YtnbldbbbibpobaaGreatDoor
open Go.RowKit
theorem conv1 (w:World) (d:UInt8):(convert 121 9 (.slice (some ⟨w.heap.size,0,none⟩) 1 1)).run Tryz.prog (w.alloc (.cells #[.int .u8 (d.toNat:Int)] 5)) = .ok (.string ⟨#[d]⟩) (w.alloc (.cells #[.int .u8 (d.toNat:Int)] 5)):=by
 refine run_convert_bytes_back _ _ _ 5 ⟨w.heap.size,0,none⟩ _ [d] Tryz.underlying121 Tryz.underlying5 Tryz.underlying9 ?_
 intro j hj
 have:j = 0:=by simpa using hj
 subst this
 simp [Addr.add]
theorem zf6 (d:UInt8) (r:List UInt8):(({ data:=#[d] }:ByteArray) ++ { data:=r.toArray }) = { data:=(d :: r).toArray }:=by
 apply ByteArray.ext;rw [ByteArray.data_append];simp
theorem zbg (m:Nat):((UInt8.ofNat (m % 256)).toNat:Int) = (m:Int) % 256:=by
 rw [z9v];omega
theorem z57 (n:Nat) (w:World) (hn:n < 9223372036854775808) :
 Calls Tryz.prog 109 #[.int .i64 n] w fun e w'=>e = .returned (.string ⟨(z2h n).toArray⟩) ∧ Below w.heap.size w w':=by
 have h8:=z5t hn
 go_enter Tryz.func109,Tryz.ntmps109
 go_wp2_with fail
 go_loopw [0,3,4] (fun a s k wr=>∃ (m:Nat) (r:List UInt8),m < 9223372036854775808 ∧ dig m ++ r = dig n ∧ a = .int .i64 m ∧ s = .string ⟨r.toArray⟩ ∧ k = .int .i64 r.length ∧ Below w.heap.size w wr) (fun a _ _ _=>(intOf a).toNat)
 case atStart=>exact ⟨n,[],hn,by simp,rfl,rfl,rfl,Below.refl _ _⟩
 case round =>
  obtain ⟨m,r,hm,hd,rfl,rfl,rfl,hbel⟩:=hrel
  have hr:r.length ≤ 8:=by have:=congrArg List.length hd;simp at this;omega
  have HD:=Lib.hid hd
  have HB:=Lib.hid hbel
  clear hd hbel
  by_cases h0:0 < m
  ·have hconv:=conv1 wr (UInt8.ofNat (m % 256))
   rw [zbg] at hconv
   have hcat:=zf6 (UInt8.ofNat (m % 256)) r
   go_wp2_with fail
   refine ⟨⟨m / 256,UInt8.ofNat (m % 256) :: r,by omega,?_,by go_num,rfl,by go_num,HB.out.alloc HB.out.size _⟩,by simp [intOf];omega⟩
   rw [← HD.out,z94 (n:=m) (by omega),List.append_assoc];rfl
  ·have e0:m = 0:=by omega
   subst e0
   have hconv:=conv1 wr (UInt8.ofNat r.length)
   rw [show ((UInt8.ofNat r.length).toNat:Int) = (r.length:Int) by simp;omega] at hconv
   have hcat:=zf6 (UInt8.ofNat r.length) r
   go_wp2_with fail
   go_ret
   refine ⟨?_,HB.out.alloc HB.out.size _⟩
   have e:r = dig n:=by have:=HD.out;rwa [z65,List.nil_append] at this
   rw [z2h,← e];rfl
theorem zdp (s:List UInt8) (w:World) (hs:s.length ≤ 9223372036854775000) :
 Calls Tryz.prog 110 #[.string ⟨s.toArray⟩] w fun e w'=>e = .returned (.string ⟨(z60 s).toArray⟩) ∧ Below w.heap.size w w':=by
 have hcat:(({ data:=(z2h s.length).toArray }:ByteArray) ++ { data:=s.toArray }) = { data:=(z60 s).toArray }:=by
  apply ByteArray.ext;rw [ByteArray.data_append];simp [z60]
 go_enter Tryz.func110,Tryz.ntmps110
 go_wp2_with fail
 refine (z57 s.length _ (by omega)).mono ?_
 rintro e w1 ⟨rfl,hb⟩
 have HB:=Lib.hid hb
 have hn:=z4y (n:=s.length) (by omega)
 clear hb
 go_wp2_with fail
 go_ret
 exact ⟨rfl,HB.out⟩
theorem z5j (ao:Option Addr) (cap:Nat) (l:List (List UInt8)) (w:World) (h:StrsAt ao l w) (hl:l.length ≤ 9223372036854775807) (hlen:(z2l l).length ≤ 9223372036854775000) :
 Calls Tryz.prog 88 #[.slice ao l.length cap] w fun e w'=>e = .returned (.string ⟨(z2l l).toArray⟩) ∧ Below w.heap.size w w':=by
 have HS:=Lib.hid h
 have hlb:=z3c l
 have HL:=Lib.hid hlb
 clear h hlb
 go_enter Tryz.func88,Tryz.ntmps88
 go_wp2_with fail
 refine (z57 l.length _ (by omega)).mono ?_
 rintro e w1 ⟨rfl,hb1⟩
 have HB1:=Lib.hid hb1
 clear hb1
 go_wp2_with fail
 go_loopw [3,11] (fun s i wr=>∃ q:Nat,q ≤ l.length ∧ i = .int .i64 q ∧ s = .string ⟨(z2h l.length ++ z1j (l.take q)).toArray⟩ ∧ Below w.heap.size w wr) (fun _ i _=>l.length - (intOf i).toNat)
 case atStart=>exact ⟨0,Nat.zero_le _,rfl,by simp [z1j],HB1.out⟩
 case round =>
  obtain ⟨q,hq,rfl,rfl,hbel⟩:=hrel
  by_cases hlt:q < l.length
  ·have hparts:=z8k l q hlt
   have hlist:=HL.out
   have hcell:∃ b o,ao = some ⟨b,o,none⟩ ∧ wr.cell? ⟨b,o + q,none⟩ = some (.string ⟨l[q].toArray⟩):=by
    rcases HS.out.below hbel with h | ⟨b,o,ha,hb,hc⟩
    ·subst h;simp at hlt
    ·exact ⟨b,o,ha,hc q hlt⟩
   obtain ⟨cb,co,hao,hc⟩:=hcell
   have htl:=z4d l[q]
   have hlq:l[q].length ≤ 9223372036854775000:=by omega
   have hsum:(z2h l.length).length + (z1j (l.take q)).length + (z60 l[q]).length ≤ 9223372036854775000:=by omega
   have hcat:(({ data:=(z2h l.length ++ z1j (l.take q)).toArray }:ByteArray) ++ { data:=(z60 l[q]).toArray }) = { data:=(z2h l.length ++ z1j (l.take (q + 1))).toArray }:=by
    apply ByteArray.ext;rw [ByteArray.data_append,z5d l q hlt];simp [z60,List.append_assoc]
   have HB:=Lib.hid hbel
   subst hao
   clear hbel hparts htl hlist
   go_wp2_with fail
   refine (zdp l[q] _ hlq).mono ?_
   rintro e w3 ⟨rfl,hb3⟩
   have HB3:=Lib.hid (HB.out.trans (hb3.mono HB.out.size))
   clear hb3 HB hc
   go_wp2_with fail
   exact ⟨⟨q + 1,by omega,by go_num,rfl,HB3.out⟩,by simp [intOf];omega⟩
  ·obtain rfl:q = l.length:=by omega
   have HB:=Lib.hid hbel
   clear hbel
   go_wp2_with fail
   go_ret
   exact ⟨by rw [List.take_length];rfl,HB.out⟩
end Go.Proofs.YtnbldbbbibpobaaGreatDoor
