/-
  Joined: The document's Take. Written by dag/gen/gen_take.py.
-/
import Derived.Test.YtnbldbbbibpobaaGreatDoorJ04
import Derived.Test.YtnbldbbbibpobaaGreatDoorJ06
import Derived.Test.YtnbldbbbibpobaaGreatDoorJ07
import Derived.Test.YtnbldbbbibpobaaGreatDoorJ11
import Derived.Test.YtnbldbbbibpobaaGreatDoorJ12
import Derived.Test.YtnbldbbbibpobaaGreatDoorJ15
import Derived.Test.YtnbldbbbibpobaaGreatDoorJ16
set_option maxRecDepth 100000
set_option maxHeartbeats 20000000
namespace Go.Proofs.YtnbldbbbibpobaaGreatDoor
open Go.RowKit Go.BigFrame
def waitLen (w:World) (gs:Nat):Nat:=match w.cell? ⟨gs,1,none⟩ with
 | some (.slice _ n _)=>n
 | _=>0
theorem RefAt.waitLen {X:Nat → Prop} {gs:Nat} {vo vw vn vq:Value} {s:DagN} {w:World} (h:RefAt X gs vo vw vn vq s w):waitLen w gs = s.wait.length:=by
 obtain ⟨lw,cw,rfl⟩:=h.wait.form
 have h1:=h.cells.at 1
 simp only [List.getElem?_toArray,List.getElem?_cons_zero,List.getElem?_cons_succ] at h1
 unfold Go.Proofs.YtnbldbbbibpobaaGreatDoor.waitLen
 rw [h1]
theorem zee {L:List (List Nat)} {W:List OpN} {b:Option Nat} {i:Nat} {o:OpN} (h:W[i]? = some o) (hz:z1f L o = false):z2d L W b i = b:=by rw [z2d,h];simp [hz]
theorem za7 {L:List (List Nat)} {W:List OpN} {i:Nat} {o:OpN} (h:W[i]? = some o) (hz:z1f L o = true):z2d L W none i = some i:=by rw [z2d,h];simp [hz]
theorem zb6 {L:List (List Nat)} {W:List OpN} {i j:Nat} {o:OpN} (h:W[i]? = some o) (hz:z1f L o = true) (hc:z1s (z0a o) (z0a (W.getD j o)) = -1):z2d L W (some j) i = some i:=by rw [z2d,h];simp only [hz,if_true];rw [if_pos hc]
theorem z7x {L:List (List Nat)} {W:List OpN} {i j:Nat} {o:OpN} (h:W[i]? = some o) (hz:z1f L o = true) (hc:z1s (z0a o) (z0a (W.getD j o)) ≠ -1):z2d L W (some j) i = some j:=by rw [z2d,h];simp only [hz,if_true];rw [if_neg hc]
theorem z87 {W:List OpN} {j:Nat} (o:OpN) (hj:j < W.length):(W.map z0a).getD j [] = z0a (W.getD j o):=by
 rw [List.getD_eq_getElem?_getD,List.getElem?_map,List.getD_eq_getElem?_getD,List.getElem?_eq_getElem hj]
 rfl
theorem z52 {P:Program} {o:Oper} {a:Act} {w:World} {K:Act → World → Prop} {Q:Exit → Act → World → Prop} (ty:TypeId) (x:Operand) (ho:o.op = .load ty x) (b off:Nat) (cs:List Value) (d:TypeDesc)
 (hx:a.eval x = .pointer (some ⟨b,off,none⟩)) (hc:w.rangeAt b off cs) (hu:P.underlying ty = some d) (hd:d.isRow = true) (hi:(P.info? ty).map (·.size) = some cs.length)
 (h:K (a.put o.dst (.agg cs.toArray)) w):OpWp P o a w K Q:=by
 refine ⟨?_⟩
 unfold Oper.wp execOp
 simp only [ho,hx,Instr.loadAt,Instr.sureAddr,Sem.run_bind,Sem.run_pure,Result.andThen_ok,run_loadVar_mid w b off ty _ d hc hu hd hi]
 exact h
theorem z9n (b o n c j:Nat) (hj:j < n) (w:World):(Instr.indexAt 29 (.slice (some ⟨b,o,none⟩) n c) (.int .i64 (j:Int))).run Tryz.prog w = .ok (.pointer (some ⟨b,o + j * 38,none⟩)) w:=by
 have h1:(j:Int) < (n:Int):=by omega
 go_simp
theorem zht (b o n c j:Nat) (hj:j < n) (w:World):(Instr.indexAt 34 (.slice (some ⟨b,o,none⟩) n c) (.int .i64 (j:Int))).run Tryz.prog w = .ok (.pointer (some ⟨b,o + j * 32,none⟩)) w:=by
 have h1:(j:Int) < (n:Int):=by omega
 go_simp
theorem alloc_id (w:World):(Instr.alloc 25 true (.tuple #[])).run Tryz.prog w = .ok (.pointer (some ⟨w.heap.size,0,none⟩)) (w.alloc (.cells (z06 .u8 (List.replicate 32 0)).toArray 25)):=by kernel_rfl
theorem zf9 {g g':Nat} {t t':TypeId} {cs cs':Array Value} {w:World} (h:Cells g t cs w) (k:Cells g' t' cs' w) (hne:t ≠ t'):g ≠ g':=fun e=>by
 subst e
 have h1:w.heap[g]? = some (.cells cs t (0,0)):=h
 have h2:w.heap[g]? = some (.cells cs' t' (0,0)):=k
 rw [h1] at h2
 injection h2 with h2
 injection h2 with _ h3 _
 exact hne h3
def zid:Option Nat → Value
 | none=>.int .i64 (-1)
 | some j=>.int .i64 (j:Int)
def DagN.Fits (s:DagN):Prop:=(∀ y ∈ s.ops,y.Fit) ∧ ∀ y ∈ s.wait,y.Fit
def TakePost (X:Nat → Prop) (gs B:Nat) (O:Nat → Prop) (w:World) (r:List (List Nat) × Int × DagN) (e:Ending) (w':World):Prop :=
 ∃ v vo vw vn vq,e = .returned (.tuple #[v,.int .i64 r.2.1]) ∧ OwnI B 25 v r.1 w' ∧ RefAt X gs vo vw vn vq r.2.2 w' ∧ Turn O (RefX gs vo vw vn vq) w w' ∧ Tame r.2.2
theorem z6t (X:Nat → Prop) (gs:Nat) (vo vw vn vq:Value) (s:DagN) (x:OpN) (pa:Option Addr) (pc:Nat) (w:World) (h:RefAt X gs vo vw vn vq s w) (hX:∀ b,w.heap.size ≤ b → X b) (htm:Tame s) (hx:x.Fit) (hpa:IAt pa x.preds w) (hoff:OffX X pa x.preds) (hN:s.ops.length + s.wait.length ≤ 999) :
 Calls Tryz.prog 14 #[.pointer (some ⟨gs,0,none⟩),.agg (opV x pa pc)] w fun e w'=>TakePost X gs w.heap.size (RefX gs vo vw vn vq) w (z1l s x) e w':=by
 have HRA:=Lib.hid h
 have HX0:=Lib.hid hX
 have HF:=Lib.hid (show s.Fits from ⟨htm.ops,htm.wait⟩)
 have HTM:=Lib.hid htm
 have HXF:=Lib.hid hx
 have HOY:=Lib.hid hoff
 have HSH:=Lib.hid htm.shallow
 have HLT:=Lib.hid (fun b (hb:RefX gs vo vw vn vq b)=>h.l.lt hb)
 have x1:Cells w.heap.size 38 (opV x pa pc) (w.alloc (.cells (opV x pa pc) 38)):=heap_alloc_new w _
 have b1:Below w.heap.size w (w.alloc (.cells (opV x pa pc) 38)):=(Below.refl _ _).alloc (Nat.le_refl _) _
 have HB:=Lib.hid b1
 have HC3:=Lib.hid (show LocC (RefX gs vo vw vn vq) w.heap.size 38 (opV x pa pc) (w.alloc (.cells (opV x pa pc) 38)) from ⟨fun e=>by have:=h.l.lt e;omega,x1⟩)
 have HIA:=Lib.hid (hpa.below b1)
 have HSV:=Lib.hid (show (Tryz.prog.info? 38).map (·.size) = some (opV x pa pc).size by rw [z07 hx.ok.ref.1];exact Tryz.sizeO)
 clear h hX htm hx hpa hoff x1 b1
 go_enter Tryz.func14,Tryz.ntmps14
 go_upto_region 1 with (fail)
 obtain ⟨w1,hw1⟩:∃ q,q = w.alloc (.cells (opV x pa pc) 38):=⟨_,rfl⟩
 rw [← hw1] at HB HC3 HIA ⊢
 clear hw1
 go_wp2_with (refine z00 rfl 38 (.tmp 3) rfl w.heap.size (opV x pa pc) 38 _ rfl HC3.out.2 Tryz.underlying38 rfl HSV.out ?_)
 refine (ref_good x pa pc w1 HXF.out.ok HIA.out (by have:=HXF.out.d.key;omega) (by have:=HXF.out.d.val;omega) (by have:=HXF.out.many;omega)).mono ?_
 rintro e w2 ⟨rfl,hb⟩
 have HB2:=Lib.hid (HB.out.trans (hb.mono HB.out.size))
 have HC32:=Lib.hid (HC3.out.below hb)
 have HIA2:=Lib.hid (HIA.out.below hb)
 clear hb HC3 HB HIA
 by_cases hg:GoodO x
 ·rw [decide_eq_true hg]
  have HGO:=Lib.hid hg
  clear hg
  go_wp2_with (refine z00 rfl 38 (.tmp 3) rfl w.heap.size (opV x pa pc) 38 _ rfl HC32.out.2 Tryz.underlying38 rfl HSV.out ?_)
  refine (z4o x pa pc w2 HXF.out HIA2.out).mono ?_
  rintro e w3 ⟨rfl,hb⟩
  have HB3:=Lib.hid (HB2.out.trans (hb.mono HB2.out.size))
  have HC33:=Lib.hid (HC32.out.below hb)
  have HIA3:=Lib.hid (HIA2.out.below hb)
  clear hb HC32 HB2 HIA2
  have HNL:=Lib.hid (z1u x)
  have HNB:=Lib.hid (z2o x)
  have HTK:=Shut.mk (show z1l s x = if z0a x ∈ s.names ∨ z0a x ∈ s.waits then ([],9,s) else if z1f s.names x = false then ([],0,⟨s.ops,s.wait ++ [x]⟩) else if x.depth ≠ z1h s.ops x then ([],10,s) else (z0a x :: (z0t s.wait.length ⟨s.ops ++ [x],s.wait⟩).1,0,(z0t s.wait.length ⟨s.ops ++ [x],s.wait⟩).2) by rw [z1l,if_neg (fun h=>h HGO.out)])
  obtain ⟨n,hn⟩:∃ n,z0a x = n:=⟨_,rfl⟩
  rw [hn] at HNL HNB HTK ⊢
  have HNE:=Shut.mk hn
  clear hn
  have HSN:=Lib.hid (show (Tryz.prog.info? 25).map (·.size) = some n.length by rw [HNL.out];exact Tryz.sizeI)
  have HL2:=Lib.hid (show (List.replicate 32 0).length = n.length by rw [HNL.out];rfl)
  go_wp2_with (refine z04 rfl 25 _ _ rfl rfl w3.heap.size .u8 (List.replicate 32 0) n 25 rfl rfl (heap_alloc_new w3 _) HSN.out HL2.out ?_)
  intro w4 hc hb
  have hb34:Below w3.heap.size w3 w4:=But.toBelow ((Below.refl _ w3).alloc (Nat.le_refl _) _) hb.out (Nat.le_refl _) (by rw [World.size_alloc];exact Nat.le_succ _)
  have HC6:=Lib.hid (show LocC (RefX gs vo vw vn vq) w3.heap.size 25 (z06 .u8 n).toArray w4 from ⟨fun e=>by have:=HLT.out _ e;have:=HB3.out.size;omega,hc.out⟩)
  have HB4:=Lib.hid (HB3.out.trans (hb34.mono HB3.out.size))
  have HC34:=Lib.hid (HC33.out.below hb34)
  have HIA4:=Lib.hid (HIA3.out.below hb34)
  have HRA4:=Lib.hid (HRA.out.below HB4.out)
  have HW34:=Shut.mk hb34.size
  clear hc hb hb34 HC33 HIA3 HL2 HRA HLT
  have HAT:=Lib.hid (fun (w':World) (b:Below w4.heap.size w4 w')=>z69 X gs vo vw vn vq s n w' (HRA4.out.below b) HNL.out HNB.out (by omega))
  have HWT:=Lib.hid (fun (w':World) (b:Below w4.heap.size w4 w')=>zeb X gs vo vw vn vq s n w' (HRA4.out.below b) HNL.out HNB.out (by omega))
  by_cases hin:n ∈ s.names
  ·have hq:∃ q:Nat,atN s.names n = (q:Int):=⟨_,by rw [atN,if_pos hin]⟩
   obtain ⟨q,hq⟩:=hq
   rw [hq] at HAT
   rw [if_pos (.inl hin)] at HTK
   clear hin hq
   go_wp2_with (refine z03 rfl 25 (.tmp 6) rfl w3.heap.size .u8 n 25 _ rfl HC6.out.2 Tryz.underlying25 rfl HSN.out ?_)
   refine (HAT.out w4 (Below.refl _ _)).mono ?_
   rintro e w5 ⟨rfl,hb5⟩
   have HB5:=Lib.hid (HB4.out.trans (hb5.mono HB4.out.size))
   have HR5:=Lib.hid (HRA4.out.below hb5)
   clear hb5
   go_wp2_with fail
   go_ret2
   rw [HTK.out]
   exact ⟨_,vo,vw,vn,vq,rfl,OwnI.nil _ _ _,HR5.out,Turn.of HB5.out,HTM.out⟩
  ·have hq:atN s.names n = -1:=by rw [atN,if_neg hin]
   rw [hq] at HAT
   have HNI:=Lib.hid hin
   clear hq hin
   go_wp2_with (refine z03 rfl 25 (.tmp 6) rfl w3.heap.size .u8 n 25 _ rfl HC6.out.2 Tryz.underlying25 rfl HSN.out ?_)
   refine (HAT.out w4 (Below.refl _ _)).mono ?_
   rintro e w5 ⟨rfl,hb5⟩
   have HC65:=Lib.hid (HC6.out.below hb5)
   have HC35:=Lib.hid (HC34.out.below hb5)
   have HB5:=Lib.hid hb5
   have HW5:=Shut.mk hb5.size
   clear HC6 HC34 hb5
   go_wp2_with (refine z3h (by rfl) 25 (.tmp 6) rfl w3.heap.size .u8 n 25 _ rfl HC65.out.2 Tryz.underlying25 rfl HSN.out ?_)
   refine (HWT.out w5 HB5.out).mono ?_
   rintro e w6 ⟨rfl,hb6⟩
   have HB6:=Lib.hid (HB4.out.trans ((HB5.out.trans (hb6.mono HW5.out)).mono HB4.out.size))
   have HR6:=Lib.hid (HRA4.out.below (HB5.out.trans (hb6.mono HW5.out)))
   have HC66:=Lib.hid (HC65.out.below hb6)
   have HC36:=Lib.hid (HC35.out.below hb6)
   have HIA6:=Lib.hid (HIA4.out.below (HB5.out.trans (hb6.mono HW5.out)))
   clear hb6 HC65 HC35 HAT HWT HIA4 HRA4 HB4 HB5
   by_cases hiw:n ∈ s.waits
   ·rw [decide_eq_true hiw]
    rw [if_pos (.inr hiw)] at HTK
    clear hiw
    go_wp2_with fail
    go_ret2
    rw [HTK.out]
    exact ⟨_,vo,vw,vn,vq,rfl,OwnI.nil _ _ _,HR6.out,Turn.of HB6.out,HTM.out⟩
   ·rw [decide_eq_false hiw]
    rw [if_neg (fun h=>h.elim HNI.out hiw)] at HTK
    clear hiw
    have HWH:=Lib.hid (zcr X gs vo vw vn vq s x pa pc w6 HR6.out HXF.out.d.ref.1 HXF.out.preds HIA6.out (by have:=HXF.out.many;omega) (by omega))
    go_wp2_with (refine z00 rfl 38 (.tmp 3) rfl w.heap.size (opV x pa pc) 38 _ rfl HC36.out.2 Tryz.underlying38 rfl HSV.out ?_)
    refine HWH.out.mono ?_
    rintro e w7 ⟨rfl,hb7⟩
    have HB7:=Lib.hid (HB6.out.trans (hb7.mono HB6.out.size))
    have HR7:=Lib.hid (HR6.out.below hb7).l
    have HC67:=Lib.hid (HC66.out.below hb7)
    have HC37:=Lib.hid (HC36.out.below hb7)
    have HIA7:=Lib.hid (HIA6.out.below hb7)
    clear hb7 HWH HB6 HR6 HC66 HC36 HIA6
    obtain ⟨z,hz⟩:∃ z,z1f s.names x = z:=⟨_,rfl⟩
    rw [hz] at HTK ⊢
    have HZ:=Shut.mk hz
    clear hz
    cases z with
    | false =>
      rw [if_pos rfl] at HTK
      obtain ⟨lw,cw,rfl⟩:=HR7.out.wait.form
      have HT7:=Lib.hid (show Turn (RefX gs vo (.slice lw s.wait.length cw) vn vq) (RefX gs vo (.slice lw s.wait.length cw) vn vq) w w7 from Turn.of HB7.out)
      have HXB:=Lib.hid (fun b (hb:w7.heap.size ≤ b)=>HX0.out b (Nat.le_trans HT7.out.only.size hb))
      have HRW:=Lib.hid HR7.out.wait
      have HCF:=Lib.hid (fun w' (k:Only (fun b=>(Value.slice lw s.wait.length cw).ownBlock = some b) w7 w')=>show w'.cell? ⟨gs,1,none⟩ = some (Value.slice lw s.wait.length cw) from (HR7.out.cells.only k (fun e=>HR7.out.struct.2.1 e)).at 1)
      have HXV:=Lib.hid (fun g (hg:(Value.slice lw s.wait.length cw).ownBlock = some g)=>HR7.out.mine g (.inr (.inr (.inl hg))))
      have HLY:=Lib.hid (fun w' (k:Only (fun b=>(Value.slice lw s.wait.length cw).ownBlock = some b) w7 w')=>show Cells (w.heap.size) 38 (opV x pa pc) w' from HC37.out.2.only k (fun e=>HC37.out.1 (.inr (.inr (.inl e)))))
      have HYR:=Lib.hid HXF.out.d.ref.1
      have HSY:=Lib.hid HSV.out
      have HIY:=Lib.hid HIA7.out
      have HLN:=Lib.hid (show s.wait.length + [x].length ≤ 1000000 by simp;omega)
      go_upto_region 7 with (fail)
      refine z0f 10 (fun q V w'=>Vals q V [(0,.pointer (some ⟨gs,0,none⟩)),(1,.pointer (some ⟨gs,0,none⟩)),(2,.pointer (some ⟨gs,0,none⟩)),(3,.pointer (some ⟨gs,1,none⟩)),(4,Value.slice lw s.wait.length cw),(5,.agg (opV x pa pc)),(8,.pointer (some ⟨gs,0,none⟩)),(9,.pointer (some ⟨gs,1,none⟩))] ∧ Only (fun b=>(Value.slice lw s.wait.length cw).ownBlock = some b) w7 w' ∧ Chain [6,7] (fun _=>True) (PushM X w7 (Value.slice lw s.wait.length cw) s.wait x) q V w') (fun _=>undef) (by kernel_rfl) (by kernel_rfl) (by kernel_rfl) (by simp only [zC,zD,z0i,Act.put,zS,zA,zB]) ⟨Vals.none,Only.of (Below.refl _ _).drew,Chain.none trivial (fun _=>(Below.refl _ _).drew)⟩ ?_ ?_
      ·simp only [zC,zD,z0i,Nat.zero_add,Nat.reduceAdd,Act.put,zS,zA,zB]
       refine zQc ?_ (zQc ?_ (zQc ?_ (zQc ?_ (zQc ?_ (zQc ?_ (zQc ?_ (zQc ?_ (zQc ?_ (zQc ?_ (zQn))))))))))
       all_goals (refine zQf rfl ?_;rintro q V wq hr hu ⟨hVs,hb,hch⟩ K hK)
       ·exact z0h (.tmp 0) rfl _ rfl (hK _ _ ⟨hVs.set rfl,hb,hch.ne (by decide) (by decide)⟩)
       ·exact z0h (.tmp 0) rfl _ rfl (hK _ _ ⟨hVs.set rfl,hb,hch.ne (by decide) (by decide)⟩)
       ·exact z0m (.tmp 32) rfl ⟨gs,0,none⟩ (hVs.get 1 (hr { on:=1,ground:=.data } (by simp) rfl) rfl) (hK _ _ ⟨hVs.set rfl,hb,hch.ne (by decide) (by decide)⟩)
       ·exact z0l 36 (.tmp 33) 1 rfl _ _ (hVs.get 2 (hr { on:=2,ground:=.data } (by simp) rfl) rfl) (z1b gs 1 (by decide)) (hK _ _ ⟨hVs.set rfl,hb,hch.ne (by decide) (by decide)⟩)
       ·exact z0o 29 (.tmp 34) rfl _ _ (hVs.get 3 (hr { on:=3,ground:=.data } (by simp) rfl) rfl) (HCF.out wq hb) Tryz.isAgg29 (hK _ _ ⟨hVs.set rfl,hb,hch.ne (by decide) (by decide)⟩)
       ·exact z1o 38 (.tmp 3) rfl (w.heap.size) (opV x pa pc) 38 _ rfl (HLY.out wq hb) Tryz.underlying38 rfl HSY.out (hK _ _ ⟨hVs.set rfl,hb,hch.ne (by decide) (by decide)⟩)
       ·have hm:Below w7.heap.size w7 wq:=hch.at 0 (by decide) hu (.inl rfl)
        refine z6b (.tmp 36) rfl X x pa pc HYR.out (hVs.get 5 (hr { on:=5,ground:=.data } (by simp) rfl) rfl) (HIY.out.below hm) HOY.out ?_
        intro w' hb' hsrc
        have hbn:Only (fun b=>(Value.slice lw s.wait.length cw).ownBlock = some b) w7 w':=hb.below hb'
        have hc6:=hch.step (v:=.slice (some ⟨wq.heap.size,0,none⟩) 1 1) 0 (by decide) (by decide) hu (.inl rfl) trivial ⟨Below.trans hm (hb'.mono hm.size),wq.heap.size,rfl,hsrc⟩
        exact (hK _ _ ⟨hVs.off rfl,hbn,hc6⟩)
       ·obtain ⟨hm,g,hv6,hsrc⟩:PushM X w7 (Value.slice lw s.wait.length cw) s.wait x 1 (V 6) wq:=hch.at 1 (by decide) hu (.inr (hr { on:=6,ground:=.data } (by simp) rfl))
        refine z43 rfl (.tmp 35) (.tmp 37) rfl X 0 (Value.slice lw s.wait.length cw) s.wait [x] (fun z hz=>by obtain rfl:=List.mem_singleton.1 hz;exact HYR.out) ⟨g,0,none⟩ 1 1 rfl (hVs.get 4 (hr { on:=4,ground:=.data } (by simp) rfl) rfl) (HRW.out.below hm) HXV.out hv6 hsrc HLN.out (Nat.zero_le _) ?_
        intro v' w' ho' hg' hd'
        have hbn:Only (fun b=>(Value.slice lw s.wait.length cw).ownBlock = some b) w7 w':=hb.grown hg' (fun b hb=>.inl hb)
        have hc7:=hch.step (v:=v') 1 (by decide) (by decide) hu (.inr (hr { on:=6,ground:=.data } (by simp) rfl)) trivial ⟨hbn,ho',Moved.of hd' hm.size⟩
        exact (hK _ _ ⟨hVs.off rfl,hbn,hc7⟩)
       ·exact z0m (.tmp 31) rfl ⟨gs,0,none⟩ (hVs.get 0 (hr { on:=0,ground:=.data } (by simp) rfl) rfl) (hK _ _ ⟨hVs.set rfl,hb,hch.ne (by decide) (by decide)⟩)
       ·exact z0l 36 (.tmp 39) 1 rfl _ _ (hVs.get 8 (hr { on:=8,ground:=.data } (by simp) rfl) rfl) (z1b gs 1 (by decide)) (hK _ _ ⟨hVs.set rfl,hb,hch.ne (by decide) (by decide)⟩)
      rintro q V wq hall ⟨hVs,hb,hch⟩
      have v0:=hVs.get 0 (hall 0 (by decide)) rfl
      have v1:=hVs.get 1 (hall 1 (by decide)) rfl
      have v2:=hVs.get 2 (hall 2 (by decide)) rfl
      have v3:=hVs.get 3 (hall 3 (by decide)) rfl
      have v4:=hVs.get 4 (hall 4 (by decide)) rfl
      have v5:=hVs.get 5 (hall 5 (by decide)) rfl
      obtain ⟨u6,v6⟩:∃ v,V 6 = v:=⟨_,rfl⟩
      obtain ⟨u7,v7⟩:∃ v,V 7 = v:=⟨_,rfl⟩
      have v8:=hVs.get 8 (hall 8 (by decide)) rfl
      have v9:=hVs.get 9 (hall 9 (by decide)) rfl
      obtain ⟨hon,hrow,hmv⟩:PushM X w7 (Value.slice lw s.wait.length cw) s.wait x 2 (V 7) wq:=hch.fin (fun p hp=>by match p,hp with | 0,_=>exact hall 6 (by decide) | 1,_=>exact hall 7 (by decide))
      rw [v7] at hrow hmv
      simp only [zC,zD,zE,zF,z0i,Nat.zero_add,Nat.reduceAdd,v0,v1,v2,v3,v4,v5,v6,v7,v8,v9,Act.put,zS,zA,zB]
      clear hVs v0 v1 v2 v3 v4 v5 v6 v7 v8 v9 hall
      obtain ⟨a7,c7,hu7⟩:=hrow.form
      obtain ⟨n7,hnl⟩:∃ k,(s.wait ++ [x]).length = k:=⟨_,rfl⟩
      rw [hnl] at hu7
      subst hu7
      have hcs:=HR7.out.cells.only hon (fun e=>HR7.out.struct.2.1 e)
      have HPUT:=Lib.hid (HR7.out.putWait HXB.out hon hrow hmv)
      have cf:wq.cell? ⟨gs,1,none⟩ = some (Value.slice lw s.wait.length cw):=hcs.at 1
      have ff:=hcs.frozen 1
      clear hch hrow hmv hb hon hnl hcs HLY HCF HXB
      go_upto_region 8 with (fail)
      obtain ⟨w8,hw⟩:∃ z,z = wq.setCell ⟨gs,1,none⟩ (.slice a7 n7 c7):=⟨_,rfl⟩
      rw [← hw] at HPUT ⊢
      have HR8:=Lib.hid HPUT.out.1
      have HT8:=Lib.hid (HT7.out.trans HPUT.out.2)
      have HC68:=Lib.hid (HC67.out.turn HPUT.out.2)
      clear hw cf ff HPUT HR7 HT7 HC67
      clear HXV HRW HYR HSY HIY HLN
      obtain ⟨lq,cq,rfl⟩:=HR8.out.waits.form
      have HXB:=Lib.hid (fun b (hb:w8.heap.size ≤ b)=>HX0.out b (Nat.le_trans HT8.out.only.size hb))
      have HRW:=Lib.hid HR8.out.waits
      have HCF:=Lib.hid (fun w' (k:Only (fun b=>(Value.slice lq s.waits.length cq).ownBlock = some b) w8 w')=>show w'.cell? ⟨gs,3,none⟩ = some (Value.slice lq s.waits.length cq) from (HR8.out.cells.only k (fun e=>HR8.out.struct.2.2.2 e)).at 3)
      have HLY:=Lib.hid (fun w' (k:Only (fun b=>(Value.slice lq s.waits.length cq).ownBlock = some b) w8 w')=>show Blk (w3.heap.size) 25 .u8 n w' from Cells.only HC68.out.2 k (fun e=>HC68.out.1 (.inr (.inr (.inr (.inr e))))))
      have HSY:=Lib.hid HSN.out
      have HYL:=Lib.hid (And.intro HNL.out HNB.out)
      have HLN:=Lib.hid (show s.waits.length + [n].length ≤ 1000000 by rw [DagN.waits,List.length_map];simp;omega)
      refine z0f 10 (fun q V w'=>Vals q V [(0,.pointer (some ⟨gs,0,none⟩)),(1,.pointer (some ⟨gs,0,none⟩)),(2,.pointer (some ⟨gs,0,none⟩)),(3,.pointer (some ⟨gs,3,none⟩)),(4,Value.slice lq s.waits.length cq),(5,.agg (z06 .u8 n).toArray),(8,.pointer (some ⟨gs,0,none⟩)),(9,.pointer (some ⟨gs,3,none⟩))] ∧ Only (fun b=>(Value.slice lq s.waits.length cq).ownBlock = some b) w8 w' ∧ Chain [6,7] (fun _=>True) (PushI w8 (Value.slice lq s.waits.length cq) s.waits n) q V w') (fun _=>undef) (by kernel_rfl) (by kernel_rfl) (by kernel_rfl) (by simp only [zC,zD,z0i,Act.put,zS,zA,zB]) ⟨Vals.none,Only.of (Below.refl _ _).drew,Chain.none trivial (fun _=>(Below.refl _ _).drew)⟩ ?_ ?_
      ·simp only [zC,zD,z0i,Nat.zero_add,Nat.reduceAdd,Act.put,zS,zA,zB]
       refine zQc ?_ (zQc ?_ (zQc ?_ (zQc ?_ (zQc ?_ (zQc ?_ (zQc ?_ (zQc ?_ (zQc ?_ (zQc ?_ (zQn))))))))))
       all_goals (refine zQf rfl ?_;rintro q V wq hr hu ⟨hVs,hb,hch⟩ K hK)
       ·exact z0h (.tmp 0) rfl _ rfl (hK _ _ ⟨hVs.set rfl,hb,hch.ne (by decide) (by decide)⟩)
       ·exact z0h (.tmp 0) rfl _ rfl (hK _ _ ⟨hVs.set rfl,hb,hch.ne (by decide) (by decide)⟩)
       ·exact z0m (.tmp 42) rfl ⟨gs,0,none⟩ (hVs.get 1 (hr { on:=1,ground:=.data } (by simp) rfl) rfl) (hK _ _ ⟨hVs.set rfl,hb,hch.ne (by decide) (by decide)⟩)
       ·exact z0l 36 (.tmp 43) 3 rfl _ _ (hVs.get 2 (hr { on:=2,ground:=.data } (by simp) rfl) rfl) (z1b gs 3 (by decide)) (hK _ _ ⟨hVs.set rfl,hb,hch.ne (by decide) (by decide)⟩)
       ·exact z0o 34 (.tmp 44) rfl _ _ (hVs.get 3 (hr { on:=3,ground:=.data } (by simp) rfl) rfl) (HCF.out wq hb) Tryz.isAgg34 (hK _ _ ⟨hVs.set rfl,hb,hch.ne (by decide) (by decide)⟩)
       ·exact z16 25 (.tmp 6) rfl (w3.heap.size) .u8 n 25 _ rfl (HLY.out wq hb) Tryz.underlying25 rfl HSY.out (hK _ _ ⟨hVs.set rfl,hb,hch.ne (by decide) (by decide)⟩)
       ·have hm:Below w8.heap.size w8 wq:=hch.at 0 (by decide) hu (.inl rfl)
        refine z6d rfl (.tmp 46) rfl n HYL.out.1 (hVs.get 5 (hr { on:=5,ground:=.data } (by simp) rfl) rfl) ?_
        intro w' hb' hsrc
        have hbn:Only (fun b=>(Value.slice lq s.waits.length cq).ownBlock = some b) w8 w':=hb.below hb'
        have hc6:=hch.step (v:=.slice (some ⟨wq.heap.size,0,none⟩) 1 1) 0 (by decide) (by decide) hu (.inl rfl) trivial ⟨Below.trans hm (hb'.mono hm.size),wq.heap.size,rfl,hsrc⟩
        exact (hK _ _ ⟨hVs.off rfl,hbn,hc6⟩)
       ·obtain ⟨hm,g,hv6,hsrc⟩:PushI w8 (Value.slice lq s.waits.length cq) s.waits n 1 (V 6) wq:=hch.at 1 (by decide) hu (.inr (hr { on:=6,ground:=.data } (by simp) rfl))
        refine z33 rfl (.tmp 45) (.tmp 47) rfl 0 (Value.slice lq s.waits.length cq) s.waits [n] (Ids.one HYL.out.1 HYL.out.2) (some ⟨g,0,none⟩) 1 1 rfl (hVs.get 4 (hr { on:=4,ground:=.data } (by simp) rfl) rfl) (HRW.out.below hm) hv6 hsrc (fun h=>by cases h) HLN.out (Nat.zero_le _) ?_
        intro v' w' ho' hg' hd'
        have hbn:Only (fun b=>(Value.slice lq s.waits.length cq).ownBlock = some b) w8 w':=hb.grown hg' (fun b hb=>.inl hb)
        have hc7:=hch.step (v:=v') 1 (by decide) (by decide) hu (.inr (hr { on:=6,ground:=.data } (by simp) rfl)) trivial ⟨hbn,ho',Moved.of hd' hm.size⟩
        exact (hK _ _ ⟨hVs.off rfl,hbn,hc7⟩)
       ·exact z0m (.tmp 41) rfl ⟨gs,0,none⟩ (hVs.get 0 (hr { on:=0,ground:=.data } (by simp) rfl) rfl) (hK _ _ ⟨hVs.set rfl,hb,hch.ne (by decide) (by decide)⟩)
       ·exact z0l 36 (.tmp 49) 3 rfl _ _ (hVs.get 8 (hr { on:=8,ground:=.data } (by simp) rfl) rfl) (z1b gs 3 (by decide)) (hK _ _ ⟨hVs.set rfl,hb,hch.ne (by decide) (by decide)⟩)
      rintro q V wq hall ⟨hVs,hb,hch⟩
      have v0:=hVs.get 0 (hall 0 (by decide)) rfl
      have v1:=hVs.get 1 (hall 1 (by decide)) rfl
      have v2:=hVs.get 2 (hall 2 (by decide)) rfl
      have v3:=hVs.get 3 (hall 3 (by decide)) rfl
      have v4:=hVs.get 4 (hall 4 (by decide)) rfl
      have v5:=hVs.get 5 (hall 5 (by decide)) rfl
      obtain ⟨u6,v6⟩:∃ v,V 6 = v:=⟨_,rfl⟩
      obtain ⟨u7,v7⟩:∃ v,V 7 = v:=⟨_,rfl⟩
      have v8:=hVs.get 8 (hall 8 (by decide)) rfl
      have v9:=hVs.get 9 (hall 9 (by decide)) rfl
      obtain ⟨hon,hrow,hmv⟩:PushI w8 (Value.slice lq s.waits.length cq) s.waits n 2 (V 7) wq:=hch.fin (fun p hp=>by match p,hp with | 0,_=>exact hall 6 (by decide) | 1,_=>exact hall 7 (by decide))
      rw [v7] at hrow hmv
      simp only [zC,zD,zE,zF,z0i,Nat.zero_add,Nat.reduceAdd,v0,v1,v2,v3,v4,v5,v6,v7,v8,v9,Act.put,zS,zA,zB]
      clear hVs v0 v1 v2 v3 v4 v5 v6 v7 v8 v9 hall
      obtain ⟨a8,c8,hu7⟩:=hrow.form
      obtain ⟨n8,hnl⟩:∃ k,(s.waits ++ [n]).length = k:=⟨_,rfl⟩
      rw [hnl] at hu7
      subst hu7
      have hcs:=HR8.out.cells.only hon (fun e=>HR8.out.struct.2.2.2 e)
      have HPUT:=Lib.hid (HR8.out.putWaits HXB.out hon hrow hmv)
      have cf:wq.cell? ⟨gs,3,none⟩ = some (Value.slice lq s.waits.length cq):=hcs.at 3
      have ff:=hcs.frozen 3
      clear hch hrow hmv hb hon hnl hcs HLY HCF HXB
      go_upto_region 9 with (fail)
      obtain ⟨w9,hw⟩:∃ z,z = wq.setCell ⟨gs,3,none⟩ (.slice a8 n8 c8):=⟨_,rfl⟩
      rw [← hw] at HPUT ⊢
      have HR9:=Lib.hid HPUT.out.1
      have HT9:=Lib.hid (HT8.out.trans HPUT.out.2)
      clear hw cf ff HPUT HR8 HT8 
      clear HRW HSY HYL HLN
      go_wp2_with fail
      go_ret2
      rw [HTK.out]
      have hfin:=HR9.out
      rw [show s.waits ++ [n] = (s.wait ++ [x]).map z0a by rw [List.map_append,DagN.waits];simp [HNE.out]] at hfin
      have htm2:Tame ⟨s.ops,s.wait ++ [x]⟩:=by
       refine ⟨HTM.out.ops,fun y hy=>?_,HTM.out.shallow,?_⟩
       ·rcases List.mem_append.1 hy with h | h
        ·exact HTM.out.wait y h
        ·rw [List.mem_singleton.1 h];exact HXF.out
       ·show s.ops.length + (s.wait ++ [x]).length ≤ 1000
        rw [List.length_append];simp only [List.length_singleton];omega
      exact ⟨_,vo,_,vn,_,rfl,OwnI.nil _ _ _,hfin.at,HT9.out,htm2⟩
    | true =>
      rw [if_neg (by decide)] at HTK
      have HRA7:=Lib.hid HR7.out.at
      have HDP:=Lib.hid (fun w' (b:Below w7.heap.size w7 w')=>z98 X gs vo vw vn vq s x pa pc w' (HRA7.out.below b) (fun y hy=>(HF.out.1 y hy).d.ref.1) HXF.out.d.ref.1 HXF.out.preds (HIA7.out.below b) (by have:=HXF.out.many;omega) (by omega) HSH.out (fun p hp=>wholeN_iff.1 HZ.out p hp))
      have HC36:=Lib.hid (fun w' (b:Below w7.heap.size w7 w')=>(z0k HXF.out.d.ref.1 (HC37.out.2.below b)).2.2.1)
      have HCO:=Lib.hid (fun w' (b:Below w7.heap.size w7 w')=>HC37.out.2.below b)
      obtain ⟨De,hDe⟩:∃ q,z1h s.ops x = q:=⟨_,rfl⟩
      rw [hDe] at HDP HTK
      have HDE:=Shut.mk hDe
      clear hDe
      obtain ⟨xd,hxd⟩:∃ q,x.depth = q:=⟨_,rfl⟩
      rw [hxd] at HC36 HTK
      have HXD:=Shut.mk hxd
      clear hxd
      go_wp2_with fail
      refine z09 (fun w'=>Below w7.heap.size w7 w') (by kernel_rfl) (by kernel_rfl) (Below.refl _ _).drew ?_
      repeat (first
       | (go_big_quiet_want;refine z02 3 _ rfl ⟨w.heap.size,36,none⟩ _ rfl HC36.out Tryz.isAgg3 ?_;go_big_quiet_on;simp only [Act.put,zS,zA,zB])
       | (go_big_quiet_want;refine z0n 38 _ rfl w.heap.size (opV x pa pc) 38 _ rfl HCO.out Tryz.underlying38 rfl HSV.out ?_;go_big_quiet_on;simp only [Act.put,zS,zA,zB])
       | go_big_quiet_step ((intro hs';first
        | (go_at_call 52;exact (HDP.out _ hs').mono fun e w' h=>⟨h.1,hs'.trans (h.2.mono hs'.size)⟩)
        | rfl)))
      refine wpQuiet_nil ?_
      intro w8 hs8
      have HB8:=Lib.hid (HB7.out.trans (hs8.mono HB7.out.size))
      have HR8:=Lib.hid (HR7.out.below hs8)
      have HC38:=Lib.hid (HC37.out.below hs8)
      have HC68:=Lib.hid (HC67.out.below hs8)
      have HIA8:=Lib.hid (HIA7.out.below hs8)
      clear hs8 HDP HC36 HCO HRA7 HR7 HC37 HC67 HIA7 HB7
      by_cases hde:xd = De
      ·rw [if_neg (fun h=>h hde)] at HTK
       have HEQ:=Shut.mk hde
       have hbq:(xd != De) = false:=by simp [hde]
       clear hde
       obtain ⟨lo,co,rfl⟩:=HR8.out.ops.form
       have HT8:=Lib.hid (show Turn (RefX gs (.slice lo s.ops.length co) vw vn vq) (RefX gs (.slice lo s.ops.length co) vw vn vq) w w8 from Turn.of HB8.out)
       have HYR:=Lib.hid HXF.out.d.ref.1
       have HSY:=Lib.hid HSV.out
       have HIY:=Lib.hid HIA8.out
       have HLN:=Lib.hid (show s.ops.length + [x].length ≤ 1000000 by simp;omega)
       have HXB:=Lib.hid (fun b (hb:w8.heap.size ≤ b)=>HX0.out b (Nat.le_trans HT8.out.only.size hb))
       have HRW:=Lib.hid HR8.out.ops
       have HCF:=Lib.hid (fun w' (k:Only (fun b=>(Value.slice lo s.ops.length co).ownBlock = some b) w8 w')=>show w'.cell? ⟨gs,0,none⟩ = some (Value.slice lo s.ops.length co) from (HR8.out.cells.only k (fun e=>HR8.out.struct.1 e)).at 0)
       have HXV:=Lib.hid (fun g (hg:(Value.slice lo s.ops.length co).ownBlock = some g)=>HR8.out.mine g (.inr (.inl hg)))
       have HLY:=Lib.hid (fun w' (k:Only (fun b=>(Value.slice lo s.ops.length co).ownBlock = some b) w8 w')=>show Cells (w.heap.size) 38 (opV x pa pc) w' from HC38.out.2.only k (fun e=>HC38.out.1 (.inr (.inl e))))
       go_upto_region 12 with (fail)
       refine z0f 10 (fun q V w'=>Vals q V [(0,.pointer (some ⟨gs,0,none⟩)),(1,.pointer (some ⟨gs,0,none⟩)),(2,.pointer (some ⟨gs,0,none⟩)),(3,.pointer (some ⟨gs,0,none⟩)),(4,Value.slice lo s.ops.length co),(5,.agg (opV x pa pc)),(8,.pointer (some ⟨gs,0,none⟩)),(9,.pointer (some ⟨gs,0,none⟩))] ∧ Only (fun b=>(Value.slice lo s.ops.length co).ownBlock = some b) w8 w' ∧ Chain [6,7] (fun _=>True) (PushM X w8 (Value.slice lo s.ops.length co) s.ops x) q V w') (fun _=>undef) (by kernel_rfl) (by kernel_rfl) (by kernel_rfl) (by simp only [zC,zD,z0i,Act.put,zS,zA,zB]) ⟨Vals.none,Only.of (Below.refl _ _).drew,Chain.none trivial (fun _=>(Below.refl _ _).drew)⟩ ?_ ?_
       ·simp only [zC,zD,z0i,Nat.zero_add,Nat.reduceAdd,Act.put,zS,zA,zB]
        refine zQc ?_ (zQc ?_ (zQc ?_ (zQc ?_ (zQc ?_ (zQc ?_ (zQc ?_ (zQc ?_ (zQc ?_ (zQc ?_ (zQn))))))))))
        all_goals (refine zQf rfl ?_;rintro q V wq hr hu ⟨hVs,hb,hch⟩ K hK)
        ·exact z0h (.tmp 0) rfl _ rfl (hK _ _ ⟨hVs.set rfl,hb,hch.ne (by decide) (by decide)⟩)
        ·exact z0h (.tmp 0) rfl _ rfl (hK _ _ ⟨hVs.set rfl,hb,hch.ne (by decide) (by decide)⟩)
        ·exact z0m (.tmp 58) rfl ⟨gs,0,none⟩ (hVs.get 1 (hr { on:=1,ground:=.data } (by simp) rfl) rfl) (hK _ _ ⟨hVs.set rfl,hb,hch.ne (by decide) (by decide)⟩)
        ·exact z0l 36 (.tmp 59) 0 rfl _ _ (hVs.get 2 (hr { on:=2,ground:=.data } (by simp) rfl) rfl) (z1b gs 0 (by decide)) (hK _ _ ⟨hVs.set rfl,hb,hch.ne (by decide) (by decide)⟩)
        ·exact z0o 29 (.tmp 60) rfl _ _ (hVs.get 3 (hr { on:=3,ground:=.data } (by simp) rfl) rfl) (HCF.out wq hb) Tryz.isAgg29 (hK _ _ ⟨hVs.set rfl,hb,hch.ne (by decide) (by decide)⟩)
        ·exact z1o 38 (.tmp 3) rfl (w.heap.size) (opV x pa pc) 38 _ rfl (HLY.out wq hb) Tryz.underlying38 rfl HSY.out (hK _ _ ⟨hVs.set rfl,hb,hch.ne (by decide) (by decide)⟩)
        ·have hm:Below w8.heap.size w8 wq:=hch.at 0 (by decide) hu (.inl rfl)
         refine z6b (.tmp 62) rfl X x pa pc HYR.out (hVs.get 5 (hr { on:=5,ground:=.data } (by simp) rfl) rfl) (HIY.out.below hm) HOY.out ?_
         intro w' hb' hsrc
         have hbn:Only (fun b=>(Value.slice lo s.ops.length co).ownBlock = some b) w8 w':=hb.below hb'
         have hc6:=hch.step (v:=.slice (some ⟨wq.heap.size,0,none⟩) 1 1) 0 (by decide) (by decide) hu (.inl rfl) trivial ⟨Below.trans hm (hb'.mono hm.size),wq.heap.size,rfl,hsrc⟩
         exact (hK _ _ ⟨hVs.off rfl,hbn,hc6⟩)
        ·obtain ⟨hm,g,hv6,hsrc⟩:PushM X w8 (Value.slice lo s.ops.length co) s.ops x 1 (V 6) wq:=hch.at 1 (by decide) hu (.inr (hr { on:=6,ground:=.data } (by simp) rfl))
         refine z43 rfl (.tmp 61) (.tmp 63) rfl X 0 (Value.slice lo s.ops.length co) s.ops [x] (fun z hz=>by obtain rfl:=List.mem_singleton.1 hz;exact HYR.out) ⟨g,0,none⟩ 1 1 rfl (hVs.get 4 (hr { on:=4,ground:=.data } (by simp) rfl) rfl) (HRW.out.below hm) HXV.out hv6 hsrc HLN.out (Nat.zero_le _) ?_
         intro v' w' ho' hg' hd'
         have hbn:Only (fun b=>(Value.slice lo s.ops.length co).ownBlock = some b) w8 w':=hb.grown hg' (fun b hb=>.inl hb)
         have hc7:=hch.step (v:=v') 1 (by decide) (by decide) hu (.inr (hr { on:=6,ground:=.data } (by simp) rfl)) trivial ⟨hbn,ho',Moved.of hd' hm.size⟩
         exact (hK _ _ ⟨hVs.off rfl,hbn,hc7⟩)
        ·exact z0m (.tmp 57) rfl ⟨gs,0,none⟩ (hVs.get 0 (hr { on:=0,ground:=.data } (by simp) rfl) rfl) (hK _ _ ⟨hVs.set rfl,hb,hch.ne (by decide) (by decide)⟩)
        ·exact z0l 36 (.tmp 65) 0 rfl _ _ (hVs.get 8 (hr { on:=8,ground:=.data } (by simp) rfl) rfl) (z1b gs 0 (by decide)) (hK _ _ ⟨hVs.set rfl,hb,hch.ne (by decide) (by decide)⟩)
       rintro q V wq hall ⟨hVs,hb,hch⟩
       have v0:=hVs.get 0 (hall 0 (by decide)) rfl
       have v1:=hVs.get 1 (hall 1 (by decide)) rfl
       have v2:=hVs.get 2 (hall 2 (by decide)) rfl
       have v3:=hVs.get 3 (hall 3 (by decide)) rfl
       have v4:=hVs.get 4 (hall 4 (by decide)) rfl
       have v5:=hVs.get 5 (hall 5 (by decide)) rfl
       obtain ⟨u6,v6⟩:∃ v,V 6 = v:=⟨_,rfl⟩
       obtain ⟨u7,v7⟩:∃ v,V 7 = v:=⟨_,rfl⟩
       have v8:=hVs.get 8 (hall 8 (by decide)) rfl
       have v9:=hVs.get 9 (hall 9 (by decide)) rfl
       obtain ⟨hon,hrow,hmv⟩:PushM X w8 (Value.slice lo s.ops.length co) s.ops x 2 (V 7) wq:=hch.fin (fun p hp=>by match p,hp with | 0,_=>exact hall 6 (by decide) | 1,_=>exact hall 7 (by decide))
       rw [v7] at hrow hmv
       simp only [zC,zD,zE,zF,z0i,Nat.zero_add,Nat.reduceAdd,v0,v1,v2,v3,v4,v5,v6,v7,v8,v9,Act.put,zS,zA,zB]
       clear hVs v0 v1 v2 v3 v4 v5 v6 v7 v8 v9 hall
       obtain ⟨a8,c8,hu7⟩:=hrow.form
       obtain ⟨n8,hnl⟩:∃ k,(s.ops ++ [x]).length = k:=⟨_,rfl⟩
       rw [hnl] at hu7
       subst hu7
       have hcs:=HR8.out.cells.only hon (fun e=>HR8.out.struct.1 e)
       have HPUT:=Lib.hid (HR8.out.putOps HXB.out hon hrow hmv)
       have cf:wq.cell? ⟨gs,0,none⟩ = some (Value.slice lo s.ops.length co):=hcs.at 0
       have ff:=hcs.frozen 0
       clear hch hrow hmv hb hon hnl hcs HLY HCF HXB
       go_upto_region 13 with (fail)
       obtain ⟨w9,hw⟩:∃ z,z = wq.setCell ⟨gs,0,none⟩ (.slice a8 n8 c8):=⟨_,rfl⟩
       rw [← hw] at HPUT ⊢
       have HR9:=Lib.hid HPUT.out.1
       have HT9:=Lib.hid (HT8.out.trans HPUT.out.2)
       have HC69:=Lib.hid (HC68.out.turn HPUT.out.2)
       clear hw cf ff HPUT HR8 HT8 HC68
       clear HXV HRW HYR HSY HIY HLN
       obtain ⟨ln,cn,rfl⟩:=HR9.out.names.form
       have HXB:=Lib.hid (fun b (hb:w9.heap.size ≤ b)=>HX0.out b (Nat.le_trans HT9.out.only.size hb))
       have HRW:=Lib.hid HR9.out.names
       have HCF:=Lib.hid (fun w' (k:Only (fun b=>(Value.slice ln s.names.length cn).ownBlock = some b) w9 w')=>show w'.cell? ⟨gs,2,none⟩ = some (Value.slice ln s.names.length cn) from (HR9.out.cells.only k (fun e=>HR9.out.struct.2.2.1 e)).at 2)
       have HLY:=Lib.hid (fun w' (k:Only (fun b=>(Value.slice ln s.names.length cn).ownBlock = some b) w9 w')=>show Blk (w3.heap.size) 25 .u8 n w' from Cells.only HC69.out.2 k (fun e=>HC69.out.1 (.inr (.inr (.inr (.inl e))))))
       have HSY:=Lib.hid HSN.out
       have HYL:=Lib.hid (And.intro HNL.out HNB.out)
       have HLN:=Lib.hid (show s.names.length + [n].length ≤ 1000000 by rw [DagN.names,List.length_map];simp;omega)
       refine z0f 10 (fun q V w'=>Vals q V [(0,.pointer (some ⟨gs,0,none⟩)),(1,.pointer (some ⟨gs,0,none⟩)),(2,.pointer (some ⟨gs,0,none⟩)),(3,.pointer (some ⟨gs,2,none⟩)),(4,Value.slice ln s.names.length cn),(5,.agg (z06 .u8 n).toArray),(8,.pointer (some ⟨gs,0,none⟩)),(9,.pointer (some ⟨gs,2,none⟩))] ∧ Only (fun b=>(Value.slice ln s.names.length cn).ownBlock = some b) w9 w' ∧ Chain [6,7] (fun _=>True) (PushI w9 (Value.slice ln s.names.length cn) s.names n) q V w') (fun _=>undef) (by kernel_rfl) (by kernel_rfl) (by kernel_rfl) (by simp only [zC,zD,z0i,Act.put,zS,zA,zB]) ⟨Vals.none,Only.of (Below.refl _ _).drew,Chain.none trivial (fun _=>(Below.refl _ _).drew)⟩ ?_ ?_
       ·simp only [zC,zD,z0i,Nat.zero_add,Nat.reduceAdd,Act.put,zS,zA,zB]
        refine zQc ?_ (zQc ?_ (zQc ?_ (zQc ?_ (zQc ?_ (zQc ?_ (zQc ?_ (zQc ?_ (zQc ?_ (zQc ?_ (zQn))))))))))
        all_goals (refine zQf rfl ?_;rintro q V wq hr hu ⟨hVs,hb,hch⟩ K hK)
        ·exact z0h (.tmp 0) rfl _ rfl (hK _ _ ⟨hVs.set rfl,hb,hch.ne (by decide) (by decide)⟩)
        ·exact z0h (.tmp 0) rfl _ rfl (hK _ _ ⟨hVs.set rfl,hb,hch.ne (by decide) (by decide)⟩)
        ·exact z0m (.tmp 68) rfl ⟨gs,0,none⟩ (hVs.get 1 (hr { on:=1,ground:=.data } (by simp) rfl) rfl) (hK _ _ ⟨hVs.set rfl,hb,hch.ne (by decide) (by decide)⟩)
        ·exact z0l 36 (.tmp 69) 2 rfl _ _ (hVs.get 2 (hr { on:=2,ground:=.data } (by simp) rfl) rfl) (z1b gs 2 (by decide)) (hK _ _ ⟨hVs.set rfl,hb,hch.ne (by decide) (by decide)⟩)
        ·exact z0o 34 (.tmp 70) rfl _ _ (hVs.get 3 (hr { on:=3,ground:=.data } (by simp) rfl) rfl) (HCF.out wq hb) Tryz.isAgg34 (hK _ _ ⟨hVs.set rfl,hb,hch.ne (by decide) (by decide)⟩)
        ·exact z16 25 (.tmp 6) rfl (w3.heap.size) .u8 n 25 _ rfl (HLY.out wq hb) Tryz.underlying25 rfl HSY.out (hK _ _ ⟨hVs.set rfl,hb,hch.ne (by decide) (by decide)⟩)
        ·have hm:Below w9.heap.size w9 wq:=hch.at 0 (by decide) hu (.inl rfl)
         refine z6d rfl (.tmp 72) rfl n HYL.out.1 (hVs.get 5 (hr { on:=5,ground:=.data } (by simp) rfl) rfl) ?_
         intro w' hb' hsrc
         have hbn:Only (fun b=>(Value.slice ln s.names.length cn).ownBlock = some b) w9 w':=hb.below hb'
         have hc6:=hch.step (v:=.slice (some ⟨wq.heap.size,0,none⟩) 1 1) 0 (by decide) (by decide) hu (.inl rfl) trivial ⟨Below.trans hm (hb'.mono hm.size),wq.heap.size,rfl,hsrc⟩
         exact (hK _ _ ⟨hVs.off rfl,hbn,hc6⟩)
        ·obtain ⟨hm,g,hv6,hsrc⟩:PushI w9 (Value.slice ln s.names.length cn) s.names n 1 (V 6) wq:=hch.at 1 (by decide) hu (.inr (hr { on:=6,ground:=.data } (by simp) rfl))
         refine z33 rfl (.tmp 71) (.tmp 73) rfl 0 (Value.slice ln s.names.length cn) s.names [n] (Ids.one HYL.out.1 HYL.out.2) (some ⟨g,0,none⟩) 1 1 rfl (hVs.get 4 (hr { on:=4,ground:=.data } (by simp) rfl) rfl) (HRW.out.below hm) hv6 hsrc (fun h=>by cases h) HLN.out (Nat.zero_le _) ?_
         intro v' w' ho' hg' hd'
         have hbn:Only (fun b=>(Value.slice ln s.names.length cn).ownBlock = some b) w9 w':=hb.grown hg' (fun b hb=>.inl hb)
         have hc7:=hch.step (v:=v') 1 (by decide) (by decide) hu (.inr (hr { on:=6,ground:=.data } (by simp) rfl)) trivial ⟨hbn,ho',Moved.of hd' hm.size⟩
         exact (hK _ _ ⟨hVs.off rfl,hbn,hc7⟩)
        ·exact z0m (.tmp 67) rfl ⟨gs,0,none⟩ (hVs.get 0 (hr { on:=0,ground:=.data } (by simp) rfl) rfl) (hK _ _ ⟨hVs.set rfl,hb,hch.ne (by decide) (by decide)⟩)
        ·exact z0l 36 (.tmp 75) 2 rfl _ _ (hVs.get 8 (hr { on:=8,ground:=.data } (by simp) rfl) rfl) (z1b gs 2 (by decide)) (hK _ _ ⟨hVs.set rfl,hb,hch.ne (by decide) (by decide)⟩)
       rintro q V wq hall ⟨hVs,hb,hch⟩
       have v0:=hVs.get 0 (hall 0 (by decide)) rfl
       have v1:=hVs.get 1 (hall 1 (by decide)) rfl
       have v2:=hVs.get 2 (hall 2 (by decide)) rfl
       have v3:=hVs.get 3 (hall 3 (by decide)) rfl
       have v4:=hVs.get 4 (hall 4 (by decide)) rfl
       have v5:=hVs.get 5 (hall 5 (by decide)) rfl
       obtain ⟨u6,v6⟩:∃ v,V 6 = v:=⟨_,rfl⟩
       obtain ⟨u7,v7⟩:∃ v,V 7 = v:=⟨_,rfl⟩
       have v8:=hVs.get 8 (hall 8 (by decide)) rfl
       have v9:=hVs.get 9 (hall 9 (by decide)) rfl
       obtain ⟨hon,hrow,hmv⟩:PushI w9 (Value.slice ln s.names.length cn) s.names n 2 (V 7) wq:=hch.fin (fun p hp=>by match p,hp with | 0,_=>exact hall 6 (by decide) | 1,_=>exact hall 7 (by decide))
       rw [v7] at hrow hmv
       simp only [zC,zD,zE,zF,z0i,Nat.zero_add,Nat.reduceAdd,v0,v1,v2,v3,v4,v5,v6,v7,v8,v9,Act.put,zS,zA,zB]
       clear hVs v0 v1 v2 v3 v4 v5 v6 v7 v8 v9 hall
       obtain ⟨a9,c9,hu7⟩:=hrow.form
       obtain ⟨n9,hnl⟩:∃ k,(s.names ++ [n]).length = k:=⟨_,rfl⟩
       rw [hnl] at hu7
       subst hu7
       have hcs:=HR9.out.cells.only hon (fun e=>HR9.out.struct.2.2.1 e)
       have HPUT:=Lib.hid (HR9.out.putNames HXB.out hon hrow hmv)
       have cf:wq.cell? ⟨gs,2,none⟩ = some (Value.slice ln s.names.length cn):=hcs.at 2
       have ff:=hcs.frozen 2
       clear hch hrow hmv hb hon hnl hcs HLY HCF HXB
       go_upto_region 14 with (fail)
       obtain ⟨wa,hw⟩:∃ z,z = wq.setCell ⟨gs,2,none⟩ (.slice a9 n9 c9):=⟨_,rfl⟩
       rw [← hw] at HPUT ⊢
       have HRa:=Lib.hid HPUT.out.1
       have HTa:=Lib.hid (HT9.out.trans HPUT.out.2)
       have HC6a:=Lib.hid (HC69.out.turn HPUT.out.2)
       clear hw cf ff HPUT HR9 HT9 HC69
       clear HRW HSY HYL HLN
       have HX3:=Lib.hid (show x.depth = z1h s.ops x from HXD.out.trans (HEQ.out.trans HDE.out.symm))
       have hra:RefAt X gs (.slice a8 n8 c8) vw (.slice a9 n9 c9) vq ⟨s.ops ++ [x],s.wait⟩ wa:=by
        have h:=HRa.out
        rw [show s.names ++ [n] = (s.ops ++ [x]).map z0a by rw [List.map_append,DagN.names];simp [HNE.out]] at h
        exact h.at
       have HRAa:=Lib.hid hra
       have HTMa:=Lib.hid (HTM.out.come HXF.out HX3.out hN)
       obtain ⟨RR,hRR⟩:∃ RR,z0t s.wait.length ⟨s.ops ++ [x],s.wait⟩ = RR:=⟨_,rfl⟩
       rw [hRR] at HTK
       have HR0:=Shut.mk hRR
       obtain ⟨S1,hS1⟩:∃ S1,DagN.mk (s.ops ++ [x]) s.wait = S1:=⟨_,rfl⟩
       have HRR:=Shut.mk (show z0t S1.wait.length S1 = RR by rw [← hS1];exact HR0.out)
       rw [hS1] at HRAa HTMa
       clear hRR hra HRa hS1 HR0 HX3 HXD HDE HEQ HTM
       go_wp2_with (first
        | (refine z03 rfl 25 (.tmp 6) rfl w3.heap.size .u8 n 25 _ rfl HC6a.out.2 Tryz.underlying25 rfl HSN.out ?_)
        | (refine z17 rfl 34 25 _ rfl n rfl HNL.out Tryz.underlying34 Tryz.infoI32 ?_))
       intro wb hkb hbb
       have HRAb:=Lib.hid (HRAa.out.below hbb.out)
       have HTb:=Lib.hid (HTa.out.below hbb.out)
       have HOb:=Lib.hid (show LocR (RefX gs (.slice a8 n8 c8) vw (.slice a9 n9 c9) vq) w.heap.size (.slice (some ⟨wa.heap.size,0,none⟩) 1 1) [n] wb from ⟨fun b hb e=>by
        have h1:=HRAa.out.l.lt e
        obtain rfl:wa.heap.size = b:=by injection hb
        omega,zia hkb.out HNL.out HTa.out.only.size⟩)
       clear hkb hbb HRAa HTa HC6a
       go_wp2_with fail
       go_loopw [7] (fun vo wr=>∃ (sk:DagN) (ko kw kn kq:Value) (out:List (List Nat)),RefAt X gs ko kw kn kq sk wr ∧ Tame sk ∧ LocR (RefX gs ko kw kn kq) w.heap.size vo (n :: out) wr ∧ out ++ (z0t sk.wait.length sk).1 = RR.1 ∧ (z0t sk.wait.length sk).2 = RR.2 ∧ out.length + sk.wait.length ≤ 1000 ∧ Turn (RefX gs (.slice lo s.ops.length co) vw (.slice ln s.names.length cn) vq) (RefX gs ko kw kn kq) w wr) (fun _ wr=>waitLen wr gs)
       case atStart=>exact ⟨S1,_,_,_,_,[],HRAb.out,HTMa.out,HOb.out,by rw [HRR.out];rfl,by rw [HRR.out],by have:=HTMa.out.many;simp only [List.length_nil];omega,HTb.out⟩
       case round =>
        clear HRAb HTMa HOb HTb HRR
        obtain ⟨sk,ko,kw,kn,kq,out,hra,htm,hlo,hr1,hr2,hln,htu⟩:=hrel
        have HRA:=Lib.hid hra
        have HTM:=Lib.hid htm
        have HLO:=Lib.hid hlo
        have HR1:=Shut.mk hr1
        have HR2:=Shut.mk hr2
        have HLN:=Lib.hid hln
        have HTU:=Lib.hid htu
        have HML:=Shut.mk hra.waitLen
        obtain ⟨lw,cw,rfl⟩:=hra.wait.form
        obtain ⟨lq,cq,rfl⟩:=hra.waits.form
        have HAW:=Lib.hid hra.wait.at
        have HAQ:=Lib.hid (show IAt lq (sk.wait.map z0a) wr from hra.waits.at z12)
        obtain ⟨wo,hwo⟩:∃ q,q = wr:=⟨_,rfl⟩
        subst hwo
        have c1:=hra.cells.at 1
        simp only [List.getElem?_toArray,List.getElem?_cons_zero,List.getElem?_cons_succ] at c1
        obtain ⟨N,hN1⟩:∃ N,sk.wait.length = N:=⟨_,rfl⟩
        have hNb:N ≤ 1000:=by have:=htm.many;omega
        rw [hN1] at c1
        have HN1:=Shut.mk hN1
        clear hra htm hlo hr1 hr2 hln htu hN1
        go_wp2_with fail
        clear c1
        go_loopw [8,84] (fun b i wq=>∃ k:Nat,k ≤ N ∧ i = .int .i64 k ∧ b = zid (z29 sk.names sk.wait k) ∧ Below wo.heap.size wo wq) (fun _ i _=>N - (intOf i).toNat)
        case atStart=>exact ⟨0,Nat.zero_le _,rfl,rfl,Below.refl _ _⟩
        case round =>
         obtain ⟨k,hk,rfl,rfl,hbq⟩:=hrel
         have HBQ:=Lib.hid hbq
         by_cases hlt:k < N
         ·obtain ⟨y,hy⟩:∃ y,sk.wait[k]? = some y:=⟨_,List.getElem?_eq_getElem (by rw [HN1.out];exact hlt)⟩
          have hyf:=HTM.out.wait y (List.mem_of_getElem? hy)
          obtain ⟨bo,oo,rfl,hbo,py,cy,hr,hia,hoy⟩:=(HAW.out.below hbq).get hy
          have HY:=Lib.hid hy
          have HYF:=Lib.hid hyf
          have HR:=Lib.hid hr
          have HIA:=Lib.hid hia
          have HSO:=Lib.hid (show (Tryz.prog.info? 38).map (·.size) = some (opL y py cy).length by rw [z2i hyf.d.ref.1];exact Tryz.sizeO)
          have HSV:=Lib.hid (show (Tryz.prog.info? 38).map (·.size) = some (opV y py cy).size by rw [z07 hyf.d.ref.1];exact Tryz.sizeO)
          have HSZ:=Lib.hid (show (opV z05 none 0).size = (opV y py cy).size by rw [z07 hyf.d.ref.1];rfl)
          have HZO:=Lib.hid (show (Tryz.prog.info? 38).bind (·.zero) = some (.agg (opL z05 none 0).toArray) by kernel_rfl)
          obtain ⟨bt,hbt⟩:∃ bt,z29 sk.names sk.wait k = bt:=⟨_,rfl⟩
          have HBE:=Shut.mk hbt
          rw [hbt]
          clear hy hyf hr hia hoy hbo hbq hbt
          go_wp2_with (first
           | (refine wpList_load_mid rfl 38 _ rfl bo (oo + k * 38) rfl _ _ HR.out Tryz.underlying38 rfl HSO.out ?_)
           | (refine z0j rfl 38 rfl (opL z05 none 0) HZO.out ?_)
           | (refine z01 rfl 38 _ _ rfl rfl wr.heap.size (opV z05 none 0) (opV y py cy) 38 rfl rfl (heap_alloc_new wr _) HSV.out HSZ.out (z0z y py cy) ?_))
          intro w7 hc7 hb7
          have hb78:Below wr.heap.size wr w7:=But.toBelow ((Below.refl _ wr).alloc (Nat.le_refl _) _) hb7.out (Nat.le_refl _) (by rw [World.size_alloc];exact Nat.le_succ _)
          have HB7:=Lib.hid (HBQ.out.trans (hb78.mono HBQ.out.size))
          have HIA7:=Lib.hid (HIA.out.below hb78)
          have HCY:=Lib.hid (fun w' (b:Below w7.heap.size w7 w')=>hc7.out.below b)
          have HWH:=Lib.hid (fun w' (b:Below w7.heap.size w7 w')=>zcr X gs ko (.slice (some ⟨bo,oo,none⟩) sk.wait.length cw) kn (.slice lq sk.waits.length cq) sk y py cy w' (HRA.out.below (HB7.out.trans (b.mono HB7.out.size))) HYF.out.d.ref.1 HYF.out.preds (HIA7.out.below b) (by have:=HYF.out.many;omega) (by have:=HTM.out.many;omega))
          obtain ⟨z,hz⟩:∃ z,z1f sk.names y = z:=⟨_,rfl⟩
          rw [hz] at HWH
          have HZ2:=Shut.mk hz
          clear hc7 hb7 hb78 hz HR HIA HSO HSZ HZO
          go_wp2_with fail
          cases z with
          | false =>
            have HBT:=Shut.mk (show z29 sk.names sk.wait (k + 1) = bt by rw [z29,HBE.out,zee HY.out HZ2.out])
            refine z09 (fun w'=>Below w7.heap.size w7 w') (by kernel_rfl) (by kernel_rfl) (Below.refl _ _).drew ?_
            repeat (first
             | go_big_quiet_skip
             | (go_big_quiet_want;refine z0n 38 _ rfl wr.heap.size (opV y py cy) 38 _ rfl HCY.out Tryz.underlying38 rfl HSV.out ?_;go_big_quiet_on;simp only [Act.put,zS,zA,zB])
             | go_big_quiet_step ((intro hs';first
              | (go_at_call 51;exact (HWH.out _ hs').mono fun e w' h=>⟨h.1,hs'.trans (h.2.mono hs'.size)⟩)
              | rfl)))
            refine wpQuiet_nil ?_
            intro w8 hs8
            have HB8:=Lib.hid (HB7.out.trans (hs8.mono HB7.out.size))
            clear hs8
            go_wp2_with fail
            exact ⟨⟨k + 1,by omega,by go_num,by rw [HBT.out],HB8.out⟩,by simp [intOf];omega⟩
          | true =>
            cases bt with
            | none =>
              have HBT:=Shut.mk (show z29 sk.names sk.wait (k + 1) = some k by rw [z29,HBE.out,za7 HY.out HZ2.out])
              rw [show zid none = Value.int .i64 (-1) from rfl]
              refine z09 (fun w'=>Below w7.heap.size w7 w') (by kernel_rfl) (by kernel_rfl) (Below.refl _ _).drew ?_
              repeat (first
               | go_big_quiet_skip
               | (go_big_quiet_want;refine z0n 38 _ rfl wr.heap.size (opV y py cy) 38 _ rfl HCY.out Tryz.underlying38 rfl HSV.out ?_;go_big_quiet_on;simp only [Act.put,zS,zA,zB])
               | go_big_quiet_step ((intro hs';first
                | (go_at_call 51;exact (HWH.out _ hs').mono fun e w' h=>⟨h.1,hs'.trans (h.2.mono hs'.size)⟩)
                | rfl)))
              refine wpQuiet_nil ?_
              intro w8 hs8
              have HB8:=Lib.hid (HB7.out.trans (hs8.mono HB7.out.size))
              clear hs8
              go_wp2_with fail
              exact ⟨⟨k + 1,by omega,by go_num,by rw [HBT.out];rfl,HB8.out⟩,by simp [intOf];omega⟩
            | some j =>
              have hj:j < k:=z9d _ _ k j (by rw [HN1.out];omega) HBE.out
              rw [show zid (some j) = Value.int .i64 (j:Int) from rfl]
              have hNm:(sk.wait.map z0a).length = N:=(List.length_map _).trans HN1.out
              have HAQ7:=Lib.hid (HAQ.out.below HB7.out)
              obtain ⟨bq,oq,rfl,hbq⟩:=HAQ7.out.some (by omega)
              have HG1:=Lib.hid (fun w' (b:Below w7.heap.size w7 w')=>(HAQ7.out.below b).get (i:=k) (by omega))
              have HG2:=Lib.hid (fun w' (b:Below w7.heap.size w7 w')=>(HAQ7.out.below b).get (i:=j) (by omega))
              have HCQ:=Lib.hid (fun w' (b:Below w7.heap.size w7 w')=>show w'.cell? ⟨gs,3,none⟩ = some (.slice (some ⟨bq,oq,none⟩) N cq) from by
               have h1:=(HRA.out.cells.below (HB7.out.trans (b.mono HB7.out.size))).at 3
               rw [← hNm]
               exact h1)
              have i1:=Ids.getD (L:=sk.wait.map z0a) z12 (i:=k) (by omega)
              have i2:=Ids.getD (L:=sk.wait.map z0a) z12 (i:=j) (by omega)
              have hna:(sk.wait.map z0a).getD k [] = z0a y:=by
               rw [z87 y (by rw [HN1.out];omega),List.getD_eq_getElem?_getD,HY.out];rfl
              have hnb:(sk.wait.map z0a).getD j [] = z0a (sk.wait.getD j y):=z87 y (by rw [HN1.out];omega)
              rw [hna] at HG1 i1
              rw [hnb] at HG2 i2
              obtain ⟨na,ha⟩:∃ na,z0a y = na:=⟨_,rfl⟩
              obtain ⟨nb,hb⟩:∃ nb,z0a (sk.wait.getD j y) = nb:=⟨_,rfl⟩
              have HS1:=Lib.hid (show (Tryz.prog.info? 25).map (·.size) = some na.length by rw [← ha,i1.1];exact Tryz.sizeI)
              have HS2:=Lib.hid (show (Tryz.prog.info? 25).map (·.size) = some nb.length by rw [← hb,i2.1];exact Tryz.sizeI)
              have HCM:=Lib.hid (fun w'=>z6p (z0a y) (z0a (sk.wait.getD j y)) i1 i2 w')
              rw [ha] at HG1
              rw [hb] at HG2
              have HVL:=Lib.hid (z4s (z0a y) (z0a (sk.wait.getD j y)))
              have hjN:(j:Int) < (N:Int):=by omega
              have hkN:(k:Int) < (N:Int):=by omega
              have hj0:¬ (j:Int) < 0:=by omega
              obtain ⟨cc,hcc⟩:∃ cc,z1s (z0a y) (z0a (sk.wait.getD j y)) = cc:=⟨_,rfl⟩
              rw [hcc] at HCM HVL
              rw [ha,hb] at HCM
              have HCC:=Shut.mk hcc
              clear hcc ha hb hna hnb i1 i2 hNm hbq
              rcases HVL.out with hv | hv | hv
              ·subst hv
               have HBT:=Shut.mk (show z29 sk.names sk.wait (k + 1) = some k by rw [z29,HBE.out,zb6 HY.out HZ2.out HCC.out])
               refine z09 (fun w'=>Below w7.heap.size w7 w') (by kernel_rfl) (by kernel_rfl) (Below.refl _ _).drew ?_
               repeat (first
                | go_big_quiet_skip
                | (go_big_quiet_want;refine z0n 38 _ rfl wr.heap.size (opV y py cy) 38 _ rfl HCY.out Tryz.underlying38 rfl HSV.out ?_;go_big_quiet_on;simp only [Act.put,zS,zA,zB])
                | (go_big_quiet_want;refine z02 34 _ rfl ⟨gs,3,none⟩ _ rfl HCQ.out Tryz.isAgg34 ?_;go_big_quiet_on;simp only [Act.put,zS,zA,zB])
                | (go_big_quiet_want;refine z0c 25 _ rfl bq (oq + k * 32) na _ rfl HG1.out Tryz.underlying25 rfl HS1.out ?_;go_big_quiet_on;simp only [Act.put,zS,zA,zB])
                | (go_big_quiet_want;refine z0c 25 _ rfl bq (oq + j * 32) nb _ rfl HG2.out Tryz.underlying25 rfl HS2.out ?_;go_big_quiet_on;simp only [Act.put,zS,zA,zB])
                | go_big_quiet_step ((intro hs';first
                 | (go_at_call 51;exact (HWH.out _ hs').mono fun e w' h=>⟨h.1,hs'.trans (h.2.mono hs'.size)⟩)
                 | (go_at_call 53;exact (HCM.out _).mono fun e w' h=>⟨h.1,hs'.trans (h.2.mono hs'.size)⟩)
                 | rfl)))
               refine wpQuiet_nil ?_
               intro w8 hs8
               have HB8:=Lib.hid (HB7.out.trans (hs8.mono HB7.out.size))
               clear hs8
               go_wp2_with fail
               exact ⟨⟨k + 1,by omega,by go_num,by rw [HBT.out];rfl,HB8.out⟩,by simp [intOf];omega⟩
              ·subst hv
               have HBT:=Shut.mk (show z29 sk.names sk.wait (k + 1) = some j by rw [z29,HBE.out,z7x HY.out HZ2.out (by rw [HCC.out];decide)])
               refine z09 (fun w'=>Below w7.heap.size w7 w') (by kernel_rfl) (by kernel_rfl) (Below.refl _ _).drew ?_
               repeat (first
                | go_big_quiet_skip
                | (go_big_quiet_want;refine z0n 38 _ rfl wr.heap.size (opV y py cy) 38 _ rfl HCY.out Tryz.underlying38 rfl HSV.out ?_;go_big_quiet_on;simp only [Act.put,zS,zA,zB])
                | (go_big_quiet_want;refine z02 34 _ rfl ⟨gs,3,none⟩ _ rfl HCQ.out Tryz.isAgg34 ?_;go_big_quiet_on;simp only [Act.put,zS,zA,zB])
                | (go_big_quiet_want;refine z0c 25 _ rfl bq (oq + k * 32) na _ rfl HG1.out Tryz.underlying25 rfl HS1.out ?_;go_big_quiet_on;simp only [Act.put,zS,zA,zB])
                | (go_big_quiet_want;refine z0c 25 _ rfl bq (oq + j * 32) nb _ rfl HG2.out Tryz.underlying25 rfl HS2.out ?_;go_big_quiet_on;simp only [Act.put,zS,zA,zB])
                | go_big_quiet_step ((intro hs';first
                 | (go_at_call 51;exact (HWH.out _ hs').mono fun e w' h=>⟨h.1,hs'.trans (h.2.mono hs'.size)⟩)
                 | (go_at_call 53;exact (HCM.out _).mono fun e w' h=>⟨h.1,hs'.trans (h.2.mono hs'.size)⟩)
                 | rfl)))
               refine wpQuiet_nil ?_
               intro w8 hs8
               have HB8:=Lib.hid (HB7.out.trans (hs8.mono HB7.out.size))
               clear hs8
               go_wp2_with fail
               exact ⟨⟨k + 1,by omega,by go_num,by rw [HBT.out];rfl,HB8.out⟩,by simp [intOf];omega⟩
              ·subst hv
               have HBT:=Shut.mk (show z29 sk.names sk.wait (k + 1) = some j by rw [z29,HBE.out,z7x HY.out HZ2.out (by rw [HCC.out];decide)])
               refine z09 (fun w'=>Below w7.heap.size w7 w') (by kernel_rfl) (by kernel_rfl) (Below.refl _ _).drew ?_
               repeat (first
                | go_big_quiet_skip
                | (go_big_quiet_want;refine z0n 38 _ rfl wr.heap.size (opV y py cy) 38 _ rfl HCY.out Tryz.underlying38 rfl HSV.out ?_;go_big_quiet_on;simp only [Act.put,zS,zA,zB])
                | (go_big_quiet_want;refine z02 34 _ rfl ⟨gs,3,none⟩ _ rfl HCQ.out Tryz.isAgg34 ?_;go_big_quiet_on;simp only [Act.put,zS,zA,zB])
                | (go_big_quiet_want;refine z0c 25 _ rfl bq (oq + k * 32) na _ rfl HG1.out Tryz.underlying25 rfl HS1.out ?_;go_big_quiet_on;simp only [Act.put,zS,zA,zB])
                | (go_big_quiet_want;refine z0c 25 _ rfl bq (oq + j * 32) nb _ rfl HG2.out Tryz.underlying25 rfl HS2.out ?_;go_big_quiet_on;simp only [Act.put,zS,zA,zB])
                | go_big_quiet_step ((intro hs';first
                 | (go_at_call 51;exact (HWH.out _ hs').mono fun e w' h=>⟨h.1,hs'.trans (h.2.mono hs'.size)⟩)
                 | (go_at_call 53;exact (HCM.out _).mono fun e w' h=>⟨h.1,hs'.trans (h.2.mono hs'.size)⟩)
                 | rfl)))
               refine wpQuiet_nil ?_
               intro w8 hs8
               have HB8:=Lib.hid (HB7.out.trans (hs8.mono HB7.out.size))
               clear hs8
               go_wp2_with fail
               exact ⟨⟨k + 1,by omega,by go_num,by rw [HBT.out];rfl,HB8.out⟩,by simp [intOf];omega⟩
         ·obtain rfl:k = N:=by omega
          clear hlt
          obtain ⟨bt,hbt⟩:∃ bt,z29 sk.names sk.wait k = bt:=⟨_,rfl⟩
          have HBE:=Shut.mk (show zaa sk.names sk.wait = bt by rw [zaa,HN1.out];exact hbt)
          rw [hbt]
          clear hbt
          cases bt with
          | none =>
            rw [show zid none = Value.int .i64 (-1) from rfl]
            have hfin:TakePost X gs w.heap.size (RefX gs (.slice lo s.ops.length co) vw (.slice ln s.names.length cn) vq) w (z1l s x) (.returned (.tuple #[u7,.int .i64 0])) wr:=by
             rw [HTK.out]
             have e1:=HR1.out
             have e2:=HR2.out
             rw [z8h HBE.out] at e1 e2
             rw [List.append_nil] at e1
             refine ⟨_,ko,_,kn,_,rfl,?_,?_,HTU.out.below HBQ.out,?_⟩
             ·rw [← e1];exact HLO.out.2.below HBQ.out
             ·rw [← e2];exact HRA.out.below HBQ.out
             ·rw [← e2];exact HTM.out
            have HF2:=Lib.hid hfin
            clear hfin
            go_wp2_with fail
            go_ret2
            exact HF2.out
          | some i =>
            rw [show zid (some i) = Value.int .i64 (i:Int) from rfl]
            have hi:i < sk.wait.length:=z8x HBE.out
            obtain ⟨y,hy⟩:∃ y,sk.wait[i]? = some y:=⟨_,List.getElem?_eq_getElem hi⟩
            have hyf:=HTM.out.wait y (List.mem_of_getElem? hy)
            obtain ⟨wk,hwk⟩:∃ q,q = wr:=⟨_,rfl⟩
            subst hwk
            have HRK:=Lib.hid (HRA.out.below HBQ.out)
            have HTK1:=Lib.hid (HTU.out.below HBQ.out)
            have HLK:=Lib.hid (HLO.out.below HBQ.out)
            obtain ⟨bo,oo,rfl,hbo,py,cy,hr,hia,hoy⟩:=(HAW.out.below HBQ.out).get hy
            have hkl:(sk.wait.map z0a).length = k:=(List.length_map _).trans HN1.out
            have hik:i < k:=by rw [← HN1.out];exact hi
            obtain ⟨bq,oq,rfl,hbq⟩:=(HAQ.out.below HBQ.out).some (by omega)
            have hgq:=(HAQ.out.below HBQ.out).get (i:=i) (by omega)
            rw [z87 y (by rw [HN1.out];exact hik),List.getD_eq_getElem?_getD,hy,Option.getD_some] at hgq
            have HYF:=Lib.hid hyf
            have HY:=Lib.hid hy
            have HIAY:=Lib.hid hia
            have HOYY:=Lib.hid hoy
            have HRY:=Lib.hid (fun w' (b:Below wk.heap.size wk w')=>z0g hr b hbo)
            have HC1:=Lib.hid (fun w' (b:Below wk.heap.size wk w')=>show w'.cell? ⟨gs,1,none⟩ = some (.slice (some ⟨bo,oo,none⟩) k cw) from by
             have h1:=(HRK.out.cells.below b).at 1
             rw [← HN1.out]
             exact h1)
            have HC3:=Lib.hid (fun w' (b:Below wk.heap.size wk w')=>show w'.cell? ⟨gs,3,none⟩ = some (.slice (some ⟨bq,oq,none⟩) k cq) from by
             have h1:=(HRK.out.cells.below b).at 3
             rw [← hkl]
             exact h1)
            have HRQ0:=Lib.hid (fun w' (b:Below wk.heap.size wk w')=>z0g hgq b hbq)
            have HX1:=Lib.hid (fun w'=>z9n bo oo k cw i hik w')
            have HX2:=Lib.hid (fun w'=>zht bq oq k cq i hik w')
            have HSO:=Lib.hid (show (Tryz.prog.info? 38).map (·.size) = some (opL y py cy).length by rw [z2i hyf.d.ref.1];exact Tryz.sizeO)
            have HSV2:=Lib.hid (show (Tryz.prog.info? 38).map (·.size) = some (opV y py cy).size by rw [z07 hyf.d.ref.1];exact Tryz.sizeO)
            have HSZ:=Lib.hid (show (opV z05 none 0).size = (opV y py cy).size by rw [z07 hyf.d.ref.1];rfl)
            obtain ⟨na,ha⟩:∃ na,z0a y = na:=⟨_,rfl⟩
            have HNA:=Shut.mk ha
            have HNI:=Lib.hid (show IdOk na from ha ▸ ⟨z1u y,z2o y⟩)
            have HS1:=Lib.hid (show (Tryz.prog.info? 25).map (·.size) = some na.length by rw [HNI.out.1];exact Tryz.sizeI)
            have HLZ:=Lib.hid (show (List.replicate 32 0).length = na.length by rw [HNI.out.1];rfl)
            have HRQ:=Lib.hid (fun w' (b:Below wk.heap.size wk w')=>ha ▸ HRQ0.out w' b)
            have HIK:=Lib.hid hik
            have hi0:¬ (i:Int) < 0:=by omega
            clear hi hy hyf hbo hr hia hoy hkl hik hgq hbq ha HRQ0
            go_upto_region 24 with (fail)
            refine z0f 17 (fun q V w'=>Val q V 0 (.pointer (some ⟨gs,0,none⟩)) ∧ Val q V 1 (.pointer (some ⟨gs,0,none⟩)) ∧ Val q V 2 (.pointer (some ⟨gs,1,none⟩)) ∧ Val q V 3 (.slice (some ⟨bo,oo,none⟩) k cw) ∧ Val q V 4 (.int .i64 (i:Int)) ∧ Val q V 5 (.pointer (some ⟨bo,oo + i * 38,none⟩)) ∧ Val q V 6 (.agg (opV y py cy)) ∧ Val q V 7 (.pointer (some ⟨gs,0,none⟩)) ∧ Val q V 8 (.pointer (some ⟨gs,0,none⟩)) ∧ Val q V 9 (.pointer (some ⟨gs,3,none⟩)) ∧ Val q V 10 (.slice (some ⟨bq,oq,none⟩) k cq) ∧ Val q V 11 (.int .i64 (i:Int)) ∧ Val q V 12 (.pointer (some ⟨bq,oq + i * 32,none⟩)) ∧ Val q V 13 (.agg (z06 .u8 na).toArray) ∧ PutC q V wk.heap.size 14 16 38 (opV z05 none 0) (opV y py cy) w' ∧ NewC q V wk.heap.size 15 25 ((z06 .u8 (List.replicate 32 0)).toArray) w' ∧ Below wk.heap.size wk w' ∧ Late q 14 16) (fun | 0=>u119 | 1=>u120 | 2=>u121 | 3=>u122 | 4=>u123 | 5=>u124 | 6=>u125 | 7=>u126 | 8=>u127 | 9=>u128 | 10=>u129 | 11=>u130 | 12=>u131 | 13=>u132 | 14=>u11 | 15=>u12 | _=>undef) (by kernel_rfl) (by kernel_rfl) (by kernel_rfl) (by simp only [zC,zD,z0i,Act.put,zS,zA,zB]) ⟨Val.none,Val.none,Val.none,Val.none,Val.none,Val.none,Val.none,Val.none,Val.none,Val.none,Val.none,Val.none,Val.none,Val.none,PutC.none,NewC.none,(Below.refl _ _).drew,Late.none⟩ ?_ ?_
            ·simp only [zC,zD,z0i,Nat.zero_add,Nat.reduceAdd,Act.put,zS,zA,zB]
             refine zQc ?_ (zQc ?_ (zQc ?_ (zQc ?_ (zQc ?_ (zQc ?_ (zQc ?_ (zQc ?_ (zQc ?_ (zQc ?_ (zQc ?_ (zQc ?_ (zQc ?_ (zQc ?_ (zQc ?_ (zQc ?_ (zQc ?_ (zQn)))))))))))))))))
             all_goals (refine zQf rfl ?_;rintro q V wq hr hu ⟨h0,h1,h2,h3,h4,h5,h6,h7,h8,h9,h10,h11,h12,h13,h14,h15,hb,hl14⟩ K hK)
             ·exact z0h (.tmp 0) rfl _ rfl (hK _ _ ⟨.same,h1.nd,h2.nd,h3.nd,h4.nd,h5.nd,h6.nd,h7.nd,h8.nd,h9.nd,h10.nd,h11.nd,h12.nd,h13.nd,h14.ne (by decide) (by decide) (Below.refl _ _),h15.ne (by decide) (Below.refl _ _),hb,hl14.nd⟩)
             ·exact z0m (.tmp 119) rfl ⟨gs,0,none⟩ (h0 (hr { on:=0,ground:=.data } (by simp) rfl)) (hK _ _ ⟨h0.nd,.same,h2.nd,h3.nd,h4.nd,h5.nd,h6.nd,h7.nd,h8.nd,h9.nd,h10.nd,h11.nd,h12.nd,h13.nd,h14.ne (by decide) (by decide) (Below.refl _ _),h15.ne (by decide) (Below.refl _ _),hb,hl14.nd⟩)
             ·exact z0l 36 (.tmp 120) 1 rfl _ _ (h1 (hr { on:=1,ground:=.data } (by simp) rfl)) (z1b gs 1 (by decide)) (hK _ _ ⟨h0.nd,h1.nd,.same,h3.nd,h4.nd,h5.nd,h6.nd,h7.nd,h8.nd,h9.nd,h10.nd,h11.nd,h12.nd,h13.nd,h14.ne (by decide) (by decide) (Below.refl _ _),h15.ne (by decide) (Below.refl _ _),hb,hl14.nd⟩)
             ·exact z0o 29 (.tmp 121) rfl _ _ (h2 (hr { on:=2,ground:=.data } (by simp) rfl)) (HC1.out wq hb) Tryz.isAgg29 (hK _ _ ⟨h0.nd,h1.nd,h2.nd,.same,h4.nd,h5.nd,h6.nd,h7.nd,h8.nd,h9.nd,h10.nd,h11.nd,h12.nd,h13.nd,h14.ne (by decide) (by decide) (Below.refl _ _),h15.ne (by decide) (Below.refl _ _),hb,hl14.nd⟩)
             ·exact z0h (.tmp 8) rfl _ rfl (hK _ _ ⟨h0.nd,h1.nd,h2.nd,h3.nd,.same,h5.nd,h6.nd,h7.nd,h8.nd,h9.nd,h10.nd,h11.nd,h12.nd,h13.nd,h14.ne (by decide) (by decide) (Below.refl _ _),h15.ne (by decide) (Below.refl _ _),hb,hl14.nd⟩)
             ·exact z2y 29 (.tmp 122) (.tmp 123) rfl _ _ _ (h3 (hr { on:=3,ground:=.data } (by simp) rfl)) (h4 (hr { on:=4,ground:=.data } (by simp) rfl)) HX1.out (hK _ _ ⟨h0.nd,h1.nd,h2.nd,h3.nd,h4.nd,.same,h6.nd,h7.nd,h8.nd,h9.nd,h10.nd,h11.nd,h12.nd,h13.nd,h14.ne (by decide) (by decide) (Below.refl _ _),h15.ne (by decide) (Below.refl _ _),hb,hl14.nd⟩)
             ·exact z52 38 (.tmp 124) rfl bo (oo + i * 38) (opL y py cy) _ (h5 (hr { on:=5,ground:=.data } (by simp) rfl)) (HRY.out wq hb) Tryz.underlying38 rfl HSO.out (hK _ _ ⟨h0.nd,h1.nd,h2.nd,h3.nd,h4.nd,h5.nd,.same,h7.nd,h8.nd,h9.nd,h10.nd,h11.nd,h12.nd,h13.nd,h14.ne (by decide) (by decide) (Below.refl _ _),h15.ne (by decide) (Below.refl _ _),hb,hl14.nd⟩)
             ·exact z0h (.tmp 0) rfl _ rfl (hK _ _ ⟨h0.nd,h1.nd,h2.nd,h3.nd,h4.nd,h5.nd,h6.nd,.same,h8.nd,h9.nd,h10.nd,h11.nd,h12.nd,h13.nd,h14.ne (by decide) (by decide) (Below.refl _ _),h15.ne (by decide) (Below.refl _ _),hb,hl14.nd⟩)
             ·exact z0m (.tmp 126) rfl ⟨gs,0,none⟩ (h7 (hr { on:=7,ground:=.data } (by simp) rfl)) (hK _ _ ⟨h0.nd,h1.nd,h2.nd,h3.nd,h4.nd,h5.nd,h6.nd,h7.nd,.same,h9.nd,h10.nd,h11.nd,h12.nd,h13.nd,h14.ne (by decide) (by decide) (Below.refl _ _),h15.ne (by decide) (Below.refl _ _),hb,hl14.nd⟩)
             ·exact z0l 36 (.tmp 127) 3 rfl _ _ (h8 (hr { on:=8,ground:=.data } (by simp) rfl)) (z1b gs 3 (by decide)) (hK _ _ ⟨h0.nd,h1.nd,h2.nd,h3.nd,h4.nd,h5.nd,h6.nd,h7.nd,h8.nd,.same,h10.nd,h11.nd,h12.nd,h13.nd,h14.ne (by decide) (by decide) (Below.refl _ _),h15.ne (by decide) (Below.refl _ _),hb,hl14.nd⟩)
             ·exact z0o 34 (.tmp 128) rfl _ _ (h9 (hr { on:=9,ground:=.data } (by simp) rfl)) (HC3.out wq hb) Tryz.isAgg34 (hK _ _ ⟨h0.nd,h1.nd,h2.nd,h3.nd,h4.nd,h5.nd,h6.nd,h7.nd,h8.nd,h9.nd,.same,h11.nd,h12.nd,h13.nd,h14.ne (by decide) (by decide) (Below.refl _ _),h15.ne (by decide) (Below.refl _ _),hb,hl14.nd⟩)
             ·exact z0h (.tmp 8) rfl _ rfl (hK _ _ ⟨h0.nd,h1.nd,h2.nd,h3.nd,h4.nd,h5.nd,h6.nd,h7.nd,h8.nd,h9.nd,h10.nd,.same,h12.nd,h13.nd,h14.ne (by decide) (by decide) (Below.refl _ _),h15.ne (by decide) (Below.refl _ _),hb,hl14.nd⟩)
             ·exact z2y 34 (.tmp 129) (.tmp 130) rfl _ _ _ (h10 (hr { on:=10,ground:=.data } (by simp) rfl)) (h11 (hr { on:=11,ground:=.data } (by simp) rfl)) HX2.out (hK _ _ ⟨h0.nd,h1.nd,h2.nd,h3.nd,h4.nd,h5.nd,h6.nd,h7.nd,h8.nd,h9.nd,h10.nd,h11.nd,.same,h13.nd,h14.ne (by decide) (by decide) (Below.refl _ _),h15.ne (by decide) (Below.refl _ _),hb,hl14.nd⟩)
             ·exact z83 25 (.tmp 131) rfl bq (oq + i * 32) na _ (h12 (hr { on:=12,ground:=.data } (by simp) rfl)) (HRQ.out wq hb) Tryz.underlying25 rfl HS1.out (hK _ _ ⟨h0.nd,h1.nd,h2.nd,h3.nd,h4.nd,h5.nd,h6.nd,h7.nd,h8.nd,h9.nd,h10.nd,h11.nd,h12.nd,.same,h14.ne (by decide) (by decide) (Below.refl _ _),h15.ne (by decide) (Below.refl _ _),hb,hl14.nd⟩)
             ·exact z2s 38 rfl (opV z05 none 0) z4f (hK _ _ ⟨h0.nd,h1.nd,h2.nd,h3.nd,h4.nd,h5.nd,h6.nd,h7.nd,h8.nd,h9.nd,h10.nd,h11.nd,h12.nd,h13.nd,PutC.made hb.size (hl14.not hu) (by decide),h15.ne (by decide) ((Below.refl _ _).alloc (Nat.le_refl _) _),hb.alloc hb.size _,hl14.nd⟩)
             ·exact z2s 25 rfl ((z06 .u8 (List.replicate 32 0)).toArray) alloc_id (hK _ _ ⟨h0.nd,h1.nd,h2.nd,h3.nd,h4.nd,h5.nd,h6.nd,h7.nd,h8.nd,h9.nd,h10.nd,h11.nd,h12.nd,h13.nd,h14.ne (by decide) (by decide) ((Below.refl _ _).alloc (Nat.le_refl _) _),.same hb.size,hb.alloc hb.size _,hl14.nd⟩)
             ·obtain ⟨g,hV,hg0,hc0⟩:=h14 (hr { on:=14,ground:=.data } (by simp) rfl)
              rw [if_neg (by rw [hu];decide)] at hc0
              refine z1z 38 (.tmp 11) (.tmp 125) rfl g _ (opV y py cy) 38 hV (h6 (hr { on:=6,ground:=.data } (by simp) rfl)) hc0 HSV2.out HSZ.out (z0z y py cy) ?_
              intro w' hc' hbt
              have hbn:=But.toBelow hb hbt hg0 hb.size
              exact (hK _ _ ⟨h0.nd,h1.nd,h2.nd,h3.nd,h4.nd,h5.nd,h6.nd,h7.nd,h8.nd,h9.nd,h10.nd,h11.nd,h12.nd,h13.nd,PutC.stored hV hg0 (by decide) hc',(h15.turn (by decide) (fun q2 hq2=>(hbt.block q2 hq2.lt (zf9 hq2 hc0 (by decide))).trans hq2)),hbn,Late.same (hr { on:=14,ground:=.data } (by simp) rfl)⟩)
            rintro q V wq hall ⟨h0,h1,h2,h3,h4,h5,h6,h7,h8,h9,h10,h11,h12,h13,h14,h15,hb,hl14⟩
            have v0:=h0 (hall 0 (by decide))
            have v1:=h1 (hall 1 (by decide))
            have v2:=h2 (hall 2 (by decide))
            have v3:=h3 (hall 3 (by decide))
            have v4:=h4 (hall 4 (by decide))
            have v5:=h5 (hall 5 (by decide))
            have v6:=h6 (hall 6 (by decide))
            have v7:=h7 (hall 7 (by decide))
            have v8:=h8 (hall 8 (by decide))
            have v9:=h9 (hall 9 (by decide))
            have v10:=h10 (hall 10 (by decide))
            have v11:=h11 (hall 11 (by decide))
            have v12:=h12 (hall 12 (by decide))
            have v13:=h13 (hall 13 (by decide))
            obtain ⟨g14,v14,hg14,hc14⟩:=h14 (hall 14 (by decide))
            rw [if_pos (hall 16 (by decide))] at hc14
            obtain ⟨g15,v15,hg15,hc15⟩:=h15 (hall 15 (by decide))
            obtain ⟨u16,v16⟩:∃ v,V 16 = v:=⟨_,rfl⟩
            simp only [zC,zD,zE,zF,z0i,Nat.zero_add,Nat.reduceAdd,v0,v1,v2,v3,v4,v5,v6,v7,v8,v9,v10,v11,v12,v13,v14,v15,Act.put,zS,zA,zB]
            clear h0 h1 h2 h3 h4 h5 h6 h7 h8 h9 h10 h11 h12 h13 v0 v1 v2 v3 v4 v5 v6 v7 v8 v9 v10 v11 v12 v13 v14 v15 v16 hall hl14
            refine z04 rfl 25 _ _ rfl rfl g15 .u8 (List.replicate 32 0) na 25 rfl rfl hc15 HS1.out HLZ.out ?_
            intro w24 hc24 hb24
            have HB24:=Lib.hid (show Below wk.heap.size wk w24 from But.toBelow hb hb24.out hg15 hb.size)
            have hnx:∀ g,wk.heap.size ≤ g → ¬ RefX gs ko (.slice (some ⟨bo,oo,none⟩) sk.wait.length cw) kn (.slice (some ⟨bq,oq,none⟩) (sk.wait.map z0a).length cq) g:=fun g hg e=>by
             have:=HRK.out.l.lt e
             omega
            have HY11:=Lib.hid (show LocC (RefX gs ko (.slice (some ⟨bo,oo,none⟩) sk.wait.length cw) kn (.slice (some ⟨bq,oq,none⟩) (sk.wait.map z0a).length cq)) g14 38 (opV y py cy) w24 from ⟨hnx g14 hg14,(hb24.out.block g14 hc14.lt (zf9 hc14 hc15 (by decide))).trans hc14⟩)
            have HY12:=Lib.hid (show LocC (RefX gs ko (.slice (some ⟨bo,oo,none⟩) sk.wait.length cw) kn (.slice (some ⟨bq,oq,none⟩) (sk.wait.map z0a).length cq)) g15 25 (z06 .u8 na).toArray w24 from ⟨hnx g15 hg15,hc24.out⟩)
            have HR24:=Lib.hid (HRK.out.below HB24.out).l
            have HT24:=Lib.hid (HTK1.out.below HB24.out)
            have HL24:=Lib.hid (HLK.out.below HB24.out)
            have HIA24:=Lib.hid (HIAY.out.below HB24.out)
            clear hc24 hb24 hb hc14 hc15 hg14 hg15 hnx HRY HC1 HC3 HX1 HX2 HSO HRQ HLZ HRK HTK1 HLK HIAY
            have HDF:=Lib.hid (fun z (hz:z ∈ sk.wait)=>(HTM.out.wait z hz).d.ref.1)
            have HDI:=Lib.hid (show Ids (sk.wait.map z0a) from z12)
            have HAD:=Lib.hid (fun w:World=>add_one i (by have:=HIK.out;omega) w)
            have HAG:=Lib.hid (fun w:World=>show (eqGuard .add 3 (.tmp 0) (.tmp 0) (.int .i64 (i:Int)) (.int .i64 1)).run Tryz.prog w = .ok () w from by go_simp)
            go_upto_region 25 with (fail)
            have HKL:=Shut.mk (show sk.wait.length = k from HN1.out)
            have HXB:=Lib.hid (fun b (hb:w24.heap.size ≤ b)=>HX0.out b (Nat.le_trans HT24.out.only.size hb))
            have hcap:=HR24.out.wait.cap
            have HCF:=Lib.hid (fun w' (b:Below w24.heap.size w24 w')=>show w'.cell? ⟨gs,1,none⟩ = some (.slice (some ⟨bo,oo,none⟩) k cw) from by
             have h1:=(HR24.out.cells.below b).at 1
             rw [← HKL.out]
             exact h1)
            have HSR:=Lib.hid HR24.out.wait.at
            obtain ⟨ad2,had2⟩:∃ ad2,(if cw = i + 1 then some (⟨bo,oo,none⟩:Addr) else Option.map (fun z:Addr=>z.add ((i + 1) * 38)) (some ⟨bo,oo,none⟩)) = some ad2:=by split <;> exact ⟨_,rfl⟩
            have hdr:=HSR.out.drop (j:=i + 1) hcap
            rw [had2] at hdr
            have HSD:=Lib.hid hdr
            have HSH:=Lib.hid (fun w=>zbz (some ⟨bo,oo,none⟩) k cw i (Nat.le_of_lt HIK.out) (by rw [← HKL.out];exact hcap) w)
            have HSL:=Lib.hid (fun w=>had2 ▸ zab (some ⟨bo,oo,none⟩) k cw (i + 1) HIK.out (by rw [← HKL.out];exact hcap) w)
            clear hdr had2 hcap
            refine z0f 19 (fun q V w'=>Vals q V [(0,.pointer (some ⟨gs,0,none⟩)),(2,.pointer (some ⟨gs,0,none⟩)),(3,.pointer (some ⟨gs,0,none⟩)),(4,.pointer (some ⟨gs,1,none⟩)),(5,.slice (some ⟨bo,oo,none⟩) k cw),(6,.int .i64 (i:Int)),(7,.slice (some ⟨bo,oo,none⟩) i cw),(9,.pointer (some ⟨gs,0,none⟩)),(10,.pointer (some ⟨gs,0,none⟩)),(11,.pointer (some ⟨gs,1,none⟩)),(12,.slice (some ⟨bo,oo,none⟩) k cw),(13,.int .i64 (i:Int)),(14,.int .i64 ((i + 1:Nat):Int)),(15,.slice (some ad2) (k - (i + 1)) (cw - (i + 1))),(17,.pointer (some ⟨gs,0,none⟩)),(18,.pointer (some ⟨gs,1,none⟩))] ∧ Below w24.heap.size w24 w' ∧ Chain [1,8,16] (fun w'=>Below w24.heap.size w24 w') (CutO X w24 sk.wait i) q V w') (fun | 0=>u133 | 1=>u134 | 2=>u135 | 3=>u136 | 4=>u137 | 5=>u138 | 6=>u139 | 7=>u140 | 8=>u141 | 9=>u142 | 10=>u143 | 11=>u144 | 12=>u145 | 13=>u146 | 14=>u147 | 15=>u148 | 16=>u149 | 17=>u150 | 18=>u151 | _=>undef) (by kernel_rfl) (by kernel_rfl) (by kernel_rfl) (by simp only [zC,zD,z0i,Act.put,zS,zA,zB]) ⟨Vals.none,(Below.refl _ _).drew,Chain.none (Below.refl _ _).drew (fun _=>(Below.refl _ _).drew)⟩ ?_ ?_
            ·simp only [zC,zD,z0i,Nat.zero_add,Nat.reduceAdd,Act.put,zS,zA,zB]
             refine zQc ?_ (zQc ?_ (zQc ?_ (zQc ?_ (zQc ?_ (zQc ?_ (zQc ?_ (zQc ?_ (zQc ?_ (zQc ?_ (zQc ?_ (zQc ?_ (zQc ?_ (zQc ?_ (zQc ?_ (zQc ?_ (zQc ?_ (zQc ?_ (zQc ?_ (zQn)))))))))))))))))))
             all_goals (refine zQf rfl ?_;rintro q V wq hr hu ⟨hVs,hb,hch⟩ K hK)
             ·exact z0h (.tmp 0) rfl _ rfl (hK _ _ ⟨hVs.set rfl,hb,hch.ne (by decide) (by decide)⟩)
             ·have hm:Below w24.heap.size w24 wq:=hch.at 0 (by decide) hu (.inl rfl)
              refine zdd rfl ?_
              have hb':Below wq.heap.size wq (wq.alloc (.cells #[] 38)):=(Below.refl _ _).alloc (Nat.le_refl _) _
              have hbn:Below w24.heap.size w24 (wq.alloc (.cells #[] 38)):=Below.trans hm (hb'.mono hm.size)
              have hbC:=hb'.mono hm.size
              have hc1:=hch.step (v:=.slice (some ⟨wq.heap.size,0,none⟩) 0 0) 0 (by decide) (by decide) hu (.inl rfl) hbn ⟨hbn,(OwnX.lit X 38 wq).mono (fun _ h=>h) hm.size⟩
              exact (hK _ _ ⟨hVs.off rfl,hbn,hc1⟩)
             ·exact z0h (.tmp 0) rfl _ rfl (hK _ _ ⟨hVs.set rfl,hb,hch.ne (by decide) (by decide)⟩)
             ·exact z0m (.tmp 135) rfl ⟨gs,0,none⟩ (hVs.get 2 (hr { on:=2,ground:=.data } (by simp) rfl) rfl) (hK _ _ ⟨hVs.set rfl,hb,hch.ne (by decide) (by decide)⟩)
             ·exact z0l 36 (.tmp 136) 1 rfl _ _ (hVs.get 3 (hr { on:=3,ground:=.data } (by simp) rfl) rfl) (z1b gs 1 (by decide)) (hK _ _ ⟨hVs.set rfl,hb,hch.ne (by decide) (by decide)⟩)
             ·exact z0o 29 (.tmp 137) rfl _ _ (hVs.get 4 (hr { on:=4,ground:=.data } (by simp) rfl) rfl) (HCF.out wq hb) Tryz.isAgg29 (hK _ _ ⟨hVs.set rfl,hb,hch.ne (by decide) (by decide)⟩)
             ·exact z0h (.tmp 8) rfl _ rfl (hK _ _ ⟨hVs.set rfl,hb,hch.ne (by decide) (by decide)⟩)
             ·exact z9h 29 (.tmp 138) (.tmp 139) rfl _ _ _ (hVs.get 5 (hr { on:=5,ground:=.data } (by simp) rfl) rfl) (hVs.get 6 (hr { on:=6,ground:=.data } (by simp) rfl) rfl) HSH.out (hK _ _ ⟨hVs.set rfl,hb,hch.ne (by decide) (by decide)⟩)
             ·obtain ⟨hm,hv1⟩:CutO X w24 sk.wait i 1 (V 1) wq:=hch.at 1 (by decide) hu (.inr (hr { on:=1,ground:=.data } (by simp) rfl))
              refine z43 rfl (.tmp 134) (.tmp 140) rfl X w24.heap.size _ _ (sk.wait.take i) (fun z hz=>HDF.out z (List.mem_of_mem_take hz)) ⟨bo,oo,none⟩ i cw (by rw [List.length_take,HKL.out];have:=HIK.out;omega) rfl hv1 (fun g hg=>HXB.out g (hv1.lt hg).1) (hVs.get 7 (hr { on:=7,ground:=.data } (by simp) rfl) rfl) ((HSR.out.below hm).take i) (by simp only [List.length_nil,List.length_take,HKL.out];omega) hm.size ?_
              intro v' w' ho' hg' _
              have hb':Below w24.heap.size wq w':=(Below.refl _ _).grown hg' hm.size (fun g hg=>(hv1.lt hg).1)
              have hbn:=Below.trans hm hb'
              have hc8:=hch.step (v:=v') 1 (by decide) (by decide) hu (.inr (hr { on:=1,ground:=.data } (by simp) rfl)) hbn ⟨hbn,ho'⟩
              exact (hK _ _ ⟨hVs.off rfl,hbn,hc8⟩)
             ·exact z0h (.tmp 0) rfl _ rfl (hK _ _ ⟨hVs.set rfl,hb,hch.ne (by decide) (by decide)⟩)
             ·exact z0m (.tmp 142) rfl ⟨gs,0,none⟩ (hVs.get 9 (hr { on:=9,ground:=.data } (by simp) rfl) rfl) (hK _ _ ⟨hVs.set rfl,hb,hch.ne (by decide) (by decide)⟩)
             ·exact z0l 36 (.tmp 143) 1 rfl _ _ (hVs.get 10 (hr { on:=10,ground:=.data } (by simp) rfl) rfl) (z1b gs 1 (by decide)) (hK _ _ ⟨hVs.set rfl,hb,hch.ne (by decide) (by decide)⟩)
             ·exact z0o 29 (.tmp 144) rfl _ _ (hVs.get 11 (hr { on:=11,ground:=.data } (by simp) rfl) rfl) (HCF.out wq hb) Tryz.isAgg29 (hK _ _ ⟨hVs.set rfl,hb,hch.ne (by decide) (by decide)⟩)
             ·exact z0h (.tmp 8) rfl _ rfl (hK _ _ ⟨hVs.set rfl,hb,hch.ne (by decide) (by decide)⟩)
             ·exact z8s .add 3 3 (.tmp 146) _ rfl _ _ _ (hVs.get 13 (hr { on:=13,ground:=.data } (by simp) rfl) rfl) rfl HAG.out HAD.out (hK _ _ ⟨hVs.set rfl,hb,hch.ne (by decide) (by decide)⟩)
             ·exact za3 29 (.tmp 145) (.tmp 147) rfl _ _ _ (hVs.get 12 (hr { on:=12,ground:=.data } (by simp) rfl) rfl) (hVs.get 14 (hr { on:=14,ground:=.data } (by simp) rfl) rfl) HSL.out (hK _ _ ⟨hVs.set rfl,hb,hch.ne (by decide) (by decide)⟩)
             ·obtain ⟨hm,hv2⟩:CutO X w24 sk.wait i 2 (V 8) wq:=hch.at 2 (by decide) hu (.inr (hr { on:=8,ground:=.data } (by simp) rfl))
              refine z43 rfl (.tmp 141) (.tmp 148) rfl X w24.heap.size _ _ (sk.wait.drop (i + 1)) (fun z hz=>HDF.out z (List.mem_of_mem_drop hz)) ad2 (k - (i + 1)) (cw - (i + 1)) (by rw [List.length_drop,HKL.out]) rfl hv2 (fun g hg=>HXB.out g (hv2.lt hg).1) (hVs.get 15 (hr { on:=15,ground:=.data } (by simp) rfl) rfl) (HSD.out.below hm) (by simp only [List.length_take,List.length_drop,HKL.out];omega) hm.size ?_
              intro v' w' ho' hg' _
              have hb':Below w24.heap.size wq w':=(Below.refl _ _).grown hg' hm.size (fun g hg=>(hv2.lt hg).1)
              have hbn:=Below.trans hm hb'
              have hc16:=hch.step (v:=v') 2 (by decide) (by decide) hu (.inr (hr { on:=8,ground:=.data } (by simp) rfl)) hbn ⟨hbn,ho'⟩
              exact (hK _ _ ⟨hVs.off rfl,hbn,hc16⟩)
             ·exact z0m (.tmp 133) rfl ⟨gs,0,none⟩ (hVs.get 0 (hr { on:=0,ground:=.data } (by simp) rfl) rfl) (hK _ _ ⟨hVs.set rfl,hb,hch.ne (by decide) (by decide)⟩)
             ·exact z0l 36 (.tmp 150) 1 rfl _ _ (hVs.get 17 (hr { on:=17,ground:=.data } (by simp) rfl) rfl) (z1b gs 1 (by decide)) (hK _ _ ⟨hVs.set rfl,hb,hch.ne (by decide) (by decide)⟩)
            rintro q V wq hall ⟨hVs,hb,hch⟩
            have v0:=hVs.get 0 (hall 0 (by decide)) rfl
            obtain ⟨u1,v1⟩:∃ v,V 1 = v:=⟨_,rfl⟩
            have v2:=hVs.get 2 (hall 2 (by decide)) rfl
            have v3:=hVs.get 3 (hall 3 (by decide)) rfl
            have v4:=hVs.get 4 (hall 4 (by decide)) rfl
            have v5:=hVs.get 5 (hall 5 (by decide)) rfl
            have v6:=hVs.get 6 (hall 6 (by decide)) rfl
            have v7:=hVs.get 7 (hall 7 (by decide)) rfl
            obtain ⟨u8,v8⟩:∃ v,V 8 = v:=⟨_,rfl⟩
            have v9:=hVs.get 9 (hall 9 (by decide)) rfl
            have v10:=hVs.get 10 (hall 10 (by decide)) rfl
            have v11:=hVs.get 11 (hall 11 (by decide)) rfl
            have v12:=hVs.get 12 (hall 12 (by decide)) rfl
            have v13:=hVs.get 13 (hall 13 (by decide)) rfl
            have v14:=hVs.get 14 (hall 14 (by decide)) rfl
            have v15:=hVs.get 15 (hall 15 (by decide)) rfl
            obtain ⟨u16,v16⟩:∃ v,V 16 = v:=⟨_,rfl⟩
            have v17:=hVs.get 17 (hall 17 (by decide)) rfl
            have v18:=hVs.get 18 (hall 18 (by decide)) rfl
            obtain ⟨hon,hrow⟩:CutO X w24 sk.wait i 3 (V 16) wq:=hch.fin (fun p hp=>by match p,hp with | 0,_=>exact hall 1 (by decide) | 1,_=>exact hall 8 (by decide) | 2,_=>exact hall 16 (by decide))
            have hrow:OwnX X w24.heap.size 38 (V 16) (sk.wait.take i ++ sk.wait.drop (i + 1)) wq:=hrow
            rw [v16] at hrow
            simp only [zC,zD,zE,zF,z0i,Nat.zero_add,Nat.reduceAdd,v0,v1,v2,v3,v4,v5,v6,v7,v8,v9,v10,v11,v12,v13,v14,v15,v16,v17,v18,Act.put,zS,zA,zB]
            clear hVs v0 v1 v2 v3 v4 v5 v6 v7 v8 v9 v10 v11 v12 v13 v14 v15 v16 v17 v18 hall
            rw [zcc] at hrow
            obtain ⟨a25,c25,hu7⟩:=hrow.form
            obtain ⟨n25,hnl⟩:∃ k,(sk.wait.eraseIdx i).length = k:=⟨_,rfl⟩
            rw [hnl] at hu7
            subst hu7
            have hmv:=Moved.new (u:=.slice (some ⟨bo,oo,none⟩) sk.wait.length cw) (fun g hg=>(hrow.lt hg).1) (Nat.le_refl _)
            have hcs:=HR24.out.cells.below hon
            have HPUT:=Lib.hid (HR24.out.putWait HXB.out (Only.of hon) (hrow.mono (fun _ h=>h) (Nat.zero_le _)) hmv)
            have cf:wq.cell? ⟨gs,1,none⟩ = some (.slice (some ⟨bo,oo,none⟩) k cw):=by
             have h1:=hcs.at 1
             rw [← HKL.out]
             exact h1
            have ff:=hcs.frozen 1
            clear hch hrow hmv hb hon hnl hcs HCF HXB HSR HSD HSH HSL
            go_upto_region 26 with (fail)
            obtain ⟨w25,hw⟩:∃ z,z = wq.setCell ⟨gs,1,none⟩ (.slice a25 n25 c25):=⟨_,rfl⟩
            rw [← hw] at HPUT ⊢
            have HR25:=Lib.hid HPUT.out.1
            have HT25:=Lib.hid (HT24.out.trans HPUT.out.2)
            have HZ11:=Lib.hid (HY11.out.turn HPUT.out.2)
            have HZ12:=Lib.hid (HY12.out.turn HPUT.out.2)
            have HL25:=Lib.hid (HL24.out.turn HPUT.out.2)
            have HIA25:=Lib.hid (HIA24.out.only HPUT.out.2.only (HOYY.out.mono (fun b hb=>HR24.out.mine b hb)))
            clear HIA24
            clear hw cf ff HPUT HR24 HT24 HY11 HY12 HL24
            have HKL:=Shut.mk (show (sk.wait.map z0a).length = k from (List.length_map _).trans HN1.out)
            have HXB:=Lib.hid (fun b (hb:w25.heap.size ≤ b)=>HX0.out b (Nat.le_trans HT25.out.only.size hb))
            have hcap:=(OwnI.cap HR25.out.waits).1
            have HCF:=Lib.hid (fun w' (b:Below w25.heap.size w25 w')=>show w'.cell? ⟨gs,3,none⟩ = some (.slice (some ⟨bq,oq,none⟩) k cq) from by
             have h1:=(HR25.out.cells.below b).at 3
             rw [← HKL.out]
             exact h1)
            have HSR:=Lib.hid (HR25.out.waits.at HDI.out)
            obtain ⟨ad2,had2⟩:∃ ad2,(if cq = i + 1 then some (⟨bq,oq,none⟩:Addr) else Option.map (fun z:Addr=>z.add ((i + 1) * 32)) (some ⟨bq,oq,none⟩)) = some ad2:=by split <;> exact ⟨_,rfl⟩
            have hdr:=HSR.out.drop (j:=i + 1) hcap
            rw [had2] at hdr
            have HSD:=Lib.hid hdr
            have HSH:=Lib.hid (fun w=>zd4 (some ⟨bq,oq,none⟩) k cq i (Nat.le_of_lt HIK.out) (by rw [← HKL.out];exact hcap) w)
            have HSL:=Lib.hid (fun w=>had2 ▸ z4k (some ⟨bq,oq,none⟩) k cq (i + 1) HIK.out (by rw [← HKL.out];exact hcap) w)
            clear hdr had2 hcap
            refine z0f 19 (fun q V w'=>Vals q V [(0,.pointer (some ⟨gs,0,none⟩)),(2,.pointer (some ⟨gs,0,none⟩)),(3,.pointer (some ⟨gs,0,none⟩)),(4,.pointer (some ⟨gs,3,none⟩)),(5,.slice (some ⟨bq,oq,none⟩) k cq),(6,.int .i64 (i:Int)),(7,.slice (some ⟨bq,oq,none⟩) i cq),(9,.pointer (some ⟨gs,0,none⟩)),(10,.pointer (some ⟨gs,0,none⟩)),(11,.pointer (some ⟨gs,3,none⟩)),(12,.slice (some ⟨bq,oq,none⟩) k cq),(13,.int .i64 (i:Int)),(14,.int .i64 ((i + 1:Nat):Int)),(15,.slice (some ad2) (k - (i + 1)) (cq - (i + 1))),(17,.pointer (some ⟨gs,0,none⟩)),(18,.pointer (some ⟨gs,3,none⟩))] ∧ Below w25.heap.size w25 w' ∧ Chain [1,8,16] (fun w'=>Below w25.heap.size w25 w') (CutI w25 (sk.wait.map z0a) i) q V w') (fun | 0=>u152 | 1=>u153 | 2=>u154 | 3=>u155 | 4=>u156 | 5=>u157 | 6=>u158 | 7=>u159 | 8=>u160 | 9=>u161 | 10=>u162 | 11=>u163 | 12=>u164 | 13=>u165 | 14=>u166 | 15=>u167 | 16=>u168 | 17=>u169 | 18=>u170 | _=>undef) (by kernel_rfl) (by kernel_rfl) (by kernel_rfl) (by simp only [zC,zD,z0i,Act.put,zS,zA,zB]) ⟨Vals.none,(Below.refl _ _).drew,Chain.none (Below.refl _ _).drew (fun _=>(Below.refl _ _).drew)⟩ ?_ ?_
            ·simp only [zC,zD,z0i,Nat.zero_add,Nat.reduceAdd,Act.put,zS,zA,zB]
             refine zQc ?_ (zQc ?_ (zQc ?_ (zQc ?_ (zQc ?_ (zQc ?_ (zQc ?_ (zQc ?_ (zQc ?_ (zQc ?_ (zQc ?_ (zQc ?_ (zQc ?_ (zQc ?_ (zQc ?_ (zQc ?_ (zQc ?_ (zQc ?_ (zQc ?_ (zQn)))))))))))))))))))
             all_goals (refine zQf rfl ?_;rintro q V wq hr hu ⟨hVs,hb,hch⟩ K hK)
             ·exact z0h (.tmp 0) rfl _ rfl (hK _ _ ⟨hVs.set rfl,hb,hch.ne (by decide) (by decide)⟩)
             ·have hm:Below w25.heap.size w25 wq:=hch.at 0 (by decide) hu (.inl rfl)
              refine zcd rfl ?_
              have hb':Below wq.heap.size wq (wq.alloc (.cells #[] 25)):=(Below.refl _ _).alloc (Nat.le_refl _) _
              have hbn:Below w25.heap.size w25 (wq.alloc (.cells #[] 25)):=Below.trans hm (hb'.mono hm.size)
              have hbC:=hb'.mono hm.size
              have hc1:=hch.step (v:=.slice (some ⟨wq.heap.size,0,none⟩) 0 0) 0 (by decide) (by decide) hu (.inl rfl) hbn ⟨hbn,(show OwnI _ _ _ _ _ from World.ownsRow_lit wq #[] 0 hm.size (by unfold maxLen;omega) rfl)⟩
              exact (hK _ _ ⟨hVs.off rfl,hbn,hc1⟩)
             ·exact z0h (.tmp 0) rfl _ rfl (hK _ _ ⟨hVs.set rfl,hb,hch.ne (by decide) (by decide)⟩)
             ·exact z0m (.tmp 154) rfl ⟨gs,0,none⟩ (hVs.get 2 (hr { on:=2,ground:=.data } (by simp) rfl) rfl) (hK _ _ ⟨hVs.set rfl,hb,hch.ne (by decide) (by decide)⟩)
             ·exact z0l 36 (.tmp 155) 3 rfl _ _ (hVs.get 3 (hr { on:=3,ground:=.data } (by simp) rfl) rfl) (z1b gs 3 (by decide)) (hK _ _ ⟨hVs.set rfl,hb,hch.ne (by decide) (by decide)⟩)
             ·exact z0o 34 (.tmp 156) rfl _ _ (hVs.get 4 (hr { on:=4,ground:=.data } (by simp) rfl) rfl) (HCF.out wq hb) Tryz.isAgg34 (hK _ _ ⟨hVs.set rfl,hb,hch.ne (by decide) (by decide)⟩)
             ·exact z0h (.tmp 8) rfl _ rfl (hK _ _ ⟨hVs.set rfl,hb,hch.ne (by decide) (by decide)⟩)
             ·exact z9h 34 (.tmp 157) (.tmp 158) rfl _ _ _ (hVs.get 5 (hr { on:=5,ground:=.data } (by simp) rfl) rfl) (hVs.get 6 (hr { on:=6,ground:=.data } (by simp) rfl) rfl) HSH.out (hK _ _ ⟨hVs.set rfl,hb,hch.ne (by decide) (by decide)⟩)
             ·obtain ⟨hm,hv1⟩:CutI w25 (sk.wait.map z0a) i 1 (V 1) wq:=hch.at 1 (by decide) hu (.inr (hr { on:=1,ground:=.data } (by simp) rfl))
              refine z33 rfl (.tmp 153) (.tmp 159) rfl w25.heap.size _ _ ((sk.wait.map z0a).take i) (HDI.out.take i) (some ⟨bq,oq,none⟩) i cq (by rw [List.length_take,HKL.out];have:=HIK.out;omega) rfl hv1 (hVs.get 7 (hr { on:=7,ground:=.data } (by simp) rfl) rfl) ((HSR.out.below hm).take i) (fun h=>by cases h) (by simp only [List.length_nil,List.length_take,HKL.out];omega) hm.size ?_
              intro v' w' ho' hg' _
              have hb':Below w25.heap.size wq w':=(Below.refl _ _).grown hg' hm.size (fun g hg=>(World.ownsRow.lt hv1 g hg).1)
              have hbn:=Below.trans hm hb'
              have hc8:=hch.step (v:=v') 1 (by decide) (by decide) hu (.inr (hr { on:=1,ground:=.data } (by simp) rfl)) hbn ⟨hbn,ho'⟩
              exact (hK _ _ ⟨hVs.off rfl,hbn,hc8⟩)
             ·exact z0h (.tmp 0) rfl _ rfl (hK _ _ ⟨hVs.set rfl,hb,hch.ne (by decide) (by decide)⟩)
             ·exact z0m (.tmp 161) rfl ⟨gs,0,none⟩ (hVs.get 9 (hr { on:=9,ground:=.data } (by simp) rfl) rfl) (hK _ _ ⟨hVs.set rfl,hb,hch.ne (by decide) (by decide)⟩)
             ·exact z0l 36 (.tmp 162) 3 rfl _ _ (hVs.get 10 (hr { on:=10,ground:=.data } (by simp) rfl) rfl) (z1b gs 3 (by decide)) (hK _ _ ⟨hVs.set rfl,hb,hch.ne (by decide) (by decide)⟩)
             ·exact z0o 34 (.tmp 163) rfl _ _ (hVs.get 11 (hr { on:=11,ground:=.data } (by simp) rfl) rfl) (HCF.out wq hb) Tryz.isAgg34 (hK _ _ ⟨hVs.set rfl,hb,hch.ne (by decide) (by decide)⟩)
             ·exact z0h (.tmp 8) rfl _ rfl (hK _ _ ⟨hVs.set rfl,hb,hch.ne (by decide) (by decide)⟩)
             ·exact z8s .add 3 3 (.tmp 165) _ rfl _ _ _ (hVs.get 13 (hr { on:=13,ground:=.data } (by simp) rfl) rfl) rfl HAG.out HAD.out (hK _ _ ⟨hVs.set rfl,hb,hch.ne (by decide) (by decide)⟩)
             ·exact za3 34 (.tmp 164) (.tmp 166) rfl _ _ _ (hVs.get 12 (hr { on:=12,ground:=.data } (by simp) rfl) rfl) (hVs.get 14 (hr { on:=14,ground:=.data } (by simp) rfl) rfl) HSL.out (hK _ _ ⟨hVs.set rfl,hb,hch.ne (by decide) (by decide)⟩)
             ·obtain ⟨hm,hv2⟩:CutI w25 (sk.wait.map z0a) i 2 (V 8) wq:=hch.at 2 (by decide) hu (.inr (hr { on:=8,ground:=.data } (by simp) rfl))
              refine z33 rfl (.tmp 160) (.tmp 167) rfl w25.heap.size _ _ ((sk.wait.map z0a).drop (i + 1)) (HDI.out.drop (i + 1)) (some ad2) (k - (i + 1)) (cq - (i + 1)) (by rw [List.length_drop,HKL.out]) rfl hv2 (hVs.get 15 (hr { on:=15,ground:=.data } (by simp) rfl) rfl) (HSD.out.below hm) (fun h=>by cases h) (by simp only [List.length_take,List.length_drop,HKL.out];omega) hm.size ?_
              intro v' w' ho' hg' _
              have hb':Below w25.heap.size wq w':=(Below.refl _ _).grown hg' hm.size (fun g hg=>(World.ownsRow.lt hv2 g hg).1)
              have hbn:=Below.trans hm hb'
              have hc16:=hch.step (v:=v') 2 (by decide) (by decide) hu (.inr (hr { on:=8,ground:=.data } (by simp) rfl)) hbn ⟨hbn,ho'⟩
              exact (hK _ _ ⟨hVs.off rfl,hbn,hc16⟩)
             ·exact z0m (.tmp 152) rfl ⟨gs,0,none⟩ (hVs.get 0 (hr { on:=0,ground:=.data } (by simp) rfl) rfl) (hK _ _ ⟨hVs.set rfl,hb,hch.ne (by decide) (by decide)⟩)
             ·exact z0l 36 (.tmp 169) 3 rfl _ _ (hVs.get 17 (hr { on:=17,ground:=.data } (by simp) rfl) rfl) (z1b gs 3 (by decide)) (hK _ _ ⟨hVs.set rfl,hb,hch.ne (by decide) (by decide)⟩)
            rintro q V wq hall ⟨hVs,hb,hch⟩
            have v0:=hVs.get 0 (hall 0 (by decide)) rfl
            obtain ⟨u1,v1⟩:∃ v,V 1 = v:=⟨_,rfl⟩
            have v2:=hVs.get 2 (hall 2 (by decide)) rfl
            have v3:=hVs.get 3 (hall 3 (by decide)) rfl
            have v4:=hVs.get 4 (hall 4 (by decide)) rfl
            have v5:=hVs.get 5 (hall 5 (by decide)) rfl
            have v6:=hVs.get 6 (hall 6 (by decide)) rfl
            have v7:=hVs.get 7 (hall 7 (by decide)) rfl
            obtain ⟨u8,v8⟩:∃ v,V 8 = v:=⟨_,rfl⟩
            have v9:=hVs.get 9 (hall 9 (by decide)) rfl
            have v10:=hVs.get 10 (hall 10 (by decide)) rfl
            have v11:=hVs.get 11 (hall 11 (by decide)) rfl
            have v12:=hVs.get 12 (hall 12 (by decide)) rfl
            have v13:=hVs.get 13 (hall 13 (by decide)) rfl
            have v14:=hVs.get 14 (hall 14 (by decide)) rfl
            have v15:=hVs.get 15 (hall 15 (by decide)) rfl
            obtain ⟨u16,v16⟩:∃ v,V 16 = v:=⟨_,rfl⟩
            have v17:=hVs.get 17 (hall 17 (by decide)) rfl
            have v18:=hVs.get 18 (hall 18 (by decide)) rfl
            obtain ⟨hon,hrow⟩:CutI w25 (sk.wait.map z0a) i 3 (V 16) wq:=hch.fin (fun p hp=>by match p,hp with | 0,_=>exact hall 1 (by decide) | 1,_=>exact hall 8 (by decide) | 2,_=>exact hall 16 (by decide))
            have hrow:OwnI w25.heap.size 25 (V 16) ((sk.wait.map z0a).take i ++ (sk.wait.map z0a).drop (i + 1)) wq:=hrow
            rw [v16] at hrow
            simp only [zC,zD,zE,zF,z0i,Nat.zero_add,Nat.reduceAdd,v0,v1,v2,v3,v4,v5,v6,v7,v8,v9,v10,v11,v12,v13,v14,v15,v16,v17,v18,Act.put,zS,zA,zB]
            clear hVs v0 v1 v2 v3 v4 v5 v6 v7 v8 v9 v10 v11 v12 v13 v14 v15 v16 v17 v18 hall
            rw [zcc] at hrow
            obtain ⟨a26,c26,hu7⟩:=hrow.form
            obtain ⟨n26,hnl⟩:∃ k,((sk.wait.map z0a).eraseIdx i).length = k:=⟨_,rfl⟩
            rw [hnl] at hu7
            subst hu7
            have hmv:=Moved.new (u:=.slice (some ⟨bq,oq,none⟩) (sk.wait.map z0a).length cq) (fun g hg=>(World.ownsRow.lt hrow g hg).1) (Nat.le_refl _)
            have hcs:=HR25.out.cells.below hon
            have HPUT:=Lib.hid (HR25.out.putWaits HXB.out (Only.of hon) (hrow.mono (Nat.zero_le _)) hmv)
            have cf:wq.cell? ⟨gs,3,none⟩ = some (.slice (some ⟨bq,oq,none⟩) k cq):=by
             have h1:=hcs.at 3
             rw [← HKL.out]
             exact h1
            have ff:=hcs.frozen 3
            clear hch hrow hmv hb hon hnl hcs HCF HXB HSR HSD HSH HSL
            go_upto_region 27 with (fail)
            obtain ⟨w26,hw⟩:∃ z,z = wq.setCell ⟨gs,3,none⟩ (.slice a26 n26 c26):=⟨_,rfl⟩
            rw [← hw] at HPUT ⊢
            have HR26:=Lib.hid HPUT.out.1
            have HT26:=Lib.hid (HT25.out.trans HPUT.out.2)
            have HY11:=Lib.hid (HZ11.out.turn HPUT.out.2)
            have HY12:=Lib.hid (HZ12.out.turn HPUT.out.2)
            have HL26:=Lib.hid (HL25.out.turn HPUT.out.2)
            have HIA26:=Lib.hid (HIA25.out.only HPUT.out.2.only (HOYY.out.mono (fun b hb=>HR25.out.mine b hb)))
            clear HIA25
            clear hw cf ff HPUT HR25 HT25 HZ11 HZ12 HL25
            clear HAD HAG
            have hwh:z1f sk.names y = true:=by
             obtain ⟨o',h1,h2,_⟩:=z3u _ _ (show z29 sk.names sk.wait sk.wait.length = some i from HBE.out)
             rw [HY.out] at h1
             cases h1
             exact h2
            have hra26:RefAt X gs ko (.slice a25 n25 c25) kn (.slice a26 n26 c26) ⟨sk.ops,sk.wait.eraseIdx i⟩ w26:=by
             have h:=HR26.out
             rw [← Go.ChangeMaps.map_eraseIdx] at h
             exact h.at
            have HRA26:=Lib.hid hra26
            have HWY:=Lib.hid (show ∀ p ∈ y.preds,p ∈ sk.names from fun p hp=>wholeN_iff.1 hwh p hp)
            have HDP:=Lib.hid (fun w' (b:Below w26.heap.size w26 w')=>z98 X gs ko (.slice a25 n25 c25) kn (.slice a26 n26 c26) ⟨sk.ops,sk.wait.eraseIdx i⟩ y py cy w' (HRA26.out.below b) (fun z hz=>(HTM.out.ops z hz).d.ref.1) HYF.out.d.ref.1 HYF.out.preds (HIA26.out.below b) (by have:=HYF.out.many;omega) (by have:=HTM.out.many;show sk.ops.length ≤ 1000000;omega) HTM.out.shallow HWY.out)
            have HC36:=Lib.hid (fun w' (b:Below w26.heap.size w26 w')=>(z0k HYF.out.d.ref.1 (HY11.out.2.below b)).2.2.1)
            have HCO:=Lib.hid (fun w' (b:Below w26.heap.size w26 w')=>HY11.out.2.below b)
            obtain ⟨De,hDe⟩:∃ q,z1h sk.ops y = q:=⟨_,rfl⟩
            rw [show z1h (DagN.mk sk.ops (sk.wait.eraseIdx i)).ops y = De from hDe] at HDP
            have HDE:=Shut.mk hDe
            obtain ⟨xd,hxd⟩:∃ q,y.depth = q:=⟨_,rfl⟩
            rw [hxd] at HC36
            have HXD:=Shut.mk hxd
            clear hDe hxd hwh hra26 HRA26
            refine z09 (fun w'=>Below w26.heap.size w26 w') (by kernel_rfl) (by kernel_rfl) (Below.refl _ _).drew ?_
            repeat (first
             | (go_big_quiet_want;refine z02 3 _ rfl ⟨g14,36,none⟩ _ rfl HC36.out Tryz.isAgg3 ?_;go_big_quiet_on;simp only [Act.put,zS,zA,zB])
             | (go_big_quiet_want;refine z0n 38 _ rfl g14 (opV y py cy) 38 _ rfl HCO.out Tryz.underlying38 rfl HSV2.out ?_;go_big_quiet_on;simp only [Act.put,zS,zA,zB])
             | go_big_quiet_step ((intro hs';first
              | (go_at_call 52;exact (HDP.out _ hs').mono fun e w' h=>⟨h.1,hs'.trans (h.2.mono hs'.size)⟩)
              | rfl)))
            refine wpQuiet_nil ?_
            intro w27 hs27
            have HR27:=Lib.hid (HR26.out.below hs27)
            have HT27:=Lib.hid (HT26.out.below hs27)
            have HL27:=Lib.hid (HL26.out.below hs27)
            have HZ11:=Lib.hid (HY11.out.below hs27)
            have HZ12:=Lib.hid (HY12.out.below hs27)
            have HIA27:=Lib.hid (HIA26.out.below hs27)
            clear hs27 HDP HC36 HCO HR26 HT26 HL26 HY11 HY12 HIA26
            have HEL:=Shut.mk (show (sk.wait.eraseIdx i).length + 1 = sk.wait.length by
             have hil:i < sk.wait.length:=by rw [HN1.out];exact HIK.out
             rw [List.length_eraseIdx,if_pos hil];omega)
            have HSM:=Shut.mk (z8f HBE.out HY.out)
            by_cases hde:xd = De
            ·have hbq:(xd == De) = true:=by simp [hde]
             have HDQ:=Lib.hid (show y.depth = z1h sk.ops y from HXD.out.trans (hde.trans HDE.out.symm))
             clear hde
             have HYR:=Lib.hid HYF.out.d.ref.1
             have HSY:=Lib.hid HSV2.out
             have HIY:=Lib.hid HIA27.out
             have HLQ:=Lib.hid HLN.out
             clear HOY HLN
             have HOY:=Lib.hid HOYY.out
             have HLN:=Lib.hid (show sk.ops.length + [y].length ≤ 1000000 by have:=HTM.out.many;simp;omega)
             obtain ⟨lo2,co2,rfl⟩:=HR27.out.ops.form
             have HXB:=Lib.hid (fun b (hb:w27.heap.size ≤ b)=>HX0.out b (Nat.le_trans HT27.out.only.size hb))
             have HRW:=Lib.hid HR27.out.ops
             have HCF:=Lib.hid (fun w' (k:Only (fun b=>(Value.slice lo2 sk.ops.length co2).ownBlock = some b) w27 w')=>show w'.cell? ⟨gs,0,none⟩ = some (Value.slice lo2 sk.ops.length co2) from (HR27.out.cells.only k (fun e=>HR27.out.struct.1 e)).at 0)
             have HXV:=Lib.hid (fun g (hg:(Value.slice lo2 sk.ops.length co2).ownBlock = some g)=>HR27.out.mine g (.inr (.inl hg)))
             have HLY:=Lib.hid (fun w' (k:Only (fun b=>(Value.slice lo2 sk.ops.length co2).ownBlock = some b) w27 w')=>show Cells (g14) 38 (opV y py cy) w' from HZ11.out.2.only k (fun e=>HZ11.out.1 (.inr (.inl e))))
             go_upto_region 28 with (fail)
             refine z0f 10 (fun q V w'=>Vals q V [(0,.pointer (some ⟨gs,0,none⟩)),(1,.pointer (some ⟨gs,0,none⟩)),(2,.pointer (some ⟨gs,0,none⟩)),(3,.pointer (some ⟨gs,0,none⟩)),(4,Value.slice lo2 sk.ops.length co2),(5,.agg (opV y py cy)),(8,.pointer (some ⟨gs,0,none⟩)),(9,.pointer (some ⟨gs,0,none⟩))] ∧ Only (fun b=>(Value.slice lo2 sk.ops.length co2).ownBlock = some b) w27 w' ∧ Chain [6,7] (fun _=>True) (PushM X w27 (Value.slice lo2 sk.ops.length co2) sk.ops y) q V w') (fun | 0=>u177 | 1=>u178 | 2=>u179 | 3=>u180 | 4=>u181 | 5=>u182 | 6=>u183 | 7=>u184 | 8=>u185 | 9=>u186 | _=>undef) (by kernel_rfl) (by kernel_rfl) (by kernel_rfl) (by simp only [zC,zD,z0i,Act.put,zS,zA,zB]) ⟨Vals.none,Only.of (Below.refl _ _).drew,Chain.none trivial (fun _=>(Below.refl _ _).drew)⟩ ?_ ?_
             ·simp only [zC,zD,z0i,Nat.zero_add,Nat.reduceAdd,Act.put,zS,zA,zB]
              refine zQc ?_ (zQc ?_ (zQc ?_ (zQc ?_ (zQc ?_ (zQc ?_ (zQc ?_ (zQc ?_ (zQc ?_ (zQc ?_ (zQn))))))))))
              all_goals (refine zQf rfl ?_;rintro q V wq hr hu ⟨hVs,hb,hch⟩ K hK)
              ·exact z0h (.tmp 0) rfl _ rfl (hK _ _ ⟨hVs.set rfl,hb,hch.ne (by decide) (by decide)⟩)
              ·exact z0h (.tmp 0) rfl _ rfl (hK _ _ ⟨hVs.set rfl,hb,hch.ne (by decide) (by decide)⟩)
              ·exact z0m (.tmp 178) rfl ⟨gs,0,none⟩ (hVs.get 1 (hr { on:=1,ground:=.data } (by simp) rfl) rfl) (hK _ _ ⟨hVs.set rfl,hb,hch.ne (by decide) (by decide)⟩)
              ·exact z0l 36 (.tmp 179) 0 rfl _ _ (hVs.get 2 (hr { on:=2,ground:=.data } (by simp) rfl) rfl) (z1b gs 0 (by decide)) (hK _ _ ⟨hVs.set rfl,hb,hch.ne (by decide) (by decide)⟩)
              ·exact z0o 29 (.tmp 180) rfl _ _ (hVs.get 3 (hr { on:=3,ground:=.data } (by simp) rfl) rfl) (HCF.out wq hb) Tryz.isAgg29 (hK _ _ ⟨hVs.set rfl,hb,hch.ne (by decide) (by decide)⟩)
              ·exact z1o 38 (.tmp 11) rfl (g14) (opV y py cy) 38 _ rfl (HLY.out wq hb) Tryz.underlying38 rfl HSY.out (hK _ _ ⟨hVs.set rfl,hb,hch.ne (by decide) (by decide)⟩)
              ·have hm:Below w27.heap.size w27 wq:=hch.at 0 (by decide) hu (.inl rfl)
               refine z6b (.tmp 182) rfl X y py cy HYR.out (hVs.get 5 (hr { on:=5,ground:=.data } (by simp) rfl) rfl) (HIY.out.below hm) HOY.out ?_
               intro w' hb' hsrc
               have hbn:Only (fun b=>(Value.slice lo2 sk.ops.length co2).ownBlock = some b) w27 w':=hb.below hb'
               have hc6:=hch.step (v:=.slice (some ⟨wq.heap.size,0,none⟩) 1 1) 0 (by decide) (by decide) hu (.inl rfl) trivial ⟨Below.trans hm (hb'.mono hm.size),wq.heap.size,rfl,hsrc⟩
               exact (hK _ _ ⟨hVs.off rfl,hbn,hc6⟩)
              ·obtain ⟨hm,g,hv6,hsrc⟩:PushM X w27 (Value.slice lo2 sk.ops.length co2) sk.ops y 1 (V 6) wq:=hch.at 1 (by decide) hu (.inr (hr { on:=6,ground:=.data } (by simp) rfl))
               refine z43 rfl (.tmp 181) (.tmp 183) rfl X 0 (Value.slice lo2 sk.ops.length co2) sk.ops [y] (fun z hz=>by obtain rfl:=List.mem_singleton.1 hz;exact HYR.out) ⟨g,0,none⟩ 1 1 rfl (hVs.get 4 (hr { on:=4,ground:=.data } (by simp) rfl) rfl) (HRW.out.below hm) HXV.out hv6 hsrc HLN.out (Nat.zero_le _) ?_
               intro v' w' ho' hg' hd'
               have hbn:Only (fun b=>(Value.slice lo2 sk.ops.length co2).ownBlock = some b) w27 w':=hb.grown hg' (fun b hb=>.inl hb)
               have hc7:=hch.step (v:=v') 1 (by decide) (by decide) hu (.inr (hr { on:=6,ground:=.data } (by simp) rfl)) trivial ⟨hbn,ho',Moved.of hd' hm.size⟩
               exact (hK _ _ ⟨hVs.off rfl,hbn,hc7⟩)
              ·exact z0m (.tmp 177) rfl ⟨gs,0,none⟩ (hVs.get 0 (hr { on:=0,ground:=.data } (by simp) rfl) rfl) (hK _ _ ⟨hVs.set rfl,hb,hch.ne (by decide) (by decide)⟩)
              ·exact z0l 36 (.tmp 185) 0 rfl _ _ (hVs.get 8 (hr { on:=8,ground:=.data } (by simp) rfl) rfl) (z1b gs 0 (by decide)) (hK _ _ ⟨hVs.set rfl,hb,hch.ne (by decide) (by decide)⟩)
             rintro q V wq hall ⟨hVs,hb,hch⟩
             have v0:=hVs.get 0 (hall 0 (by decide)) rfl
             have v1:=hVs.get 1 (hall 1 (by decide)) rfl
             have v2:=hVs.get 2 (hall 2 (by decide)) rfl
             have v3:=hVs.get 3 (hall 3 (by decide)) rfl
             have v4:=hVs.get 4 (hall 4 (by decide)) rfl
             have v5:=hVs.get 5 (hall 5 (by decide)) rfl
             obtain ⟨u6,v6⟩:∃ v,V 6 = v:=⟨_,rfl⟩
             obtain ⟨u7,v7⟩:∃ v,V 7 = v:=⟨_,rfl⟩
             have v8:=hVs.get 8 (hall 8 (by decide)) rfl
             have v9:=hVs.get 9 (hall 9 (by decide)) rfl
             obtain ⟨hon,hrow,hmv⟩:PushM X w27 (Value.slice lo2 sk.ops.length co2) sk.ops y 2 (V 7) wq:=hch.fin (fun p hp=>by match p,hp with | 0,_=>exact hall 6 (by decide) | 1,_=>exact hall 7 (by decide))
             rw [v7] at hrow hmv
             simp only [zC,zD,zE,zF,z0i,Nat.zero_add,Nat.reduceAdd,v0,v1,v2,v3,v4,v5,v6,v7,v8,v9,Act.put,zS,zA,zB]
             clear hVs v0 v1 v2 v3 v4 v5 v6 v7 v8 v9 hall
             obtain ⟨a28,c28,hu7⟩:=hrow.form
             obtain ⟨n28,hnl⟩:∃ k,(sk.ops ++ [y]).length = k:=⟨_,rfl⟩
             rw [hnl] at hu7
             subst hu7
             have hcs:=HR27.out.cells.only hon (fun e=>HR27.out.struct.1 e)
             have HPUT:=Lib.hid (HR27.out.putOps HXB.out hon hrow hmv)
             have cf:wq.cell? ⟨gs,0,none⟩ = some (Value.slice lo2 sk.ops.length co2):=hcs.at 0
             have ff:=hcs.frozen 0
             clear hch hrow hmv hb hon hnl hcs HLY HCF HXB
             go_upto_region 29 with (fail)
             obtain ⟨w28,hw⟩:∃ z,z = wq.setCell ⟨gs,0,none⟩ (.slice a28 n28 c28):=⟨_,rfl⟩
             rw [← hw] at HPUT ⊢
             have HR28:=Lib.hid HPUT.out.1
             have HT28:=Lib.hid (HT27.out.trans HPUT.out.2)
             have HY12:=Lib.hid (HZ12.out.turn HPUT.out.2)
             have HL28:=Lib.hid (HL27.out.turn HPUT.out.2)
             clear hw cf ff HPUT HR27 HT27 HZ12 HL27
             clear HXV HRW HYR HSY HIY HLN
             obtain ⟨ln2,cn2,rfl⟩:=HR28.out.names.form
             have HSY:=Lib.hid HS1.out
             have HYL:=Lib.hid HNI.out
             have HLN:=Lib.hid (show sk.names.length + [na].length ≤ 1000000 by rw [DagN.names,List.length_map];have:=HTM.out.many;simp;omega)
             have HXB:=Lib.hid (fun b (hb:w28.heap.size ≤ b)=>HX0.out b (Nat.le_trans HT28.out.only.size hb))
             have HRW:=Lib.hid HR28.out.names
             have HCF:=Lib.hid (fun w' (k:Only (fun b=>(Value.slice ln2 sk.names.length cn2).ownBlock = some b) w28 w')=>show w'.cell? ⟨gs,2,none⟩ = some (Value.slice ln2 sk.names.length cn2) from (HR28.out.cells.only k (fun e=>HR28.out.struct.2.2.1 e)).at 2)
             have HLY:=Lib.hid (fun w' (k:Only (fun b=>(Value.slice ln2 sk.names.length cn2).ownBlock = some b) w28 w')=>show Blk (g15) 25 .u8 na w' from Cells.only HY12.out.2 k (fun e=>HY12.out.1 (.inr (.inr (.inr (.inl e))))))
             refine z0f 10 (fun q V w'=>Vals q V [(0,.pointer (some ⟨gs,0,none⟩)),(1,.pointer (some ⟨gs,0,none⟩)),(2,.pointer (some ⟨gs,0,none⟩)),(3,.pointer (some ⟨gs,2,none⟩)),(4,Value.slice ln2 sk.names.length cn2),(5,.agg (z06 .u8 na).toArray),(8,.pointer (some ⟨gs,0,none⟩)),(9,.pointer (some ⟨gs,2,none⟩))] ∧ Only (fun b=>(Value.slice ln2 sk.names.length cn2).ownBlock = some b) w28 w' ∧ Chain [6,7] (fun _=>True) (PushI w28 (Value.slice ln2 sk.names.length cn2) sk.names na) q V w') (fun | 0=>u187 | 1=>u188 | 2=>u189 | 3=>u190 | 4=>u191 | 5=>u192 | 6=>u193 | 7=>u194 | 8=>u195 | 9=>u196 | _=>undef) (by kernel_rfl) (by kernel_rfl) (by kernel_rfl) (by simp only [zC,zD,z0i,Act.put,zS,zA,zB]) ⟨Vals.none,Only.of (Below.refl _ _).drew,Chain.none trivial (fun _=>(Below.refl _ _).drew)⟩ ?_ ?_
             ·simp only [zC,zD,z0i,Nat.zero_add,Nat.reduceAdd,Act.put,zS,zA,zB]
              refine zQc ?_ (zQc ?_ (zQc ?_ (zQc ?_ (zQc ?_ (zQc ?_ (zQc ?_ (zQc ?_ (zQc ?_ (zQc ?_ (zQn))))))))))
              all_goals (refine zQf rfl ?_;rintro q V wq hr hu ⟨hVs,hb,hch⟩ K hK)
              ·exact z0h (.tmp 0) rfl _ rfl (hK _ _ ⟨hVs.set rfl,hb,hch.ne (by decide) (by decide)⟩)
              ·exact z0h (.tmp 0) rfl _ rfl (hK _ _ ⟨hVs.set rfl,hb,hch.ne (by decide) (by decide)⟩)
              ·exact z0m (.tmp 188) rfl ⟨gs,0,none⟩ (hVs.get 1 (hr { on:=1,ground:=.data } (by simp) rfl) rfl) (hK _ _ ⟨hVs.set rfl,hb,hch.ne (by decide) (by decide)⟩)
              ·exact z0l 36 (.tmp 189) 2 rfl _ _ (hVs.get 2 (hr { on:=2,ground:=.data } (by simp) rfl) rfl) (z1b gs 2 (by decide)) (hK _ _ ⟨hVs.set rfl,hb,hch.ne (by decide) (by decide)⟩)
              ·exact z0o 34 (.tmp 190) rfl _ _ (hVs.get 3 (hr { on:=3,ground:=.data } (by simp) rfl) rfl) (HCF.out wq hb) Tryz.isAgg34 (hK _ _ ⟨hVs.set rfl,hb,hch.ne (by decide) (by decide)⟩)
              ·exact z16 25 (.tmp 12) rfl (g15) .u8 na 25 _ rfl (HLY.out wq hb) Tryz.underlying25 rfl HSY.out (hK _ _ ⟨hVs.set rfl,hb,hch.ne (by decide) (by decide)⟩)
              ·have hm:Below w28.heap.size w28 wq:=hch.at 0 (by decide) hu (.inl rfl)
               refine z6d rfl (.tmp 192) rfl na HYL.out.1 (hVs.get 5 (hr { on:=5,ground:=.data } (by simp) rfl) rfl) ?_
               intro w' hb' hsrc
               have hbn:Only (fun b=>(Value.slice ln2 sk.names.length cn2).ownBlock = some b) w28 w':=hb.below hb'
               have hc6:=hch.step (v:=.slice (some ⟨wq.heap.size,0,none⟩) 1 1) 0 (by decide) (by decide) hu (.inl rfl) trivial ⟨Below.trans hm (hb'.mono hm.size),wq.heap.size,rfl,hsrc⟩
               exact (hK _ _ ⟨hVs.off rfl,hbn,hc6⟩)
              ·obtain ⟨hm,g,hv6,hsrc⟩:PushI w28 (Value.slice ln2 sk.names.length cn2) sk.names na 1 (V 6) wq:=hch.at 1 (by decide) hu (.inr (hr { on:=6,ground:=.data } (by simp) rfl))
               refine z33 rfl (.tmp 191) (.tmp 193) rfl 0 (Value.slice ln2 sk.names.length cn2) sk.names [na] (Ids.one HYL.out.1 HYL.out.2) (some ⟨g,0,none⟩) 1 1 rfl (hVs.get 4 (hr { on:=4,ground:=.data } (by simp) rfl) rfl) (HRW.out.below hm) hv6 hsrc (fun h=>by cases h) HLN.out (Nat.zero_le _) ?_
               intro v' w' ho' hg' hd'
               have hbn:Only (fun b=>(Value.slice ln2 sk.names.length cn2).ownBlock = some b) w28 w':=hb.grown hg' (fun b hb=>.inl hb)
               have hc7:=hch.step (v:=v') 1 (by decide) (by decide) hu (.inr (hr { on:=6,ground:=.data } (by simp) rfl)) trivial ⟨hbn,ho',Moved.of hd' hm.size⟩
               exact (hK _ _ ⟨hVs.off rfl,hbn,hc7⟩)
              ·exact z0m (.tmp 187) rfl ⟨gs,0,none⟩ (hVs.get 0 (hr { on:=0,ground:=.data } (by simp) rfl) rfl) (hK _ _ ⟨hVs.set rfl,hb,hch.ne (by decide) (by decide)⟩)
              ·exact z0l 36 (.tmp 195) 2 rfl _ _ (hVs.get 8 (hr { on:=8,ground:=.data } (by simp) rfl) rfl) (z1b gs 2 (by decide)) (hK _ _ ⟨hVs.set rfl,hb,hch.ne (by decide) (by decide)⟩)
             rintro q V wq hall ⟨hVs,hb,hch⟩
             have v0:=hVs.get 0 (hall 0 (by decide)) rfl
             have v1:=hVs.get 1 (hall 1 (by decide)) rfl
             have v2:=hVs.get 2 (hall 2 (by decide)) rfl
             have v3:=hVs.get 3 (hall 3 (by decide)) rfl
             have v4:=hVs.get 4 (hall 4 (by decide)) rfl
             have v5:=hVs.get 5 (hall 5 (by decide)) rfl
             obtain ⟨u6,v6⟩:∃ v,V 6 = v:=⟨_,rfl⟩
             obtain ⟨u7,v7⟩:∃ v,V 7 = v:=⟨_,rfl⟩
             have v8:=hVs.get 8 (hall 8 (by decide)) rfl
             have v9:=hVs.get 9 (hall 9 (by decide)) rfl
             obtain ⟨hon,hrow,hmv⟩:PushI w28 (Value.slice ln2 sk.names.length cn2) sk.names na 2 (V 7) wq:=hch.fin (fun p hp=>by match p,hp with | 0,_=>exact hall 6 (by decide) | 1,_=>exact hall 7 (by decide))
             rw [v7] at hrow hmv
             simp only [zC,zD,zE,zF,z0i,Nat.zero_add,Nat.reduceAdd,v0,v1,v2,v3,v4,v5,v6,v7,v8,v9,Act.put,zS,zA,zB]
             clear hVs v0 v1 v2 v3 v4 v5 v6 v7 v8 v9 hall
             obtain ⟨a29,c29,hu7⟩:=hrow.form
             obtain ⟨n29,hnl⟩:∃ k,(sk.names ++ [na]).length = k:=⟨_,rfl⟩
             rw [hnl] at hu7
             subst hu7
             have hcs:=HR28.out.cells.only hon (fun e=>HR28.out.struct.2.2.1 e)
             have HPUT:=Lib.hid (HR28.out.putNames HXB.out hon hrow hmv)
             have cf:wq.cell? ⟨gs,2,none⟩ = some (Value.slice ln2 sk.names.length cn2):=hcs.at 2
             have ff:=hcs.frozen 2
             clear hch hrow hmv hb hon hnl hcs HLY HCF HXB
             go_upto_region 30 with (fail)
             obtain ⟨w29,hw⟩:∃ z,z = wq.setCell ⟨gs,2,none⟩ (.slice a29 n29 c29):=⟨_,rfl⟩
             rw [← hw] at HPUT ⊢
             have HR29:=Lib.hid HPUT.out.1
             have HT29:=Lib.hid (HT28.out.trans HPUT.out.2)
             have HZ12:=Lib.hid (HY12.out.turn HPUT.out.2)
             have HL29:=Lib.hid (HL28.out.turn HPUT.out.2)
             clear hw cf ff HPUT HR28 HT28 HY12 HL28
             clear HRW HSY HYL HLN
             obtain ⟨au,cu,hvu⟩:=HL29.out.2.form
             subst hvu
             go_wp2_with (first
              | (refine z03 rfl 25 (.tmp 12) rfl g15 .u8 na 25 _ rfl HZ12.out.2 Tryz.underlying25 rfl HS1.out ?_)
              | (refine z17 rfl 34 25 _ rfl na rfl HNI.out.1 Tryz.underlying34 Tryz.infoI32 ?_))
             intro w30 hk30 hb30
             have HR30:=Lib.hid (HR29.out.below hb30.out)
             have HT30:=Lib.hid (HT29.out.below hb30.out)
             have HL30:=Lib.hid (HL29.out.below hb30.out)
             have HI30:=Lib.hid (z4x hk30.out)
             obtain ⟨gx,hgx⟩:∃ g,w29.heap.size = g:=⟨_,rfl⟩
             rw [hgx] at HI30 ⊢
             clear hk30 hb30 hgx HR29 HT29 HL29 HZ12
             go_wp2_with (refine z0u rfl _ _ 34 25 rfl w.heap.size (.agg (z06 .u8 (List.replicate 32 0)).toArray) rfl Tryz.underlying34 Tryz.infoI32 (.slice au (n :: out).length cu) (n :: out) [na] (Ids.one HNI.out.1 HNI.out.2) (some ⟨gx,0,none⟩) 1 1 rfl rfl HL30.out.2 rfl HI30.out (fun h=>by cases h) (by have:=HLQ.out;simp only [List.length_cons,List.length_nil];omega) HT30.out.only.size ?_)
             intro v31 w31 ho31 hg31 hd31
             have hon:Only (fun b=>(Value.slice au (n :: out).length cu).ownBlock = some b) w30 w31:=(Only.refl _ w30).grown hg31.out (fun b hb=>.inl hb)
             have hvl:∀ b,(Value.slice au (n :: out).length cu).ownBlock = some b → w.heap.size ≤ b:=fun b hb=>(World.ownsRow.lt HL30.out.2 b hb).1
             have hrl:=HR30.out.only hon (fun b hb=>HX0.out b (hvl b hb)) (fun b hb e=>HL30.out.1 b e hb)
             have hfin:RefAt X gs (.slice a28 n28 c28) (.slice a25 n25 c25) (.slice a29 n29 c29) (.slice a26 n26 c26) ⟨sk.ops ++ [y],sk.wait.eraseIdx i⟩ w31:=by
              have h:=hrl
              rw [← Go.ChangeMaps.map_eraseIdx,show sk.names ++ [na] = (sk.ops ++ [y]).map z0a by rw [List.map_append,DagN.names];simp [HNA.out]] at h
              exact h.at
             have hsm:z0t sk.wait.length sk = (z0a y :: (z0t (sk.wait.eraseIdx i).length ⟨sk.ops ++ [y],sk.wait.eraseIdx i⟩).1,(z0t (sk.wait.eraseIdx i).length ⟨sk.ops ++ [y],sk.wait.eraseIdx i⟩).2):=by
              rw [HSM.out,if_pos HDQ.out]
             have hlr:LocR (RefX gs (.slice a28 n28 c28) (.slice a25 n25 c25) (.slice a29 n29 c29) (.slice a26 n26 c26)) w.heap.size v31 (n :: (out ++ [na])) w31:=by
              refine ⟨fun b hb e=>?_,ho31.out⟩
              rcases hd31.out with h | h
              ·exact HL30.out.1 b (h ▸ hb) e
              ·rw [h] at hb
               obtain rfl:w30.heap.size = b:=by injection hb
               have:=HR30.out.lt e
               omega
             have htt:Turn (RefX gs (.slice lo s.ops.length co) vw (.slice ln s.names.length cn) vq) (RefX gs (.slice a28 n28 c28) (.slice a25 n25 c25) (.slice a29 n29 c29) (.slice a26 n26 c26)) w w31:=⟨HT30.out.only.trans hon (fun b hb=>.inr (hvl b hb)),HT30.out.own⟩
             have HFI:=Lib.hid (show ∃ (sk:DagN) (ko kw kn kq:Value) (out:List (List Nat)),RefAt X gs ko kw kn kq sk w31 ∧ Tame sk ∧ LocR (RefX gs ko kw kn kq) w.heap.size v31 (n :: out) w31 ∧ out ++ (z0t sk.wait.length sk).1 = RR.1 ∧ (z0t sk.wait.length sk).2 = RR.2 ∧ out.length + sk.wait.length ≤ 1000 ∧ Turn (RefX gs (.slice lo s.ops.length co) vw (.slice ln s.names.length cn) vq) (RefX gs ko kw kn kq) w w31 from
              ⟨⟨sk.ops ++ [y], sk.wait.eraseIdx i⟩, _, _, _, _, out ++ [na], hfin, HTM.out.push HY.out HDQ.out, hlr, by rw [← HR1.out, hsm, HNA.out, List.append_assoc]; rfl, by rw [← HR2.out, hsm], by
                have:=HLQ.out;have:=HEL.out
                show (out ++ [na]).length + (sk.wait.eraseIdx i).length ≤ 1000
                rw [List.length_append];simp only [List.length_singleton]
                omega,htt⟩)
             have HMS:=Lib.hid (show waitLen w31 gs < waitLen wo gs from by
              rw [hfin.waitLen,HML.out]
              show (sk.wait.eraseIdx i).length < sk.wait.length
              have:=HEL.out
              omega)
             clear hsm hfin hlr htt hrl hvl hon ho31 hg31 hd31
             go_wp2_with fail
             exact ⟨HFI.out,HMS.out⟩
            ·have hbq:(xd == De) = false:=by simp [hde]
             have hsm:z0t sk.wait.length sk = z0t (sk.wait.eraseIdx i).length ⟨sk.ops,sk.wait.eraseIdx i⟩:=by
              rw [HSM.out,if_neg (by rw [HXD.out,HDE.out];exact hde)]
             have hfin:RefAt X gs ko (.slice a25 n25 c25) kn (.slice a26 n26 c26) ⟨sk.ops,sk.wait.eraseIdx i⟩ w27:=by
              have h:=HR27.out
              rw [← Go.ChangeMaps.map_eraseIdx] at h
              exact h.at
             have HFI:=Lib.hid (show ∃ (sk:DagN) (ko kw kn kq:Value) (out:List (List Nat)),RefAt X gs ko kw kn kq sk w27 ∧ Tame sk ∧ LocR (RefX gs ko kw kn kq) w.heap.size u7 (n :: out) w27 ∧ out ++ (z0t sk.wait.length sk).1 = RR.1 ∧ (z0t sk.wait.length sk).2 = RR.2 ∧ out.length + sk.wait.length ≤ 1000 ∧ Turn (RefX gs (.slice lo s.ops.length co) vw (.slice ln s.names.length cn) vq) (RefX gs ko kw kn kq) w w27 from
              ⟨⟨sk.ops, sk.wait.eraseIdx i⟩, ko, _, kn, _, out, hfin, HTM.out.drop i, HL27.out, by rw [← HR1.out, hsm], by rw [← HR2.out, hsm], by
                have:=HLN.out;have:=HEL.out
                show out.length + (sk.wait.eraseIdx i).length ≤ 1000
                omega,HT27.out⟩)
             have HMS:=Lib.hid (show waitLen w27 gs < waitLen wo gs from by
              rw [hfin.waitLen,HML.out]
              show (sk.wait.eraseIdx i).length < sk.wait.length
              have:=HEL.out
              omega)
             clear hde hsm hfin
             go_wp2_with fail
             exact ⟨HFI.out,HMS.out⟩
      ·rw [if_pos hde] at HTK
       have hbq:(xd != De) = true:=by simp [hde]
       clear hde
       go_wp2_with fail
       go_ret2
       rw [HTK.out]
       exact ⟨_,vo,vw,vn,vq,rfl,OwnI.nil _ _ _,HR8.out.at,Turn.of HB8.out,HTM.out⟩
 ·have HR:=Shut.mk (show z1l s x = ([],1,s) by rw [z1l,if_pos hg])
  rw [decide_eq_false hg]
  have HR2:=Lib.hid (HRA.out.below HB2.out)
  clear hg
  go_wp2_with fail
  go_ret2
  rw [HR.out]
  exact ⟨_,vo,vw,vn,vq,rfl,OwnI.nil _ _ _,HR2.out,Turn.of HB2.out,HTM.out⟩
end Go.Proofs.YtnbldbbbibpobaaGreatDoor
