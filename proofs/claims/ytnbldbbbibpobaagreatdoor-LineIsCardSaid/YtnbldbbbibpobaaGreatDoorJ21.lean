/-
  Joined: The document's Good.; Take's cuts: one is taken out of a row: an empty literal, what lies ahead, what lies behind.
-/
import Derived.Test.YtnbldbbbibpobaaGreatDoorJ04
import Derived.Test.YtnbldbbbibpobaaGreatDoorJ06
import Derived.Test.YtnbldbbbibpobaaGreatDoorJ07
import Derived.Test.YtnbldbbbibpobaaGreatDoorJ20
set_option maxRecDepth 100000
set_option maxHeartbeats 4000000
namespace Go.Proofs.YtnbldbbbibpobaaGreatDoor
open Go.RowKit Go.BigFrame
theorem ref_good (o:OpN) (pa:Option Addr) (pc:Nat) (w:World) (ho:o.Ok) (hp:IAt pa o.preds w) (hk:o.d.key.length ≤ 140737488351232) (hv:o.d.val.length ≤ 140737488351232) (hn:o.preds.length ≤ 140737488351232) :
 Calls Tryz.prog 49 #[.agg (opV o pa pc)] w fun e w'=>e = .returned (.bool (decide (GoodO o))) ∧ Below w.heap.size w w':=by
 have b1:Below w.heap.size w (w.alloc (.cells (opV o pa pc) 38)):=(Below.refl _ _).alloc (Nat.le_refl _) _
 have x1:Cells w.heap.size 38 (opV o pa pc) (w.alloc (.cells (opV o pa pc) 38)):=heap_alloc_new w _
 have HP:=Lib.hid (hp.below b1)
 have HB:=Lib.hid b1
 have HX:=Lib.hid x1
 have HGD:=Lib.hid (fun w'=>z8n o.d ho.ref hk hv w')
 have HO:=Lib.hid ho
 have HN:=Lib.hid hn
 clear b1 x1 ho hp hk hv
 go_enter Tryz.func49,Tryz.ntmps49
 go_upto_region 1 with (fail)
 obtain ⟨w1,hw1⟩:∃ x,x = w.alloc (.cells (opV o pa pc) 38):=⟨_,rfl⟩
 rw [← hw1] at HP HB HX ⊢
 obtain ⟨c0,c35,c36,c37⟩:=z0j HO.out.ref.1 HX.out
 clear hw1 c0
 obtain ⟨n,hnn⟩:∃ n,o.preds.length = n:=⟨_,rfl⟩
 have HNN:=Shut.mk hnn
 rw [hnn] at c37 hn
 clear hnn
 go_wp2_with fail
 go_loopw [7] (fun i wr=>∃ k:Nat,k ≤ n ∧ i = .int .i64 k ∧ (∀ j,j < k → 0 < j → z1t (o.preds.getD (j - 1) []) (o.preds.getD j []) = -1) ∧ Below w1.heap.size w1 wr) (fun i _=>n - (intOf i).toNat)
 case atStart=>exact ⟨0,Nat.zero_le _,rfl,fun j hj=>by omega,Below.refl _ _⟩
 case round =>
  obtain ⟨k,hk,rfl,hasc,hb⟩:=hrel
  have HY:=Lib.hid (HB.out.trans (hb.mono HB.out.size))
  have HXW:=Lib.hid (HX.out.below hb)
  have HPW:=Lib.hid (HP.out.below hb)
  have HASC:=Lib.hid hasc
  have HBW:=Lib.hid hb
  obtain ⟨c0,c35,c36,c37⟩:=z0j HO.out.ref.1 HXW.out
  rw [HNN.out] at c37
  clear hasc hb
  by_cases hlt:k < n
  ·by_cases h0:k = 0
   ·subst h0
    go_upto_region 4 with (fail)
    go_quiet (fail)
    go_wp2_with fail
    exact ⟨⟨1,by omega,by go_num,fun j hj h=>by omega,z0q HBW.out _⟩,by simp [intOf];omega⟩
   ·obtain ⟨j,rfl⟩:∃ j,k = j + 1:=⟨k - 1,by omega⟩
    obtain ⟨b,ob,rfl,hbl⟩:=HPW.out.some (by rw [HNN.out];omega)
    have g1:=HPW.out.get (i:=j) (by rw [HNN.out];omega)
    have g2:=HPW.out.get (i:=j + 1) (by rw [HNN.out];omega)
    have i1:=Ids.getD HO.out.preds (i:=j) (by rw [HNN.out];omega)
    have i2:=Ids.getD HO.out.preds (i:=j + 1) (by rw [HNN.out];omega)
    obtain ⟨x,hx⟩:∃ x,o.preds.getD j [] = x:=⟨_,rfl⟩
    obtain ⟨y,hy⟩:∃ y,o.preds.getD (j + 1) [] = y:=⟨_,rfl⟩
    rw [hx] at g1 i1
    rw [hy] at g2 i2
    have HXE:=Shut.mk hx
    have HYE:=Shut.mk hy
    have HC:=Lib.hid (fun w'=>z5z x y i1 i2 w')
    have HR1:=Lib.hid (fun (w':World) (q:Below wr.heap.size wr w')=>show w'.rangeAt b (ob + j * 32) (z07 .u8 x) from z08 g1 q hbl)
    have HR2:=Lib.hid (fun (w':World) (q:Below wr.heap.size wr w')=>show w'.rangeAt b (ob + (j + 1) * 32) (z07 .u8 y) from z08 g2 q hbl)
    have HS1:=Lib.hid (show (Tryz.prog.info? 25).map (·.size) = some x.length by rw [i1.1];exact Tryz.sizeI)
    have HS2:=Lib.hid (show (Tryz.prog.info? 25).map (·.size) = some y.length by rw [i2.1];exact Tryz.sizeI)
    have hxl:=HXW.out.lt
    have HC37:=Lib.hid (fun (w':World) (q:Below wr.heap.size wr w')=>show w'.cell? ⟨w.heap.size,37,none⟩ = some (.slice (some ⟨b,ob,none⟩) n pc) from (q.cell (p:=⟨w.heap.size,37,none⟩) hxl).trans c37)
    obtain ⟨r,hr⟩:∃ r,z1t x y = r:=⟨_,rfl⟩
    rw [hr] at HC
    have HRE:=Shut.mk hr
    have HJ1:=Shut.mk (show ((j + 1:Nat):Int) - 1 = (j:Int) by omega)
    clear hx hy g1 g2 i1 i2 hr h0 c0 c35 c36
    by_cases hrr:r = -1
    ·subst hrr
     go_upto_region 4 with (fail)
     refine z09 (fun w'=>Below wr.heap.size wr w') (by kernel_rfl) (by kernel_rfl) (Below.refl _ _).drew ?_
     repeat (first
      | go_big_quiet_skip
      | (go_big_quiet_want;refine z03 34 _ rfl ⟨w.heap.size,37,none⟩ _ rfl HC37.out Tryz.isAgg34 ?_;go_big_quiet_on;simp only [Act.put,zS,zA,zB])
      | (go_big_quiet_want;refine z0i 25 _ rfl b (ob + j * 32) x _ rfl HR1.out Tryz.underlying25 rfl HS1.out ?_;go_big_quiet_on;simp only [Act.put,zS,zA,zB])
      | (go_big_quiet_want;refine z0i 25 _ rfl b (ob + (j + 1) * 32) y _ rfl HR2.out Tryz.underlying25 rfl HS2.out ?_;go_big_quiet_on;simp only [Act.put,zS,zA,zB])
      | go_big_quiet_step ((intro hs';first
       | rfl
       | (go_at_call 53;exact (HC.out _).mono fun e w' h=>⟨h.1,hs'.trans (h.2.mono hs'.size)⟩))))
     refine wpQuiet_nil ?_
     intro w2 hb2
     go_wp2_with fail
     refine ⟨⟨j + 1 + 1,by omega,by go_num,fun q hq h=>?_,HBW.out.trans (hb2.mono HBW.out.size)⟩,by simp [intOf];omega⟩
     by_cases hqj:q = j + 1
     ·subst hqj
      rw [Nat.add_sub_cancel,HXE.out,HYE.out]
      exact HRE.out
     ·exact HASC.out q (by omega) h
    ·have hrb:(r == -1) = false:=by simp [hrr]
     have HGF:=Shut.mk (show decide (GoodO o) = false from decide_eq_false (fun h=>hrr (by
      have h1:=h.1 (j + 1) (by rw [HNN.out];omega) (by omega)
      rw [Nat.add_sub_cancel,HXE.out,HYE.out] at h1
      rw [← HRE.out,h1])))
     clear hrr
     go_upto_region 4 with (fail)
     refine z09 (fun w'=>Below wr.heap.size wr w') (by kernel_rfl) (by kernel_rfl) (Below.refl _ _).drew ?_
     repeat (first
      | go_big_quiet_skip
      | (go_big_quiet_want;refine z03 34 _ rfl ⟨w.heap.size,37,none⟩ _ rfl HC37.out Tryz.isAgg34 ?_;go_big_quiet_on;simp only [Act.put,zS,zA,zB])
      | (go_big_quiet_want;refine z0i 25 _ rfl b (ob + j * 32) x _ rfl HR1.out Tryz.underlying25 rfl HS1.out ?_;go_big_quiet_on;simp only [Act.put,zS,zA,zB])
      | (go_big_quiet_want;refine z0i 25 _ rfl b (ob + (j + 1) * 32) y _ rfl HR2.out Tryz.underlying25 rfl HS2.out ?_;go_big_quiet_on;simp only [Act.put,zS,zA,zB])
      | go_big_quiet_step ((intro hs';first
       | rfl
       | (go_at_call 53;exact (HC.out _).mono fun e w' h=>⟨h.1,hs'.trans (h.2.mono hs'.size)⟩))))
     refine wpQuiet_nil ?_
     intro w2 hb2
     go_wp2_with fail
     go_ret
     exact ⟨by rw [HGF.out];rfl,HY.out.trans (hb2.mono HY.out.size)⟩
  ·obtain rfl:k = n:=by omega
   have HAS:=Lib.hid (show AscN o.preds from fun j hj h0=>HASC.out j (by rw [← HNN.out];exact hj) h0)
   have hnil:o.preds = [] ↔ k = 0:=by rw [← HNN.out];exact List.length_eq_zero_iff.symm
   obtain ⟨D,hD⟩:∃ D,o.depth = D:=⟨_,rfl⟩
   obtain ⟨A,hA⟩:∃ A,o.author = A:=⟨_,rfl⟩
   rw [hD] at c36
   rw [hA] at c35
   have HGI:=Shut.mk (show GoodO o ↔ (k = 0 → D = 1) ∧ (k ≠ 0 → 2 ≤ D) ∧ k ≤ 32 ∧ GoodD o.d ∧ 0 ≤ A ∧ A ≤ 4 from
    ⟨fun h => ⟨fun e => by rw [← hD]; exact h.2.1 (hnil.2 e), fun e => by rw [← hD]; exact h.2.2.1 (fun e2 => e (hnil.1 e2)), by rw [← HNN.out]; exact h.2.2.2.1, h.2.2.2.2.1, by rw [← hA]; exact h.2.2.2.2.2.1, by rw [← hA]; exact h.2.2.2.2.2.2⟩,
     fun h=>⟨HAS.out,fun e=>by rw [hD];exact h.1 (hnil.1 e),fun e=>by rw [hD];exact h.2.1 (fun e2=>e (hnil.2 e2)),by rw [HNN.out];exact h.2.2.1,h.2.2.2.1,by rw [hA];exact h.2.2.2.2.1,by rw [hA];exact h.2.2.2.2.2⟩⟩)
   have HSD:=Lib.hid (show (Tryz.prog.info? 27).map (·.size) = some (z1h o.d).length by rw [z0u HO.out.ref.1];exact Tryz.sizeD)
   have HC0:=Lib.hid c0
   clear hnil hD c0
   by_cases hbad:(k = 0 ∧ D ≠ 1) ∨ (k ≠ 0 ∧ D < 2) ∨ 32 < k
   ·have HGF:=Shut.mk (show decide (GoodO o) = false from decide_eq_false (fun h=>by have:=HGI.out.1 h;omega))
    by_cases hk0:k = 0
    ·subst hk0
     have hd1:(D == 1) = false:=by simp;omega
     go_wp2_with fail
     go_ret
     exact ⟨by rw [HGF.out];rfl,HY.out⟩
    ·have hk0b:(k == 0) = false:=by simp;omega
     by_cases hd2:D < 2
     ·go_wp2_with fail
      go_ret
      exact ⟨by rw [HGF.out];rfl,HY.out⟩
     ·have h32:32 < k:=by omega
      go_wp2_with fail
      go_ret
      exact ⟨by rw [HGF.out];rfl,HY.out⟩
   ·have HAE:=Shut.mk hA
    clear hA
    by_cases hk0:k = 0
    ·subst hk0
     have hd1:(D == 1) = true:=by simp;omega
     go_wp2_with (refine wpList_load_mid rfl 27 _ rfl w.heap.size 0 rfl (z1h o.d) _ HC0.out Tryz.underlying27 rfl HSD.out ?_)
     refine (HGD.out wr).mono ?_
     rintro e w2 ⟨rfl,hb2⟩
     have HZ:=Lib.hid (HY.out.trans (hb2.mono HY.out.size))
     have HXZ:=Lib.hid (HXW.out.below hb2)
     obtain ⟨_,d35,_,_⟩:=z0j HO.out.ref.1 HXZ.out
     rw [HAE.out] at d35
     clear hb2 HY HXW
     by_cases hg:GoodD o.d
     ·have hgd:decide (GoodD o.d) = true:=decide_eq_true hg
      rw [hgd]
      by_cases ha:0 ≤ A
      ·by_cases ha2:A ≤ 4
       ·have HGT:=Shut.mk (show decide (GoodO o) = true from decide_eq_true (HGI.out.2 ⟨by omega,by omega,by omega,hg,ha,ha2⟩))
        clear hgd hg
        go_wp2_with fail
        go_ret
        exact ⟨by rw [HGT.out];rfl,HZ.out⟩
       ·have HGF:=Shut.mk (show decide (GoodO o) = false from decide_eq_false (fun h=>ha2 (HGI.out.1 h).2.2.2.2.2))
        clear hgd hg
        go_wp2_with fail
        go_ret
        refine ⟨?_,HZ.out⟩
        rw [HGF.out]
        show Ending.returned (Value.bool (decide (A ≤ 4))) = _
        rw [decide_eq_false (by omega)]
      ·have HGF:=Shut.mk (show decide (GoodO o) = false from decide_eq_false (fun h=>ha (HGI.out.1 h).2.2.2.2.1))
       clear hgd hg
       go_wp2_with fail
       go_ret
       exact ⟨by rw [HGF.out];rfl,HZ.out⟩
     ·have hgd:decide (GoodD o.d) = false:=decide_eq_false hg
      have HGF:=Shut.mk (show decide (GoodO o) = false from decide_eq_false (fun h=>hg (HGI.out.1 h).2.2.2.1))
      rw [hgd]
      clear hgd hg
      go_wp2_with fail
      go_ret
      exact ⟨by rw [HGF.out];rfl,HZ.out⟩
    ·have hk0b:(k == 0) = false:=by simp;omega
     have hd2:¬ D < 2:=by omega
     have h32:¬ 32 < k:=by omega
     go_wp2_with (refine wpList_load_mid rfl 27 _ rfl w.heap.size 0 rfl (z1h o.d) _ HC0.out Tryz.underlying27 rfl HSD.out ?_)
     refine (HGD.out wr).mono ?_
     rintro e w2 ⟨rfl,hb2⟩
     have HZ:=Lib.hid (HY.out.trans (hb2.mono HY.out.size))
     have HXZ:=Lib.hid (HXW.out.below hb2)
     obtain ⟨_,d35,_,_⟩:=z0j HO.out.ref.1 HXZ.out
     rw [HAE.out] at d35
     clear hb2 HY HXW
     by_cases hg:GoodD o.d
     ·have hgd:decide (GoodD o.d) = true:=decide_eq_true hg
      rw [hgd]
      by_cases ha:0 ≤ A
      ·by_cases ha2:A ≤ 4
       ·have HGT:=Shut.mk (show decide (GoodO o) = true from decide_eq_true (HGI.out.2 ⟨by omega,by omega,by omega,hg,ha,ha2⟩))
        clear hgd hg
        go_wp2_with fail
        go_ret
        exact ⟨by rw [HGT.out];rfl,HZ.out⟩
       ·have HGF:=Shut.mk (show decide (GoodO o) = false from decide_eq_false (fun h=>ha2 (HGI.out.1 h).2.2.2.2.2))
        clear hgd hg
        go_wp2_with fail
        go_ret
        refine ⟨?_,HZ.out⟩
        rw [HGF.out]
        show Ending.returned (Value.bool (decide (A ≤ 4))) = _
        rw [decide_eq_false (by omega)]
      ·have HGF:=Shut.mk (show decide (GoodO o) = false from decide_eq_false (fun h=>ha (HGI.out.1 h).2.2.2.2.1))
       clear hgd hg
       go_wp2_with fail
       go_ret
       exact ⟨by rw [HGF.out];rfl,HZ.out⟩
     ·have hgd:decide (GoodD o.d) = false:=decide_eq_false hg
      have HGF:=Shut.mk (show decide (GoodO o) = false from decide_eq_false (fun h=>hg (HGI.out.1 h).2.2.2.1))
      rw [hgd]
      clear hgd hg
      go_wp2_with fail
      go_ret
      exact ⟨by rw [HGF.out];rfl,HZ.out⟩
section
variable {X:Nat → Prop} {ap:Option Addr} {L:List OpN} {w:World}
theorem OpsX.take (h:OpsX X ap L w) (j:Nat):OpsX X ap (L.take j) w:=by
 rcases h with rfl | ⟨b,o,rfl,h2,h3⟩
 ·exact .inl (by simp)
 ·refine .inr ⟨b,o,rfl,h2,fun i x hx=>h3 i x ?_⟩
  have hi:=(List.getElem?_eq_some_iff.1 hx).1
  rw [List.length_take] at hi
  rw [List.getElem?_take_of_lt (by omega)] at hx
  exact hx
theorem OpsX.drop {c j:Nat} (h:OpsX X ap L w) (hc:L.length ≤ c):OpsX X (if c = j then ap else ap.map (·.add (j * 38))) (L.drop j) w:=by
 by_cases hj:L.length ≤ j
 ·exact .inl (List.drop_eq_nil_of_le hj)
 rw [if_neg (by omega)]
 rcases h with rfl | ⟨b,o,rfl,h2,h3⟩
 ·exact .inl (by simp)
 ·refine .inr ⟨b,o + j * 38,by simp [Addr.add_lit],h2,fun i x hx=>?_⟩
  rw [List.getElem?_drop] at hx
  have:=h3 (j + i) x hx
  rwa [show o + (j + i) * 38 = o + j * 38 + i * 38 by omega] at this
theorem OwnX.cap {B:Nat} {e:TypeId} {ao:Option Addr} {n c:Nat} (h:OwnX X B e (.slice ao n c) L w):L.length ≤ c:=by
 obtain ⟨ao',c',hv⟩:=h.form
 injection hv with _ hn _
 obtain ⟨fl,h1,_⟩:=h
 rcases h1.2 with ⟨h0,h2⟩ | ⟨g,cap,cur,h0,_,_,hk,_⟩
 ·rw [h2];exact Nat.zero_le _
 ·injection h0 with _ _ h5
  rw [h5];exact hk
end
section
variable {o:Oper} {a:Act} {w:World} {K:Act → World → Prop} {Q:Exit → Act → World → Prop}
theorem z9x (ho:o.op = .buildSlice 29 0 #[]) (h:K (a.put o.dst (.slice (some ⟨w.heap.size,0,none⟩) 0 0)) (w.alloc (.cells #[] 38))):OpWp Tryz.prog o a w K Q:=by
 have hr:(Instr.buildSlice 29 0 #[]).run Tryz.prog w = .ok (.slice (some ⟨w.heap.size,0,none⟩) 0 0) (w.alloc (.cells #[] 38)):=by go_simp
 refine ⟨?_⟩
 unfold Oper.wp execOp
 simp only [ho,Sem.run_bind,Array.map_empty,hr,Result.andThen_ok]
 exact h
theorem zfx (ho:o.op = .buildSlice 34 0 #[]) (h:K (a.put o.dst (.slice (some ⟨w.heap.size,0,none⟩) 0 0)) (w.alloc (.cells #[] 25))):OpWp Tryz.prog o a w K Q:=by
 have hr:(Instr.buildSlice 34 0 #[]).run Tryz.prog w = .ok (.slice (some ⟨w.heap.size,0,none⟩) 0 0) (w.alloc (.cells #[] 25)):=by go_simp
 refine ⟨?_⟩
 unfold Oper.wp execOp
 simp only [ho,Sem.run_bind,Array.map_empty,hr,Result.andThen_ok]
 exact h
end
def CutO (X:Nat → Prop) (wb:World) (L:List OpN) (i:Nat):Nat → Value → World → Prop
 | 0,_,w'=>Below wb.heap.size wb w'
 | 1,v,w'=>Below wb.heap.size wb w' ∧ OwnX X wb.heap.size 38 v [] w'
 | 2,v,w'=>Below wb.heap.size wb w' ∧ OwnX X wb.heap.size 38 v (L.take i) w'
 | _,v,w'=>Below wb.heap.size wb w' ∧ OwnX X wb.heap.size 38 v (L.take i ++ L.drop (i + 1)) w'
def CutI (wb:World) (L:List (List Nat)) (i:Nat):Nat → Value → World → Prop
 | 0,_,w'=>Below wb.heap.size wb w'
 | 1,v,w'=>Below wb.heap.size wb w' ∧ OwnI wb.heap.size 25 v [] w'
 | 2,v,w'=>Below wb.heap.size wb w' ∧ OwnI wb.heap.size 25 v (L.take i) w'
 | _,v,w'=>Below wb.heap.size wb w' ∧ OwnI wb.heap.size 25 v (L.take i ++ L.drop (i + 1)) w'
theorem Moved.new {B:Nat} {v u:Value} {w:World} (h:∀ k,v.ownBlock = some k → B ≤ k) (hB:w.heap.size ≤ B):Moved v u w:=fun b hb=>.inr (Nat.le_trans hB (h b hb))
theorem zmd (i:Nat) (h:i ≤ 1000000) (w:World):(binOp .add 3 (.int .i64 (i:Int)) (.int .i64 1)).run Tryz.prog w = .ok (.int .i64 ((i + 1:Nat):Int)) w:=by
 have e:IntKind.i64.wrap ((i:Int) + 1) = ((i + 1:Nat):Int):=by
  simp [IntKind.wrap,IntKind.bits,IntKind.signed]
  omega
 rw [← e]
 go_simp
theorem RefL.only {X O:Nat → Prop} {gs:Nat} {vo vw vn vq:Value} {A W:List OpN} {N Q:List (List Nat)} {w w':World} (h:RefL X gs vo vw vn vq A W N Q w) (k:Only O w w') (hO:∀ b,O b → X b) (hn:∀ b,RefX gs vo vw vn vq b → ¬ O b):RefL X gs vo vw vn vq A W N Q w' :=
 ⟨h.cells.only k (hn _ (.inl rfl)),h.ops.only k hO (fun g hg=>hn g (.inr (.inl hg))),h.wait.only k hO (fun g hg=>hn g (.inr (.inr (.inl hg)))),h.names.only k (fun g hg=>hn g (.inr (.inr (.inr (.inl hg))))),h.waits.only k (fun g hg=>hn g (.inr (.inr (.inr (.inr hg))))),h.mine,h.apart,h.apartN⟩
theorem zbq {α:Type} (L:List α) (i:Nat):L.take i ++ L.drop (i + 1) = L.eraseIdx i:=(List.eraseIdx_eq_take_drop_succ L i).symm
end Go.Proofs.YtnbldbbbibpobaaGreatDoor
