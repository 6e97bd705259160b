/-
  Joined: The document's Good.; A text copied over cells of one's own, wherever they lie; a block of cells laid over; facts of regions whose order is open: Ord (one comes behind another), NewC.turn.; Maps keyed by names of thirty-two bytes: a map's block as the list of its entries, in the order in which they came.; The developers' set, as it lies in memory: a struct of four maps; rows of names behind names.
-/
import Derived.DeepKeys5
import Derived.Laws.IdiomCopy
import Derived.Maps.Keyed
import Derived.Test.YtnbldbbbibpobaaGreatDoorJ02
import Derived.Test.YtnbldbbbibpobaaGreatDoorJ03
import Derived.Test.YtnbldbbbibpobaaGreatDoorJ04
import Derived.Test.YtnbldbbbibpobaaGreatDoorJ05
import Derived.Test.YtnbldbbbibpobaaGreatDoorJ06
import Derived.Test.YtnbldbbbibpobaaGreatDoorJ11
set_option maxRecDepth 100000
set_option maxHeartbeats 4000000
namespace Go.Proofs.YtnbldbbbibpobaaGreatDoor
open Go.RowKit Go.BigFrame
theorem ref_good (o:OpN) (pa:Option Addr) (pc:Nat) (w:World) (ho:o.Ok) (hp:IAt pa o.preds w) (hk:o.d.key.length ≤ 140737488351232) (hv:o.d.val.length ≤ 140737488351232) (hn:o.preds.length ≤ 140737488351232) :
 Calls Tryz.prog 49 #[.agg (opV o pa pc)] w fun e w'=>e = .returned (.bool (decide (GoodO o))) ∧ Below w.heap.size w w':=by
 have b1:Below w.heap.size w (w.alloc (.cells (opV o pa pc) 38)):=(Below.refl _ _).alloc (Nat.le_refl _) _
 have x1:Cells w.heap.size 38 (opV o pa pc) (w.alloc (.cells (opV o pa pc) 38)):=heap_alloc_new w _
 have HP:=Lib.hid (hp.below b1)
 have HB:=Lib.hid b1
 have HX:=Lib.hid x1
 have HGD:=Lib.hid (fun w'=>z7b o.d ho.ref hk hv w')
 have HO:=Lib.hid ho
 have HN:=Lib.hid hn
 clear b1 x1 ho hp hk hv
 go_enter Tryz.func49,Tryz.ntmps49
 go_upto_region 1 with (fail)
 obtain ⟨w1,hw1⟩:∃ x,x = w.alloc (.cells (opV o pa pc) 38):=⟨_,rfl⟩
 rw [← hw1] at HP HB HX ⊢
 obtain ⟨c0,c35,c36,c37⟩:=z0k HO.out.ref.1 HX.out
 clear hw1 c0
 obtain ⟨n,hnn⟩:∃ n,o.preds.length = n:=⟨_,rfl⟩
 have HNN:=Shut.mk hnn
 rw [hnn] at c37 hn
 clear hnn
 go_wp2_with fail
 go_loopw [7] (fun i wr=>∃ k:Nat,k ≤ n ∧ i = .int .i64 k ∧ (∀ j,j < k → 0 < j → z1s (o.preds.getD (j - 1) []) (o.preds.getD j []) = -1) ∧ Below w1.heap.size w1 wr) (fun i _=>n - (intOf i).toNat)
 case atStart=>exact ⟨0,Nat.zero_le _,rfl,fun j hj=>by omega,Below.refl _ _⟩
 case round =>
  obtain ⟨k,hk,rfl,hasc,hb⟩:=hrel
  have HY:=Lib.hid (HB.out.trans (hb.mono HB.out.size))
  have HXW:=Lib.hid (HX.out.below hb)
  have HPW:=Lib.hid (HP.out.below hb)
  have HASC:=Lib.hid hasc
  have HBW:=Lib.hid hb
  obtain ⟨c0,c35,c36,c37⟩:=z0k HO.out.ref.1 HXW.out
  rw [HNN.out] at c37
  clear hasc hb
  by_cases hlt:k < n
  ·by_cases h0:k = 0
   ·subst h0
    go_upto_region 4 with (fail)
    go_quiet (fail)
    go_wp2_with fail
    exact ⟨⟨1,by omega,by go_num,fun j hj h=>by omega,z11 HBW.out _⟩,by simp [intOf];omega⟩
   ·obtain ⟨j,rfl⟩:∃ j,k = j + 1:=⟨k - 1,by omega⟩
    obtain ⟨b,ob,rfl,hbl⟩:=HPW.out.some (by rw [HNN.out];omega)
    have g1:=HPW.out.get (i:=j) (by rw [HNN.out];omega)
    have g2:=HPW.out.get (i:=j + 1) (by rw [HNN.out];omega)
    have i1:=Ids.getD HO.out.preds (i:=j) (by rw [HNN.out];omega)
    have i2:=Ids.getD HO.out.preds (i:=j + 1) (by rw [HNN.out];omega)
    obtain ⟨x,hx⟩:∃ x,o.preds.getD j [] = x:=⟨_,rfl⟩
    obtain ⟨y,hy⟩:∃ y,o.preds.getD (j + 1) [] = y:=⟨_,rfl⟩
    rw [hx] at g1 i1
    rw [hy] at g2 i2
    have HXE:=Shut.mk hx
    have HYE:=Shut.mk hy
    have HC:=Lib.hid (fun w'=>z6p x y i1 i2 w')
    have HR1:=Lib.hid (fun (w':World) (q:Below wr.heap.size wr w')=>show w'.rangeAt b (ob + j * 32) (z06 .u8 x) from z0g g1 q hbl)
    have HR2:=Lib.hid (fun (w':World) (q:Below wr.heap.size wr w')=>show w'.rangeAt b (ob + (j + 1) * 32) (z06 .u8 y) from z0g g2 q hbl)
    have HS1:=Lib.hid (show (Tryz.prog.info? 25).map (·.size) = some x.length by rw [i1.1];exact Tryz.sizeI)
    have HS2:=Lib.hid (show (Tryz.prog.info? 25).map (·.size) = some y.length by rw [i2.1];exact Tryz.sizeI)
    have hxl:=HXW.out.lt
    have HC37:=Lib.hid (fun (w':World) (q:Below wr.heap.size wr w')=>show w'.cell? ⟨w.heap.size,37,none⟩ = some (.slice (some ⟨b,ob,none⟩) n pc) from (q.cell (p:=⟨w.heap.size,37,none⟩) hxl).trans c37)
    obtain ⟨r,hr⟩:∃ r,z1s x y = r:=⟨_,rfl⟩
    rw [hr] at HC
    have HRE:=Shut.mk hr
    have HJ1:=Shut.mk (show ((j + 1:Nat):Int) - 1 = (j:Int) by omega)
    clear hx hy g1 g2 i1 i2 hr h0 c0 c35 c36
    by_cases hrr:r = -1
    ·subst hrr
     go_upto_region 4 with (fail)
     refine z09 (fun w'=>Below wr.heap.size wr w') (by kernel_rfl) (by kernel_rfl) (Below.refl _ _).drew ?_
     repeat (first
      | go_big_quiet_skip
      | (go_big_quiet_want;refine z02 34 _ rfl ⟨w.heap.size,37,none⟩ _ rfl HC37.out Tryz.isAgg34 ?_;go_big_quiet_on;simp only [Act.put,zS,zA,zB])
      | (go_big_quiet_want;refine z0c 25 _ rfl b (ob + j * 32) x _ rfl HR1.out Tryz.underlying25 rfl HS1.out ?_;go_big_quiet_on;simp only [Act.put,zS,zA,zB])
      | (go_big_quiet_want;refine z0c 25 _ rfl b (ob + (j + 1) * 32) y _ rfl HR2.out Tryz.underlying25 rfl HS2.out ?_;go_big_quiet_on;simp only [Act.put,zS,zA,zB])
      | go_big_quiet_step ((intro hs';first
       | rfl
       | (go_at_call 53;exact (HC.out _).mono fun e w' h=>⟨h.1,hs'.trans (h.2.mono hs'.size)⟩))))
     refine wpQuiet_nil ?_
     intro w2 hb2
     go_wp2_with fail
     refine ⟨⟨j + 1 + 1,by omega,by go_num,fun q hq h=>?_,HBW.out.trans (hb2.mono HBW.out.size)⟩,by simp [intOf];omega⟩
     by_cases hqj:q = j + 1
     ·subst hqj
      rw [Nat.add_sub_cancel,HXE.out,HYE.out]
      exact HRE.out
     ·exact HASC.out q (by omega) h
    ·have hrb:(r == -1) = false:=by simp [hrr]
     have HGF:=Shut.mk (show decide (GoodO o) = false from decide_eq_false (fun h=>hrr (by
      have h1:=h.1 (j + 1) (by rw [HNN.out];omega) (by omega)
      rw [Nat.add_sub_cancel,HXE.out,HYE.out] at h1
      rw [← HRE.out,h1])))
     clear hrr
     go_upto_region 4 with (fail)
     refine z09 (fun w'=>Below wr.heap.size wr w') (by kernel_rfl) (by kernel_rfl) (Below.refl _ _).drew ?_
     repeat (first
      | go_big_quiet_skip
      | (go_big_quiet_want;refine z02 34 _ rfl ⟨w.heap.size,37,none⟩ _ rfl HC37.out Tryz.isAgg34 ?_;go_big_quiet_on;simp only [Act.put,zS,zA,zB])
      | (go_big_quiet_want;refine z0c 25 _ rfl b (ob + j * 32) x _ rfl HR1.out Tryz.underlying25 rfl HS1.out ?_;go_big_quiet_on;simp only [Act.put,zS,zA,zB])
      | (go_big_quiet_want;refine z0c 25 _ rfl b (ob + (j + 1) * 32) y _ rfl HR2.out Tryz.underlying25 rfl HS2.out ?_;go_big_quiet_on;simp only [Act.put,zS,zA,zB])
      | go_big_quiet_step ((intro hs';first
       | rfl
       | (go_at_call 53;exact (HC.out _).mono fun e w' h=>⟨h.1,hs'.trans (h.2.mono hs'.size)⟩))))
     refine wpQuiet_nil ?_
     intro w2 hb2
     go_wp2_with fail
     go_ret
     exact ⟨by rw [HGF.out];rfl,HY.out.trans (hb2.mono HY.out.size)⟩
  ·obtain rfl:k = n:=by omega
   have HAS:=Lib.hid (show AscN o.preds from fun j hj h0=>HASC.out j (by rw [← HNN.out];exact hj) h0)
   have hnil:o.preds = [] ↔ k = 0:=by rw [← HNN.out];exact List.length_eq_zero_iff.symm
   obtain ⟨D,hD⟩:∃ D,o.depth = D:=⟨_,rfl⟩
   obtain ⟨A,hA⟩:∃ A,o.author = A:=⟨_,rfl⟩
   rw [hD] at c36
   rw [hA] at c35
   have HGI:=Shut.mk (show GoodO o ↔ (k = 0 → D = 1) ∧ (k ≠ 0 → 2 ≤ D) ∧ k ≤ 32 ∧ GoodD o.d ∧ 0 ≤ A ∧ A ≤ 4 from
    ⟨fun h => ⟨fun e => by rw [← hD]; exact h.2.1 (hnil.2 e), fun e => by rw [← hD]; exact h.2.2.1 (fun e2 => e (hnil.1 e2)), by rw [← HNN.out]; exact h.2.2.2.1, h.2.2.2.2.1, by rw [← hA]; exact h.2.2.2.2.2.1, by rw [← hA]; exact h.2.2.2.2.2.2⟩,
     fun h=>⟨HAS.out,fun e=>by rw [hD];exact h.1 (hnil.1 e),fun e=>by rw [hD];exact h.2.1 (fun e2=>e (hnil.2 e2)),by rw [HNN.out];exact h.2.2.1,h.2.2.2.1,by rw [hA];exact h.2.2.2.2.1,by rw [hA];exact h.2.2.2.2.2⟩⟩)
   have HSD:=Lib.hid (show (Tryz.prog.info? 27).map (·.size) = some (z18 o.d).length by rw [z0s HO.out.ref.1];exact Tryz.sizeD)
   have HC0:=Lib.hid c0
   clear hnil hD c0
   by_cases hbad:(k = 0 ∧ D ≠ 1) ∨ (k ≠ 0 ∧ D < 2) ∨ 32 < k
   ·have HGF:=Shut.mk (show decide (GoodO o) = false from decide_eq_false (fun h=>by have:=HGI.out.1 h;omega))
    by_cases hk0:k = 0
    ·subst hk0
     have hd1:(D == 1) = false:=by simp;omega
     go_wp2_with fail
     go_ret
     exact ⟨by rw [HGF.out];rfl,HY.out⟩
    ·have hk0b:(k == 0) = false:=by simp;omega
     by_cases hd2:D < 2
     ·go_wp2_with fail
      go_ret
      exact ⟨by rw [HGF.out];rfl,HY.out⟩
     ·have h32:32 < k:=by omega
      go_wp2_with fail
      go_ret
      exact ⟨by rw [HGF.out];rfl,HY.out⟩
   ·have HAE:=Shut.mk hA
    clear hA
    by_cases hk0:k = 0
    ·subst hk0
     have hd1:(D == 1) = true:=by simp;omega
     go_wp2_with (refine wpList_load_mid rfl 27 _ rfl w.heap.size 0 rfl (z18 o.d) _ HC0.out Tryz.underlying27 rfl HSD.out ?_)
     refine (HGD.out wr).mono ?_
     rintro e w2 ⟨rfl,hb2⟩
     have HZ:=Lib.hid (HY.out.trans (hb2.mono HY.out.size))
     have HXZ:=Lib.hid (HXW.out.below hb2)
     obtain ⟨_,d35,_,_⟩:=z0k HO.out.ref.1 HXZ.out
     rw [HAE.out] at d35
     clear hb2 HY HXW
     by_cases hg:GoodD o.d
     ·have hgd:decide (GoodD o.d) = true:=decide_eq_true hg
      rw [hgd]
      by_cases ha:0 ≤ A
      ·by_cases ha2:A ≤ 4
       ·have HGT:=Shut.mk (show decide (GoodO o) = true from decide_eq_true (HGI.out.2 ⟨by omega,by omega,by omega,hg,ha,ha2⟩))
        clear hgd hg
        go_wp2_with fail
        go_ret
        exact ⟨by rw [HGT.out];rfl,HZ.out⟩
       ·have HGF:=Shut.mk (show decide (GoodO o) = false from decide_eq_false (fun h=>ha2 (HGI.out.1 h).2.2.2.2.2))
        clear hgd hg
        go_wp2_with fail
        go_ret
        refine ⟨?_,HZ.out⟩
        rw [HGF.out]
        show Ending.returned (Value.bool (decide (A ≤ 4))) = _
        rw [decide_eq_false (by omega)]
      ·have HGF:=Shut.mk (show decide (GoodO o) = false from decide_eq_false (fun h=>ha (HGI.out.1 h).2.2.2.2.1))
       clear hgd hg
       go_wp2_with fail
       go_ret
       exact ⟨by rw [HGF.out];rfl,HZ.out⟩
     ·have hgd:decide (GoodD o.d) = false:=decide_eq_false hg
      have HGF:=Shut.mk (show decide (GoodO o) = false from decide_eq_false (fun h=>hg (HGI.out.1 h).2.2.2.1))
      rw [hgd]
      clear hgd hg
      go_wp2_with fail
      go_ret
      exact ⟨by rw [HGF.out];rfl,HZ.out⟩
    ·have hk0b:(k == 0) = false:=by simp;omega
     have hd2:¬ D < 2:=by omega
     have h32:¬ 32 < k:=by omega
     go_wp2_with (refine wpList_load_mid rfl 27 _ rfl w.heap.size 0 rfl (z18 o.d) _ HC0.out Tryz.underlying27 rfl HSD.out ?_)
     refine (HGD.out wr).mono ?_
     rintro e w2 ⟨rfl,hb2⟩
     have HZ:=Lib.hid (HY.out.trans (hb2.mono HY.out.size))
     have HXZ:=Lib.hid (HXW.out.below hb2)
     obtain ⟨_,d35,_,_⟩:=z0k HO.out.ref.1 HXZ.out
     rw [HAE.out] at d35
     clear hb2 HY HXW
     by_cases hg:GoodD o.d
     ·have hgd:decide (GoodD o.d) = true:=decide_eq_true hg
      rw [hgd]
      by_cases ha:0 ≤ A
      ·by_cases ha2:A ≤ 4
       ·have HGT:=Shut.mk (show decide (GoodO o) = true from decide_eq_true (HGI.out.2 ⟨by omega,by omega,by omega,hg,ha,ha2⟩))
        clear hgd hg
        go_wp2_with fail
        go_ret
        exact ⟨by rw [HGT.out];rfl,HZ.out⟩
       ·have HGF:=Shut.mk (show decide (GoodO o) = false from decide_eq_false (fun h=>ha2 (HGI.out.1 h).2.2.2.2.2))
        clear hgd hg
        go_wp2_with fail
        go_ret
        refine ⟨?_,HZ.out⟩
        rw [HGF.out]
        show Ending.returned (Value.bool (decide (A ≤ 4))) = _
        rw [decide_eq_false (by omega)]
      ·have HGF:=Shut.mk (show decide (GoodO o) = false from decide_eq_false (fun h=>ha (HGI.out.1 h).2.2.2.2.1))
       clear hgd hg
       go_wp2_with fail
       go_ret
       exact ⟨by rw [HGF.out];rfl,HZ.out⟩
     ·have hgd:decide (GoodD o.d) = false:=decide_eq_false hg
      have HGF:=Shut.mk (show decide (GoodO o) = false from decide_eq_false (fun h=>hg (HGI.out.1 h).2.2.2.1))
      rw [hgd]
      clear hgd hg
      go_wp2_with fail
      go_ret
      exact ⟨by rw [HGF.out];rfl,HZ.out⟩
end Go.Proofs.YtnbldbbbibpobaaGreatDoor
namespace Go.Proofs.YtnbldbbbibpobaaGreatDoor
open Go.RowKit
theorem NewC.turn {s:Nat → Bool} {V:Nat → Value} {B i j:Nat} {t:TypeId} {cs:Array Value} {w w':World} {u:Value} (h:NewC s V B j t cs w) (hne:j ≠ i) (hk:∀ g,Cells g t cs w → Cells g t cs w'):NewC (fun j=>s j || j == i) (upd V i u) B j t cs w':=fun hs=>by
 obtain ⟨g,e,hg,hc⟩:=h (z6m hne hs)
 exact ⟨g,by rw [z1r V u hne];exact e,hg,hk g hc⟩
open Go.MapKept
def idV (n:List Nat):Value:=.agg (z06 .u8 n).toArray
theorem zer {a b:List Nat} (h:idV a = idV b):a = b:=by
 have h1:z06 .u8 a = z06 .u8 b:=by
  have:=congrArg (fun v:Value=>v.cells.toList) h
  simpa [idV,Value.cells] using this
 have h2:∀ a b:List Nat,z06 .u8 a = z06 .u8 b → a = b:=by
  intro a
  induction a with
  | nil => intro b hb; cases b with
    | nil=>rfl
    | cons y b=>simp [z06] at hb
  | cons x a ih => intro b hb; cases b with
    | nil=>simp [z06] at hb
    | cons y b =>
      simp only [z06,List.map_cons,List.cons.injEq,Value.int.injEq,true_and] at hb
      rw [show x = y by omega,ih b hb.2]
 exact h2 a b h1
structure MapN (b:Nat) (L:List (List Nat × Value)) (w:World):Prop where
 ex:∃ es clock,w.heap[b]? = some (.map es clock) ∧ Stamped es clock ∧ es.toList.map (fun e=>(e.key,e.val)) = L.map (fun p=>(idV p.1,p.2))
 ok:∀ p ∈ L,IdOk p.1
 nodup:(L.map (·.1)).Nodup
theorem MapN.lt {b:Nat} {L:List (List Nat × Value)} {w:World} (h:MapN b L w):b < w.heap.size:=by
 obtain ⟨es,clock,h1,_⟩:=h.ex
 exact (Array.getElem?_eq_some_iff.1 h1).1
theorem MapN.only {O:Nat → Prop} {b:Nat} {L:List (List Nat × Value)} {w w':World} (h:MapN b L w) (k:Only O w w') (hb:¬ O b):MapN b L w':=by
 have hl:=h.lt
 obtain ⟨es,clock,h1,h2,h3⟩:=h.ex
 exact ⟨⟨es,clock,(k.block b hl hb).trans h1,h2,h3⟩,h.ok,h.nodup⟩
theorem MapN.below {b:Nat} {L:List (List Nat × Value)} {w w':World} (h:MapN b L w) (k:Below w.heap.size w w'):MapN b L w':=h.only (Only.of (O:=fun _=>False) k) id
theorem MapN.notCells {b:Nat} {L:List (List Nat × Value)} {w:World} (h:MapN b L w) {t:TypeId} {cs:Array Value} (hc:Cells b t cs w):False:=by
 obtain ⟨es,clock,h1,_⟩:=h.ex
 have hc':w.heap[b]? = some (.cells cs t (0,0)):=hc
 rw [h1] at hc'
 cases hc'
theorem MapN.notRow {b B n m:Nat} {e:TypeId} {v:Value} {cs:List Value} {L:List (List Nat × Value)} {w:World} (h:MapN b L w) (hr:w.ownsRow B e n v m cs):v.ownBlock ≠ some b:=by
 obtain ⟨es,clock,h1,_⟩:=h.ex
 intro hg
 rcases hr.2 with ⟨h0,_⟩ | ⟨g,cap,cur,h0,_,hh,_⟩
 ·rw [h0] at hg
  cases hg
 ·rw [h0] at hg
  obtain rfl:g = b:=by injection hg
  rw [h1] at hh
  cases hh
def World.putMap (w:World) (b:Nat) (o:Obj):World:={ w with heap:=w.heap.setIfInBounds b o }
theorem z2e (w:World) (b:Nat) (o:Obj):Only (fun x=>x = b) w (World.putMap w b o) :=
 ⟨rfl,rfl,rfl,by simp [World.putMap],fun i hi hn=>by
  show (w.heap.setIfInBounds b o)[i]? = w.heap[i]?
  rw [Array.getElem?_setIfInBounds_ne (Ne.symm hn)]⟩
section
variable {P:Program} {w:World} {T K E u:TypeId}
structure IdKey (P:Program) (K:TypeId):Prop where
 law:Maps.Keyed P K
 reads:∀ n,IdOk n → ∃ l,keyOf P K (idV n) = some l
theorem IdKey.of (hl:laidOutB P = true) (u:TypeId) (hK:P.underlying K = some (.array 32 u)) (hu:P.underlying u = some (.int .u8)) (hrow:decide (K < P.types.size) = true) (hk:P.keyTypeAt 2 K = true) (hk2:P.keyType K = true) (hone:P.cellsOf u = 1) (hc:P.cellsOf K = 32):IdKey P K:=by
 refine ⟨Maps.Keyed.of_law (deep_law_laid hl (m:=2) (by omega) (of_decide_eq_true hrow) hk (by rw [hK])),fun n hn=>?_⟩
 unfold keyOf
 rw [hK]
 have hsz2:(z06 .u8 n).toArray.size = 32:=by rw [List.size_toArray,z0v,hn.1]
 simp only [hk2,idV,Value.formed,hK,hc,hsz2,beq_self_eq_true,Bool.and_self,if_true,Option.map_eq_some_iff]
 suffices h:∃ ls,P.keyLits (P.types.size + 1) K (Value.agg (z06 .u8 n).toArray).cells.toList = some ls by
  obtain ⟨ls,h⟩:=h
  exact ⟨_,ls,h,rfl⟩
 obtain ⟨d,hd⟩:∃ d,P.types.size = d + 1:=⟨P.types.size - 1,(Nat.succ_pred_eq_of_pos (Nat.lt_of_le_of_lt (Nat.zero_le _) (of_decide_eq_true hrow))).symm⟩
 rw [hd]
 unfold Program.keyLits
 simp only [hK,Value.cells,hc,hone,z0v,hn.1,if_true,Option.map_eq_some_iff]
 have each:∀ is:List Nat,(∀ i ∈ is,i < 32) → ∃ ls,(is.mapM fun i=>P.keyLits (d + 1) u (((z06 .u8 n).drop (i * 1)).take 1)) = some ls:=by
  intro is
  induction is with
  | nil=>exact fun _=>⟨[],rfl⟩
  | cons i is ih =>
    intro hi
    obtain ⟨ls,hls⟩:=ih (fun j hj=>hi j (List.mem_cons_of_mem _ hj))
    have hil:=hi i (by simp)
    have hx:((z06 .u8 n).drop (i * 1)).take 1 = [.int .u8 (n[i]'(by have:=hn.1;omega):Int)]:=by
     rw [Nat.mul_one,List.drop_eq_getElem_cons (by rw [z0v];have:=hn.1;omega),List.take_succ_cons,List.take_zero]
     simp [z06]
    have hwf:(Lit.int .u8 (n[i]'(by have:=hn.1;omega):Int)).wf = true:=by
     have:=hn.2 _ (List.getElem_mem (show i < n.length by have:=hn.1;omega))
     simp [Lit.wf,IntKind.min,IntKind.max,IntKind.bits,IntKind.signed]
     omega
    refine ⟨[.int .u8 (n[i]'(by have:=hn.1;omega):Int)] :: ls,?_⟩
    rw [List.mapM_cons,hls,hx]
    unfold Program.keyLits
    simp only [hu,hwf,and_self,if_true]
    rfl
 obtain ⟨ls,hls⟩:=each (List.range 32) (fun i hi=>List.mem_range.1 hi)
 exact ⟨_,ls,hls,rfl⟩
theorem MapN.find (hk:IdKey P K) {b:Nat} {L:List (List Nat × Value)} (h:MapN b L w) {es:Array MapEntry} (hes:es.toList.map (fun e=>(e.key,e.val)) = L.map (fun p=>(idV p.1,p.2))) {n:List Nat} (hn:IdOk n) :
 ((Instr.findKey K (idV n) es.toList).run P w = .ok none w ∧ (∀ e ∈ es.toList,e.key ≠ idV n) ∧ n ∉ L.map (·.1)) ∨
 ∃ j e v,(Instr.findKey K (idV n) es.toList).run P w = .ok (some (j,v)) w ∧ es.toList[j]? = some e ∧ e.key = idV n ∧ e.val = v ∧ L[j]? = some (n,v):=by
 obtain ⟨lx,hlx⟩:=hk.reads n hn
 have hlen:es.toList.length = L.length:=by
  have:=congrArg List.length hes
  simpa using this
 have get:∀ j (hj:j < L.length),(es.toList[j]'(by omega)).key = idV (L[j]).1 ∧ (es.toList[j]'(by omega)).val = (L[j]).2:=fun j hj=>by
  have h1:=congrArg (fun l=>l[j]?) hes
  simp only [List.getElem?_map,List.getElem?_eq_getElem hj,List.getElem?_eq_getElem (show j < es.toList.length by omega),Option.map_some,Option.some.injEq,Prod.mk.injEq] at h1
  exact h1
 have hall:∀ e ∈ es.toList,∃ l,keyOf P K e.key = some l:=fun e he=>by
  obtain ⟨j,hj,rfl⟩:=List.getElem_of_mem he
  rw [(get j (by omega)).1]
  exact hk.reads _ (h.ok _ (List.getElem_mem _))
 rcases hk.law.find w hlx es.toList hall with ⟨h1,h2⟩ | ⟨j,e,h1,h2,h3⟩
 ·refine .inl ⟨h1,h2,fun hm=>?_⟩
  obtain ⟨p,hp,rfl⟩:=List.mem_map.1 hm
  obtain ⟨j,hj,rfl⟩:=List.getElem_of_mem hp
  exact h2 _ (List.getElem_mem (show j < es.toList.length by omega)) (get j hj).1
 ·obtain ⟨hj,he⟩:=List.getElem?_eq_some_iff.1 h2
  obtain ⟨g1,g2⟩:=get j (by omega)
  rw [he] at g1 g2
  refine .inr ⟨j,e,e.val,h1,h2,h3,rfl,?_⟩
  rw [List.getElem?_eq_getElem (by omega),g2]
  have:=zer (g1.symm.trans h3)
  rw [← this]
theorem MapN.lookup (hk:IdKey P K) (hT:P.underlying T = some (.map K E)) {z:Value} (hz:(zeroValue E).run P w = .ok z w) (c:Bool) {b:Nat} {L:List (List Nat × Value)} (h:MapN b L w) {n:List Nat} (hn:IdOk n) :
 (Instr.lookup T (.map (some b)) (idV n) c).run P w = .ok (if c then .tuple #[atE L z n,.bool (decide (n ∈ L.map (·.1)))] else atE L z n) w:=by
 obtain ⟨es,clock,hb,hs,hes⟩:=h.ex
 obtain ⟨lx,hlx⟩:=hk.reads n hn
 rcases h.find hk hes hn with ⟨h1,h2,h3⟩ | ⟨j,e,v,h1,h2,h3,h4,h5⟩
 ·rw [atE,z1q h3,decide_eq_false h3]
  simp [Instr.lookup,run_underlying hT,MapKept.run_getObj_map hb,hk.law.check w _ hlx,h1,hz,Result.andThen]
 ·rw [atE,z2u h.nodup h5,decide_eq_true (List.mem_map.2 ⟨(n,v),List.mem_of_getElem? h5,rfl⟩)]
  simp [Instr.lookup,run_underlying hT,MapKept.run_getObj_map hb,hk.law.check w _ hlx,h1,Result.andThen]
theorem MapN.update (hk:IdKey P K) (hT:P.underlying T = some (.map K E)) {b:Nat} {L:List (List Nat × Value)} (h:MapN b L w) {n:List Nat} (hn:IdOk n) (v:Value) :
 ∃ w',(Instr.mapUpdate T (.map (some b)) (idV n) v).run P w = .ok () w' ∧ MapN b (z2v L n v) w' ∧ Only (fun x=>x = b) w w':=by
 obtain ⟨es,clock,hb,hs,hes⟩:=h.ex
 obtain ⟨lx,hlx⟩:=hk.reads n hn
 rcases h.find hk hes hn with ⟨h1,h2,h3⟩ | ⟨j,e,x,h1,h2,h3,h4,h5⟩
 ·refine ⟨World.putMap w b (.map (es.push ⟨idV n,v,clock⟩) (clock + 1)),?_,⟨⟨_,_,(heap_set hb).1,stamped_push hs h2,?_⟩,?_,?_⟩,z2e _ _ _⟩
  ·simp [Instr.mapUpdate,run_underlying hT,MapKept.run_getObj_map hb,hk.law.check w _ hlx,h1,MapKept.run_setObj_map _ hb,Result.andThen,World.putMap]
  ·rw [z1p h3,Array.toList_push,List.map_append,List.map_append,hes]
   rfl
  ·rw [z1p h3]
   intro p hp
   rcases List.mem_append.1 hp with hp | hp
   ·exact h.ok p hp
   ·obtain rfl:=List.mem_singleton.1 hp
    exact hn
  ·rw [z1p h3,List.map_append]
   refine List.nodup_append.2 ⟨h.nodup,by simp,fun a ha c hc=>?_⟩
   obtain rfl:c = n:=by simpa using hc
   rintro rfl
   exact h3 ha
 ·have hm:n ∈ L.map (·.1):=List.mem_map.2 ⟨(n,x),List.mem_of_getElem? h5,rfl⟩
  have hj:es[j]? = some e:=by simpa using h2
  have hkeyf:∀ e',es[j]? = some e' → ({ e' with key:=idV n,val:=v }:MapEntry).key = e'.key:=fun e' he'=>by rw [hj] at he';cases he';exact h3.symm
  refine ⟨World.putMap w b (.map (es.modify j fun e'=>{ e' with key:=idV n,val:=v }) clock),?_,⟨⟨_,_,(heap_set hb).1,stamped_modify hs _ _ (fun _ _=>rfl) (fun e' _ he'=>hkeyf e' he'),?_⟩,?_,?_⟩,z2e _ _ _⟩
  ·simp [Instr.mapUpdate,run_underlying hT,MapKept.run_getObj_map hb,hk.law.check w _ hlx,h1,hj,h3,hk.law.stays w hlx,MapKept.run_setObj_map _ hb,Result.andThen,World.putMap]
  ·have hlist:(es.modify j (fun e'=>{ e' with key:=idV n,val:=v })).toList = es.toList.set j { e with key:=idV n,val:=v }:=by rw [Array.toList_modify,ChangeMaps.modify_eq_set _ _ _ _ h2]
   rw [z88 h.nodup v h5,hlist,List.map_set,List.map_set,hes]
  ·intro p hp
   have:p.1 ∈ (z2v L n v).map (·.1):=List.mem_map.2 ⟨p,hp,rfl⟩
   rw [z9e hm] at this
   obtain ⟨q,hq,hqp⟩:=List.mem_map.1 this
   rw [← hqp]
   exact h.ok q hq
  ·rw [z9e hm]
   exact h.nodup
theorem MapN.delete (hk:IdKey P K) (hT:P.underlying T = some (.map K E)) {b:Nat} {L:List (List Nat × Value)} (h:MapN b L w) {n:List Nat} (hn:IdOk n) (ty:TypeId) :
 ∃ w',(Builtin.delete_ #[T,K] ty #[.map (some b),idV n]).run P w = .ok (.tuple #[]) w' ∧ MapN b (z49 L n) w' ∧ Only (fun x=>x = b) w w':=by
 obtain ⟨es,clock,hb,hs,hes⟩:=h.ex
 obtain ⟨lx,hlx⟩:=hk.reads n hn
 rcases h.find hk hes hn with ⟨h1,h2,h3⟩ | ⟨j,e,x,h1,h2,h3,h4,h5⟩
 ·refine ⟨World.putMap w b (.map es clock),?_,⟨⟨_,_,(heap_set hb).1,hs,by rw [z3n h3];exact hes⟩,by rw [z3n h3];exact h.ok,by rw [z3n h3];exact h.nodup⟩,z2e _ _ _⟩
  simp [Builtin.delete_,run_underlying hT,MapKept.run_getObj_map hb,hk.law.check w _ hlx,h1,MapKept.run_setObj_map _ hb,Result.andThen,World.putMap]
 ·have hjl:j < es.size:=by simpa using (List.getElem?_eq_some_iff.1 h2).1
  have hsub:(es.eraseIdxIfInBounds j).toList = es.toList.eraseIdx j:=by
   unfold Array.eraseIdxIfInBounds
   rw [dif_pos hjl]
   simp
  have hd:=z7e h.nodup h5
  refine ⟨World.putMap w b (.map (es.eraseIdxIfInBounds j) clock),?_,⟨⟨_,_,(heap_set hb).1,stamped_erase hs _,?_⟩,?_,?_⟩,z2e _ _ _⟩
  ·simp [Builtin.delete_,run_underlying hT,MapKept.run_getObj_map hb,hk.law.check w _ hlx,h1,MapKept.run_setObj_map _ hb,Result.andThen,World.putMap]
  ·rw [hd,hsub,ChangeMaps.map_eraseIdx,ChangeMaps.map_eraseIdx,hes]
  ·intro p hp
   exact h.ok p (List.mem_filter.1 hp).1
  ·exact (List.Sublist.map _ List.filter_sublist).nodup h.nodup
theorem MapN.len (hT:P.underlying T = some (.map K E)) {b:Nat} {L:List (List Nat × Value)} (h:MapN b L w) (ty:TypeId):(Builtin.len_ #[T] ty #[.map (some b)]).run P w = .ok (.int .i64 L.length) w:=by
 obtain ⟨es,clock,hb,hs,hes⟩:=h.ex
 have hlen:es.size = L.length:=by
  have:=congrArg List.length hes
  simpa using this
 simp [Builtin.len_,run_underlying hT,MapKept.run_getObj_map hb,Result.andThen,goInt,hlen]
theorem z90 (w:World):MapN w.heap.size [] (w.alloc (.map #[] 0)) :=
 ⟨⟨#[],0,(heap_alloc w _).1,stamped_empty 0,rfl⟩,fun p hp=>(by cases hp),List.nodup_nil⟩
end
section
variable {P:Program} {w w':World} {T K E:TypeId} {b:Nat} {L:List (List Nat × Value)} {n:List Nat}
def zfl (L:List (List Nat × Value)) (z:Value) (n:List Nat):List (List Nat × Value):=if n ∈ L.map (·.1) then L else L ++ [(n,z)]
theorem put_ent (z:Value) (v:Value) (hd:(L.map (·.1)).Nodup):z2v (zfl L z n) n v = z2v L n v:=by
 by_cases hn:n ∈ L.map (·.1)
 ·rw [zfl,if_pos hn]
 ·rw [zfl,if_neg hn]
  have hg:(L ++ [(n,z)])[L.length]? = some (n,z):=by rw [List.getElem?_append_right (Nat.le_refl _),Nat.sub_self];rfl
  have hd2:((L ++ [(n,z)]).map (·.1)).Nodup:=by
   rw [← z1p hn]
   exact z68 hd _ _
  rw [z88 hd2 v hg,z1p hn,List.set_append_right _ _ (Nat.le_refl _),Nat.sub_self]
  rfl
structure MapE (b:Nat) (L:List (List Nat × Value)) (n:List Nat) (born:Int) (w:World):Prop where
 map:MapN b L w
 stamp:∃ (es:Array MapEntry) (clock j:Nat) (e:MapEntry),w.heap[b]? = some (.map es clock) ∧ es.toList[j]? = some e ∧ e.key = idV n ∧ (e.born:Int) = born
theorem MapE.only {O:Nat → Prop} {born:Int} (h:MapE b L n born w) (k:Only O w w') (hb:¬ O b):MapE b L n born w':=by
 obtain ⟨es,clock,j,e,h1,h2⟩:=h.stamp
 exact ⟨h.map.only k hb,es,clock,j,e,(k.block b h.map.lt hb).trans h1,h2⟩
theorem MapN.entry (hk:IdKey P K) (hT:P.underlying T = some (.map K E)) {z:Value} (hz:(zeroValue E).run P w = .ok z w) (h:MapN b L w) (hn:IdOk n) :
 ∃ w' born, (Instr.mapEntry T (.map (some b)) (idV n)).run P w = .ok (.tuple #[atE L z n, .int .i64 born]) w' ∧ MapE b (zfl L z n) n born w' ∧ Only (fun x => x = b) w w' ∧
   ∀ es clock,w.heap[b]? = some (.map es clock) → (∀ e ∈ es.toList,e.key = idV n → (e.born:Int) = born) ∧ ((∀ e ∈ es.toList,e.key ≠ idV n) → born = (clock:Int)):=by
 obtain ⟨es,clock,hb,hs,hes⟩:=h.ex
 obtain ⟨lx,hlx⟩:=hk.reads n hn
 rcases h.find hk hes hn with ⟨h1,h2,h3⟩ | ⟨j,e,x,h1,h2,h3,h4,h5⟩
 ·have hup:=(heap_set (o':=.map (es.push ⟨idV n,z,clock⟩) (clock + 1)) hb).1
  refine ⟨World.putMap w b (.map (es.push ⟨idV n,z,clock⟩) (clock + 1)),clock,?_,⟨⟨⟨_,_,hup,stamped_push hs h2,?_⟩,?_,?_⟩,_,_,es.size,⟨idV n,z,clock⟩,hup,?_,rfl,rfl⟩,z2e _ _ _,fun es' clock' hb'=>?_⟩
  ·rw [atE,z1q h3]
   simp [Instr.mapEntry,run_underlying hT,MapKept.run_getObj_map hb,hk.law.check w _ hlx,h1,hz,MapKept.run_setObj_map _ hb,Result.andThen,World.putMap,goInt]
  ·rw [zfl,if_neg h3,Array.toList_push,List.map_append,List.map_append,hes]
   rfl
  ·rw [zfl,if_neg h3]
   intro p hp
   rcases List.mem_append.1 hp with hp | hp
   ·exact h.ok p hp
   ·obtain rfl:=List.mem_singleton.1 hp
    exact hn
  ·rw [zfl,if_neg h3,← z1p h3]
   exact z68 h.nodup _ _
  ·rw [Array.toList_push,List.getElem?_append_right (by simp)]
   simp
  ·rw [hb] at hb'
   injection hb' with hb'
   injection hb' with he hc
   subst he hc
   exact ⟨fun e he hk=>absurd hk (h2 e he),fun _=>rfl⟩
 ·have hm:n ∈ L.map (·.1):=List.mem_map.2 ⟨(n,x),List.mem_of_getElem? h5,rfl⟩
  have hj:es[j]? = some e:=by simpa using h2
  have hkeyf:∀ e',es[j]? = some e' → ({ e' with key:=idV n }:MapEntry).key = e'.key:=fun e' he'=>by rw [hj] at he';cases he';exact h3.symm
  have hup:=(heap_set (o':=.map (es.modify j fun e'=>{ e' with key:=idV n }) clock) hb).1
  have hlist:(es.modify j (fun e'=>{ e' with key:=idV n })).toList = es.toList.set j { e with key:=idV n }:=by rw [Array.toList_modify,ChangeMaps.modify_eq_set _ _ _ _ h2]
  have hsame:({ e with key:=idV n }:MapEntry) = e:=by rw [← h3]
  have hjl:=(List.getElem?_eq_some_iff.1 h2).1
  have hset:es.toList.set j e = es.toList:=by
   refine List.ext_getElem? fun i=>?_
   by_cases hij:j = i
   ·subst hij
    rw [List.getElem?_set_self hjl,h2]
   ·rw [List.getElem?_set_ne hij]
  rw [hsame,hset] at hlist
  refine ⟨World.putMap w b (.map (es.modify j fun e'=>{ e' with key:=idV n }) clock),e.born,?_,⟨⟨⟨_,_,hup,stamped_modify hs _ _ (fun _ _=>rfl) (fun e' _ he'=>hkeyf e' he'),?_⟩,?_,?_⟩,_,_,j,e,hup,?_,h3,rfl⟩,z2e _ _ _,fun es' clock' hb'=>?_⟩
  ·rw [atE,z2u h.nodup h5]
   simp [Instr.mapEntry,run_underlying hT,MapKept.run_getObj_map hb,hk.law.check w _ hlx,h1,hj,h3,hk.law.stays w hlx,MapKept.run_setObj_map _ hb,Result.andThen,World.putMap,goInt]
  ·rw [zfl,if_pos hm,hlist,hes]
  ·rw [zfl,if_pos hm];exact h.ok
  ·rw [zfl,if_pos hm];exact h.nodup
  ·rw [hlist];exact h2
  ·rw [hb] at hb'
   injection hb' with hb'
   injection hb' with he hc
   subst he hc
   refine ⟨fun e' he hk=>?_,fun hall=>absurd h3 (hall e (List.mem_of_getElem? h2))⟩
   obtain ⟨i,hi,rfl⟩:=List.getElem_of_mem he
   have hb1:(es.toList.map (·.key))[i]? = (es.toList.map (·.key))[j]?:=by
    rw [List.getElem?_map,List.getElem?_map,h2,List.getElem?_eq_getElem hi,Option.map_some,Option.map_some,hk,h3]
   have:=(List.getElem?_inj (by rw [List.length_map];exact hi) hs.2.2).1 hb1
   subst this
   rw [List.getElem?_eq_getElem hi] at h2
   rw [Option.some.inj h2]
theorem MapN.entryAt (hk:IdKey P K) (hT:P.underlying T = some (.map K E)) {z:Value} (hz:∀ w,(zeroValue E).run P w = .ok z w) (h:MapN b L w) (hn:IdOk n) :
 ∃ born,∀ w2,w2.heap[b]? = w.heap[b]? → ∃ w',(Instr.mapEntry T (.map (some b)) (idV n)).run P w2 = .ok (.tuple #[atE L z n,.int .i64 born]) w' ∧ MapE b (zfl L z n) n born w' ∧ Only (fun x=>x = b) w2 w':=by
 obtain ⟨_,born,_,_,_,h4⟩:=h.entry hk hT (hz w) hn
 refine ⟨born,fun w2 h2=>?_⟩
 obtain ⟨es,clock,hb,hs,hes⟩:=h.ex
 have hb2:=h2.trans hb
 have hm2:MapN b L w2:=⟨⟨es,clock,hb2,hs,hes⟩,h.ok,h.nodup⟩
 obtain ⟨w',born2,g1,g2,g3,g4⟩:=hm2.entry hk hT (hz w2) hn
 obtain ⟨p1,p2⟩:=h4 es clock hb
 obtain ⟨q1,q2⟩:=g4 es clock hb2
 have he:born2 = born:=by
  by_cases hex:∃ e ∈ es.toList,e.key = idV n
  ·obtain ⟨e,he,hk⟩:=hex
   rw [← p1 e he hk,← q1 e he hk]
  ·have hall:∀ e ∈ es.toList,e.key ≠ idV n:=fun e he hk=>hex ⟨e,he,hk⟩
   rw [p2 hall,q2 hall]
 subst he
 exact ⟨w',g1,g2,g3⟩
theorem MapE.store {born:Int} (h:MapE b L n born w) (hn:IdOk n) (v:Value) :
 ∃ w',(Instr.entryStore T (.map (some b)) (.int .i64 born) v).run P w = .ok () w' ∧ MapN b (z2v L n v) w' ∧ Only (fun x=>x = b) w w':=by
 obtain ⟨es,clock,hb,hs,hes⟩:=h.map.ex
 obtain ⟨es',clock',j,e,hb',h2,h3,h4⟩:=h.stamp
 rw [hb] at hb'
 injection hb' with hb'
 injection hb' with he hc
 subst he hc
 have hjl:=(List.getElem?_eq_some_iff.1 h2).1
 have hlen:es.toList.length = L.length:=by
  have:=congrArg List.length hes
  simpa using this
 have hget:(idV (L[j]'(by omega)).1,(L[j]'(by omega)).2) = (e.key,e.val):=by
  have h1:=congrArg (fun l=>l[j]?) hes
  simp only [List.getElem?_map,h2,List.getElem?_eq_getElem (show j < L.length by omega),Option.map_some,Option.some.injEq] at h1
  exact h1.symm
 have hL:L[j]? = some (n,e.val):=by
  rw [List.getElem?_eq_getElem (by omega)]
  have g1:(L[j]'(by omega)).1 = n:=zer ((congrArg Prod.fst hget).trans h3)
  have g2:(L[j]'(by omega)).2 = e.val:=congrArg Prod.snd hget
  rw [← g1,← g2]
 have hj:es[j]? = some e:=by simpa using h2
 have hfind:es.findIdx? (fun e'=>(e'.born:Int) == born) = some j:=by
  rw [show es = es.toList.toArray from rfl,List.findIdx?_toArray]
  refine List.findIdx?_eq_some_iff_getElem.2 ⟨hjl,?_,fun i hi=>?_⟩
  ·have:es.toList[j] = e:=by rw [List.getElem?_eq_getElem hjl] at h2;exact Option.some.inj h2
   rw [this,h4]
   simp
  ·have hne:(es.toList[i]'(by omega)).born ≠ e.born:=by
    intro he
    have hb1:(es.toList.map (·.born))[i]? = (es.toList.map (·.born))[j]?:=by
     rw [List.getElem?_map,List.getElem?_map,h2,List.getElem?_eq_getElem (by omega),Option.map_some,Option.map_some,he]
    have:=(List.getElem?_inj (by rw [List.length_map];omega) hs.2.1).1 hb1
    omega
   rw [← h4]
   simpa using fun q=>hne (by exact_mod_cast q)
 refine ⟨World.putMap w b (.map (es.modify j fun e'=>{ e' with val:=v }) clock),?_,⟨⟨_,_,(heap_set hb).1,stamped_modify hs _ _ (fun _ _=>rfl) (fun _ _ _=>rfl),?_⟩,?_,z68 h.map.nodup _ _⟩,z2e _ _ _⟩
 ·simp [Instr.entryStore,MapKept.run_getObj_map hb,asInt,asIntOf,hfind,MapKept.run_setObj_map _ hb,Result.andThen,World.putMap]
 ·have hlist:(es.modify j (fun e'=>{ e' with val:=v })).toList = es.toList.set j { e with val:=v }:=by rw [Array.toList_modify,ChangeMaps.modify_eq_set _ _ _ _ h2]
  rw [z88 h.map.nodup v hL,hlist,List.map_set,List.map_set,hes]
  show (List.map _ L).set j (e.key,v) = (List.map _ L).set j (idV n,v)
  rw [h3]
 ·intro p hp
  rw [z88 h.map.nodup v hL] at hp
  rcases List.mem_or_eq_of_mem_set hp with hp | rfl
  ·exact h.map.ok p hp
  ·exact hn
end
section
variable {P:Program} {w:World} {T K E:TypeId} {ops:Array Oper} {rest:List Oper} {o:Oper} {a:Act} {Q:Exit → Act → World → Prop}
theorem z3f (hg:o.guard = none) (m x y:Operand) (T K E:TypeId) (ho:o.op = .mapUpdate T m x y) (hk:IdKey P K) (hT:P.underlying T = some (.map K E)) (b:Nat) (L:List (List Nat × Value)) (h:MapN b L w) (n:List Nat) (hn:IdOk n) (v:Value)
 (hm:a.eval m = .map (some b)) (hx:a.eval x = idV n) (hy:a.eval y = v) (hK:∀ w',Hid (MapN b (z2v L n v) w') → Hid (Only (fun x=>x = b) w w') → wpList P ops Q rest (a.put o.dst undef) w'):wpList P ops Q (o :: rest) a w:=by
 refine wpList_plain hg fun K' hK'=>?_
 obtain ⟨w',h1,h2,h3⟩:=h.update hk hT hn v
 unfold Oper.wp execOp
 simp only [ho,hm,hx,hy,h1,Sem.run_bind,Sem.run_pure,Result.andThen_ok]
 exact hK' _ _ (hK w' h2 h3)
theorem z3i (hg:o.guard = none) (m x:Operand) (T K E:TypeId) (ho:o.op = .call { callee:=.builtin .delete,args:=#[m,x],argTypes:=#[T,K] }) (hk:IdKey P K) (hT:P.underlying T = some (.map K E)) (b:Nat) (L:List (List Nat × Value)) (h:MapN b L w) (n:List Nat) (hn:IdOk n)
 (hm:a.eval m = .map (some b)) (hx:a.eval x = idV n) (hK:∀ w',Hid (MapN b (z49 L n) w') → Hid (Only (fun x=>x = b) w w') → wpList P ops Q rest (a.put o.dst (.tuple #[])) w'):wpList P ops Q (o :: rest) a w:=by
 refine wpList_plain hg fun K' hK'=>?_
 obtain ⟨w',h1,h2,h3⟩:=h.delete hk hT hn o.type
 unfold Oper.wp execOp
 simp only [ho,hm,hx,resolve,invoke,builtin,Sem.run_bind,Sem.run_pure,Result.andThen_ok,List.map_toArray,List.map_cons,List.map_nil,h1]
 exact hK' _ _ (hK w' h2 h3)
theorem z6f (hg:o.guard = none) (m x y:Operand) (T:TypeId) (ho:o.op = .entryStore T m x y) (b:Nat) (L:List (List Nat × Value)) (n:List Nat) (born:Int) (h:MapE b L n born w) (hn:IdOk n) (v:Value)
 (hm:a.eval m = .map (some b)) (hx:a.eval x = .int .i64 born) (hy:a.eval y = v) (hK:∀ w',Hid (MapN b (z2v L n v) w') → Hid (Only (fun x=>x = b) w w') → wpList P ops Q rest (a.put o.dst undef) w'):wpList P ops Q (o :: rest) a w:=by
 refine wpList_plain hg fun K' hK'=>?_
 obtain ⟨w',h1,h2,h3⟩:=h.store (P:=P) (T:=T) hn v
 unfold Oper.wp execOp
 simp only [ho,hm,hx,hy,h1,Sem.run_bind,Sem.run_pure,Result.andThen_ok]
 exact hK' _ _ (hK w' h2 h3)
theorem z6y (hg:o.guard = none) (m:Operand) (T K E:TypeId) (ho:o.op = .call { callee:=.builtin .len,args:=#[m],argTypes:=#[T] }) (hT:P.underlying T = some (.map K E)) (b:Nat) (L:List (List Nat × Value)) (h:MapN b L w)
 (hm:a.eval m = .map (some b)) (hK:wpList P ops Q rest (a.put o.dst (.int .i64 L.length)) w):wpList P ops Q (o :: rest) a w:=by
 refine wpList_plain hg fun K' hK'=>?_
 unfold Oper.wp execOp
 simp only [ho,hm,resolve,invoke,builtin,Sem.run_bind,Sem.run_pure,Result.andThen_ok,List.map_toArray,List.map_cons,List.map_nil,h.len hT o.type]
 exact hK' _ _ hK
end
end Go.Proofs.YtnbldbbbibpobaaGreatDoor
namespace Go.Proofs.YtnbldbbbibpobaaGreatDoor
open Go.RowKit Go.BigFrame
theorem Tryz.idKey:IdKey Tryz.prog 25 :=
 IdKey.of (by kernel_rfl) 5 Tryz.underlying25 Tryz.underlying5 (by kernel_rfl) (by kernel_rfl) (by kernel_rfl) (by kernel_rfl) (by kernel_rfl)
structure Bs where
 gs:Nat
 p:Nat
 w:Nat
 h:Nat
 b:Nat
structure Ents where
 p:List (List Nat × Value)
 w:List (List Nat × Value)
 b:List (List Nat × Value)
def EntsO (X:Nat → Prop) (L:List OpN) (E:List (List Nat × Value)) (w:World):Prop :=
 E.length = L.length ∧ ∀ (i:Nat) (x:OpN),L[i]? = some x → ∃ pa pc,E[i]? = some (z0a x,.agg (opV x pa pc)) ∧ IAt pa x.preds w ∧ OffX X pa x.preds
structure EntsB (X:Nat → Prop) (M:Bh) (E:List (List Nat × Value)) (w:World):Prop where
 len:E.length = M.length
 ent:∀ (i:Nat) (q:List Nat × List (List Nat)),M[i]? = some q → ∃ v,E[i]? = some (q.1,v) ∧ OwnI 0 25 v q.2 w ∧ ∀ b,v.ownBlock = some b → X b
 apart:∀ (i j:Nat) (p q:List Nat) (u v:Value),E[i]? = some (p,u) → E[j]? = some (q,v) → i ≠ j → ∀ b,u.ownBlock = some b → v.ownBlock ≠ some b
 ids:∀ q ∈ M,Ids q.2
def z58 (hs:List (List Nat)):List (List Nat × Value):=hs.map fun n=>(n,.agg #[])
structure SetAt (X:Nat → Prop) (B:Bs) (T:Ents) (s:DagN) (hs:List (List Nat)) (M:Bh) (w:World):Prop where
 cells:Cells B.gs 80 #[.map (some B.p),.map (some B.w),.map (some B.h),.map (some B.b)] w
 pm:MapN B.p T.p w
 wm:MapN B.w T.w w
 hm:MapN B.h (z58 hs) w
 bm:MapN B.b T.b w
 ops:EntsO X s.ops T.p w
 wait:EntsO X s.wait T.w w
 beh:EntsB X M T.b w
 mine:X B.gs ∧ X B.p ∧ X B.w ∧ X B.h ∧ X B.b
 apart:B.p ≠ B.w ∧ B.p ≠ B.h ∧ B.p ≠ B.b ∧ B.w ≠ B.h ∧ B.w ≠ B.b ∧ B.h ≠ B.b
def SetO (B:Bs) (T:Ents):Nat → Prop:=fun b=>b = B.gs ∨ b = B.p ∨ b = B.w ∨ b = B.h ∨ b = B.b ∨ ∃ p v,(p,v) ∈ T.b ∧ v.ownBlock = some b
section
variable {X Y O:Nat → Prop} {B:Bs} {T:Ents} {s:DagN} {hs:List (List Nat)} {M:Bh} {w w':World} {E:List (List Nat × Value)} {L:List OpN}
theorem EntsO.only (h:EntsO X L E w) (k:Only O w w') (hO:∀ b,O b → X b):EntsO X L E w' :=
 ⟨h.1,fun i x hx=>by
  obtain ⟨pa,pc,h1,h2,h3⟩:=h.2 i x hx
  exact ⟨pa,pc,h1,h2.only k (h3.mono hO),h3⟩⟩
theorem EntsO.below (h:EntsO X L E w) (k:Below w.heap.size w w'):EntsO X L E w':=h.only (Only.of (O:=fun _=>False) k) (fun _ e=>e.elim)
theorem EntsO.mono (h:EntsO X L E w) (hY:∀ b,Y b → X b):EntsO Y L E w :=
 ⟨h.1,fun i x hx=>by
  obtain ⟨pa,pc,h1,h2,h3⟩:=h.2 i x hx
  exact ⟨pa,pc,h1,h2,h3.mono hY⟩⟩
theorem EntsO.keys (h:EntsO X L E w):E.map (·.1) = L.map z0a:=by
 refine List.ext_getElem? fun i=>?_
 rw [List.getElem?_map,List.getElem?_map]
 cases hx:L[i]? with
 | none=>rw [List.getElem?_eq_none (by rw [h.1];exact List.getElem?_eq_none_iff.1 hx)];rfl
 | some x =>
   obtain ⟨pa,pc,h1,_⟩:=h.2 i x hx
   rw [h1]
   rfl
theorem EntsO.push (h:EntsO X L E w) (x:OpN) (pa:Option Addr) (pc:Nat) (h1:IAt pa x.preds w) (h2:OffX X pa x.preds):EntsO X (L ++ [x]) (E ++ [(z0a x,.agg (opV x pa pc))]) w:=by
 refine ⟨by rw [List.length_append,List.length_append,h.1];rfl,fun i y hy=>?_⟩
 rcases Nat.lt_trichotomy i L.length with hi | hi | hi
 ·rw [List.getElem?_append_left hi] at hy
  rw [List.getElem?_append_left (by rw [h.1];exact hi)]
  exact h.2 i y hy
 ·subst hi
  rw [List.getElem?_append_right (Nat.le_refl _),Nat.sub_self] at hy
  obtain rfl:x = y:=by simpa using hy
  refine ⟨pa,pc,?_,h1,h2⟩
  rw [← h.1,List.getElem?_append_right (Nat.le_refl _),Nat.sub_self]
  rfl
 ·rw [List.getElem?_eq_none (by simp;omega)] at hy
  cases hy
theorem EntsO.erase (h:EntsO X L E w) (i:Nat):EntsO X (L.eraseIdx i) (E.eraseIdx i) w:=by
 refine ⟨by simp only [List.length_eraseIdx,h.1],fun j y hy=>?_⟩
 rw [List.getElem?_eraseIdx] at hy ⊢
 split at hy
 ·rename_i hj
  rw [if_pos hj]
  exact h.2 j y hy
 ·rename_i hj
  rw [if_neg hj]
  exact h.2 (j + 1) y hy
theorem EntsO.here (h:EntsO X L E w) (hd:(E.map (·.1)).Nodup) {i:Nat} {x:OpN} (hx:L[i]? = some x):∃ pa pc,E[i]? = some (z0a x,.agg (opV x pa pc)) ∧ E.lookup (z0a x) = some (.agg (opV x pa pc)) ∧ IAt pa x.preds w ∧ OffX X pa x.preds:=by
 obtain ⟨pa,pc,h1,h2,h3⟩:=h.2 i x hx
 exact ⟨pa,pc,h1,z2u hd h1,h2,h3⟩
theorem EntsO.not (h:EntsO X L E w) {n:List Nat} (hn:n ∉ L.map z0a):E.lookup n = none:=z1q (by rw [h.keys];exact hn)
theorem EntsB.below (h:EntsB X M E w) (k:Below w.heap.size w w'):EntsB X M E w' :=
 ⟨h.len,fun i q hq=>by
  obtain ⟨v,h1,h2,h3⟩:=h.ent i q hq
  exact ⟨v,h1,h2.below k,h3⟩,h.apart,h.ids⟩
theorem EntsB.only (h:EntsB X M E w) (k:Only O w w') (hO:∀ p v b,(p,v) ∈ E → v.ownBlock = some b → ¬ O b):EntsB X M E w' :=
 ⟨h.len,fun i q hq=>by
  obtain ⟨v,h1,h2,h3⟩:=h.ent i q hq
  exact ⟨v,h1,h2.only k (fun g hg=>hO _ _ g (List.mem_of_getElem? h1) hg),h3⟩,h.apart,h.ids⟩
theorem EntsB.mono (h:EntsB X M E w) (hY:∀ p v b,(p,v) ∈ E → v.ownBlock = some b → Y b):EntsB Y M E w :=
 ⟨h.len,fun i q hq=>by
  obtain ⟨v,h1,h2,h3⟩:=h.ent i q hq
  exact ⟨v,h1,h2,fun b hb=>hY _ _ b (List.mem_of_getElem? h1) hb⟩,h.apart,h.ids⟩
theorem EntsB.keys (h:EntsB X M E w):E.map (·.1) = M.map (·.1):=by
 refine List.ext_getElem? fun i=>?_
 rw [List.getElem?_map,List.getElem?_map]
 cases hx:M[i]? with
 | none=>rw [List.getElem?_eq_none (by rw [h.len];exact List.getElem?_eq_none_iff.1 hx)];rfl
 | some q =>
   obtain ⟨v,h1,_⟩:=h.ent i q hx
   rw [h1]
   rfl
theorem EntsB.x (h:EntsB X M E w) {p:List Nat} {v:Value} {b:Nat} (hm:(p,v) ∈ E) (hb:v.ownBlock = some b):X b ∧ b < w.heap.size:=by
 obtain ⟨i,hi,he⟩:=List.getElem_of_mem hm
 have hi2:i < M.length:=by rw [← h.len];exact hi
 obtain ⟨u,h1,h2,h3⟩:=h.ent i M[i] (List.getElem?_eq_getElem hi2)
 rw [List.getElem?_eq_getElem hi,he] at h1
 cases h1
 exact ⟨h3 b hb,(World.ownsRow.lt h2 b hb).2⟩
theorem EntsB.row (h:EntsB X M E w) (hd:(E.map (·.1)).Nodup) (p:List Nat):OwnI 0 25 (atE E (.slice none 0 0) p) (atB M p) w ∧ (∀ b,(atE E (.slice none 0 0) p).ownBlock = some b → X b ∧ ∃ q v,(q,v) ∈ E ∧ v.ownBlock = some b) ∧ Ids (atB M p):=by
 by_cases hp:p ∈ M.map (·.1)
 ·obtain ⟨l,hl⟩:=z24 hp
  obtain ⟨i,hi⟩:=z59 hl
  obtain ⟨v,h1,h2,h3⟩:=h.ent i _ hi
  rw [atE,z2u hd h1,atB,atE,hl]
  exact ⟨h2,fun b hb=>⟨h3 b hb,p,v,List.mem_of_getElem? h1,hb⟩,h.ids _ (z89 hl)⟩
 ·rw [atE,z1q (by rw [h.keys];exact hp),atB,atE,z1q hp]
  exact ⟨OwnI.nil _ _ _,fun b hb=>(by cases hb),fun x hx=>by cases hx⟩
theorem EntsB.put (h:EntsB X M E w) (hd:(E.map (·.1)).Nodup) (p:List Nat) {v:Value} {l:List (List Nat)} (hl:Ids l) (c:Nat) (hc:∀ q u b,(q,u) ∈ E → u.ownBlock = some b → b ≠ c) (k:Only (fun b=>(atE E (.slice none 0 0) p).ownBlock = some b ∨ b = c) w w') (hv:OwnI 0 25 v l w') (hm:Moved v (atE E (.slice none 0 0) p) w) (hX:∀ b,v.ownBlock = some b → X b) :
 EntsB X (z2v M p l) (z2v E p v) w' ∧ ∀ q u b,(q,u) ∈ z2v E p v → u.ownBlock = some b → (∃ q u,(q,u) ∈ E ∧ u.ownBlock = some b) ∨ w.heap.size ≤ b:=by
 have hkE:=h.keys
 by_cases hp:p ∈ M.map (·.1)
 ·obtain ⟨l0,hl0⟩:=z24 hp
  obtain ⟨i,hi⟩:=z59 hl0
  obtain ⟨v0,h1,h2,h3⟩:=h.ent i _ hi
  have hat:atE E (.slice none 0 0) p = v0:=by rw [atE,z2u hd h1];rfl
  rw [hat] at k hm
  have hdM:(M.map (·.1)).Nodup:=hkE ▸ hd
  rw [z88 hdM l hi,z88 hd v h1]
  have hil:i < E.length:=(List.getElem?_eq_some_iff.1 h1).1
  have off:∀ (j:Nat) (q:List Nat) (u:Value),E[j]? = some (q,u) → j ≠ i → ∀ b,u.ownBlock = some b → v.ownBlock ≠ some b:=fun j q u hj hji b hb hvb=>by
   rcases hm b hvb with e | e
   ·exact h.apart j i q p u v0 hj h1 hji b hb e
   ·have:=(h.x (List.mem_of_getElem? hj) hb).2
    omega
  refine ⟨⟨by rw [List.length_set,List.length_set,h.len],fun j q hq=>?_,fun a c p' q' u1 u2 ha hc hac b hb=>?_,fun q hq=>?_⟩,fun q u b hq hb=>?_⟩
  ·by_cases hji:i = j
   ·subst hji
    rw [List.getElem?_set_self (by rw [← h.len];exact hil)] at hq
    obtain rfl:=Option.some.inj hq
    exact ⟨v,List.getElem?_set_self hil,hv,hX⟩
   ·rw [List.getElem?_set_ne hji] at hq
    obtain ⟨u,g1,g2,g3⟩:=h.ent j q hq
    exact ⟨u,by rw [List.getElem?_set_ne hji];exact g1,g2.only k (fun b hb e=>e.elim (fun e=>h.apart i j p q.1 v0 u h1 g1 hji b e hb) (hc _ _ b (List.mem_of_getElem? g1) hb)),g3⟩
  ·by_cases hia:i = a
   ·subst hia
    rw [List.getElem?_set_self hil] at ha
    cases ha
    rw [List.getElem?_set_ne hac] at hc
    intro e
    exact off c q' u2 hc (Ne.symm hac) b e hb
   ·rw [List.getElem?_set_ne hia] at ha
    by_cases hic:i = c
    ·subst hic
     rw [List.getElem?_set_self hil] at hc
     cases hc
     exact off a p' u1 ha (Ne.symm hia) b hb
    ·rw [List.getElem?_set_ne hic] at hc
     exact h.apart a c p' q' u1 u2 ha hc hac b hb
  ·rcases List.mem_or_eq_of_mem_set hq with hq | rfl
   ·exact h.ids q hq
   ·exact hl
  ·rcases List.mem_or_eq_of_mem_set hq with hq | hq
   ·exact .inl ⟨q,u,hq,hb⟩
   ·cases hq
    exact (hm b hb).imp (fun e=>⟨p,v0,List.mem_of_getElem? h1,e⟩) id
 ·have hpE:p ∉ E.map (·.1):=by rw [hkE];exact hp
  have hat:atE E (.slice none 0 0) p = .slice none 0 0:=by rw [atE,z1q hpE];rfl
  rw [hat] at k hm
  have k2:Only (fun b=>b = c) w w':=⟨k.os,k.tape,k.output,k.size,fun i hi hn=>k.block i hi (fun e=>e.elim (fun e=>by cases e) hn)⟩
  have new:∀ b,v.ownBlock = some b → w.heap.size ≤ b:=fun b hb=>(hm b hb).elim (fun e=>by cases e) id
  rw [z1p hp,z1p hpE]
  have hlen:=h.len
  have last:(E ++ [(p,v)])[E.length]? = some (p,v):=by rw [List.getElem?_append_right (Nat.le_refl _),Nat.sub_self];rfl
  have lt_of:∀ {j:Nat} {q:List Nat} {u:Value},(E ++ [(p,v)])[j]? = some (q,u) → E[j]? = some (q,u) ∨ (j = E.length ∧ q = p ∧ u = v):=fun {j q u} hj=>by
   rcases Nat.lt_trichotomy j E.length with hjl | hjl | hjl
   ·rw [List.getElem?_append_left hjl] at hj;exact .inl hj
   ·subst hjl;rw [last] at hj;cases hj;exact .inr ⟨rfl,rfl,rfl⟩
   ·rw [List.getElem?_eq_none (by simp;omega)] at hj;cases hj
  refine ⟨⟨by simp [h.len],fun j q hq=>?_,fun a c p' q' u1 u2 ha hc hac b hb=>?_,fun q hq=>?_⟩,fun q u b hq hb=>?_⟩
  ·rcases Nat.lt_trichotomy j M.length with hj | hj | hj
   ·rw [List.getElem?_append_left hj] at hq
    obtain ⟨u,g1,g2,g3⟩:=h.ent j q hq
    exact ⟨u,by rw [List.getElem?_append_left (by omega)];exact g1,g2.only k2 (fun b hb=>hc _ _ b (List.mem_of_getElem? g1) hb),g3⟩
   ·subst hj
    rw [List.getElem?_append_right (Nat.le_refl _),Nat.sub_self] at hq
    obtain rfl:(p,l) = q:=by simpa using hq
    exact ⟨v,by rw [← hlen];exact last,hv,hX⟩
   ·rw [List.getElem?_eq_none (by simp;omega)] at hq
    cases hq
  ·rcases lt_of ha with ha' | ⟨h1,h2,h3⟩
   ·rcases lt_of hc with hc' | ⟨g1,g2,g3⟩
    ·exact h.apart a c p' q' u1 u2 ha' hc' hac b hb
    ·subst g3
     intro e
     have:=(h.x (List.mem_of_getElem? ha') hb).2
     have:=new b e
     omega
   ·subst h3
    rcases lt_of hc with hc' | ⟨g1,g2,g3⟩
    ·intro e
     have:=(h.x (List.mem_of_getElem? hc') e).2
     have:=new b hb
     omega
    ·exact absurd (h1.trans g1.symm) hac
  ·rcases List.mem_append.1 hq with hq | hq
   ·exact h.ids q hq
   ·obtain rfl:=List.mem_singleton.1 hq
    exact hl
  ·rcases List.mem_append.1 hq with hq | hq
   ·exact .inl ⟨q,u,hq,hb⟩
   ·have:=List.mem_singleton.1 hq
    cases this
    exact .inr (new b hb)
theorem EntsB.del (h:EntsB X M E w) (hd:(E.map (·.1)).Nodup) (p:List Nat):EntsB X (z49 M p) (z49 E p) w:=by
 have hkE:=h.keys
 by_cases hp:p ∈ M.map (·.1)
 ·obtain ⟨l0,hl0⟩:=z24 hp
  obtain ⟨i,hi⟩:=z59 hl0
  obtain ⟨v0,h1,_⟩:=h.ent i _ hi
  rw [z7e (hkE ▸ hd) hi,z7e hd h1]
  have get:∀ {β:Type} (l:List β) (j:Nat) ,(l.eraseIdx i)[j]? = l[if j < i then j else j + 1]?:=fun l j=>by rw [List.getElem?_eraseIdx];split <;> rfl
  refine ⟨by simp only [List.length_eraseIdx,h.len],fun j q hq=>?_,fun a c p' q' u1 u2 ha hc hac b hb=>?_,fun q hq=>h.ids q ((List.eraseIdx_sublist _ _).subset hq)⟩
  ·rw [get] at hq ⊢
   exact h.ent _ q hq
  ·rw [get] at ha hc
   exact h.apart _ _ p' q' u1 u2 ha hc (by split <;> split <;> omega) b hb
 ·rw [z3n hp,z3n (by rw [hkE];exact hp)]
  exact h
theorem SetO.x (h:SetAt X B T s hs M w) {b:Nat} (hb:SetO B T b):X b ∧ b < w.heap.size:=by
 rcases hb with rfl | rfl | rfl | rfl | rfl | ⟨p,v,hm,hb⟩
 ·exact ⟨h.mine.1,h.cells.lt⟩
 ·exact ⟨h.mine.2.1,h.pm.lt⟩
 ·exact ⟨h.mine.2.2.1,h.wm.lt⟩
 ·exact ⟨h.mine.2.2.2.1,h.hm.lt⟩
 ·exact ⟨h.mine.2.2.2.2,h.bm.lt⟩
 ·exact h.beh.x hm hb
theorem SetAt.below (h:SetAt X B T s hs M w) (k:Below w.heap.size w w'):SetAt X B T s hs M w' :=
 ⟨h.cells.below k,h.pm.below k,h.wm.below k,h.hm.below k,h.bm.below k,h.ops.below k,h.wait.below k,h.beh.below k,h.mine,h.apart⟩
theorem SetAt.only (h:SetAt X B T s hs M w) (k:Only O w w') (hO:∀ b,O b → X b) (hd:∀ b,SetO B T b → ¬ O b):SetAt X B T s hs M w' :=
 ⟨h.cells.only k (hd _ (.inl rfl)),h.pm.only k (hd _ (.inr (.inl rfl))),h.wm.only k (hd _ (.inr (.inr (.inl rfl)))),h.hm.only k (hd _ (.inr (.inr (.inr (.inl rfl))))),h.bm.only k (hd _ (.inr (.inr (.inr (.inr (.inl rfl)))))),
  h.ops.only k hO,h.wait.only k hO,h.beh.only k (fun p v b hm hb=>hd b (.inr (.inr (.inr (.inr (.inr ⟨p,v,hm,hb⟩)))))),h.mine,h.apart⟩
theorem SetAt.mono (h:SetAt X B T s hs M w) (hY:∀ b,Y b → X b) (hO:∀ b,SetO B T b → Y b):SetAt Y B T s hs M w :=
 ⟨h.cells,h.pm,h.wm,h.hm,h.bm,h.ops.mono hY,h.wait.mono hY,h.beh.mono (fun p v b hm hb=>hO b (.inr (.inr (.inr (.inr (.inr ⟨p,v,hm,hb⟩)))))),
  ⟨hO _ (.inl rfl),hO _ (.inr (.inl rfl)),hO _ (.inr (.inr (.inl rfl))),hO _ (.inr (.inr (.inr (.inl rfl)))),hO _ (.inr (.inr (.inr (.inr (.inl rfl)))))⟩,h.apart⟩
theorem SetAt.gsne (h:SetAt X B T s hs M w):B.gs ≠ B.p ∧ B.gs ≠ B.w ∧ B.gs ≠ B.h ∧ B.gs ≠ B.b :=
 ⟨fun e=>h.pm.notCells (e ▸ h.cells),fun e=>h.wm.notCells (e ▸ h.cells),fun e=>h.hm.notCells (e ▸ h.cells),fun e=>h.bm.notCells (e ▸ h.cells)⟩
theorem SetAt.rowne (h:SetAt X B T s hs M w) {p:List Nat} {v:Value} (hm:(p,v) ∈ T.b):v.ownBlock ≠ some B.gs ∧ v.ownBlock ≠ some B.p ∧ v.ownBlock ≠ some B.w ∧ v.ownBlock ≠ some B.h ∧ v.ownBlock ≠ some B.b:=by
 obtain ⟨i,hi,he⟩:=List.getElem_of_mem hm
 have hi2:i < M.length:=by rw [← h.beh.len];exact hi
 obtain ⟨u,h1,h2,h3⟩:=h.beh.ent i M[i] (List.getElem?_eq_getElem hi2)
 rw [List.getElem?_eq_getElem hi,he] at h1
 cases h1
 exact ⟨z0x h2 h.cells (by decide),h.pm.notRow h2,h.wm.notRow h2,h.hm.notRow h2,h.bm.notRow h2⟩
theorem SetAt.putP (h:SetAt X B T s hs M w) {E':List (List Nat × Value)} {L':List OpN} (k:Only (fun b=>b = B.p) w w') (hE:MapN B.p E' w') (hO:EntsO X L' E' w) :
 SetAt X B ⟨E',T.w,T.b⟩ ⟨L',s.wait⟩ hs M w' ∧ Turn (SetO B T) (SetO B ⟨E',T.w,T.b⟩) w w':=by
 obtain ⟨g1,g2,g3,g4⟩:=h.gsne
 obtain ⟨a1,a2,a3,a4,a5,a6⟩:=h.apart
 have hX:∀ b,b = B.p → X b:=fun b e=>e ▸ h.mine.2.1
 exact ⟨⟨h.cells.only k g1,hE,h.wm.only k (Ne.symm a1),h.hm.only k (Ne.symm a2),h.bm.only k (Ne.symm a3),hO.only k hX,h.wait.only k hX,h.beh.only k (fun p v b hm hb e=>(h.rowne hm).2.1 (e ▸ hb)),h.mine,h.apart⟩,
  ⟨k.os,k.tape,k.output,k.size,fun i hi hn=>k.block i hi (fun e=>hn (.inr (.inl e)))⟩,fun b hb=>.inl hb⟩
theorem SetAt.putW (h:SetAt X B T s hs M w) {E':List (List Nat × Value)} {L':List OpN} (k:Only (fun b=>b = B.w) w w') (hE:MapN B.w E' w') (hO:EntsO X L' E' w) :
 SetAt X B ⟨T.p,E',T.b⟩ ⟨s.ops,L'⟩ hs M w' ∧ Turn (SetO B T) (SetO B ⟨T.p,E',T.b⟩) w w':=by
 obtain ⟨g1,g2,g3,g4⟩:=h.gsne
 obtain ⟨a1,a2,a3,a4,a5,a6⟩:=h.apart
 have hX:∀ b,b = B.w → X b:=fun b e=>e ▸ h.mine.2.2.1
 exact ⟨⟨h.cells.only k g2,h.pm.only k a1,hE,h.hm.only k (Ne.symm a4),h.bm.only k (Ne.symm a5),h.ops.only k hX,hO.only k hX,h.beh.only k (fun p v b hm hb e=>(h.rowne hm).2.2.1 (e ▸ hb)),h.mine,h.apart⟩,
  ⟨k.os,k.tape,k.output,k.size,fun i hi hn=>k.block i hi (fun e=>hn (.inr (.inr (.inl e))))⟩,fun b hb=>.inl hb⟩
theorem SetAt.putH (h:SetAt X B T s hs M w) {hs':List (List Nat)} (k:Only (fun b=>b = B.h) w w') (hE:MapN B.h (z58 hs') w') :
 SetAt X B T s hs' M w' ∧ Turn (SetO B T) (SetO B T) w w':=by
 obtain ⟨g1,g2,g3,g4⟩:=h.gsne
 obtain ⟨a1,a2,a3,a4,a5,a6⟩:=h.apart
 have hX:∀ b,b = B.h → X b:=fun b e=>e ▸ h.mine.2.2.2.1
 exact ⟨⟨h.cells.only k g3,h.pm.only k a2,h.wm.only k a4,hE,h.bm.only k (Ne.symm a6),h.ops.only k hX,h.wait.only k hX,h.beh.only k (fun p v b hm hb e=>(h.rowne hm).2.2.2.1 (e ▸ hb)),h.mine,h.apart⟩,
  ⟨k.os,k.tape,k.output,k.size,fun i hi hn=>k.block i hi (fun e=>hn (.inr (.inr (.inr (.inl e)))))⟩,fun b hb=>.inl hb⟩
theorem SetAt.putB (h:SetAt X B T s hs M w) (p:List Nat) {v:Value} {l:List (List Nat)} (hl:Ids l) (k:Only (fun b=>(atE T.b (.slice none 0 0) p).ownBlock = some b ∨ b = B.b) w w') (hv:OwnI 0 25 v l w') (hm:Moved v (atE T.b (.slice none 0 0) p) w) (hX:∀ b,v.ownBlock = some b → X b) (hE:MapN B.b (z2v T.b p v) w') :
 SetAt X B ⟨T.p,T.w,z2v T.b p v⟩ s hs (z2v M p l) w' ∧ Turn (SetO B T) (SetO B ⟨T.p,T.w,z2v T.b p v⟩) w w':=by
 obtain ⟨g1,g2,g3,g4⟩:=h.gsne
 obtain ⟨a1,a2,a3,a4,a5,a6⟩:=h.apart
 obtain ⟨r1,r2,_⟩:=h.beh.row h.bm.nodup p
 have hOX:∀ b,((atE T.b (.slice none 0 0) p).ownBlock = some b ∨ b = B.b) → X b:=fun b e=>e.elim (fun e=>(r2 b e).1) (fun e=>e ▸ h.mine.2.2.2.2)
 have ne:∀ c,(c = B.gs ∨ c = B.p ∨ c = B.w ∨ c = B.h) → ¬ ((atE T.b (.slice none 0 0) p).ownBlock = some c ∨ c = B.b):=by
  intro c hc e
  rcases e with e | e
  ·obtain ⟨q,u,hmem,hu⟩:=(r2 c e).2
   obtain ⟨n1,n2,n3,n4,_⟩:=h.rowne hmem
   rcases hc with rfl | rfl | rfl | rfl
   ·exact n1 hu
   ·exact n2 hu
   ·exact n3 hu
   ·exact n4 hu
  ·subst e
   rcases hc with e | e | e | e
   ·exact g4 e.symm
   ·exact a3 e.symm
   ·exact a5 e.symm
   ·exact a6 e.symm
 obtain ⟨hb,hnew⟩:=h.beh.put h.bm.nodup p hl B.b (fun q u b hq hu e=>(h.rowne hq).2.2.2.2 (e ▸ hu)) k hv hm hX
 refine ⟨⟨h.cells.only k (ne _ (.inl rfl)),h.pm.only k (ne _ (.inr (.inl rfl))),h.wm.only k (ne _ (.inr (.inr (.inl rfl)))),h.hm.only k (ne _ (.inr (.inr (.inr rfl)))),hE,h.ops.only k hOX,h.wait.only k hOX,hb,h.mine,h.apart⟩,?_,?_⟩
 ·exact ⟨k.os,k.tape,k.output,k.size,fun i hi hn=>k.block i hi (fun e=>hn (e.elim (fun e=>by
   obtain ⟨q,u,hmem,hu⟩:=(r2 i e).2
   exact .inr (.inr (.inr (.inr (.inr ⟨q,u,hmem,hu⟩))))) (fun e=>.inr (.inr (.inr (.inr (.inl e)))))))⟩
 ·rintro b (hb | hb | hb | hb | hb | ⟨q,u,hq,hu⟩)
  ·exact .inl (.inl hb)
  ·exact .inl (.inr (.inl hb))
  ·exact .inl (.inr (.inr (.inl hb)))
  ·exact .inl (.inr (.inr (.inr (.inl hb))))
  ·exact .inl (.inr (.inr (.inr (.inr (.inl hb)))))
  ·exact (hnew q u b hq hu).imp (fun e=>.inr (.inr (.inr (.inr (.inr e))))) id
theorem SetAt.delB (h:SetAt X B T s hs M w) (p:List Nat) (k:Only (fun b=>b = B.b) w w') (hE:MapN B.b (z49 T.b p) w') :
 SetAt X B ⟨T.p,T.w,z49 T.b p⟩ s hs (z49 M p) w' ∧ Turn (SetO B T) (SetO B ⟨T.p,T.w,z49 T.b p⟩) w w':=by
 obtain ⟨g1,g2,g3,g4⟩:=h.gsne
 obtain ⟨a1,a2,a3,a4,a5,a6⟩:=h.apart
 have hX:∀ b,b = B.b → X b:=fun b e=>e ▸ h.mine.2.2.2.2
 refine ⟨⟨h.cells.only k g4,h.pm.only k a3,h.wm.only k a5,h.hm.only k a6,hE,h.ops.only k hX,h.wait.only k hX,?_,h.mine,h.apart⟩,
  ⟨k.os,k.tape,k.output,k.size,fun i hi hn=>k.block i hi (fun e=>hn (.inr (.inr (.inr (.inr (.inl e))))))⟩,?_⟩
 ·refine (h.beh.del h.bm.nodup p).only k (fun q u b hq hu e=>?_)
  have hq':(q,u) ∈ T.b:=(List.mem_filter.1 hq).1
  exact (h.rowne hq').2.2.2.2 (e ▸ hu)
 ·rintro b (hb | hb | hb | hb | hb | ⟨q,u,hq,hu⟩)
  ·exact .inl (.inl hb)
  ·exact .inl (.inr (.inl hb))
  ·exact .inl (.inr (.inr (.inl hb)))
  ·exact .inl (.inr (.inr (.inr (.inl hb))))
  ·exact .inl (.inr (.inr (.inr (.inr (.inl hb)))))
  ·exact .inl (.inr (.inr (.inr (.inr (.inr ⟨q,u,(List.mem_filter.1 hq).1,hu⟩)))))
theorem SetAt.cell (h:SetAt X B T s hs M w):w.cell? ⟨B.gs,0,none⟩ = some (.map (some B.p)) ∧ w.cell? ⟨B.gs,1,none⟩ = some (.map (some B.w)) ∧ w.cell? ⟨B.gs,2,none⟩ = some (.map (some B.h)) ∧ w.cell? ⟨B.gs,3,none⟩ = some (.map (some B.b)) :=
 ⟨by rw [h.cells.at];rfl,by rw [h.cells.at];rfl,by rw [h.cells.at];rfl,by rw [h.cells.at];rfl⟩
end
end Go.Proofs.YtnbldbbbibpobaaGreatDoor
