/-
  Joined: The developers' bare.; The developers' every, Row, Order; a nil set.; What the laws of layer 11 ask first, as mathematics: two operations of one depth, of unlike authors.; Contracts of the library laid at this program, in plain words.; The developers' among; what Of and Keys want.; What Of and Keys want of an operation.; Rows of texts; sorted and compacted, a row of texts rises, each once.; The developers' Keys.; The document's Before of layer 11.; The document's GoodDraft.
-/
import Derived.Laws.AppendOwnNone
import Derived.Lib.OwnBridge
import Derived.Lib.SlicesCompact
import Derived.Shelf.Slices.CompactS
import Derived.Shelf.Slices.In.SortAlone
import Derived.Shelf.Slices.In.SortNone
import Derived.Sort.EncStr
import Derived.Sort.EveryDepth
import Derived.Sort.OwnSorted
import Derived.Sort.Walk0
import Derived.Test.YtnbldbbbibpobaaGreatDoorProg
import Derived.Test.YtnbldbbbibpobaaGreatDoorJ01
import Derived.Test.YtnbldbbbibpobaaGreatDoorJ04
import Derived.Test.YtnbldbbbibpobaaGreatDoorJ05
import Derived.Test.YtnbldbbbibpobaaGreatDoorJ06
import Derived.Test.YtnbldbbbibpobaaGreatDoorJ17
import Derived.Test.YtnbldbbbibpobaaGreatDoorJ18
import Derived.Test.YtnbldbbbibpobaaGreatDoorJ19
set_option maxRecDepth 100000
set_option maxHeartbeats 4000000
namespace Go.Proofs.YtnbldbbbibpobaaGreatDoor
open Go.RowKit Go.BigFrame
theorem Tryz.infoOpL:(Tryz.prog.info? 38).map (fun i=>(i.zero,i.size,i.bytes)) = some (some (.agg (opV z05 none 0)),38,112):=by kernel_rfl
theorem Tryz.zeroPl:(Tryz.prog.info? 99).bind (·.zero) = some (.agg (opL z05 none 0 ++ z07 .u8 zeroI).toArray):=by kernel_rfl
theorem Tryz.sizePl:(Tryz.prog.info? 99).map (·.size) = some 70:=by kernel_rfl
theorem take_set {L:List OpN} {k m:Nat} (hm:L.length = m) (h:k < m):(L.take k ++ List.replicate (m - k) z05).set k (L.getD k z05) = L.take (k + 1) ++ List.replicate (m - (k + 1)) z05:=by
 have hl:(L.take k).length = k:=by rw [List.length_take];omega
 rw [List.set_append_right _ _ (by omega),hl,Nat.sub_self,show m - k = (m - (k + 1)) + 1 by omega,List.replicate_succ,List.set_cons_zero,List.take_succ_eq_append_getElem (by omega),List.append_assoc,List.getD_eq_getElem?_getD,List.getElem?_eq_getElem (by omega)]
 rfl
theorem z8l {g:Nat} {t:TypeId} {x:OpN} {pa:Option Addr} {pc:Nat} {w:World} (hr:x.d.ref.length = 32) (h:Cells g t (plV x pa pc) w):w.rangeAt g 0 (opL x pa pc) ∧ w.rangeAt g 38 (z07 .u8 (z00 x)):=by
 have h1:w.rangeAt g 0 (plL x pa pc):=fun j v hj=>by
  rw [Nat.zero_add,h.at,plV,List.getElem?_toArray]
  exact hj
 obtain ⟨h2,h3⟩:=zik hr h1
 exact ⟨h2,h3⟩
theorem zag {B:Nat} {v:Value} {L:List OpN} {w:World} (h:OwnP B 99 v L w) (hr:∀ x ∈ L,x.d.ref.length = 32) (hl:L.length ≤ 1000) :
 Calls Tryz.prog 66 #[v] w fun e w'=>∃ v',e = .returned v' ∧ OwnO w.heap.size 38 v' L w' ∧ Below w.heap.size w w':=by
 obtain ⟨ap,cp,rfl⟩:=h.form
 obtain ⟨i0,hi,hz0,hz1,hz2⟩:=info_parts Tryz.infoOpL
 have HIF:=Lib.hid hi
 have HZ0:=Lib.hid hz0
 have HZ1:=Lib.hid hz1
 have HZ2:=Lib.hid hz2
 have HP:=Lib.hid h
 have HR:=Lib.hid hr
 obtain ⟨m,hm⟩:∃ m,L.length = m:=⟨_,rfl⟩
 have HM:=Shut.mk hm
 have HM2:=Lib.hid (show m ≤ 1000 from hm ▸ hl)
 rw [hm]
 clear h hr hl hi hz0 hz1 hz2 hm
 go_enter Tryz.func66,Tryz.ntmps66
 go_wp2_with (at_make;refine wpList_make_full _ rfl _ _ 29 rfl w.heap.size 38 i0 _ 38 Tryz.underlying29 HIF.out HZ0.out HZ1.out .i64 .i64 _ _ m rfl rfl rfl rfl (by rw [HZ2.out];have:=HM2.out;omega) (by unfold maxLen;have:=HM2.out;omega) (Nat.le_refl _) ?_)
 intro w2 ho2 hg2
 have HO2:=Lib.hid (OwnO.made ho2)
 have HB2:=Lib.hid ((Below.refl w.heap.size w).grown hg2 (Nat.le_refl _) (fun k hk=>by cases hk))
 obtain ⟨gr,hgr⟩:∃ g,w.heap.size = g:=⟨_,rfl⟩
 have HGR:=Shut.mk hgr
 rw [hgr] at HO2 ⊢
 clear ho2 hg2 hgr
 have hm2:=HM2.out
 go_wp2_with fail
 go_loopw [11] (fun i wr=>∃ k:Nat,i = .int .i64 k ∧ k ≤ m ∧ OwnO gr 38 (.slice (some ⟨gr,0,none⟩) m m) (L.take k ++ List.replicate (m - k) z05) wr ∧ Below gr w wr) (fun i _=>m - (intOf i).toNat)
 case atStart=>exact ⟨0,rfl,Nat.zero_le _,HO2.out,by have:=HB2.out;rwa [HGR.out] at this⟩
 case round =>
  obtain ⟨wi,rfl⟩:∃ z,z = wr:=⟨_,rfl⟩
  obtain ⟨k,rfl,hk,ho,hb⟩:=hrel
  have HO:=Lib.hid ho
  have HB:=Lib.hid hb
  clear hb ho HO2 HB2
  by_cases hlt:k < m
  ·have hx:L[k]? = some (L.getD k z05):=by
    rw [List.getD_eq_getElem?_getD,List.getElem?_eq_getElem (by rw [HM.out];exact hlt)]
    rfl
   obtain ⟨gp,rfl,hgp⟩:∃ g,ap = some ⟨g,0,none⟩ ∧ g < w.heap.size:=by
    rcases HP.out.formB with ⟨_,h2⟩ | ⟨g,c,h2,_,_,h3⟩
    ·have:=HM.out;rw [h2] at this;simp at this;omega
    ·injection h2 with h4 _ _
     exact ⟨g,h4,h3⟩
   have hts:=take_set (L:=L) HM.out hlt
   have hxm:L.getD k z05 ∈ L:=List.mem_of_getElem? hx
   obtain ⟨x,hxe⟩:∃ x,L.getD k z05 = x:=⟨_,rfl⟩
   rw [hxe] at hx hts hxm
   have HTS:=Shut.mk hts
   have hr:=HR.out x hxm
   have HXR:=Lib.hid hr
   obtain ⟨hgl,pa,pc,q1,q2,q3⟩:=HP.out.get hx
   have HQ1:=Lib.hid (show wi.rangeAt gp (k * 70) (plL x pa pc) by rw [Nat.mul_comm];exact z08 q1 HB.out (by rw [← HGR.out];exact hgl))
   have HQ2:=Lib.hid (show IAt pa x.preds wi from q2.below (by rw [HGR.out];exact HB.out))
   have HQ3:=Lib.hid (show ∀ a,pa = some a → x.preds ≠ [] → gr ≠ a.block from fun a ha h0 e=>by have:=q2.lt h0 ha;have:=HGR.out;omega)
   have HSL:=Lib.hid (show (Tryz.prog.info? 99).map (·.size) = some (plL x pa pc).length by rw [z2e hr];exact Tryz.sizePl)
   have HSV:=Lib.hid (show (Tryz.prog.info? 99).map (·.size) = some (plV x pa pc).size by rw [plV,List.size_toArray,z2e hr];exact Tryz.sizePl)
   have HSZ:=Lib.hid (show (opL z05 none 0 ++ z07 .u8 zeroI).toArray.size = (plV x pa pc).size by rw [plV,List.size_toArray,List.size_toArray,z2e hr];rfl)
   have HSA:=Lib.hid (show (plV x pa pc).all (·.oneCell') = true by rw [plV,List.all_toArray];exact List.all_eq_true.2 (z80 x pa pc))
   have HSO:=Lib.hid (show (Tryz.prog.info? 38).map (·.size) = some (opL x pa pc).length by rw [z16 hr];exact Tryz.sizeO)
   clear hx hts hxe hr q1 q2 q3 hgl hxm
   go_wp2_with (first
    | (refine wpList_load_mid rfl 99 _ rfl gp (k * 70) rfl (plL x pa pc) _ HQ1.out Tryz.underlying99 rfl HSL.out ?_)
    | (refine z0d rfl 99 rfl (opL z05 none 0 ++ z07 .u8 zeroI) Tryz.zeroPl ?_)
    | (refine z02 rfl 99 _ _ rfl rfl wi.heap.size (opL z05 none 0 ++ z07 .u8 zeroI).toArray (plV x pa pc) 99 rfl rfl (heap_alloc_new wi _) HSV.out HSZ.out HSA.out ?_))
   intro w5 hcs hbs
   have hb5:Below wi.heap.size wi w5:=But.toBelow ((Below.refl _ wi).alloc (Nat.le_refl _) _) hbs.out (Nat.le_refl _) (by rw [World.size_alloc];exact Nat.le_succ _)
   have HC5:=Lib.hid (z8l HXR.out hcs.out).1
   have HO5:=Lib.hid (HO.out.below hb5)
   have HB5:=Lib.hid (HB.out.trans (hb5.mono (HGR.out ▸ HB.out.size)))
   have HQ5:=Lib.hid (HQ2.out.below hb5)
   have HLN:=Lib.hid (show m = (L.take k ++ List.replicate (m - k) z05).length by rw [List.length_append,List.length_take,List.length_replicate,HM.out];omega)
   clear hcs hbs hb5
   go_wp2_with (first
    | (refine wpList_load_mid rfl 38 _ rfl wi.heap.size 0 rfl (opL x pa pc) _ HC5.out Tryz.underlying38 rfl HSO.out ?_)
    | (refine zaq rfl 38 _ _ rfl rfl gr gr m m k (k * 38) 38 _ x pa pc HLN.out (Nat.mul_comm _ _) rfl rfl HO5.out hlt HXR.out HQ5.out HQ3.out Tryz.sizeO ?_))
   intro w6 ho6 hb6
   have HO6:=Lib.hid (HTS.out ▸ ho6.out)
   have HB6:=Lib.hid (But.toBelow HB5.out hb6.out (Nat.le_refl _) (HGR.out ▸ HB5.out.size))
   clear ho6 hb6
   go_wp2_with fail
   exact ⟨⟨k + 1,by go_num,by omega,HO6.out,HB6.out⟩,by simp [intOf];omega⟩
  ·obtain rfl:k = m:=by omega
   have HE:=Lib.hid (show L.take k ++ List.replicate (k - k) z05 = L by rw [Nat.sub_self,List.replicate_zero,List.append_nil,List.take_of_length_le (by rw [HM.out];exact Nat.le_refl _)])
   go_wp2_with fail
   go_ret
   exact ⟨_,rfl,by rw [HGR.out];exact HE.out ▸ HO.out,by rw [HGR.out];exact HB.out⟩
theorem zl7 (x:OpN) (pa:Option Addr) (pc:Nat) (w:World):Calls Tryz.prog 65 #[.agg (opV x pa pc)] w fun e w'=>e = .returned (.bool true) ∧ Below w.heap.size w w':=by
 have HB:=Lib.hid (show Below w.heap.size w (w.alloc (.cells (opV x pa pc) 38)) from (Below.refl _ _).alloc (Nat.le_refl _) _)
 go_enter Tryz.func65,Tryz.ntmps65
 go_wp2_with fail
 go_ret
 exact ⟨rfl,HB.out⟩
theorem ziy (L:List OpN):L.filter (fun _=>true) = L:=List.filter_eq_self.2 fun _ _=>rfl
section
variable (X:Nat → Prop) (B:Bs) (T:Ents) (s:DagN) (hs:List (List Nat)) (M:Bh) (w:World)
theorem zdc (h:SetAt X B T s hs M w) (hn:s.names.Nodup) (ht:Tame s) :
 Calls Tryz.prog 64 #[.pointer (some ⟨B.gs,0,none⟩),.func (.func 65) #[] #[]] w fun e w'=>∃ v,e = .returned v ∧ OwnP w.heap.size 99 v (z2g s.ops) w' ∧ Below w.heap.size w w':=by
 have:=z78 X B T s hs M (fun _=>true) 65 _ #[] w h hn ht Tryz.func65 rfl rfl (fun x _ pa pc w' _=>zl7 x pa pc w')
 rw [ziy] at this
 exact this
theorem z5r (hn:s.names.Nodup) (ht:Tame s):(z2g s.ops).length ≤ 1000 ∧ (∀ x ∈ z2g s.ops,x.Fit) ∧ (∀ x ∈ z2g s.ops,x.d.ref.length = 32) ∧ ((z2g s.ops).map z00).Nodup:=by
 have hp:=z1e s.ops
 have hF:∀ x ∈ z2g s.ops,x.Fit:=fun x hx=>ht.ops x (hp.mem_iff.1 hx)
 exact ⟨by rw [hp.length_eq];have:=ht.many;omega,hF,fun x hx=>(hF x hx).d.ref.1,(hp.map z00).nodup_iff.2 hn⟩
theorem zgy (h:SetAt X B T s hs M w) (hn:s.names.Nodup) (ht:Tame s) :
 Calls Tryz.prog 33 #[.pointer (some ⟨B.gs,0,none⟩)] w fun e w'=>∃ v,e = .returned v ∧ OwnO w.heap.size 38 v (z2g s.ops) w' ∧ Below w.heap.size w w':=by
 have HA:=Lib.hid (zdc X B T s hs M w h hn ht)
 have HF:=Lib.hid (z5r s hn ht)
 clear h hn ht
 go_enter Tryz.func33,Tryz.ntmps33
 go_wp2_with (first
  | (refine HA.out.mono ?_;rintro e w2 ⟨v,rfl,ho,hb⟩;have HB:=Lib.hid hb;have HBR:=Lib.hid (zag ho HF.out.2.2.1 HF.out.1);clear ho hb)
  | (refine HBR.out.mono ?_;rintro e w3 ⟨v3,rfl,ho3,hb3⟩;have HO3:=Lib.hid ho3;have HB3:=Lib.hid hb3;clear ho3 hb3))
 go_ret
 exact ⟨_,rfl,HO3.out.mono HB.out.size,HB.out.trans (HB3.out.mono HB.out.size)⟩
end
end Go.Proofs.YtnbldbbbibpobaaGreatDoor
namespace Go.Proofs.YtnbldbbbibpobaaGreatDoor
open Go.RowKit
def lD:DraftN:=⟨1,[107],[],zeroI⟩
def aL:OpN:=⟨lD,0,1,[]⟩
def bL:OpN:=⟨lD,1,1,[]⟩
theorem aL_good:GoodO aL:=of_decide_eq_true (by kernel_rfl)
theorem bL_good:GoodO bL:=of_decide_eq_true (by kernel_rfl)
theorem ln_take1:z2u DagN.new aL = ([z00 aL],0,⟨[aL],[]⟩):=by kernel_rfl
theorem ln_take2:z2u ⟨[aL],[]⟩ bL = ([z00 bL],0,⟨[aL,bL],[]⟩):=by kernel_rfl
theorem ln_names:(z00 aL == z00 bL) = false:=by kernel_rfl
theorem ln_keys:(z6l [aL,bL] [1]).length = 1:=by kernel_rfl
theorem aL_fit:aL.Fit:=⟨⟨zeroI_ok,by decide,by decide,by decide,by decide⟩,by decide,by decide,by decide,by decide,(fun p hp=>by cases hp),by decide⟩
theorem bL_fit:bL.Fit:=⟨⟨zeroI_ok,by decide,by decide,by decide,by decide⟩,by decide,by decide,by decide,by decide,(fun p hp=>by cases hp),by decide⟩
theorem zdr:(DagN.mk [aL,bL] []).names.Nodup:=by
 show [z00 aL,z00 bL].Nodup
 have h:z00 aL ≠ z00 bL:=by
  have:=ln_names
  simpa using this
 simp [h]
theorem ln_goods:Goods ⟨[aL,bL],[]⟩:=⟨fun x hx=>by
 rcases List.mem_cons.1 hx with rfl | hx
 ·exact aL_good
 ·obtain rfl:=List.mem_singleton.1 hx
  exact bL_good,fun x hx=>by cases hx⟩
theorem ln_row:∃ x0 x1,z2g [aL,bL] = [x0,x1] ∧ z9r x0 x1 = true ∧ x0.Fit ∧ x1.Fit:=by
 have hp:=z1e [aL,bL]
 have hR:Rows (z2g [aL,bL]):=z4t zdr fun o _=>z0p o
 have hl:=hp.length_eq
 obtain ⟨L,hL⟩:∃ L,z2g [aL,bL] = L:=⟨_,rfl⟩
 rw [hL] at hp hR hl ⊢
 match L,hl with
 | [x0, x1], _ =>
   have hF:∀ x ∈ [x0,x1],x.Fit:=fun x hx=>by
    rcases List.mem_cons.1 (hp.mem_iff.1 hx) with rfl | hx
    ·exact aL_fit
    ·obtain rfl:=List.mem_singleton.1 hx
     exact bL_fit
   exact ⟨x0,x1,rfl,(List.pairwise_cons.1 hR).1 x1 (List.mem_singleton.2 rfl),hF x0 (List.mem_cons_self ..),hF x1 (List.mem_cons_of_mem _ (List.mem_cons_self ..))⟩
theorem built_lD:Tryz.prog.built 27 [(0,.int .i64 1),(1,.string ⟨#[107]⟩)] = some (z0t lD):=by
 rw [ziz]
 refine (z4l zm6 0 0 1 _ _ [] [.int .i64 0] (.string ⟨#[]⟩ :: .string ⟨#[]⟩ :: z07 .u8 zeroI) [.int .i64 1] rfl rfl rfl rfl rfl).trans ?_
 refine (z4l zm6 1 1 1 (.string ⟨#[107]⟩) [] [.int .i64 1] [.string ⟨#[]⟩] (.string ⟨#[]⟩ :: z07 .u8 zeroI) [.string ⟨#[107]⟩] rfl rfl rfl rfl rfl).trans ?_
 rw [zaj]
 rfl
theorem built_aL:Tryz.prog.built 38 [(0,.agg (z0t lD)),(2,.int .i64 1)] = some (opV aL none 0):=by
 rw [zhb]
 refine (z4l zco 0 0 35 _ _ [] (z1h zea) [.int .i64 0,.int .i64 0,.slice none 0 0] (z1h lD) rfl rfl rfl rfl rfl).trans ?_
 show Instr.fill _ (z1h lD ++ ([Value.int .i64 0] ++ ([Value.int .i64 0] ++ [Value.slice none 0 0]))).toArray _ = _
 rw [← List.append_assoc]
 refine ((z4l zco 2 36 1 (.int .i64 1) [] (z1h lD ++ [.int .i64 0]) [.int .i64 0] [.slice none 0 0] [.int .i64 1] rfl rfl rfl rfl rfl).trans ?_)
 rw [zaj]
 rfl
theorem bL_set:(opV aL none 0).setIfInBounds 35 (.int .i64 1) = opV bL none 0:=by kernel_rfl
end Go.Proofs.YtnbldbbbibpobaaGreatDoor
namespace Go.Proofs.YtnbldbbbibpobaaGreatDoor
open Go.Shelf
def Tryz.laysSort_ren:Go.Shelf.Ren:=⟨fun | 190=>72 | 125=>94 | 258=>93 | 128=>123 | 129=>124 | 302=>114 | 303=>115 | 304=>116 | 305=>117 | 306=>118 | 307=>119 | 308=>120 | 309=>121 | 310=>122 | 333=>144 | 329=>145 | 330=>146 | 334=>147 | 335=>148 | 336=>149 | 344=>164 | n=>n,fun | 31=>67 | 9=>9 | 3=>3 | 46=>39 | 0=>0 | 51=>143 | 53=>142 | 4=>4 | 183=>151 | 182=>150 | 131=>156 | 5=>5 | 218=>187 | 222=>191 | 228=>206 | 229=>207 | n=>n,fun | n=>n⟩
theorem Tryz.laysSort:Go.Proofs.Lays.n190 Tryz.prog Tryz.laysSort_ren:={
 mixed:=by kernel_rfl
 f125:=Tryz.func94.trans (congrArg some (by kernel_rfl))
 f128:=Tryz.func123.trans (congrArg some (by kernel_rfl))
 f129:=Tryz.func124.trans (congrArg some (by kernel_rfl))
 f190:=Tryz.func72.trans (congrArg some (by kernel_rfl))
 f258:=Tryz.func93.trans (congrArg some (by kernel_rfl))
 f302:=Tryz.func114.trans (congrArg some (by kernel_rfl))
 f303:=Tryz.func115.trans (congrArg some (by kernel_rfl))
 f304:=Tryz.func116.trans (congrArg some (by kernel_rfl))
 f305:=Tryz.func117.trans (congrArg some (by kernel_rfl))
 f306:=Tryz.func118.trans (congrArg some (by kernel_rfl))
 f307:=Tryz.func119.trans (congrArg some (by kernel_rfl))
 f308:=Tryz.func120.trans (congrArg some (by kernel_rfl))
 f309:=Tryz.func121.trans (congrArg some (by kernel_rfl))
 f310:=Tryz.func122.trans (congrArg some (by kernel_rfl))
 f329:=Tryz.func145.trans (congrArg some (by kernel_rfl))
 f330:=Tryz.func146.trans (congrArg some (by kernel_rfl))
 f333:=Tryz.func144.trans (congrArg some (by kernel_rfl))
 f334:=Tryz.func147.trans (congrArg some (by kernel_rfl))
 f335:=Tryz.func148.trans (congrArg some (by kernel_rfl))
 f336:=Tryz.func149.trans (congrArg some (by kernel_rfl))
 f344:=Tryz.func164.trans (congrArg some (by kernel_rfl))
 t0:=Tryz.underlying0
 a0:=Tryz.isAgg0
 z0:=Tryz.sizeOf0
 v0:=Tryz.zeroValue0
 t3:=Tryz.underlying3
 a3:=Tryz.isAgg3
 z3:=Tryz.sizeOf3
 v3:=Tryz.zeroValue3
 t4:=Tryz.underlying4
 a4:=Tryz.isAgg4
 z4:=Tryz.sizeOf4
 v4:=Tryz.zeroValue4
 t5:=Tryz.underlying5
 a5:=Tryz.isAgg5
 z5:=Tryz.sizeOf5
 v5:=Tryz.zeroValue5
 t9:=Tryz.underlying9
 a9:=Tryz.isAgg9
 z9:=Tryz.sizeOf9
 v9:=Tryz.zeroValue9
 t31:=Tryz.underlying67
 a31:=Tryz.isAgg67
 z31:=Tryz.sizeOf67
 v31:=Tryz.zeroValue67
 t46:=Tryz.underlying39
 a46:=Tryz.isAgg39
 z46:=Tryz.sizeOf39
 v46:=Tryz.zeroValue39
 t51:=Tryz.underlying143
 a51:=Tryz.isAgg143
 z51:=Tryz.sizeOf143
 v51:=Tryz.zeroValue143
 t53:=Tryz.underlying142
 a53:=Tryz.isAgg142
 z53:=Tryz.sizeOf142
 v53:=Tryz.zeroValue142
 t131:=Tryz.underlying156
 a131:=Tryz.isAgg156
 z131:=Tryz.sizeOf156
 v131:=Tryz.zeroValue156
 t182:=Tryz.underlying150
 a182:=Tryz.isAgg150
 z182:=Tryz.sizeOf150
 v182:=Tryz.zeroValue150
 t183:=Tryz.underlying151
 a183:=Tryz.isAgg151
 z183:=Tryz.sizeOf151
 v183:=Tryz.zeroValue151
 t218:=Tryz.underlying187
 a218:=Tryz.isAgg187
 z218:=Tryz.sizeOf187
 v218:=Tryz.zeroValue187
 t222:=Tryz.underlying191
 a222:=Tryz.isAgg191
 z222:=Tryz.sizeOf191
 v222:=Tryz.zeroValue191
 t228:=Tryz.underlying206
 a228:=Tryz.isAgg206
 z228:=Tryz.sizeOf206
 v228:=Tryz.zeroValue206
 t229:=Tryz.underlying207
 a229:=Tryz.isAgg207
 z229:=Tryz.sizeOf207
 v229:=Tryz.zeroValue207 }
def Tryz.laysCompact_ren:Go.Shelf.Ren:=⟨fun | 194=>73 | n=>n,fun | 31=>67 | 9=>9 | 3=>3 | 4=>4 | 0=>0 | n=>n,fun | n=>n⟩
theorem Tryz.laysCompact:Go.Proofs.Lays.n194 Tryz.prog Tryz.laysCompact_ren:={
 mixed:=by kernel_rfl
 f194:=Tryz.func73.trans (congrArg some (by kernel_rfl))
 t0:=Tryz.underlying0
 a0:=Tryz.isAgg0
 z0:=Tryz.sizeOf0
 v0:=Tryz.zeroValue0
 t3:=Tryz.underlying3
 a3:=Tryz.isAgg3
 z3:=Tryz.sizeOf3
 v3:=Tryz.zeroValue3
 t4:=Tryz.underlying4
 a4:=Tryz.isAgg4
 z4:=Tryz.sizeOf4
 v4:=Tryz.zeroValue4
 t9:=Tryz.underlying9
 a9:=Tryz.isAgg9
 z9:=Tryz.sizeOf9
 v9:=Tryz.zeroValue9
 t31:=Tryz.underlying67
 a31:=Tryz.isAgg67
 z31:=Tryz.sizeOf67
 v31:=Tryz.zeroValue67 }
end Go.Proofs.YtnbldbbbibpobaaGreatDoor
namespace Go.Proofs.YtnbldbbbibpobaaGreatDoor
open Go.RowKit Go.BigFrame
theorem Tryz.sizeK:(Tryz.prog.info? 102).map (·.size) = some 6:=by kernel_rfl
theorem Tryz.zeroK:(Tryz.prog.info? 102).bind (·.zero) = some (.agg [Value.bool false,.bool false,.bool false,.bool false,.bool false,.bool false].toArray):=by kernel_rfl
theorem z7i (L:List Int):(z18 L).all (·.oneCell') = true:=by simp [z18,Value.oneCell']
theorem zb0 (ao:Option Addr) (L:List Int) (m c:Nat) (w:World) (h:IntsIn ao L w) (hm:L.length = m) (hl:m ≤ 140737488351232) :
 Calls Tryz.prog 67 #[.slice ao m c] w fun e w'=>e = .returned (.agg (z18 L)) ∧ Below w.heap.size w w':=by
 have HM:=Shut.mk hm
 have H:=Lib.hid h
 have HS:=Lib.hid (show (Tryz.prog.info? 102).map (·.size) = some (z18 L).size from Tryz.sizeK)
 clear hm h
 have b1:Below w.heap.size w (w.alloc (.cells (z18 []) 102)):=(Below.refl _ _).alloc (Nat.le_refl _) _
 have x1:Cells w.heap.size 102 (z18 []) (w.alloc (.cells (z18 []) 102)):=heap_alloc_new w _
 have s1:(w.alloc (.cells (z18 []) 102)).heap.size = w.heap.size + 1:=World.size_alloc _ _
 have b2:Below (w.alloc (.cells (z18 []) 102)).heap.size (w.alloc (.cells (z18 []) 102)) ((w.alloc (.cells (z18 []) 102)).alloc (.cells (z18 []) 102)):=(Below.refl _ _).alloc (Nat.le_refl _) _
 have x2:Cells (w.alloc (.cells (z18 []) 102)).heap.size 102 (z18 []) ((w.alloc (.cells (z18 []) 102)).alloc (.cells (z18 []) 102)):=heap_alloc_new _ _
 rw [s1] at x2
 have HX1:=Lib.hid (x1.below b2)
 have HX2:=Lib.hid x2
 have HB:=Lib.hid (b1.trans (b2.mono b1.size))
 have hk0:=zix
 rw [hk0] at HX1 HX2 HB
 clear b1 x1 s1 b2 x2
 go_enter Tryz.func67,Tryz.ntmps67
 go_wp2_with fail
 obtain ⟨w2,hw2⟩:∃ x,x = (w.alloc (.cells #[.bool false,.bool false,.bool false,.bool false,.bool false,.bool false] 102)).alloc (.cells #[.bool false,.bool false,.bool false,.bool false,.bool false,.bool false] 102):=⟨_,rfl⟩
 rw [← hw2] at HX1 HX2 HB ⊢
 rw [← hk0] at HX1 HX2
 clear hw2 hk0
 go_loopw [8] (fun i wr=>∃ k:Nat,i = .int .i64 k ∧ k ≤ m ∧ Cells w.heap.size 102 (z18 []) wr ∧ Cells (w.heap.size + 1) 102 (z18 (L.take k)) wr ∧ Below w.heap.size w wr) (fun i _=>m - (intOf i).toNat)
 case atStart=>exact ⟨0,rfl,Nat.zero_le _,HX1.out,HX2.out,HB.out⟩
 case round =>
  obtain ⟨wi,rfl⟩:∃ z,z = wr:=⟨_,rfl⟩
  obtain ⟨k,rfl,hk,h1,h2,hb⟩:=hrel
  have H1:=Lib.hid h1
  have H2:=Lib.hid h2
  have HB2:=Lib.hid hb
  clear h1 h2 hb HX1 HX2 HB
  by_cases hlt:k < m
  ·obtain ⟨b,o,rfl,hbl,hc⟩:=zlg (H.out.below HB2.out) (by rw [HM.out];omega)
   have c1:=hc k (by rw [HM.out];exact hlt)
   have hts:=zjd (L:=L) (k:=k) (by rw [HM.out];exact hlt)
   obtain ⟨z,hz⟩:∃ z,L.getD k 0 = z:=⟨_,rfl⟩
   rw [hz] at c1 hts
   clear hc hbl hz
   by_cases hin:1 ≤ z ∧ z ≤ 5
   ·have HTS:=Lib.hid (show (z18 (L.take k)).setIfInBounds z.toNat (.bool true) = z18 (L.take (k + 1)) by rw [hts];exact zlq hin)
    obtain ⟨n,rfl⟩:∃ n:Nat,z = (n:Int):=⟨z.toNat,by omega⟩
    obtain ⟨hz1,hz5⟩:=hin
    have cs:wi.cell? ⟨w.heap.size + 1,n,none⟩ = some (.bool (decide ((n:Int) ∈ L.take k))):=by
     rw [H2.out.at]
     exact z7l ⟨hz1,hz5⟩
    have cf:=H2.out.frozen n
    have hb7:But (w.heap.size + 1) wi (wi.setCell ⟨w.heap.size + 1,n,none⟩ (.bool true)):=(But.refl _ wi).setCell n _
    have H17:=Lib.hid (show Cells w.heap.size 102 (z18 []) (wi.setCell ⟨w.heap.size + 1,n,none⟩ (.bool true)) from (hb7.block _ H1.out.lt (by omega)).trans H1.out)
    have H27:=Lib.hid (HTS.out ▸ H2.out.set n (.bool true))
    have HB7:=Lib.hid (But.toBelow HB2.out hb7 (Nat.le_succ _) HB2.out.size)
    have hn6:(n:Int) < 6:=by omega
    have g1:decide ((1:Int) ≤ (n:Int)) = true:=decide_eq_true hz1
    have g2:decide ((n:Int) ≤ (5:Int)) = true:=decide_eq_true hz5
    clear hb7 hts
    go_wp2_with fail
    exact ⟨⟨k + 1,by go_num,by omega,H17.out,H27.out,HB7.out⟩,by simp [intOf];omega⟩
   ·have HTS:=Lib.hid (show z18 (L.take k) = z18 (L.take (k + 1)) by rw [hts];exact (zj6 hin).symm)
    clear hts
    by_cases h1:1 ≤ z
    ·have g1:decide ((1:Int) ≤ z) = true:=decide_eq_true h1
     have g2:decide (z ≤ (5:Int)) = false:=decide_eq_false (fun e=>hin ⟨h1,e⟩)
     clear hin h1
     go_wp2_with fail
     exact ⟨⟨k + 1,by go_num,by omega,H1.out,HTS.out ▸ H2.out,HB2.out⟩,by simp [intOf];omega⟩
    ·have g1:decide ((1:Int) ≤ z) = false:=decide_eq_false h1
     clear hin h1
     go_wp2_with fail
     exact ⟨⟨k + 1,by go_num,by omega,H1.out,HTS.out ▸ H2.out,HB2.out⟩,by simp [intOf];omega⟩
  ·obtain rfl:k = m:=by omega
   have HE:=Lib.hid (show L.take k = L from List.take_of_length_le (by rw [HM.out];exact Nat.le_refl _))
   have H2L:=Lib.hid (HE.out ▸ H2.out)
   have HSV:=Lib.hid (show (z18 []).size = (z18 L).size from rfl)
   go_wp2_with (first
    | (refine z01 rfl 102 _ rfl (w.heap.size + 1) (z18 L) 102 _ rfl H2L.out Tryz.underlying102 rfl HS.out ?_)
    | (refine z02 rfl 102 _ _ rfl rfl w.heap.size (z18 []) (z18 L) 102 rfl rfl H1.out HS.out HSV.out (z7i L) ?_))
   intro w6 hc6 hb6
   have HC6:=Lib.hid hc6.out
   have HB6:=Lib.hid (But.toBelow HB2.out hb6.out (Nat.le_refl _) HB2.out.size)
   clear hc6 hb6
   go_wp2_with fail
   refine bodyPost_ret (results_cell_row rfl _ _ w.heap.size 102 _ (0,0) _ rfl HC6.out Tryz.underlying102 rfl HS.out) rfl ?_
   exact ⟨rfl,HB6.out⟩
theorem zek (x:OpN) (pa:Option Addr) (pc gs:Nat) (L:List Int) (w:World) (hx:x.d.ref.length = 32) (hk:1 ≤ x.d.kind ∧ x.d.kind ≤ 5) (hset:Cells gs 102 (z18 L) w) :
 Calls Tryz.prog 71 (#[] ++ [Value.agg (opV x pa pc)].toArray ++ #[.pointer (some ⟨gs,0,none⟩)]) w fun e w'=>e = .returned (.bool (decide (x.d.kind ∈ L))) ∧ Below w.heap.size w w':=by
 show Calls Tryz.prog 71 #[.agg (opV x pa pc),.pointer (some ⟨gs,0,none⟩)] w _
 have b1:Below w.heap.size w (w.alloc (.cells (opV x pa pc) 38)):=(Below.refl _ _).alloc (Nat.le_refl _) _
 have x1:Cells w.heap.size 38 (opV x pa pc) (w.alloc (.cells (opV x pa pc) 38)):=heap_alloc_new w _
 have c0:=(z20 (z0j hx x1).1).1
 have HB:=Lib.hid b1
 have hs:=hset.below b1
 have cs:(w.alloc (.cells (opV x pa pc) 38)).cell? ⟨gs,x.d.kind.toNat,none⟩ = some (.bool (decide (x.d.kind ∈ L))):=by
  rw [hs.at]
  exact z7l hk
 obtain ⟨n,hn⟩:∃ n:Nat,x.d.kind = (n:Int):=⟨x.d.kind.toNat,by omega⟩
 rw [hn,Int.toNat_natCast] at cs
 rw [hn] at c0
 have HR:=Shut.mk (show decide (x.d.kind ∈ L) = decide ((n:Int) ∈ L) by rw [hn])
 have hn6:(n:Int) < 6:=by omega
 obtain ⟨R,hR⟩:∃ R,decide ((n:Int) ∈ L) = R:=⟨_,rfl⟩
 obtain ⟨R0,hR0⟩:∃ R,decide (x.d.kind ∈ L) = R:=⟨_,rfl⟩
 rw [hR] at cs HR
 rw [hR0] at HR ⊢
 clear b1 x1 hs hset hk hn hR hR0 hx
 go_enter Tryz.func71,Tryz.ntmps71
 go_wp2_with fail
 go_ret
 exact ⟨by rw [HR.out];rfl,HB.out⟩
open Go.Sort
theorem zla (a b:List UInt8):Op.bytesLess a b = true ↔ a < b:=by rw [Go.Proofs.bytesLess_eq,decide_eq_true_iff]
theorem zie {a b:List UInt8} (h:a ≤ b):a = b ∨ Op.bytesLess a b = true:=by
 by_cases e:a = b
 ·exact .inl e
 ·refine .inr ((z7z e).resolve_right fun h2=>?_)
  exact List.not_lt.2 h ((zla b a).1 h2)
theorem zli (L:List (List UInt8)):(L.mergeSort fun x y=>decide (x ≤ y)).Pairwise fun a b=>a ≤ b:=by
 have:=List.pairwise_mergeSort (le:=fun x y:List UInt8=>decide (x ≤ y)) (fun a b c h1 h2=>by
  simp only [decide_eq_true_eq] at h1 h2 ⊢
  exact List.le_trans h1 h2) (fun a b=>by
  simp only [Bool.or_eq_true,decide_eq_true_eq]
  exact List.le_total a b) L
 exact this.imp fun h=>by simpa using h
theorem zbj {d:Array (List UInt8)} (hs:∀ i j,i < j → j < d.size → d[i]! ≤ d[j]!):∀ m,m ≤ d.size → Ups (Lib.compactUpTo d m) ∧ (∀ x,x ∈ Lib.compactUpTo d m ↔ ∃ i,i < m ∧ d[i]! = x)
 | 0,_=>⟨List.Pairwise.nil,fun x=>by simp [Lib.compactUpTo]⟩
 | m + 1, hm => by
   obtain ⟨h1,h2⟩:=zbj hs m (by omega)
   rw [Lib.compactUpTo_succ]
   by_cases hk:Lib.keeps d m = true
   ·rw [if_pos hk]
    refine ⟨List.pairwise_append.2 ⟨h1,List.pairwise_singleton _ _,fun x hx y hy=>?_⟩,fun x=>?_⟩
    ·obtain rfl:=List.mem_singleton.1 hy
     obtain ⟨i,hi,rfl⟩:=(h2 x).1 hx
     have hne:d[m]! ≠ d[m - 1]!:=by
      have:=of_decide_eq_true hk
      rcases this with h | h
      ·omega
      ·exact h
     have hlast:Op.bytesLess d[m - 1]! d[m]! = true:=(zie (hs (m - 1) m (by omega) (by omega))).resolve_left fun e=>hne e.symm
     by_cases he:i = m - 1
     ·rw [he];exact hlast
     ·rcases zie (hs i (m - 1) (by omega) (by omega)) with e | e
      ·rw [e];exact hlast
      ·exact z82 e hlast
    ·rw [List.mem_append,List.mem_singleton,h2]
     constructor
     ·rintro (⟨i,hi,rfl⟩ | rfl)
      ·exact ⟨i,by omega,rfl⟩
      ·exact ⟨m,by omega,rfl⟩
     ·rintro ⟨i,hi,rfl⟩
      by_cases he:i = m
      ·rw [he];exact .inr rfl
      ·exact .inl ⟨i,by omega,rfl⟩
   ·rw [if_neg hk,List.append_nil]
    have hk2:Lib.keeps d m = false:=by simpa using hk
    have hk':¬ (m = 0 ∨ d[m]! ≠ d[m - 1]!):=of_decide_eq_false hk2
    have hm0:m ≠ 0:=fun e=>hk' (.inl e)
    have he:d[m]! = d[m - 1]!:=Classical.not_not.1 fun e=>hk' (.inr e)
    refine ⟨h1,fun x=>?_⟩
    rw [h2]
    constructor
    ·rintro ⟨i,hi,rfl⟩
     exact ⟨i,by omega,rfl⟩
    ·rintro ⟨i,hi,rfl⟩
     by_cases hx:i = m
     ·rw [hx,he];exact ⟨m - 1,by omega,rfl⟩
     ·exact ⟨i,by omega,rfl⟩
theorem zer (L:List (List UInt8)):Lib.compact (L.mergeSort fun x y=>decide (x ≤ y)) = z0v L:=by
 have hs:=zli L
 have hp:=List.mergeSort_perm L fun x y=>decide (x ≤ y)
 obtain ⟨Z,hZ⟩:∃ Z,(L.mergeSort fun x y=>decide (x ≤ y)) = Z:=⟨_,rfl⟩
 rw [hZ] at hs hp ⊢
 have hat:∀ i,i < Z.length → Z.toArray[i]! = Z.getD i []:=fun i hi=>by
  rw [getElem!_pos Z.toArray i (by rw [List.size_toArray];exact hi),List.getD_eq_getElem?_getD,List.getElem?_eq_getElem hi]
  simp
 obtain ⟨h1,h2⟩:=zbj (d:=Z.toArray) (fun i j hij hj=>by
  rw [List.size_toArray] at hj
  rw [hat i (by omega),hat j hj,List.getD_eq_getElem?_getD,List.getD_eq_getElem?_getD,List.getElem?_eq_getElem (show i < Z.length by omega),List.getElem?_eq_getElem hj]
  exact List.pairwise_iff_getElem.1 hs i j (by omega) hj hij) Z.length (by rw [List.size_toArray];exact Nat.le_refl _)
 refine z9e h1 fun x=>?_
 rw [← hp.mem_iff,show (x ∈ Lib.compact Z ↔ _) from h2 x]
 constructor
 ·rintro ⟨i,hi,rfl⟩
  rw [hat i hi,List.getD_eq_getElem?_getD,List.getElem?_eq_getElem hi]
  exact List.getElem_mem hi
 ·intro hx
  obtain ⟨i,hi,rfl⟩:=List.getElem_of_mem hx
  exact ⟨i,hi,by rw [hat i hi,List.getD_eq_getElem?_getD,List.getElem?_eq_getElem hi];rfl⟩
theorem OwnS.formB {B:Nat} {v:Value} {L:List (List UInt8)} {w:World} (h:OwnS B v L w):v = .slice none 0 0 ∧ L = [] ∨ ∃ g cap,v = .slice (some ⟨g,0,none⟩) L.length cap ∧ L.length ≤ cap ∧ B ≤ g ∧ g < w.heap.size:=by
 rcases h.2 with ⟨h1,h2⟩ | ⟨g,cap,_,h1,hB,hg,hc,_⟩
 ·exact .inl ⟨h1,List.length_eq_zero_iff.1 h2⟩
 ·exact .inr ⟨g,cap,h1,hc,hB,lt_of_block hg⟩
theorem zdk (L:List (List UInt8)):∀ u ∈ z3t L,u.oneCell' = true:=fun u hu=>by
 obtain ⟨s,_,rfl⟩:=List.mem_map.1 hu
 rfl
theorem Tryz.infoStr:(Tryz.prog.info? 9).map (fun i=>(i.zero,i.size,i.bytes)) = some (some (.string ⟨#[]⟩),1,16):=by kernel_rfl
theorem z79 {w:World} {ops:Array Oper} {rest:List Oper} {o:Oper} {a:Act} {Q:Exit → Act → World → Prop} (hgd:o.guard = none) (s x:Operand)
 (ho:o.op = .call { callee:=.builtin .append,args:=#[s,x],argTypes:=#[67,67] })
 (B:Nat) (v:Value) (L:List (List UInt8)) (y:List UInt8) (ad:Addr) (c:Nat) (hs:a.eval s = v) (hown:OwnS B v L w) (hx:a.eval x = .slice (some ad) 1 c) (hnew:w.cell? (ad.add 0) = some (.string ⟨y.toArray⟩)) (h63:L.length ≤ 1000000) (hB:B ≤ w.heap.size)
 (h:∀ v' w',Hid (OwnS B v' (L ++ [y]) w') → Hid (Below B w w') → Hid (w.grownBy w' v.ownBlock) → wpList Tryz.prog ops Q rest (a.put o.dst v') w'):wpList Tryz.prog ops Q (o :: rest) a w:=by
 obtain ⟨i,hi,hz0,hz1,hz2⟩:=info_parts Tryz.infoStr
 refine wpList_append_own_at w hgd s x _ ho B 9 i _ 1 16 Tryz.underlying67 hi hz0 hz1 hz2 rfl (by decide) v L.length (z3t L) hs hown ad 1 c [encStr y] hx rfl ?_ (zdk [y]) (by unfold maxLen;omega)
  (Nat.le_trans (Nat.mul_le_mul (show L.length + 1 ≤ 1000001 by omega) (Nat.le_refl 16)) (by decide)) hB ?_
 ·intro j u hj
  obtain rfl:j = 0:=by
   have:=(List.getElem?_eq_some_iff.1 hj).1
   simpa using this
  cases hj
  exact hnew
 ·intro v' w' q1 q2 _ _
  refine h v' w' (Lib.hid ?_) (Lib.hid ((Below.refl B w).grown q2 hB (fun k hk=>(World.ownsRow.lt hown k hk).1))) (Lib.hid q2)
  show w'.ownsRow B _ 1 v' (L ++ [y]).length (z3t (L ++ [y]))
  rw [List.length_append,zlr]
  exact q1
open Go.Shelf
theorem zlt {B g n c:Nat} {L:List (List UInt8)} {w:World} (h:OwnS B (.slice (some ⟨g,0,none⟩) n c) L w) (hn:L.length = n) (hl:n ≤ 100000) :
 Calls Tryz.prog 72 #[.slice (some ⟨g,0,none⟩) n c] w fun e w'=>e = .returned (.tuple #[]) ∧ OwnS B (.slice (some ⟨g,0,none⟩) n c) (L.mergeSort fun x y=>decide (x ≤ y)) w' ∧ w.grownBy w' (some g):=by
 subst hn
 obtain ⟨g',cap,hv,hbg,hgl,hncap,hcm,hlen,hH⟩:=Lib.holds_of_ownsRow (enc:=encStr) (zs:=L) h (fun e=>by cases e)
 injection hv with h1 _ h3
 injection h1 with h1
 injection h1 with h1 _ _
 subst h1 h3
 have hs:=calls_of_every_depth (P:=Tryz.prog) fun D=>AnyS.slices_Sort_string_alone Tryz.laysSort D g 0 c L w hH hgl (by omega)
 refine Calls.mono (f:=72) hs ?_
 rintro e w' ⟨rfl,q,os,rfl⟩
 have hl2:(L.mergeSort fun x y=>decide (x ≤ y)).length = L.length:=List.length_mergeSort L
 rcases h.2 with ⟨h0,_⟩ | ⟨g',cap',cur,hv,hbase,hb,h1,h2,h3,h4⟩
 ·cases h0
 cases hv
 have hs:=ownsRow_sorted (n:=q) (os:=os) hl2 hbase hb h1 h2 h3
 refine ⟨rfl,?_,grownBy_sorted _⟩
 unfold OwnS
 rw [hl2]
 exact hs
theorem zfh {B g n c:Nat} {L:List (List UInt8)} {w:World} (h:OwnS B (.slice (some ⟨g,0,none⟩) n c) L w) (hn:L.length = n) (hl:n ≤ 100000) :
 Calls Tryz.prog 73 #[.slice (some ⟨g,0,none⟩) n c] w fun e w'=>e = .returned (.slice (some ⟨g,0,none⟩) (Lib.compact L).length c) ∧ OwnS B (.slice (some ⟨g,0,none⟩) (Lib.compact L).length c) (Lib.compact L) w' ∧ (∀ w0,Below B w0 w → Below B w0 w'):=by
 subst hn
 obtain ⟨g',cap,hv,hbg,hgl,hncap,hcm,hlen,hH⟩:=Lib.holds_of_ownsRow (enc:=encStr) (zs:=L) h (fun e=>by cases e)
 injection hv with h1 _ h3
 injection h1 with h1
 injection h1 with h1 _ _
 subst h1 h3
 have hs:=Any.slices_Compact_string Tryz.laysCompact g 0 c L w hH (by omega) hncap
 refine Calls.mono (f:=73) hs ?_
 rintro e w' ⟨rfl,q,rfl⟩
 have hle:=Lib.compact_length_le L
 have hc:=Lib.ownsRow_putRow (q:=q) (k:=(Lib.compact L).length) (ys:=Lib.compact L ++ List.replicate (L.length - (Lib.compact L).length) []) h (by simp;omega) (by omega)
 rw [List.take_left] at hc
 exact ⟨rfl,hc,fun w0 hb=>Lib.below_putRow hb hbg⟩
theorem zf8 {L M:List (List UInt8)} (h:L.Perm M):z0v L = z0v M:=z9e (z8a L) fun _=>risingT_mem.trans h.mem_iff
theorem pl_key {g o:Nat} {x:OpN} {pa:Option Addr} {pc:Nat} {w:World} (h:w.rangeAt g o (opL x pa pc)):w.cell? ⟨g,o + 1,none⟩ = some (.string ⟨x.d.key.toArray⟩):=h 1 _ rfl
theorem zdy (X:Nat → Prop) (B:Bs) (T:Ents) (s:DagN) (hs:List (List Nat)) (M:Bh) (ao:Option Addr) (L:List Int) (m c:Nat) (w:World) (h:SetAt X B T s hs M w) (hn:s.names.Nodup) (ht:Tame s) (hg:Goods s) (hI:IntsIn ao L w) (hm:L.length = m) (hl:m ≤ 140737488351232) :
 Calls Tryz.prog 37 #[.pointer (some ⟨B.gs,0,none⟩),.slice ao m c] w fun e w'=>∃ v,e = .returned v ∧ OwnS w.heap.size v (z6l s.ops L) w' ∧ Below w.heap.size w w':=by
 have HS0:=Lib.hid h
 have HND:=Lib.hid hn
 have HT:=Lib.hid ht
 have HGD:=Lib.hid hg
 have HSK:=Lib.hid (show (Tryz.prog.info? 102).map (·.size) = some (z18 L).size from Tryz.sizeK)
 have HSV:=Lib.hid (show [Value.bool false,.bool false,.bool false,.bool false,.bool false,.bool false].toArray.size = (z18 L).size from rfl)
 have HA:=Lib.hid (zb0 ao L m c _ hI hm hl)
 have hperm:(z59 s.ops (fun o=>decide (o.d.kind ∈ L)) (z0g s.names)).Perm (s.ops.filter fun o=>decide (o.d.kind ∈ L)):=zd0 hn
 have HKT:=Lib.hid (show z0v ((z59 s.ops (fun o=>decide (o.d.kind ∈ L)) (z0g s.names)).map fun o=>o.d.key) = z6l s.ops L from zf8 (hperm.map _))
 have HR:=Lib.hid (show ∀ x ∈ z59 s.ops (fun o=>decide (o.d.kind ∈ L)) (z0g s.names),x.d.ref.length = 32 from fun x hx=>(ht.ops x (List.mem_filter.1 (hperm.mem_iff.1 hx)).1).d.ref.1)
 have HPL:=Lib.hid (show (z59 s.ops (fun o=>decide (o.d.kind ∈ L)) (z0g s.names)).length ≤ 1000 from by
  rw [hperm.length_eq]
  have:=List.length_filter_le (fun o=>decide (o.d.kind ∈ L)) s.ops
  have:=ht.many
  omega)
 clear h hn ht hg hI hperm
 go_enter Tryz.func37,Tryz.ntmps37
 go_wp2_with (first
  | (refine HA.out.mono ?_;rintro e w3 ⟨rfl,hb3⟩;have HB3:=Lib.hid hb3;clear hb3)
  | (refine z0d rfl 102 rfl _ Tryz.zeroK ?_)
  | (refine z02 rfl 102 _ _ rfl rfl w3.heap.size _ (z18 L) 102 rfl rfl (heap_alloc_new w3 _) HSK.out HSV.out (z7i L) ?_))
 intro w5 hc5 hb5
 have hb35:Below w3.heap.size w3 w5:=But.toBelow ((Below.refl _ w3).alloc (Nat.le_refl _) _) hb5.out (Nat.le_refl _) (by rw [World.size_alloc];exact Nat.le_succ _)
 have HC5:=Lib.hid hc5.out
 have HB5:=Lib.hid (HB3.out.trans (hb35.mono HB3.out.size))
 have HAR:=Lib.hid (zb4 X B T s hs M (fun o=>decide (o.d.kind ∈ L)) 71 _ #[.pointer (some ⟨w3.heap.size,0,none⟩)] w5 (HS0.out.below HB5.out) HND.out HT.out Tryz.func71 rfl rfl (fun x hx pa pc w' hb=>zek x pa pc w3.heap.size L w' (HT.out.ops x hx).d.ref.1 (HGD.out.kind hx) (HC5.out.below hb)))
 obtain ⟨P,hP⟩:∃ P,z59 s.ops (fun o=>decide (o.d.kind ∈ L)) (z0g s.names) = P:=⟨_,rfl⟩
 rw [hP] at HAR HKT HR HPL
 obtain ⟨n,hn⟩:∃ n,P.length = n:=⟨_,rfl⟩
 have HN:=Shut.mk hn
 have hn2:n ≤ 1000:=hn ▸ HPL.out
 obtain ⟨KT,hKT⟩:∃ K,z6l s.ops L = K:=⟨_,rfl⟩
 rw [hKT] at HKT
 have HKT2:=Shut.mk hKT
 clear hc5 hb5 hb35 hP hn hKT
 go_wp2_with (refine HAR.out.mono ?_;rintro e w6 ⟨v6,rfl,ho6,hb6⟩;obtain ⟨ap,cp,rfl⟩:=ho6.form;have HB6:=Lib.hid (HB5.out.trans (hb6.mono HB5.out.size));have HP6:=Lib.hid ho6;rw [HN.out] at HP6 ⊢;clear ho6 hb6)
 go_loopw [6,15] (fun tv i wr=>∃ (v:Value) (k:Nat),tv = v ∧ i = .int .i64 k ∧ k ≤ n ∧ OwnS w6.heap.size v ((P.map fun o=>o.d.key).take k) wr ∧ Below w6.heap.size w6 wr) (fun _ i _=>n - (intOf i).toNat)
 case atStart=>exact ⟨_,0,rfl,rfl,Nat.zero_le _,OwnS.nil _ _,Below.refl _ _⟩
 case round =>
  obtain ⟨wi,rfl⟩:∃ z,z = wr:=⟨_,rfl⟩
  obtain ⟨v,k,rfl,rfl,hk,ho,hb⟩:=hrel
  have HO:=Lib.hid ho
  have HBM:=Lib.hid hb
  have HB:=Lib.hid (HB6.out.trans (hb.mono HB6.out.size))
  have HPI:=Lib.hid (HP6.out.below hb)
  clear hb
  by_cases hlt:k < n
  ·have hx:P[k]? = some (P.getD k z05):=by
    rw [List.getD_eq_getElem?_getD,List.getElem?_eq_getElem (by rw [HN.out];exact hlt)]
    rfl
   obtain ⟨gp,rfl,hgp⟩:∃ g,ap = some ⟨g,0,none⟩ ∧ g < w6.heap.size:=by
    rcases HP6.out.formB with ⟨_,h2⟩ | ⟨g,c,h2,_,_,h3⟩
    ·have:=HN.out;rw [h2] at this;simp at this;omega
    ·injection h2 with h4 _ _
     exact ⟨g,h4,h3⟩
   have hts:(P.map fun o=>o.d.key).take (k + 1) = (P.map fun o=>o.d.key).take k ++ [(P.getD k z05).d.key]:=by
    rw [List.take_succ_eq_append_getElem (by rw [List.length_map,HN.out];exact hlt),List.getElem_map]
    congr 3
    rw [List.getD_eq_getElem?_getD,List.getElem?_eq_getElem (by rw [HN.out];exact hlt)]
    rfl
   have hxm:P.getD k z05 ∈ P:=List.mem_of_getElem? hx
   obtain ⟨x,hxe⟩:∃ x,P.getD k z05 = x:=⟨_,rfl⟩
   rw [hxe] at hx hts hxm
   have HTS:=Shut.mk hts
   have hr:=HR.out x hxm
   have HXR:=Lib.hid hr
   obtain ⟨hgl,pa,pc,q1,q2,q3⟩:=HPI.out.get hx
   have HQ1:=Lib.hid (show wi.rangeAt gp (k * 70) (plL x pa pc) by rw [Nat.mul_comm];exact q1)
   have HSL:=Lib.hid (show (Tryz.prog.info? 99).map (·.size) = some (plL x pa pc).length by rw [z2e hr];exact Tryz.sizePl)
   have HSV2:=Lib.hid (show (Tryz.prog.info? 99).map (·.size) = some (plV x pa pc).size by rw [plV,List.size_toArray,z2e hr];exact Tryz.sizePl)
   have HSZ:=Lib.hid (show (opL z05 none 0 ++ z07 .u8 zeroI).toArray.size = (plV x pa pc).size by rw [plV,List.size_toArray,List.size_toArray,z2e hr];rfl)
   have HSA:=Lib.hid (show (plV x pa pc).all (·.oneCell') = true by rw [plV,List.all_toArray];exact List.all_eq_true.2 (z80 x pa pc))
   clear hx hts hxe hr q1 q2 q3 hgl hxm
   go_wp2_with (first
    | (refine wpList_load_mid rfl 99 _ rfl gp (k * 70) rfl (plL x pa pc) _ HQ1.out Tryz.underlying99 rfl HSL.out ?_)
    | (refine z0d rfl 99 rfl (opL z05 none 0 ++ z07 .u8 zeroI) Tryz.zeroPl ?_)
    | (refine z02 rfl 99 _ _ rfl rfl wi.heap.size (opL z05 none 0 ++ z07 .u8 zeroI).toArray (plV x pa pc) 99 rfl rfl (heap_alloc_new wi _) HSV2.out HSZ.out HSA.out ?_))
   intro w7 hcs hbs
   have hb7:Below wi.heap.size wi w7:=But.toBelow ((Below.refl _ wi).alloc (Nat.le_refl _) _) hbs.out (Nat.le_refl _) (by rw [World.size_alloc];exact Nat.le_succ _)
   have ck:=pl_key (z8l HXR.out hcs.out).1
   rw [Nat.zero_add] at ck
   have HB7:=Lib.hid hb7
   obtain ⟨ky,hky⟩:∃ z,x.d.key = z:=⟨_,rfl⟩
   rw [hky] at ck HTS
   clear hcs hbs hb7 hky
   obtain ⟨oa,oc,rfl⟩:=HO.out.form
   obtain ⟨ol,hol⟩:∃ z,((P.map fun o=>o.d.key).take k).length = z:=⟨_,rfl⟩
   rw [hol] at HO ⊢
   have HOL:=Lib.hid (show ((P.map fun o=>o.d.key).take k).length ≤ 1000000 from by rw [List.length_take];omega)
   have b8:Below w7.heap.size w7 (w7.alloc (.cells #[.string ⟨ky.toArray⟩] 9)):=(Below.refl _ _).alloc (Nat.le_refl _) _
   have HO8:=Lib.hid (HO.out.below (HB7.out.trans (b8.mono HB7.out.size)))
   have HB8:=Lib.hid (HBM.out.trans ((HB7.out.trans (b8.mono HB7.out.size)).mono HBM.out.size))
   have HC8:=Lib.hid (show (w7.alloc (.cells #[.string ⟨ky.toArray⟩] 9)).cell? ((⟨w7.heap.size,0,none⟩:Addr).add 0) = some (.string ⟨ky.toArray⟩) from by
    rw [Addr.add_lit,Lib.cell_of_heap (heap_alloc_new w7 _)]
    rfl)
   clear hol b8
   go_wp2_with (refine z79 rfl _ _ rfl w6.heap.size (.slice oa ol oc) _ ky ⟨w7.heap.size,0,none⟩ 1 rfl HO8.out rfl HC8.out HOL.out HB8.out.size ?_)
   intro v9 w9 ho9 hb9 _
   have HO9:=Lib.hid (HTS.out ▸ ho9.out)
   have HB9:=Lib.hid (HB8.out.trans hb9.out)
   clear ho9 hb9
   go_wp2_with fail
   exact ⟨⟨v9,k + 1,rfl,by go_num,by omega,HO9.out,HB9.out⟩,by simp [intOf];omega⟩
  ·obtain rfl:k = n:=by omega
   have HE:=Lib.hid (show (P.map fun o=>o.d.key).take k = P.map fun o=>o.d.key from List.take_of_length_le (by rw [List.length_map,HN.out];exact Nat.le_refl _))
   have HO2:=Lib.hid (HE.out ▸ HO.out)
   have HML:=Shut.mk (show (P.map fun o=>o.d.key).length = k by rw [List.length_map];exact HN.out)
   obtain ⟨Q,hQ⟩:∃ Q,(P.map fun o=>o.d.key) = Q:=⟨_,rfl⟩
   rw [hQ] at HO2 HML HKT
   clear hQ HE ho HO
   rcases HO2.out.formB with ⟨rfl,h0⟩ | ⟨gq,cq,rfl,_,hgq,_⟩
   ·have HS:=Lib.hid (Any.slices_Sort_string_none Tryz.laysSort none 0 wi)
    have HC:=Lib.hid (Any.slices_Compact_string_empty Tryz.laysCompact none 0 wi)
    have HE:=Lib.hid (show KT = [] from by rw [← HKT.out,h0];rfl)
    clear h0
    go_wp2_with (first
     | (refine Calls.mono (f:=72) HS.out ?_;rintro e w9 ⟨rfl,rfl⟩)
     | (refine Calls.mono (f:=73) HC.out ?_;rintro e w9 ⟨rfl,rfl⟩))
    go_ret
    exact ⟨_,rfl,by rw [HKT2.out,HE.out];exact OwnS.nil _ _,HB.out⟩
   ·have HG:=Lib.hid hgq
    have hso:=HO2.out
    rw [HML.out] at hso ⊢
    have HS:=Lib.hid (zlt hso HML.out (by omega))
    have HSC:=Lib.hid (zer Q)
    have HSL:=Shut.mk (show (Q.mergeSort fun x y=>decide (x ≤ y)).length = k by rw [List.length_mergeSort];exact HML.out)
    obtain ⟨Z,hZ⟩:∃ Z,(Q.mergeSort fun x y=>decide (x ≤ y)) = Z:=⟨_,rfl⟩
    rw [hZ] at HS HSC HSL
    clear hgq hso hZ
    go_wp2_with (first
     | (refine HS.out.mono ?_;rintro e w9 ⟨rfl,ho9,hg9⟩;have HO9:=Lib.hid ho9;have HCP:=Lib.hid (zfh ho9 HSL.out (by omega));have HB9:=Lib.hid (HBM.out.grown hg9 HBM.out.size (fun j hj=>by cases hj;exact HG.out));clear ho9 hg9)
     | (refine HCP.out.mono ?_;rintro e w10 ⟨rfl,ho10,hb10⟩;have HO10:=Lib.hid ho10;have HB10:=Lib.hid (hb10 _ HB9.out);clear ho10 hb10))
    go_ret
    exact ⟨_,rfl,by rw [HKT2.out,← HKT.out,← HSC.out];exact HO10.out.mono HB6.out.size,HB6.out.trans (HB10.out.mono HB6.out.size)⟩
end Go.Proofs.YtnbldbbbibpobaaGreatDoor
namespace Go.Proofs.YtnbldbbbibpobaaGreatDoor
open Go.RowKit Go.BigFrame
theorem cmpN_neg (a b:List Nat):decide (z1t a b < 0) = decide (z1t a b = -1):=by
 rcases z42 a b with h | h | h <;> rw [h] <;> rfl
theorem z9s (a b:OpN) (pa pb:Option Addr) (pc pd:Nat) (w:World) (ha:a.Fit) (hb:b.Fit) (hpa:IAt pa a.preds w) (hpb:IAt pb b.preds w) :
 Calls Tryz.prog 40 #[.agg (opV a pa pc),.agg (opV b pb pd)] w fun e w'=>e = .returned (.bool (z9r a b)) ∧ Below w.heap.size w w':=by
 have b1:Below w.heap.size w (w.alloc (.cells (opV a pa pc) 38)):=(Below.refl _ _).alloc (Nat.le_refl _) _
 have x1:Cells w.heap.size 38 (opV a pa pc) (w.alloc (.cells (opV a pa pc) 38)):=heap_alloc_new w _
 have s1:(w.alloc (.cells (opV a pa pc) 38)).heap.size = w.heap.size + 1:=World.size_alloc _ _
 have b2:Below (w.alloc (.cells (opV a pa pc) 38)).heap.size (w.alloc (.cells (opV a pa pc) 38)) ((w.alloc (.cells (opV a pa pc) 38)).alloc (.cells (opV b pb pd) 38)):=(Below.refl _ _).alloc (Nat.le_refl _) _
 have x2:Cells (w.alloc (.cells (opV a pa pc) 38)).heap.size 38 (opV b pb pd) ((w.alloc (.cells (opV a pa pc) 38)).alloc (.cells (opV b pb pd) 38)):=heap_alloc_new _ _
 rw [s1] at x2
 have HX1:=Lib.hid (x1.below b2)
 have HX2:=Lib.hid x2
 have HB:=Lib.hid (b1.trans (b2.mono b1.size))
 have HA:=Lib.hid ha
 have HBB:=Lib.hid hb
 have HPA:=Lib.hid (hpa.below HB.out)
 have HPB:=Lib.hid (hpb.below HB.out)
 have HSA:=Lib.hid (show (Tryz.prog.info? 38).map (·.size) = some (opV a pa pc).size by rw [z0b ha.d.ref.1];exact Tryz.sizeO)
 have HSB:=Lib.hid (show (Tryz.prog.info? 38).map (·.size) = some (opV b pb pd).size by rw [z0b hb.d.ref.1];exact Tryz.sizeO)
 clear b1 x1 s1 b2 x2 hpa hpb ha hb
 have HNG:=Shut.mk (cmpN_neg (z00 a) (z00 b))
 have HBF:=Shut.mk (show z9r a b = (decide (a.depth < b.depth) || (decide (a.depth = b.depth) && decide (z1t (z00 a) (z00 b) = -1))) from rfl)
 rw [← HNG.out] at HBF
 obtain ⟨F,hF⟩:∃ F,z9r a b = F:=⟨_,rfl⟩
 rw [hF] at HBF ⊢
 clear hF
 go_enter Tryz.func40,Tryz.ntmps40
 go_upto_region 1 with (fail)
 obtain ⟨w2,hw2⟩:∃ x,x = ((w.alloc (.cells (opV a pa pc) 38)).alloc (.cells (opV b pb pd) 38)):=⟨_,rfl⟩
 rw [← hw2] at HX1 HX2 HB HPA HPB ⊢
 have HCA:=Lib.hid (fun w' (k:Below w2.heap.size w2 w')=>HX1.out.below k)
 have HCB:=Lib.hid (fun w' (k:Below w2.heap.size w2 w')=>HX2.out.below k)
 have HA36:=Lib.hid (fun w' (k:Below w2.heap.size w2 w')=>(z0j HA.out.d.ref.1 (HX1.out.below k)).2.2.1)
 have HB36:=Lib.hid (fun w' (k:Below w2.heap.size w2 w')=>(z0j HBB.out.d.ref.1 (HX2.out.below k)).2.2.1)
 have HNA:=Lib.hid (fun w' (k:Below w2.heap.size w2 w')=>z44 a pa pc w' HA.out (HPA.out.below k))
 have HNB:=Lib.hid (fun w' (k:Below w2.heap.size w2 w')=>z44 b pb pd w' HBB.out (HPB.out.below k))
 have HCM:=Lib.hid (fun w'=>z5z (z00 a) (z00 b) (z1v a) (z1v b) w')
 obtain ⟨A2,hA2⟩:∃ x,a.depth = x:=⟨_,rfl⟩
 obtain ⟨B2,hB2⟩:∃ x,b.depth = x:=⟨_,rfl⟩
 obtain ⟨NA,hNA⟩:∃ x,z00 a = x:=⟨_,rfl⟩
 obtain ⟨NB,hNB⟩:∃ x,z00 b = x:=⟨_,rfl⟩
 rw [hA2] at HA36 HBF
 rw [hB2] at HB36 HBF
 rw [hNA] at HNA HCM HBF
 rw [hNB] at HNB HCM HBF
 obtain ⟨CN,hCN⟩:∃ x,z1t NA NB = x:=⟨_,rfl⟩
 rw [hCN] at HCM HBF
 clear hw2 hA2 hB2 hNA hNB hCN HNG HX1 HX2 HPA HPB
 by_cases h1:A2 < B2
 ·have HR:=Shut.mk (show F = true by rw [HBF.out,decide_eq_true h1];rfl)
  clear HBF
  refine z0c (fun w'=>Below w2.heap.size w2 w') 20 (by kernel_rfl) (by kernel_rfl) (Below.refl _ _).drew ?_
  simp only [zC,zD,zE,zF]
  repeat (first
   | (go_big_quiet_want;refine z03 3 _ rfl ⟨w.heap.size,36,none⟩ _ rfl HA36.out Tryz.isAgg3 ?_;go_big_quiet_on;simp only [Act.put,zS,zA,zB])
   | (go_big_quiet_want;refine z03 3 _ rfl ⟨w.heap.size + 1,36,none⟩ _ rfl HB36.out Tryz.isAgg3 ?_;go_big_quiet_on;simp only [Act.put,zS,zA,zB])
   | go_big_quiet_step ((intro hs';rfl)))
  refine wpQuiet_nil ?_
  intro w6 hs6
  have HB6:=Lib.hid (HB.out.trans (hs6.mono HB.out.size))
  clear hs6
  go_wp2_with fail
  go_ret
  exact ⟨by rw [HR.out];rfl,HB6.out⟩
 ·by_cases h2:A2 = B2
  ·have HR:=Shut.mk (show F = decide (CN < 0) by rw [HBF.out,decide_eq_false h1,decide_eq_true h2];rfl)
   clear HBF
   subst h2
   refine z0c (fun w'=>Below w2.heap.size w2 w') 20 (by kernel_rfl) (by kernel_rfl) (Below.refl _ _).drew ?_
   simp only [zC,zD,zE,zF]
   repeat (first
    | (go_big_quiet_want;refine z03 3 _ rfl ⟨w.heap.size,36,none⟩ _ rfl HA36.out Tryz.isAgg3 ?_;go_big_quiet_on;simp only [Act.put,zS,zA,zB])
    | (go_big_quiet_want;refine z03 3 _ rfl ⟨w.heap.size + 1,36,none⟩ _ rfl HB36.out Tryz.isAgg3 ?_;go_big_quiet_on;simp only [Act.put,zS,zA,zB])
    | (go_big_quiet_want;refine z0k 38 _ rfl w.heap.size (opV a pa pc) 38 _ rfl HCA.out Tryz.underlying38 rfl HSA.out ?_;go_big_quiet_on;simp only [Act.put,zS,zA,zB])
    | (go_big_quiet_want;refine z0k 38 _ rfl (w.heap.size + 1) (opV b pb pd) 38 _ rfl HCB.out Tryz.underlying38 rfl HSB.out ?_;go_big_quiet_on;simp only [Act.put,zS,zA,zB])
    | go_big_quiet_step ((intro hs';first
     | (go_at_call 26;exact (HNA.out _ hs').mono fun e w' h=>⟨h.1,hs'.trans (h.2.mono hs'.size)⟩)
     | (go_at_call 26;exact (HNB.out _ hs').mono fun e w' h=>⟨h.1,hs'.trans (h.2.mono hs'.size)⟩)
     | (go_at_call 53;exact (HCM.out _).mono fun e w' h=>⟨h.1,hs'.trans (h.2.mono hs'.size)⟩)
     | rfl)))
   refine wpQuiet_nil ?_
   intro w6 hs6
   have HB6:=Lib.hid (HB.out.trans (hs6.mono HB.out.size))
   clear hs6
   go_wp2_with fail
   go_ret
   exact ⟨by rw [HR.out];rfl,HB6.out⟩
  ·have HR:=Shut.mk (show F = false by rw [HBF.out,decide_eq_false h1,decide_eq_false h2];rfl)
   have h4:(A2 == B2) = false:=by simpa using h2
   clear HBF
   refine z0c (fun w'=>Below w2.heap.size w2 w') 20 (by kernel_rfl) (by kernel_rfl) (Below.refl _ _).drew ?_
   simp only [zC,zD,zE,zF]
   repeat (first
    | (go_big_quiet_want;refine z03 3 _ rfl ⟨w.heap.size,36,none⟩ _ rfl HA36.out Tryz.isAgg3 ?_;go_big_quiet_on;simp only [Act.put,zS,zA,zB])
    | (go_big_quiet_want;refine z03 3 _ rfl ⟨w.heap.size + 1,36,none⟩ _ rfl HB36.out Tryz.isAgg3 ?_;go_big_quiet_on;simp only [Act.put,zS,zA,zB])
    | go_big_quiet_step ((intro hs';rfl))
    | rw [h4])
   refine wpQuiet_nil ?_
   intro w6 hs6
   have HB6:=Lib.hid (HB.out.trans (hs6.mono HB.out.size))
   clear hs6
   go_wp2_with fail
   go_ret
   exact ⟨by rw [HR.out];rfl,HB6.out⟩
theorem z8n (d:DraftN) (hr:IdOk d.ref) (hk:d.key.length ≤ 140737488351232) (hv:d.val.length ≤ 140737488351232) (w:World) :
 Calls Tryz.prog 59 #[.agg (z0t d)] w fun e w'=>e = .returned (.bool (decide (GoodD d))) ∧ Below w.heap.size w w':=by
 have hx:Cells w.heap.size 27 (z0t d) (w.alloc (.cells (z0t d) 27)):=heap_alloc_new w _
 have hb:Below w.heap.size w (w.alloc (.cells (z0t d) 27)):=(Below.refl _ _).alloc (Nat.le_refl _) _
 obtain ⟨c0,c1,c2,c3⟩:=z4u hx
 have HC3:=Lib.hid c3
 have HB:=Lib.hid hb
 have heq:=fun w'=>z40 d.ref zeroI hr.1 zeroI_ok.1 hr.2 zeroI_ok.2 w'
 have HI:=Lib.hid (show (Tryz.prog.info? 25).map (·.size) = some d.ref.length by rw [hr.1];exact Tryz.sizeI)
 obtain ⟨k,hkd⟩:∃ k,d.kind = k:=⟨_,rfl⟩
 obtain ⟨kl,hkl⟩:∃ n,d.key.length = n:=⟨_,rfl⟩
 obtain ⟨vl,hvl⟩:∃ n,d.val.length = n:=⟨_,rfl⟩
 have HG:=Shut.mk (show GoodD d ↔ 1 ≤ k ∧ k ≤ 5 ∧ 1 ≤ kl ∧ kl ≤ 16 ∧ vl ≤ 64 ∧ (k ≤ 3 → d.ref = zeroI) ∧ (k = 5 → d.ref ≠ zeroI ∧ d.val = []) by rw [← hkd,← hkl,← hvl];rfl)
 rw [hkd] at c0
 clear hx hb c3
 by_cases h1:k < 1
 ·have hgd:decide (GoodD d) = false:=decide_eq_false (fun h=>by have:=HG.out.1 h;omega)
  rw [hgd]
  go_enter Tryz.func59,Tryz.ntmps59
  go_wp2_with fail
  go_ret
  exact ⟨rfl,HB.out⟩
 by_cases h2:5 < k
 ·have hgd:decide (GoodD d) = false:=decide_eq_false (fun h=>by have:=HG.out.1 h;omega)
  rw [hgd]
  go_enter Tryz.func59,Tryz.ntmps59
  go_wp2_with fail
  go_ret
  exact ⟨rfl,HB.out⟩
 by_cases h3:kl < 1
 ·have hgd:decide (GoodD d) = false:=decide_eq_false (fun h=>by have:=HG.out.1 h;omega)
  rw [hgd]
  go_enter Tryz.func59,Tryz.ntmps59
  go_wp2_with fail
  go_ret
  exact ⟨rfl,HB.out⟩
 by_cases h4:16 < kl
 ·have hgd:decide (GoodD d) = false:=decide_eq_false (fun h=>by have:=HG.out.1 h;omega)
  rw [hgd]
  go_enter Tryz.func59,Tryz.ntmps59
  go_wp2_with fail
  go_ret
  exact ⟨rfl,HB.out⟩
 by_cases h5:64 < vl
 ·have hgd:decide (GoodD d) = false:=decide_eq_false (fun h=>by have:=HG.out.1 h;omega)
  rw [hgd]
  go_enter Tryz.func59,Tryz.ntmps59
  go_wp2_with fail
  go_ret
  exact ⟨rfl,HB.out⟩
 obtain ⟨z,hz2⟩:∃ z,(d.ref == zeroI) = z:=⟨_,rfl⟩
 have HZ:=Shut.mk hz2
 rw [hz2,zf2] at heq
 clear hz2
 have hzp:(z = true ↔ d.ref = zeroI):=by rw [← HZ.out];simp
 by_cases h6:k ≤ 3
 ·have hgd:decide (GoodD d) = z:=by
   cases z with
   | true=>exact decide_eq_true (HG.out.2 ⟨by omega,by omega,by omega,by omega,by omega,fun _=>hzp.1 rfl,fun h=>by omega⟩)
   | false=>exact decide_eq_false (fun h=>by have:=hzp.2 ((HG.out.1 h).2.2.2.2.2.1 h6);cases this)
  rw [hgd]
  clear hgd hzp
  go_enter Tryz.func59,Tryz.ntmps59
  go_wp2_with (refine z0a rfl 25 _ rfl w.heap.size 3 d.ref _ rfl HC3.out Tryz.underlying25 rfl HI.out ?_)
  go_ret
  exact ⟨rfl,HB.out⟩
 by_cases h7:k = 4
 ·have hgd:decide (GoodD d) = true:=decide_eq_true (HG.out.2 ⟨by omega,by omega,by omega,by omega,by omega,fun h=>by omega,fun h=>by omega⟩)
  rw [hgd]
  clear hgd hzp
  have h8:(k == 4) = true:=by simp [h7]
  go_enter Tryz.func59,Tryz.ntmps59
  go_wp2_with (refine z0a rfl 25 _ rfl w.heap.size 3 d.ref _ rfl HC3.out Tryz.underlying25 rfl HI.out ?_)
  go_ret
  exact ⟨rfl,HB.out⟩
 have h8:(k == 4) = false:=by simp [h7]
 have hgd:decide (GoodD d) = (!z && d.val == []):=by
  rw [zb8]
  cases z with
  | true=>exact decide_eq_false (fun h=>((HG.out.1 h).2.2.2.2.2.2 (by omega)).1 (hzp.1 rfl))
  | false =>
    by_cases hv0:d.val = []
    ·rw [decide_eq_true hv0]
     exact decide_eq_true (HG.out.2 ⟨by omega,by omega,by omega,by omega,by omega,fun h=>by omega,fun _=>⟨fun e=>(by have:=hzp.2 e;cases this),hv0⟩⟩)
    ·rw [decide_eq_false hv0]
     exact decide_eq_false (fun h=>hv0 ((HG.out.1 h).2.2.2.2.2.2 (by omega)).2)
 rw [hgd]
 clear hgd hzp
 cases z with
 | true =>
   go_enter Tryz.func59,Tryz.ntmps59
   go_wp2_with (refine z0a rfl 25 _ rfl w.heap.size 3 d.ref _ rfl HC3.out Tryz.underlying25 rfl HI.out ?_)
   go_ret
   exact ⟨rfl,HB.out⟩
 | false =>
   go_enter Tryz.func59,Tryz.ntmps59
   go_wp2_with (refine z0a rfl 25 _ rfl w.heap.size 3 d.ref _ rfl HC3.out Tryz.underlying25 rfl HI.out ?_)
   go_ret
   exact ⟨rfl,HB.out⟩
end Go.Proofs.YtnbldbbbibpobaaGreatDoor
