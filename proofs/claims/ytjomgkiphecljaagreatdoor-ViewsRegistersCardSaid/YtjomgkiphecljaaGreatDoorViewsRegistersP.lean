/-
  The law ViewsRegisters: for every input it answers true, and its arguments read as they did. Condition: the round constants' table lies as the program's text lays it (the card ties it).
-/
import Derived.BigQuiet
import Derived.ChangeAlike
import Derived.Deep.QuietTactic
import Derived.Laws.AppendOwnNone
import Derived.Lib.Builder
import Derived.Lib.Hide
import Derived.Lib.OwnBridge
import Derived.Lib.SlicesCompact
import Derived.RegionTactic
import Derived.Shelf.Slices.CompactS
import Derived.Shelf.Slices.In.SortAlone
import Derived.Shelf.Slices.In.SortNone
import Derived.Sort.EncStr
import Derived.Sort.EveryDepth
import Derived.Sort.OwnSorted
import Derived.Sort.Walk0
import Derived.Test.YtjomgkiphecljaaGreatDoorChecked
import Derived.WalkKit
import Derived.Test.YtjomgkiphecljaaGreatDoorJ01
import Derived.Test.YtjomgkiphecljaaGreatDoorJ02
import Derived.Test.YtjomgkiphecljaaGreatDoorJ03
import Derived.Test.YtjomgkiphecljaaGreatDoorJ04
import Derived.Test.YtjomgkiphecljaaGreatDoorJ05
import Derived.Test.YtjomgkiphecljaaGreatDoorJ06
import Derived.Test.YtjomgkiphecljaaGreatDoorJ07
import Derived.Test.YtjomgkiphecljaaGreatDoorJ08
import Derived.Test.YtjomgkiphecljaaGreatDoorJ09
import Derived.Test.YtjomgkiphecljaaGreatDoorJ10
import Derived.Test.YtjomgkiphecljaaGreatDoorJ11
import Derived.Test.YtjomgkiphecljaaGreatDoorJ12
import Derived.Test.YtjomgkiphecljaaGreatDoorJ13
import Derived.Test.YtjomgkiphecljaaGreatDoorJ14
import Derived.Test.YtjomgkiphecljaaGreatDoorJ15
import Derived.Test.YtjomgkiphecljaaGreatDoorJ16
import Derived.Test.YtjomgkiphecljaaGreatDoorJ17
import Derived.Test.YtjomgkiphecljaaGreatDoorJ18
import Derived.Test.YtjomgkiphecljaaGreatDoorJ19
import Derived.Test.YtjomgkiphecljaaGreatDoorJ20
import Derived.Test.YtjomgkiphecljaaGreatDoorJ21
import Derived.Test.YtjomgkiphecljaaGreatDoorJ22
import Derived.Test.YtjomgkiphecljaaGreatDoorJ23
import Derived.Test.YtjomgkiphecljaaGreatDoorJ24
import Derived.Test.YtjomgkiphecljaaGreatDoorJ25
import Derived.Test.YtjomgkiphecljaaGreatDoorJ26
import Derived.Test.YtjomgkiphecljaaGreatDoorJ27
set_option maxRecDepth 100000
set_option maxHeartbeats 20000000
namespace Go.Proofs.YtjomgkiphecljaaGreatDoor
open Go.RowKit
theorem StrsAt.cell {ao:Option Addr} {l:List (List UInt8)} {w:World} (h:StrsAt ao l w) {q:Nat} (hq:q < l.length):∃ b o,ao = some ⟨b,o,none⟩ ∧ w.cell? ⟨b,o + q,none⟩ = some (.string ⟨l[q].toArray⟩):=by
 rcases h with h | ⟨b,o,ha,hb,hc⟩
 ·subst h;simp at hq
 ·exact ⟨b,o,ha,hc q hq⟩
theorem zd7 (n:List UInt8):∀ {L:List (List UInt8)} {k:Nat},(∀ j,j < k → ∀ x,L[j]? = some x → Op.bytesLess x n = true) → k ≤ L.length → (∀ x,L[k]? = some x → ¬ Op.bytesLess x n = true) → zga n L = if L[k]? = some n then L else L.take k ++ n :: L.drop k
 | [], k, _, hk, _ => by
   obtain rfl:k = 0:=by simpa using hk
   rfl
 | x :: L, 0, _, _, h => by
   have hx:=h x rfl
   rw [zga,if_neg hx]
   by_cases e:x = n
   ·rw [if_pos e,if_pos (by rw [e];rfl)]
   ·rw [if_neg e,if_neg (fun h=>e (by injection h))]
    rfl
 | x :: L, k + 1, hl, hk, h => by
   rw [zga,if_pos (hl 0 (Nat.succ_pos _) x rfl),zd7 n (L:=L) (k:=k) (fun j hj y hy=>hl (j + 1) (by omega) y (by rw [List.getElem?_cons_succ];exact hy)) (by simpa using hk) (fun y hy=>h y (by rw [List.getElem?_cons_succ];exact hy)),List.getElem?_cons_succ,List.take_succ_cons,List.drop_succ_cons]
   split <;> rfl
def zcs (L:List OpN) (ks:List Int):List (List UInt8):=z1a ((L.filter fun o=>decide (o.d.kind ∈ ks)).map fun o=>o.d.key)
open Go.BigFrame
theorem zdi (w:World):Calls Tryz.prog 70 #[.pointer none] w fun e w'=>e = .returned (.slice none 0 0) ∧ w' = w:=by
 go_enter Tryz.func70,Tryz.ntmps70
 go_wp2_with fail
 go_ret
 exact ⟨rfl,rfl⟩
theorem z6g (w:World) (fv:Value):Calls Tryz.prog 47 #[.pointer none,fv] w fun e w'=>e = .returned (.slice none 0 0) ∧ w' = w:=by
 have HN:=Lib.hid (zdi w)
 go_enter Tryz.func47,Tryz.ntmps47
 go_wp2_with (refine HN.out.mono ?_;rintro e w1 ⟨rfl,rfl⟩)
 go_loopw [5,13] (fun v i wr=>v = .slice none 0 0 ∧ i = .int .i64 0 ∧ wr = w1) (fun _ _ _=>0)
 case atStart=>exact ⟨rfl,rfl,rfl⟩
 case round =>
  obtain ⟨rfl,rfl,rfl⟩:=hrel
  go_wp2_with fail
  go_ret
  exact ⟨rfl,rfl⟩
theorem z9o (w:World) (fv:Value):Calls Tryz.prog 45 #[.pointer none,fv] w fun e w'=>e = .returned (.slice none 0 0) ∧ w' = w:=by
 have HN:=Lib.hid (z6g w fv)
 have HS:=Lib.hid (AnyF.slices_SortFunc_none Tryz.sortPl none 0 (.func (.func 69) #[] #[]) w)
 go_enter Tryz.func45,Tryz.ntmps45
 go_wp2_with (first
  | (refine HN.out.mono ?_;rintro e w1 ⟨rfl,rfl⟩)
  | (refine Calls.mono (f:=68) HS.out ?_;rintro e w3 ⟨rfl,rfl⟩))
 go_ret
 exact ⟨rfl,rfl⟩
open Go.Sort
theorem OwnS.cap {B:Nat} {ao:Option Addr} {n c:Nat} {L:List (List UInt8)} {w:World} (h:OwnS B (.slice ao n c) L w):L.length ≤ c ∧ (ao = none → c = 0):=by
 rcases h.2 with ⟨h1,h2⟩ | ⟨g,cap,cur,h1,h2,h3,h4,_⟩
 ·cases h1
  exact ⟨by omega,fun _=>rfl⟩
 ·cases h1
  exact ⟨h4,fun h=>by cases h⟩
open Go.Shelf
theorem zfv {L M:List (List UInt8)} (h:L.Perm M):z1a L = z1a M:=zc6 (z7g L) fun _=>risingT_mem.trans h.mem_iff
theorem pl_key {g o:Nat} {x:OpN} {pa:Option Addr} {pc:Nat} {w:World} (h:w.rangeAt g o (opL x pa pc)):w.cell? ⟨g,o + 1,none⟩ = some (.string ⟨x.d.key.toArray⟩):=h 1 _ rfl
theorem dev_keys (X:Nat → Prop) (B:Bs) (T:Ents) (s:DagN) (hs:List (List Nat)) (M:Bh) (ao:Option Addr) (L:List Int) (m c:Nat) (w:World) (h:SetAt X B T s hs M w) (hn:s.names.Nodup) (ht:Tame s) (hg:Goods s) (hI:IntsIn ao L w) (hm:L.length = m) (hl:m ≤ 140737488351232) :
 Calls Tryz.prog 22 #[.pointer (some ⟨B.gs,0,none⟩),.slice ao m c] w fun e w'=>∃ v,e = .returned v ∧ OwnS w.heap.size v (zcs s.ops L) w' ∧ Below w.heap.size w w':=by
 have HS0:=Lib.hid h
 have HND:=Lib.hid hn
 have HT:=Lib.hid ht
 have HGD:=Lib.hid hg
 have HSK:=Lib.hid (show (Tryz.prog.info? 80).map (·.size) = some (z10 L).size from Tryz.sizeK)
 have HSV:=Lib.hid (show [Value.bool false,.bool false,.bool false,.bool false,.bool false,.bool false].toArray.size = (z10 L).size from rfl)
 have HA:=Lib.hid (z89 ao L m c _ hI hm hl)
 have hperm:(z4r s.ops (fun o=>decide (o.d.kind ∈ L)) (z0g s.names)).Perm (s.ops.filter fun o=>decide (o.d.kind ∈ L)):=zc3 hn
 have HKT:=Lib.hid (show z1a ((z4r s.ops (fun o=>decide (o.d.kind ∈ L)) (z0g s.names)).map fun o=>o.d.key) = zcs s.ops L from zfv (hperm.map _))
 have HR:=Lib.hid (show ∀ x ∈ z4r s.ops (fun o=>decide (o.d.kind ∈ L)) (z0g s.names),x.d.ref.length = 32 from fun x hx=>(ht.ops x (List.mem_filter.1 (hperm.mem_iff.1 hx)).1).d.ref.1)
 have HPL:=Lib.hid (show (z4r s.ops (fun o=>decide (o.d.kind ∈ L)) (z0g s.names)).length ≤ 1000 from by
  rw [hperm.length_eq]
  have:=List.length_filter_le (fun o=>decide (o.d.kind ∈ L)) s.ops
  have:=ht.many
  omega)
 clear h hn ht hg hI hperm
 go_enter Tryz.func22,Tryz.ntmps22
 go_wp2_with (first
  | (refine HA.out.mono ?_;rintro e w3 ⟨rfl,hb3⟩;have HB3:=Lib.hid hb3;clear hb3)
  | (refine z0b rfl 80 rfl _ Tryz.zeroK ?_)
  | (refine z00 rfl 80 _ _ rfl rfl w3.heap.size _ (z10 L) 80 rfl rfl (heap_alloc_new w3 _) HSK.out HSV.out (z5c L) ?_))
 intro w5 hc5 hb5
 have hb35:Below w3.heap.size w3 w5:=But.toBelow ((Below.refl _ w3).alloc (Nat.le_refl _) _) hb5.out (Nat.le_refl _) (by rw [World.size_alloc];exact Nat.le_succ _)
 have HC5:=Lib.hid hc5.out
 have HB5:=Lib.hid (HB3.out.trans (hb35.mono HB3.out.size))
 have HAR:=Lib.hid (zar X B T s hs M (fun o=>decide (o.d.kind ∈ L)) 48 _ #[.pointer (some ⟨w3.heap.size,0,none⟩)] w5 (HS0.out.below HB5.out) HND.out HT.out Tryz.func48 rfl rfl (fun x hx pa pc w' hb=>zee x pa pc w3.heap.size L w' (HT.out.ops x hx).d.ref.1 (HGD.out.kind hx) (HC5.out.below hb)))
 obtain ⟨P,hP⟩:∃ P,z4r s.ops (fun o=>decide (o.d.kind ∈ L)) (z0g s.names) = P:=⟨_,rfl⟩
 rw [hP] at HAR HKT HR HPL
 obtain ⟨n,hn⟩:∃ n,P.length = n:=⟨_,rfl⟩
 have HN:=Shut.mk hn
 have hn2:n ≤ 1000:=hn ▸ HPL.out
 obtain ⟨KT,hKT⟩:∃ K,zcs s.ops L = K:=⟨_,rfl⟩
 rw [hKT] at HKT
 have HKT2:=Shut.mk hKT
 clear hc5 hb5 hb35 hP hn hKT
 go_wp2_with (refine HAR.out.mono ?_;rintro e w6 ⟨v6,rfl,ho6,hb6⟩;obtain ⟨ap,cp,rfl⟩:=ho6.form;have HB6:=Lib.hid (HB5.out.trans (hb6.mono HB5.out.size));have HP6:=Lib.hid ho6;rw [HN.out] at HP6 ⊢;clear ho6 hb6)
 go_loopw [6,15] (fun tv i wr=>∃ (v:Value) (k:Nat),tv = v ∧ i = .int .i64 k ∧ k ≤ n ∧ OwnS w6.heap.size v ((P.map fun o=>o.d.key).take k) wr ∧ Below w6.heap.size w6 wr) (fun _ i _=>n - (intOf i).toNat)
 case atStart=>exact ⟨_,0,rfl,rfl,Nat.zero_le _,OwnS.nil _ _,Below.refl _ _⟩
 case round =>
  obtain ⟨wi,rfl⟩:∃ z,z = wr:=⟨_,rfl⟩
  obtain ⟨v,k,rfl,rfl,hk,ho,hb⟩:=hrel
  have HO:=Lib.hid ho
  have HBM:=Lib.hid hb
  have HB:=Lib.hid (HB6.out.trans (hb.mono HB6.out.size))
  have HPI:=Lib.hid (HP6.out.below hb)
  clear hb
  by_cases hlt:k < n
  ·have hx:P[k]? = some (P.getD k z04):=by
    rw [List.getD_eq_getElem?_getD,List.getElem?_eq_getElem (by rw [HN.out];exact hlt)]
    rfl
   obtain ⟨gp,rfl,hgp⟩:∃ g,ap = some ⟨g,0,none⟩ ∧ g < w6.heap.size:=by
    rcases HP6.out.formB with ⟨_,h2⟩ | ⟨g,c,h2,_,_,h3⟩
    ·have:=HN.out;rw [h2] at this;simp at this;omega
    ·injection h2 with h4 _ _
     exact ⟨g,h4,h3⟩
   have hts:(P.map fun o=>o.d.key).take (k + 1) = (P.map fun o=>o.d.key).take k ++ [(P.getD k z04).d.key]:=by
    rw [List.take_succ_eq_append_getElem (by rw [List.length_map,HN.out];exact hlt),List.getElem_map]
    congr 3
    rw [List.getD_eq_getElem?_getD,List.getElem?_eq_getElem (by rw [HN.out];exact hlt)]
    rfl
   have hxm:P.getD k z04 ∈ P:=List.mem_of_getElem? hx
   obtain ⟨x,hxe⟩:∃ x,P.getD k z04 = x:=⟨_,rfl⟩
   rw [hxe] at hx hts hxm
   have HTS:=Shut.mk hts
   have hr:=HR.out x hxm
   have HXR:=Lib.hid hr
   obtain ⟨hgl,pa,pc,q1,q2,q3⟩:=HPI.out.get hx
   have HQ1:=Lib.hid (show wi.rangeAt gp (k * 70) (plL x pa pc) by rw [Nat.mul_comm];exact q1)
   have HSL:=Lib.hid (show (Tryz.prog.info? 86).map (·.size) = some (plL x pa pc).length by rw [z3m hr];exact Tryz.sizePl)
   have HSV2:=Lib.hid (show (Tryz.prog.info? 86).map (·.size) = some (plV x pa pc).size by rw [plV,List.size_toArray,z3m hr];exact Tryz.sizePl)
   have HSZ:=Lib.hid (show (opL z04 none 0 ++ z05 .u8 zeroI).toArray.size = (plV x pa pc).size by rw [plV,List.size_toArray,List.size_toArray,z3m hr];rfl)
   have HSA:=Lib.hid (show (plV x pa pc).all (·.oneCell') = true by rw [plV,List.all_toArray];exact List.all_eq_true.2 (zat x pa pc))
   clear hx hts hxe hr q1 q2 q3 hgl hxm
   go_wp2_with (first
    | (refine wpList_load_mid rfl 86 _ rfl gp (k * 70) rfl (plL x pa pc) _ HQ1.out Tryz.underlying86 rfl HSL.out ?_)
    | (refine z0b rfl 86 rfl (opL z04 none 0 ++ z05 .u8 zeroI) Tryz.zeroPl ?_)
    | (refine z00 rfl 86 _ _ rfl rfl wi.heap.size (opL z04 none 0 ++ z05 .u8 zeroI).toArray (plV x pa pc) 86 rfl rfl (heap_alloc_new wi _) HSV2.out HSZ.out HSA.out ?_))
   intro w7 hcs hbs
   have hb7:Below wi.heap.size wi w7:=But.toBelow ((Below.refl _ wi).alloc (Nat.le_refl _) _) hbs.out (Nat.le_refl _) (by rw [World.size_alloc];exact Nat.le_succ _)
   have ck:=pl_key (zda HXR.out hcs.out).1
   rw [Nat.zero_add] at ck
   have HB7:=Lib.hid hb7
   obtain ⟨ky,hky⟩:∃ z,x.d.key = z:=⟨_,rfl⟩
   rw [hky] at ck HTS
   clear hcs hbs hb7 hky
   obtain ⟨oa,oc,rfl⟩:=HO.out.form
   obtain ⟨ol,hol⟩:∃ z,((P.map fun o=>o.d.key).take k).length = z:=⟨_,rfl⟩
   rw [hol] at HO ⊢
   have HOL:=Lib.hid (show ((P.map fun o=>o.d.key).take k).length ≤ 1000000 from by rw [List.length_take];omega)
   have b8:Below w7.heap.size w7 (w7.alloc (.cells #[.string ⟨ky.toArray⟩] 9)):=(Below.refl _ _).alloc (Nat.le_refl _) _
   have HO8:=Lib.hid (HO.out.below (HB7.out.trans (b8.mono HB7.out.size)))
   have HB8:=Lib.hid (HBM.out.trans ((HB7.out.trans (b8.mono HB7.out.size)).mono HBM.out.size))
   have HC8:=Lib.hid (show (w7.alloc (.cells #[.string ⟨ky.toArray⟩] 9)).cell? ((⟨w7.heap.size,0,none⟩:Addr).add 0) = some (.string ⟨ky.toArray⟩) from by
    rw [Addr.add_lit,Lib.cell_of_heap (heap_alloc_new w7 _)]
    rfl)
   clear hol b8
   go_wp2_with (refine z2t rfl _ _ rfl w6.heap.size (.slice oa ol oc) _ ky ⟨w7.heap.size,0,none⟩ 1 rfl HO8.out rfl HC8.out HOL.out HB8.out.size ?_)
   intro v9 w9 ho9 hb9 _
   have HO9:=Lib.hid (HTS.out ▸ ho9.out)
   have HB9:=Lib.hid (HB8.out.trans hb9.out)
   clear ho9 hb9
   go_wp2_with fail
   exact ⟨⟨v9,k + 1,rfl,by go_num,by omega,HO9.out,HB9.out⟩,by simp [intOf];omega⟩
  ·obtain rfl:k = n:=by omega
   have HE:=Lib.hid (show (P.map fun o=>o.d.key).take k = P.map fun o=>o.d.key from List.take_of_length_le (by rw [List.length_map,HN.out];exact Nat.le_refl _))
   have HO2:=Lib.hid (HE.out ▸ HO.out)
   have HML:=Shut.mk (show (P.map fun o=>o.d.key).length = k by rw [List.length_map];exact HN.out)
   obtain ⟨Q,hQ⟩:∃ Q,(P.map fun o=>o.d.key) = Q:=⟨_,rfl⟩
   rw [hQ] at HO2 HML HKT
   clear hQ HE ho HO
   rcases HO2.out.formB with ⟨rfl,h0⟩ | ⟨gq,cq,rfl,_,hgq,_⟩
   ·have HS:=Lib.hid (Any.slices_Sort_string_none Tryz.laysSort none 0 wi)
    have HC:=Lib.hid (Any.slices_Compact_string_empty Tryz.laysCompact none 0 wi)
    have HE:=Lib.hid (show KT = [] from by rw [← HKT.out,h0];rfl)
    clear h0
    go_wp2_with (first
     | (refine Calls.mono (f:=49) HS.out ?_;rintro e w9 ⟨rfl,rfl⟩)
     | (refine Calls.mono (f:=50) HC.out ?_;rintro e w9 ⟨rfl,rfl⟩))
    go_ret
    exact ⟨_,rfl,by rw [HKT2.out,HE.out];exact OwnS.nil _ _,HB.out⟩
   ·have HG:=Lib.hid hgq
    have hso:=HO2.out
    rw [HML.out] at hso ⊢
    have HS:=Lib.hid (zf2 hso HML.out (by omega))
    have HSC:=Lib.hid (z9d Q)
    have HSL:=Shut.mk (show (Q.mergeSort fun x y=>decide (x ≤ y)).length = k by rw [List.length_mergeSort];exact HML.out)
    obtain ⟨Z,hZ⟩:∃ Z,(Q.mergeSort fun x y=>decide (x ≤ y)) = Z:=⟨_,rfl⟩
    rw [hZ] at HS HSC HSL
    clear hgq hso hZ
    go_wp2_with (first
     | (refine HS.out.mono ?_;rintro e w9 ⟨rfl,ho9,hg9⟩;have HO9:=Lib.hid ho9;have HCP:=Lib.hid (z96 ho9 HSL.out (by omega));have HB9:=Lib.hid (HBM.out.grown hg9 HBM.out.size (fun j hj=>by cases hj;exact HG.out));clear ho9 hg9)
     | (refine HCP.out.mono ?_;rintro e w10 ⟨rfl,ho10,hb10⟩;have HO10:=Lib.hid ho10;have HB10:=Lib.hid (hb10 _ HB9.out);clear ho10 hb10))
    go_ret
    exact ⟨_,rfl,by rw [HKT2.out,← HKT.out,← HSC.out];exact HO10.out.mono HB6.out.size,HB6.out.trans (HB10.out.mono HB6.out.size)⟩
theorem zf4 (X:Nat → Prop) (B:Bs) (T:Ents) (s:DagN) (hs:List (List Nat)) (M:Bh) (w:World) (h:SetAt X B T s hs M w) (hn:s.names.Nodup) (ht:Tame s) (hg:Goods s) :
 Calls Tryz.prog 11 #[.pointer (some ⟨B.gs,0,none⟩)] w fun e w'=>∃ v,e = .returned v ∧ OwnS w.heap.size v (zcs s.ops [3]) w' ∧ Below w.heap.size w w':=by
 have b1:Below w.heap.size w (w.alloc (.cells #[.int .i64 3] 3)):=(Below.refl _ _).alloc (Nat.le_refl _) _
 have HKY:=Lib.hid (dev_keys X B T s hs M (some ⟨w.heap.size,0,none⟩) [3] 1 1 _ (h.below b1) hn ht hg (z86 (by rw [Lib.cell_of_heap (heap_alloc_new w _)];rfl)) rfl (by decide))
 have HB1:=Lib.hid b1
 clear h hn ht hg b1
 go_enter Tryz.func11,Tryz.ntmps11
 go_wp2_with fail
 refine HKY.out.mono ?_
 rintro e w2 ⟨v2,rfl,ho2,hb2⟩
 have HO2:=Lib.hid (ho2.mono HB1.out.size)
 have HB2:=Lib.hid (HB1.out.trans (hb2.mono HB1.out.size))
 clear ho2 hb2
 go_wp2_with fail
 go_ret
 exact ⟨_,rfl,HO2.out,HB2.out⟩
theorem zj7 (key:List UInt8) (ao:Option Addr) (L:List Int) (m c:Nat) (w:World) (hI:IntsIn ao L w) (hm:L.length = m) (hl:m ≤ 140737488351232) :
 Calls Tryz.prog 20 #[.pointer none,.string ⟨key.toArray⟩,.slice ao m c] w fun e w'=>(∃ a c,e = .returned (.slice a 0 c)) ∧ Below w.heap.size w w':=by
 have HSK:=Lib.hid (show (Tryz.prog.info? 80).map (·.size) = some (z10 L).size from Tryz.sizeK)
 have HSV:=Lib.hid (show [Value.bool false,.bool false,.bool false,.bool false,.bool false,.bool false].toArray.size = (z10 L).size from rfl)
 have b1:Below w.heap.size w (w.alloc (.cells #[.string ⟨key.toArray⟩] 9)):=(Below.refl _ _).alloc (Nat.le_refl _) _
 have HA:=Lib.hid (z89 ao L m c _ (hI.below b1) hm hl)
 have HB1:=Lib.hid b1
 clear hI b1
 go_enter Tryz.func20,Tryz.ntmps20
 go_wp2_with (first
  | (refine HA.out.mono ?_;rintro e w3 ⟨rfl,hb3⟩;have HB3:=Lib.hid hb3;clear hb3)
  | (refine z0b rfl 80 rfl _ Tryz.zeroK ?_)
  | (refine z00 rfl 80 _ _ rfl rfl w3.heap.size _ (z10 L) 80 rfl rfl (heap_alloc_new w3 _) HSK.out HSV.out (z5c L) ?_))
 intro w5 hc5 hb5
 have hb35:Below w3.heap.size w3 w5:=But.toBelow ((Below.refl _ w3).alloc (Nat.le_refl _) _) hb5.out (Nat.le_refl _) (by rw [World.size_alloc];exact Nat.le_succ _)
 have HB5:=Lib.hid (HB1.out.trans ((HB3.out.trans (hb35.mono HB3.out.size)).mono HB1.out.size))
 have HAR:=Lib.hid (fun fv=>z9o w5 fv)
 have HBR:=Lib.hid (zcx (OwnP.nil w5.heap.size 86 w5) (fun x hx=>by cases hx) (Nat.zero_le _))
 clear hc5 hb5 hb35
 go_wp2_with (first
  | (refine (HAR.out _).mono ?_;rintro e w6 ⟨rfl,rfl⟩)
  | (refine HBR.out.mono ?_;rintro e w7 ⟨v7,rfl,ho7,hb7⟩;obtain ⟨a7,c7,rfl⟩:=ho7.form;have HB7:=Lib.hid hb7;clear ho7 hb7))
 go_ret
 exact ⟨⟨_,_,rfl⟩,HB5.out.trans (HB7.out.mono HB5.out.size)⟩
theorem zen (ao:Option Addr) (L:List Int) (m c:Nat) (w:World) (hI:IntsIn ao L w) (hm:L.length = m) (hl:m ≤ 140737488351232) :
 Calls Tryz.prog 22 #[.pointer none,.slice ao m c] w fun e w'=>e = .returned (.slice none 0 0) ∧ Below w.heap.size w w':=by
 have HSK:=Lib.hid (show (Tryz.prog.info? 80).map (·.size) = some (z10 L).size from Tryz.sizeK)
 have HSV:=Lib.hid (show [Value.bool false,.bool false,.bool false,.bool false,.bool false,.bool false].toArray.size = (z10 L).size from rfl)
 have HA:=Lib.hid (z89 ao L m c _ hI hm hl)
 clear hI
 go_enter Tryz.func22,Tryz.ntmps22
 go_wp2_with (first
  | (refine HA.out.mono ?_;rintro e w3 ⟨rfl,hb3⟩;have HB3:=Lib.hid hb3;clear hb3)
  | (refine z0b rfl 80 rfl _ Tryz.zeroK ?_)
  | (refine z00 rfl 80 _ _ rfl rfl w3.heap.size _ (z10 L) 80 rfl rfl (heap_alloc_new w3 _) HSK.out HSV.out (z5c L) ?_))
 intro w5 hc5 hb5
 have hb35:Below w3.heap.size w3 w5:=But.toBelow ((Below.refl _ w3).alloc (Nat.le_refl _) _) hb5.out (Nat.le_refl _) (by rw [World.size_alloc];exact Nat.le_succ _)
 have HB5:=Lib.hid (HB3.out.trans (hb35.mono HB3.out.size))
 have HPN:=Lib.hid (fun fv=>z6g w5 fv)
 have HS:=Lib.hid (Any.slices_Sort_string_none Tryz.laysSort none 0 w5)
 have HC:=Lib.hid (Any.slices_Compact_string_empty Tryz.laysCompact none 0 w5)
 clear hc5 hb5 hb35
 go_wp2_with (refine (HPN.out _).mono ?_;rintro e w6 ⟨rfl,rfl⟩)
 go_loopw [6,15] (fun v i wr=>v = .slice none 0 0 ∧ i = .int .i64 0 ∧ wr = w6) (fun _ _ _=>0)
 case atStart=>exact ⟨rfl,rfl,rfl⟩
 case round =>
  obtain ⟨rfl,rfl,rfl⟩:=hrel
  go_wp2_with (first
   | (refine Calls.mono (f:=49) HS.out ?_;rintro e w9 ⟨rfl,rfl⟩)
   | (refine Calls.mono (f:=50) HC.out ?_;rintro e w9 ⟨rfl,rfl⟩))
  go_ret
  exact ⟨rfl,HB5.out⟩
theorem zfb (key:List UInt8) (w:World):Calls Tryz.prog 8 #[.pointer none,.string ⟨key.toArray⟩] w fun e w'=>e = .returned (.tuple #[.string ⟨#[]⟩,.bool false]) ∧ Below w.heap.size w w':=by
 have b1:Below w.heap.size w (w.alloc (.cells #[.int .i64 3] 3)):=(Below.refl _ _).alloc (Nat.le_refl _) _
 have HOF:=Lib.hid (zj7 key (some ⟨w.heap.size,0,none⟩) [3] 1 1 (w.alloc (.cells #[.int .i64 3] 3)) (z86 (by rw [Lib.cell_of_heap (heap_alloc_new w _)];rfl)) rfl (by decide))
 have HB1:=Lib.hid b1
 clear b1
 go_enter Tryz.func8,Tryz.ntmps8
 go_wp2_with fail
 refine HOF.out.mono ?_
 rintro e w2 ⟨⟨ar,cr,rfl⟩,hb2⟩
 have HB2:=Lib.hid (HB1.out.trans (hb2.mono HB1.out.size))
 clear hb2
 go_wp2_with fail
 go_ret2
 exact ⟨rfl,HB2.out⟩
theorem z9m (w:World):Calls Tryz.prog 11 #[.pointer none] w fun e w'=>e = .returned (.slice none 0 0) ∧ Below w.heap.size w w':=by
 have b1:Below w.heap.size w (w.alloc (.cells #[.int .i64 3] 3)):=(Below.refl _ _).alloc (Nat.le_refl _) _
 have HKY:=Lib.hid (zen (some ⟨w.heap.size,0,none⟩) [3] 1 1 (w.alloc (.cells #[.int .i64 3] 3)) (z86 (by rw [Lib.cell_of_heap (heap_alloc_new w _)];rfl)) rfl (by decide))
 have HB1:=Lib.hid b1
 clear b1
 go_enter Tryz.func11,Tryz.ntmps11
 go_wp2_with fail
 refine HKY.out.mono ?_
 rintro e w2 ⟨rfl,hb2⟩
 have HB2:=Lib.hid (HB1.out.trans (hb2.mono HB1.out.size))
 clear hb2
 go_wp2_with fail
 go_ret
 exact ⟨rfl,HB2.out⟩
end Go.Proofs.YtjomgkiphecljaaGreatDoor
namespace Go.Proofs.YtjomgkiphecljaaGreatDoor
open Go.RowKit Go.BigFrame
theorem StrsAt.drop {ap:Option Addr} {L:List (List UInt8)} {w:World} {c j:Nat} (h:StrsAt ap L w) (hc:L.length ≤ c):StrsAt (if c = j then ap else ap.map (·.add j)) (L.drop j) w:=by
 by_cases hj:L.length ≤ j
 ·exact .inl (List.drop_eq_nil_of_le hj)
 rw [if_neg (by omega)]
 rcases h with rfl | ⟨b,o,rfl,h2,h3⟩
 ·exact .inl (by simp)
 ·refine .inr ⟨b,o + j,by simp [Addr.add_lit],h2,fun i hi=>?_⟩
  rw [List.length_drop] at hi
  have:=h3 (j + i) (by omega)
  rw [show o + j + i = o + (j + i) by omega,this,List.getElem_drop]
theorem StrsAt.take {ap:Option Addr} {L:List (List UInt8)} {w:World} (h:StrsAt ap L w) (j:Nat):StrsAt ap (L.take j) w:=by
 rcases h with rfl | ⟨b,o,rfl,h2,h3⟩
 ·exact .inl (by simp)
 ·refine .inr ⟨b,o,rfl,h2,fun i hi=>?_⟩
  rw [List.length_take] at hi
  rw [List.getElem_take]
  exact h3 i (by omega)
theorem zde {ad:Addr} {L:List (List UInt8)} {w:World} (h:StrsAt (some ad) L w):∀ j u,(z5x L)[j]? = some u → w.cell? (ad.add j) = some u:=by
 intro j u hj
 rcases h with rfl | ⟨b,o,h1,h2,h3⟩
 ·cases hj
 ·cases h1
  have hlt:=(List.getElem?_eq_some_iff.1 hj).1
  rw [z1j] at hlt
  rw [Addr.add_lit,h3 j hlt,← hj,z5x,List.getElem?_map,List.getElem?_eq_getElem hlt]
  rfl
section
variable {w:World} {ops:Array Oper} {rest:List Oper} {o:Oper} {a:Act} {Q:Exit → Act → World → Prop}
theorem z1s (hgd:o.guard = none) (s x:Operand) (ho:o.op = .call { callee:=.builtin .append,args:=#[s,x],argTypes:=#[28,28] })
 (B:Nat) (v:Value) (L M:List (List UInt8)) (ao:Option Addr) (n c:Nat) (hn:n = M.length) (hs:a.eval s = v) (hown:OwnS B v L w) (hx:a.eval x = .slice ao n c) (hsrc:StrsAt ao M w) (hnil:ao = none → c = 0)
 (h63:L.length + M.length ≤ 1000000) (hB:B ≤ w.heap.size)
 (h:∀ v' w',Hid (OwnS B v' (L ++ M) w') → Hid (w.grownBy w' v.ownBlock) → Hid (v'.ownBlock = v.ownBlock ∨ v'.ownBlock = some w.heap.size) → wpList Tryz.prog ops Q rest (a.put o.dst v') w'):wpList Tryz.prog ops Q (o :: rest) a w:=by
 obtain ⟨i,hi,hz0,hz1,hz2⟩:=info_parts Tryz.infoStr
 have hap:z5x (L ++ M) = z5x L ++ z5x M:=by simp [z5x]
 cases ao with
 | none =>
   obtain rfl:=hnil rfl
   have hm:M = []:=by
    rcases hsrc with h | ⟨b,o',h,_⟩
    ·exact h
    ·cases h
   subst hm
   subst hn
   refine wpList_append_own_none hgd s x _ ho B 9 i 1 Tryz.underlying28 hi v L.length (z5x L) hs hown hx (h _ _ (Lib.hid ?_) (Lib.hid ⟨rfl,rfl,rfl,Nat.le_refl _,fun _ _ _=>rfl⟩) (Lib.hid (.inl rfl)))
   rw [List.append_nil]
   exact hown
 | some ad =>
   subst hn
   refine wpList_append_own_at w hgd s x _ ho B 9 i _ 1 16 Tryz.underlying28 hi hz0 hz1 hz2 rfl (by decide) v L.length (z5x L) hs hown ad M.length c (z5x M) hx (by rw [z1j,Nat.mul_one]) (zde hsrc) (zhv M) (by unfold maxLen;omega) (by omega) hB ?_
   intro v' w' h2 hg _ h3
   refine h v' w' (Lib.hid ?_) (Lib.hid hg) (Lib.hid h3)
   show w'.ownsRow B _ 1 v' (L ++ M).length (z5x (L ++ M))
   rw [List.length_append,hap]
   exact h2
theorem z4f (hgd:o.guard = none) (s x:Operand) (ho:o.op = .call { callee:=.builtin .append,args:=#[s,x],argTypes:=#[28,28] })
 (L M:List (List UInt8)) (ao:Option Addr) (k:Nat) (hk:k = L.length) (ad:Addr) (n c:Nat) (hn:n = M.length) (h0:0 < n) (hs:a.eval s = .slice ao k k) (hsrc:StrsAt ao L w) (hx:a.eval x = .slice (some ad) n c) (hnews:StrsAt (some ad) M w)
 (h63:L.length + M.length ≤ 1000000)
 (h:∀ v' w',Hid (OwnS w.heap.size v' (L ++ M) w') → Hid (Below w.heap.size w w') → wpList Tryz.prog ops Q rest (a.put o.dst v') w'):wpList Tryz.prog ops Q (o :: rest) a w:=by
 obtain ⟨i,hi,hz0,hz1,hz2⟩:=info_parts Tryz.infoStr
 have hap:z5x (L ++ M) = z5x L ++ z5x M:=by simp [z5x]
 subst hk hn
 cases ao with
 | none =>
   have hl:L = []:=by
    rcases hsrc with h | ⟨b,o',h,_⟩
    ·exact h
    ·cases h
   subst hl
   refine z1s hgd s x ho w.heap.size (.slice none 0 0) [] M (some ad) M.length c rfl hs (World.ownsRow_nil _ _ _ _) hx hnews (fun h=>by cases h) h63 (Nat.le_refl _) ?_
   intro v' w' h1 h2 _
   exact h v' w' h1 (Lib.hid ((Below.refl _ _).grown h2.out (Nat.le_refl _) (fun g hg=>by cases hg)))
 | some b =>
   have hr:=run_append_grow (P:=Tryz.prog) w 28 o.type 9 i _ Tryz.underlying28 hi hz0 b L.length L.length (z5x L) (by rw [z1j,hz1,Nat.mul_one]) (zde hsrc) ad M.length c (z5x M) (by rw [z1j,hz1,Nat.mul_one]) (zde hnews) (by omega) (by omega) (growslice_fits (by omega) (by rw [hz2];omega))
   have hge:=grownCap_ge w (L.length + M.length) L.length 9
   have hcm:=grownCap_le_maxLen w (L.length + M.length) L.length 9 (by unfold maxLen;omega)
   refine wpList_plain hgd fun K hK=>?_
   unfold Oper.wp execOp
   simp only [ho,resolve,invoke,builtin,Sem.run_bind,Sem.run_pure,Result.andThen_ok,List.map_toArray,List.map_cons,List.map_nil,hs,hx,hr]
   refine hK _ _ (h _ _ (Lib.hid ⟨?_,.inr ⟨w.heap.size,_,_,?_,Nat.le_refl _,heap_alloc_new w.drew _,?_,hcm,?_,?_⟩⟩) (Lib.hid ((z0v (Below.refl _ w) 1).alloc (Nat.le_refl _) _)))
   ·rw [z1j,List.length_append,Nat.mul_one]
   ·rw [List.length_append]
   ·rw [List.length_append]
    exact hge
   ·simp only [Array.size_append,List.size_toArray,size_zeroCells,z1j,Nat.mul_one]
    show _ + (_ - _) * 1 = _
    omega
   ·simp only [Array.toList_append]
    rw [hap,List.length_append,List.take_append_of_le_length (by rw [List.length_append,z1j,z1j,Nat.mul_one];exact Nat.le_refl _),List.take_of_length_le (by rw [List.length_append,z1j,z1j,Nat.mul_one];exact Nat.le_refl _)]
end
theorem z6k {P:Program} {ops:Array Oper} {rest:List Oper} {o:Oper} {a:Act} {w:World} {Q:Exit → Act → World → Prop} (hgd:o.guard = none) (t:TypeId) (x y z:Operand) (ho:o.op = .slice t x none (some y) (some z)) (vx vy vz r:Value) (hx:a.eval x = vx) (hy:a.eval y = vy) (hz:a.eval z = vz)
 (hr:∀ w,(Instr.sliceAt t vx none (some vy) (some vz)).run P w = .ok r w) (h:wpList P ops Q rest (a.put o.dst r) w):wpList P ops Q (o :: rest) a w:=by
 refine wpList_plain hgd fun K hK=>?_
 unfold Oper.wp execOp
 simp only [ho,Option.map_some,Option.map_none,hx,hy,hz,Sem.run_bind,hr w,Result.andThen_ok,Sem.run_pure]
 exact hK _ _ h
theorem z6h (ap:Option Addr) (n c j:Nat) (hj:j ≤ n) (_hc:n ≤ c) (w:World):(Instr.sliceAt 28 (.slice ap n c) (some (.int .i64 (j:Int))) none none).run Tryz.prog w = .ok (.slice (if c = j then ap else ap.map (·.add j)) (n - j) (c - j)) w:=by
 go_simp
theorem z6a (ap:Option Addr) (n c j:Nat) (hj:j ≤ n) (hc:n ≤ c) (w:World):(Instr.sliceAt 28 (.slice ap n c) none (some (.int .i64 (j:Int))) (some (.int .i64 (j:Int)))).run Tryz.prog w = .ok (.slice ap j j) w:=by
 go_simp
 intro h
 omega
theorem zch {ap:Option Addr} {c j:Nat} (h:ap = none → c = 0):(if c = j then ap else ap.map (·.add j)) = none → c - j = 0:=by
 intro he
 split at he
 ·omega
 ·cases ap with
  | none=>rw [h rfl];omega
  | some z=>cases he
theorem str_at {ao:Option Addr} {L:List (List UInt8)} {w:World} (h:StrsAt ao L w) {i:Nat} {x:List UInt8} (hx:L[i]? = some x):∃ b o,ao = some ⟨b,o,none⟩ ∧ b < w.heap.size ∧ w.cell? ⟨b,o + i,none⟩ = some (.string ⟨x.toArray⟩):=by
 obtain ⟨hi,rfl⟩:=List.getElem?_eq_some_iff.1 hx
 rcases h with rfl | ⟨b,o,h1,h2,h3⟩
 ·simp at hi
 ·exact ⟨b,o,h1,h2,h3 i hi⟩
theorem ze6 (ao:Option Addr) (L:List (List UInt8)) (m c:Nat) (w:World) (h:StrsAt ao L w) (hm:L.length = m) (hl:m ≤ 100000) :
 Calls Tryz.prog 19 #[.slice ao m c] w fun e w'=>∃ v,e = .returned v ∧ OwnS w.heap.size v (z1a L) w' ∧ Below w.heap.size w w':=by
 have HM:=Shut.mk hm
 have HA:=Lib.hid h
 clear h hm
 go_enter Tryz.func19,Tryz.ntmps19
 go_wp2_with fail
 go_loopw [3,10] (fun tv iv wr=>∃ (v:Value) (k:Nat),tv = v ∧ iv = .int .i64 k ∧ k ≤ m ∧ OwnS w.heap.size v (z1a (L.take k)) wr ∧ Below w.heap.size w wr) (fun _ iv _=>m - (intOf iv).toNat)
 case atStart=>exact ⟨_,0,rfl,rfl,Nat.zero_le _,OwnS.nil _ _,Below.refl _ _⟩
 case round =>
  obtain ⟨wi,rfl⟩:∃ z,z = wr:=⟨_,rfl⟩
  obtain ⟨v,k,rfl,rfl,hk,ho,hb⟩:=hrel
  have HB:=Lib.hid hb
  have HAW:=Lib.hid (HA.out.below hb)
  clear hb
  by_cases hlt:k < m
  ·obtain ⟨x,hx⟩:∃ x,L[k]? = some x:=⟨_,List.getElem?_eq_getElem (by rw [HM.out];exact hlt)⟩
   obtain ⟨b,o,rfl,hbl,c1⟩:=str_at HAW.out hx
   have hnx:=z99 (L:=L) (k:=k) (by rw [HM.out];exact hlt)
   rw [(List.getElem?_eq_some_iff.1 hx).2] at hnx
   have hol:=z5n L k (by rw [HM.out];exact hk)
   obtain ⟨O,hO⟩:∃ O,z1a (L.take k) = O:=⟨_,rfl⟩
   rw [hO] at ho hnx hol
   obtain ⟨oa,oc,hv⟩:=ho.form
   obtain ⟨n,hn⟩:∃ n,O.length = n:=⟨_,rfl⟩
   rw [hn] at hv hol
   subst hv
   have HNX:=Lib.hid hnx
   have HN:=Shut.mk hn
   have HO:=Lib.hid ho
   have HOA:=Lib.hid (show StrsAt oa O wi from z1r (by rw [hn];exact ho))
   clear hx hbl hnx hO hn ho
   go_wp2_with fail
   go_loopw [6] (fun kv wr=>∃ j:Nat,kv = .int .i64 j ∧ j ≤ n ∧ (∀ t,t < j → ∀ y,O[t]? = some y → Op.bytesLess y x = true) ∧ wr = wi) (fun kv _=>n - (intOf kv).toNat)
   case atStart=>exact ⟨0,rfl,Nat.zero_le _,fun t ht=>absurd ht (Nat.not_lt_zero t),rfl⟩
   case round =>
    obtain ⟨j,rfl,hj,hless,rfl⟩:=hrel
    have HLE:=Lib.hid hless
    clear hless
    by_cases hjn:j < n
    ·obtain ⟨y,hy⟩:∃ y,O[j]? = some y:=⟨_,List.getElem?_eq_getElem (by rw [HN.out];exact hjn)⟩
     obtain ⟨b2,o2,rfl,hb2,c2⟩:=str_at HOA.out hy
     have HY:=Lib.hid hy
     clear hy hb2
     by_cases hls:Op.bytesLess y x = true
     ·have HLS:=Lib.hid hls
      go_wp2_with fail
      refine ⟨⟨j + 1,by go_num,by omega,fun t ht z hz=>?_,trivial⟩,by simp [intOf];omega⟩
      by_cases htj:t = j
      ·subst htj
       have:=HY.out
       rw [this] at hz
       cases hz
       exact HLS.out
      ·exact HLE.out t (by omega) z hz
     ·have hls':Op.bytesLess y x = false:=by simpa using hls
      by_cases he:y = x
      ·subst he
       have HIN:=Lib.hid (show z1a (L.take (k + 1)) = O by
        rw [HNX.out,zd7 y HLE.out (by rw [HN.out];exact hj) (fun z hz=>by rw [HY.out] at hz;cases hz;exact hls),if_pos HY.out])
       go_wp2_with fail
       exact ⟨⟨_,k + 1,rfl,by go_num,by omega,by rw [HIN.out];exact HO.out,HB.out⟩,by simp [intOf];omega⟩
      ·have HNEQ:=Lib.hid he
       have HLS:=Lib.hid hls
       have heb:(y == x) = false:=by simpa using he
       go_upto_region 9 with (fail)
       clear hls he heb
       have HIN:=Lib.hid (show z1a (L.take (k + 1)) = O.take j ++ x :: O.drop j by
        rw [HNX.out,zd7 x HLE.out (by rw [HN.out];exact hj) (fun z hz=>by rw [HY.out] at hz;cases hz;exact HLS.out),if_neg (fun e=>by rw [HY.out] at e;exact HNEQ.out (by injection e))])
       obtain ⟨hkc,hcn⟩:=OwnS.cap HO.out
       rw [HN.out] at hkc
       have b3:Below wr.heap.size wr (wr.alloc (.cells #[] 9)):=(Below.refl _ _).alloc (Nat.le_refl _) _
       obtain ⟨r,hr⟩:∃ r,n - j = r:=⟨_,rfl⟩
       have HRJ:=Shut.mk hr
       have hsl:=z6h (some ⟨b2,o2,none⟩) n oc j hj hkc
       have hdr:=(HOA.out.below b3).drop (j:=j) (c:=oc) (by rw [HN.out];exact hkc)
       have hni:=zch (j:=j) hcn
       obtain ⟨RA,hRA⟩:∃ RA:Option Addr,(if oc = j then (some ⟨b2,o2,none⟩) else Option.map (fun z:Addr=>z.add j) (some ⟨b2,o2,none⟩)) = RA:=⟨_,rfl⟩
       rw [hRA] at hdr hni
       simp only [hRA] at hsl
       rw [hr] at hsl
       have HSL:=Lib.hid hsl
       have HDR:=Lib.hid hdr
       have HNI:=Lib.hid hni
       have HSM:=Lib.hid (z6a (some ⟨b2,o2,none⟩) n oc j hj hkc)
       have HL0:=Lib.hid (show OwnS wr.heap.size (.slice (some ⟨wr.heap.size,0,none⟩) 0 0) [] (wr.alloc (.cells #[] 9)) from World.ownsRow_lit wr #[] 0 (Nat.le_refl _) (by unfold maxLen;omega) rfl)
       have HB3:=Lib.hid b3
       clear hkc hcn b3 hsl hdr hni hRA hr
       skip
       refine wp_region_lit ?_
       iterate 9 (first | go_skip | go_guarded | go_step)
       refine z2x rfl 28 _ _ rfl _ _ _ rfl rfl HSL.out ?_
       simp only [Act.put,zS,zA,zB]
       refine z1s rfl _ _ rfl wr.heap.size (.slice (some ⟨wr.heap.size,0,none⟩) 0 0) [] (O.drop j) RA r (oc - j) (by rw [List.length_drop,HN.out];exact HRJ.out.symm) rfl HL0.out rfl HDR.out HNI.out (by rw [List.length_drop,HN.out];simp only [List.length_nil];omega) HB3.out.size ?_
       intro v5 w5 ho5 hg5 _
       obtain ⟨a5,c5,hv5⟩:=ho5.out.form
       rw [List.nil_append,List.length_drop,HN.out,HRJ.out] at hv5
       subst hv5
       have HO5:=Lib.hid (show OwnS wr.heap.size (.slice a5 r c5) (O.drop j) w5 from ho5.out)
       have HB5:=Lib.hid (HB3.out.grown hg5.out HB3.out.size (fun g hg=>(World.ownsRow.lt HL0.out g hg).1))
       have HOT:=Lib.hid ((HOA.out.below HB5.out).take j)
       clear ho5 hg5 HSL HDR HNI
       have HN5:=Lib.hid (show StrsAt (some ⟨w5.heap.size,0,none⟩) [x] (w5.alloc (.cells #[.string ⟨x.toArray⟩] 9)) from .inr ⟨_,0,rfl,by rw [World.size_alloc];exact Nat.lt_succ_self _,fun t ht=>by
        obtain rfl:t = 0:=by simpa using ht
        rw [Lib.cell_of_heap (heap_alloc_new w5 _)]
        rfl⟩)
       have b6:Below w5.heap.size w5 (w5.alloc (.cells #[.string ⟨x.toArray⟩] 9)):=(Below.refl _ _).alloc (Nat.le_refl _) _
       have HB6:=Lib.hid b6
       have HT6:=Lib.hid (HOT.out.below b6)
       have HR6:=Lib.hid (show StrsAt a5 (O.drop j) (w5.alloc (.cells #[.string ⟨x.toArray⟩] 9)) from (z1r (l:=O.drop j) (by rw [List.length_drop,HN.out,HRJ.out];exact HO5.out)).below b6)
       clear b6
       go_upto_region 10 with (fail)
       refine wp_region_lit ?_
       iterate 9 (first | go_skip | go_guarded | go_step)
       refine z6k rfl 28 _ _ _ rfl _ _ _ _ rfl rfl rfl HSM.out ?_
       simp only [Act.put,zS,zA,zB]
       iterate 6 (first | go_skip | go_guarded | go_step)
       refine z4f rfl _ _ rfl (O.take j) [x] (some ⟨b2,o2,none⟩) j (by rw [List.length_take,HN.out];omega) ⟨w5.heap.size,0,none⟩ 1 1 rfl (by decide) rfl HT6.out rfl HN5.out (by rw [List.length_take,HN.out];simp only [List.length_singleton];omega) ?_
       intro v7 w7 ho7 hb7
       have HO7:=Lib.hid ho7.out
       have HB7:=Lib.hid (HB6.out.trans (hb7.out.mono HB6.out.size))
       have HSQ:=Lib.hid hb7.out
       have HR7:=Lib.hid (HR6.out.below hb7.out)
       have HC5:=Lib.hid (OwnS.cap HO5.out).2
       clear ho7 hb7
       have HSZ7:=Lib.hid (show (w5.alloc (.cells #[.string ⟨x.toArray⟩] 9)).heap.size ≤ w7.heap.size from HSQ.out.size)
       simp only [Act.put,zS,zA,zB]
       iterate 3 (first | go_skip | go_guarded | go_step)
       refine z1s rfl _ _ rfl _ v7 (O.take j ++ [x]) (O.drop j) a5 r c5 (by rw [List.length_drop,HN.out];exact HRJ.out.symm) rfl HO7.out rfl HR7.out HC5.out (by rw [List.length_append,List.length_take,List.length_drop,HN.out];simp only [List.length_singleton];omega) HSZ7.out ?_
       intro v8 w8 ho8 hg8 _
       have HO8:=Lib.hid (show OwnS w.heap.size v8 (O.take j ++ x :: O.drop j) w8 from by
        have h8:=ho8.out
        rw [List.append_assoc,List.singleton_append] at h8
        exact h8.mono (Nat.le_trans HB.out.size (Nat.le_trans HB5.out.size HB6.out.size)))
       have HB8:=Lib.hid (HB7.out.grown hg8.out HB7.out.size (fun g hg=>Nat.le_trans HB6.out.size (World.ownsRow.lt HO7.out g hg).1))
       clear ho8 hg8
       go_wp2_with fail
       exact ⟨⟨v8,k + 1,rfl,by go_num,by omega,by rw [HIN.out];exact HO8.out,HB.out.trans ((HB5.out.trans (HB8.out.mono HB5.out.size)).mono HB.out.size)⟩,by simp [intOf];omega⟩
    ·obtain rfl:n = j:=by omega
     have HNO:=Lib.hid (show O[n]? = none from List.getElem?_eq_none (by rw [HN.out];exact Nat.le_refl _))
     have HIN:=Lib.hid (show z1a (L.take (k + 1)) = O.take n ++ x :: O.drop n by
      rw [HNX.out,zd7 x HLE.out (by rw [HN.out];exact hj) (fun z hz=>by rw [HNO.out] at hz;cases hz),if_neg (fun e=>by rw [HNO.out] at e;cases e)])
     obtain ⟨hkc,hcn⟩:=OwnS.cap HO.out
     rw [HN.out] at hkc
     have b3:Below wr.heap.size wr (wr.alloc (.cells #[] 9)):=(Below.refl _ _).alloc (Nat.le_refl _) _
     obtain ⟨r,hr⟩:∃ r,n - n = r:=⟨_,rfl⟩
     have HRJ:=Shut.mk hr
     have hsl:=z6h oa n oc n hj hkc
     have hdr:=(HOA.out.below b3).drop (j:=n) (c:=oc) (by rw [HN.out];exact hkc)
     have hni:=zch (j:=n) hcn
     obtain ⟨RA,hRA⟩:∃ RA:Option Addr,(if oc = n then oa else Option.map (fun z:Addr=>z.add n) oa) = RA:=⟨_,rfl⟩
     rw [hRA] at hdr hni
     simp only [hRA] at hsl
     rw [hr] at hsl
     have HSL:=Lib.hid hsl
     have HDR:=Lib.hid hdr
     have HNI:=Lib.hid hni
     have HSM:=Lib.hid (z6a oa n oc n hj hkc)
     have HL0:=Lib.hid (show OwnS wr.heap.size (.slice (some ⟨wr.heap.size,0,none⟩) 0 0) [] (wr.alloc (.cells #[] 9)) from World.ownsRow_lit wr #[] 0 (Nat.le_refl _) (by unfold maxLen;omega) rfl)
     have HB3:=Lib.hid b3
     clear hkc hcn b3 hsl hdr hni hRA hr
     go_upto_region 9 with (fail)
     refine wp_region_lit ?_
     iterate 9 (first | go_skip | go_guarded | go_step)
     refine z2x rfl 28 _ _ rfl _ _ _ rfl rfl HSL.out ?_
     simp only [Act.put,zS,zA,zB]
     refine z1s rfl _ _ rfl wr.heap.size (.slice (some ⟨wr.heap.size,0,none⟩) 0 0) [] (O.drop n) RA r (oc - n) (by rw [List.length_drop,HN.out];exact HRJ.out.symm) rfl HL0.out rfl HDR.out HNI.out (by rw [List.length_drop,HN.out];simp only [List.length_nil];omega) HB3.out.size ?_
     intro v5 w5 ho5 hg5 _
     obtain ⟨a5,c5,hv5⟩:=ho5.out.form
     rw [List.nil_append,List.length_drop,HN.out,HRJ.out] at hv5
     subst hv5
     have HO5:=Lib.hid (show OwnS wr.heap.size (.slice a5 r c5) (O.drop n) w5 from ho5.out)
     have HB5:=Lib.hid (HB3.out.grown hg5.out HB3.out.size (fun g hg=>(World.ownsRow.lt HL0.out g hg).1))
     have HOT:=Lib.hid ((HOA.out.below HB5.out).take n)
     clear ho5 hg5 HSL HDR HNI
     have HN5:=Lib.hid (show StrsAt (some ⟨w5.heap.size,0,none⟩) [x] (w5.alloc (.cells #[.string ⟨x.toArray⟩] 9)) from .inr ⟨_,0,rfl,by rw [World.size_alloc];exact Nat.lt_succ_self _,fun t ht=>by
      obtain rfl:t = 0:=by simpa using ht
      rw [Lib.cell_of_heap (heap_alloc_new w5 _)]
      rfl⟩)
     have b6:Below w5.heap.size w5 (w5.alloc (.cells #[.string ⟨x.toArray⟩] 9)):=(Below.refl _ _).alloc (Nat.le_refl _) _
     have HB6:=Lib.hid b6
     have HT6:=Lib.hid (HOT.out.below b6)
     have HR6:=Lib.hid (show StrsAt a5 (O.drop n) (w5.alloc (.cells #[.string ⟨x.toArray⟩] 9)) from (z1r (l:=O.drop n) (by rw [List.length_drop,HN.out,HRJ.out];exact HO5.out)).below b6)
     clear b6
     go_upto_region 10 with (fail)
     refine wp_region_lit ?_
     iterate 9 (first | go_skip | go_guarded | go_step)
     refine z6k rfl 28 _ _ _ rfl _ _ _ _ rfl rfl rfl HSM.out ?_
     simp only [Act.put,zS,zA,zB]
     iterate 6 (first | go_skip | go_guarded | go_step)
     refine z4f rfl _ _ rfl (O.take n) [x] oa n (by rw [List.length_take,HN.out];omega) ⟨w5.heap.size,0,none⟩ 1 1 rfl (by decide) rfl HT6.out rfl HN5.out (by rw [List.length_take,HN.out];simp only [List.length_singleton];omega) ?_
     intro v7 w7 ho7 hb7
     have HO7:=Lib.hid ho7.out
     have HB7:=Lib.hid (HB6.out.trans (hb7.out.mono HB6.out.size))
     have HSQ:=Lib.hid hb7.out
     have HR7:=Lib.hid (HR6.out.below hb7.out)
     have HC5:=Lib.hid (OwnS.cap HO5.out).2
     clear ho7 hb7
     have HSZ7:=Lib.hid (show (w5.alloc (.cells #[.string ⟨x.toArray⟩] 9)).heap.size ≤ w7.heap.size from HSQ.out.size)
     simp only [Act.put,zS,zA,zB]
     iterate 3 (first | go_skip | go_guarded | go_step)
     refine z1s rfl _ _ rfl _ v7 (O.take n ++ [x]) (O.drop n) a5 r c5 (by rw [List.length_drop,HN.out];exact HRJ.out.symm) rfl HO7.out rfl HR7.out HC5.out (by rw [List.length_append,List.length_take,List.length_drop,HN.out];simp only [List.length_singleton];omega) HSZ7.out ?_
     intro v8 w8 ho8 hg8 _
     have HO8:=Lib.hid (show OwnS w.heap.size v8 (O.take n ++ x :: O.drop n) w8 from by
      have h8:=ho8.out
      rw [List.append_assoc,List.singleton_append] at h8
      exact h8.mono (Nat.le_trans HB.out.size (Nat.le_trans HB5.out.size HB6.out.size)))
     have HB8:=Lib.hid (HB7.out.grown hg8.out HB7.out.size (fun g hg=>Nat.le_trans HB6.out.size (World.ownsRow.lt HO7.out g hg).1))
     clear ho8 hg8
     go_wp2_with fail
     exact ⟨⟨v8,k + 1,rfl,by go_num,by omega,by rw [HIN.out];exact HO8.out,HB.out.trans ((HB5.out.trans (HB8.out.mono HB5.out.size)).mono HB.out.size)⟩,by simp [intOf];omega⟩
  ·obtain rfl:k = m:=by omega
   have HE:=Lib.hid (show z1a (L.take k) = z1a L by rw [List.take_of_length_le (by rw [HM.out];exact Nat.le_refl _)])
   have HO:=Lib.hid (HE.out ▸ ho)
   clear ho
   go_wp2_with fail
   go_ret
   exact ⟨_,rfl,HO.out,HB.out⟩
theorem cmpN_neg (a b:List Nat):decide (z1o a b < 0) = decide (z1o a b = -1):=by
 rcases z3g a b with h | h | h <;> rw [h] <;> rfl
theorem zis (a b:OpN) (pa pb:Option Addr) (pc pd:Nat) (w:World) (ha:a.Fit) (hb:b.Fit) (hpa:IAt pa a.preds w) (hpb:IAt pb b.preds w) :
 Calls Tryz.prog 21 #[.agg (opV a pa pc),.agg (opV b pb pd)] w fun e w'=>e = .returned (.bool (z7l a b)) ∧ Below w.heap.size w w':=by
 have b1:Below w.heap.size w (w.alloc (.cells (opV a pa pc) 49)):=(Below.refl _ _).alloc (Nat.le_refl _) _
 have x1:Cells w.heap.size 49 (opV a pa pc) (w.alloc (.cells (opV a pa pc) 49)):=heap_alloc_new w _
 have s1:(w.alloc (.cells (opV a pa pc) 49)).heap.size = w.heap.size + 1:=World.size_alloc _ _
 have b2:Below (w.alloc (.cells (opV a pa pc) 49)).heap.size (w.alloc (.cells (opV a pa pc) 49)) ((w.alloc (.cells (opV a pa pc) 49)).alloc (.cells (opV b pb pd) 49)):=(Below.refl _ _).alloc (Nat.le_refl _) _
 have x2:Cells (w.alloc (.cells (opV a pa pc) 49)).heap.size 49 (opV b pb pd) ((w.alloc (.cells (opV a pa pc) 49)).alloc (.cells (opV b pb pd) 49)):=heap_alloc_new _ _
 rw [s1] at x2
 have HX1:=Lib.hid (x1.below b2)
 have HX2:=Lib.hid x2
 have HB:=Lib.hid (b1.trans (b2.mono b1.size))
 have HA:=Lib.hid ha
 have HBB:=Lib.hid hb
 have HPA:=Lib.hid (hpa.below HB.out)
 have HPB:=Lib.hid (hpb.below HB.out)
 have HSA:=Lib.hid (show (Tryz.prog.info? 49).map (·.size) = some (opV a pa pc).size by rw [z08 ha.d.ref.1];exact Tryz.sizeO)
 have HSB:=Lib.hid (show (Tryz.prog.info? 49).map (·.size) = some (opV b pb pd).size by rw [z08 hb.d.ref.1];exact Tryz.sizeO)
 clear b1 x1 s1 b2 x2 hpa hpb ha hb
 have HNG:=Shut.mk (cmpN_neg (z02 a) (z02 b))
 have HBF:=Shut.mk (show z7l a b = (decide (a.depth < b.depth) || (decide (a.depth = b.depth) && decide (z1o (z02 a) (z02 b) = -1))) from rfl)
 rw [← HNG.out] at HBF
 obtain ⟨F,hF⟩:∃ F,z7l a b = F:=⟨_,rfl⟩
 rw [hF] at HBF ⊢
 clear hF
 go_enter Tryz.func21,Tryz.ntmps21
 go_upto_region 1 with (fail)
 obtain ⟨w2,hw2⟩:∃ x,x = ((w.alloc (.cells (opV a pa pc) 49)).alloc (.cells (opV b pb pd) 49)):=⟨_,rfl⟩
 rw [← hw2] at HX1 HX2 HB HPA HPB ⊢
 have HCA:=Lib.hid (fun w' (k:Below w2.heap.size w2 w')=>HX1.out.below k)
 have HCB:=Lib.hid (fun w' (k:Below w2.heap.size w2 w')=>HX2.out.below k)
 have HA36:=Lib.hid (fun w' (k:Below w2.heap.size w2 w')=>(z0d HA.out.d.ref.1 (HX1.out.below k)).2.2.1)
 have HB36:=Lib.hid (fun w' (k:Below w2.heap.size w2 w')=>(z0d HBB.out.d.ref.1 (HX2.out.below k)).2.2.1)
 have HNA:=Lib.hid (fun w' (k:Below w2.heap.size w2 w')=>z4a a pa pc w' HA.out (HPA.out.below k))
 have HNB:=Lib.hid (fun w' (k:Below w2.heap.size w2 w')=>z4a b pb pd w' HBB.out (HPB.out.below k))
 have HCM:=Lib.hid (fun w'=>z5o (z02 a) (z02 b) (z2y a) (z2y b) w')
 obtain ⟨A2,hA2⟩:∃ x,a.depth = x:=⟨_,rfl⟩
 obtain ⟨B2,hB2⟩:∃ x,b.depth = x:=⟨_,rfl⟩
 obtain ⟨NA,hNA⟩:∃ x,z02 a = x:=⟨_,rfl⟩
 obtain ⟨NB,hNB⟩:∃ x,z02 b = x:=⟨_,rfl⟩
 rw [hA2] at HA36 HBF
 rw [hB2] at HB36 HBF
 rw [hNA] at HNA HCM HBF
 rw [hNB] at HNB HCM HBF
 obtain ⟨CN,hCN⟩:∃ x,z1o NA NB = x:=⟨_,rfl⟩
 rw [hCN] at HCM HBF
 clear hw2 hA2 hB2 hNA hNB hCN HNG HX1 HX2 HPA HPB
 by_cases h1:A2 < B2
 ·have HR:=Shut.mk (show F = true by rw [HBF.out,decide_eq_true h1];rfl)
  clear HBF
  refine z09 (fun w'=>Below w2.heap.size w2 w') 20 (by kernel_rfl) (by kernel_rfl) (Below.refl _ _).drew ?_
  simp only [zC,zD,zE,zF]
  repeat (first
   | (go_big_quiet_want;refine z03 3 _ rfl ⟨w.heap.size,36,none⟩ _ rfl HA36.out Tryz.isAgg3 ?_;go_big_quiet_on;simp only [Act.put,zS,zA,zB])
   | (go_big_quiet_want;refine z03 3 _ rfl ⟨w.heap.size + 1,36,none⟩ _ rfl HB36.out Tryz.isAgg3 ?_;go_big_quiet_on;simp only [Act.put,zS,zA,zB])
   | go_big_quiet_step ((intro hs';rfl)))
  refine wpQuiet_nil ?_
  intro w6 hs6
  have HB6:=Lib.hid (HB.out.trans (hs6.mono HB.out.size))
  clear hs6
  go_wp2_with fail
  go_ret
  exact ⟨by rw [HR.out];rfl,HB6.out⟩
 ·by_cases h2:A2 = B2
  ·have HR:=Shut.mk (show F = decide (CN < 0) by rw [HBF.out,decide_eq_false h1,decide_eq_true h2];rfl)
   clear HBF
   subst h2
   refine z09 (fun w'=>Below w2.heap.size w2 w') 20 (by kernel_rfl) (by kernel_rfl) (Below.refl _ _).drew ?_
   simp only [zC,zD,zE,zF]
   repeat (first
    | (go_big_quiet_want;refine z03 3 _ rfl ⟨w.heap.size,36,none⟩ _ rfl HA36.out Tryz.isAgg3 ?_;go_big_quiet_on;simp only [Act.put,zS,zA,zB])
    | (go_big_quiet_want;refine z03 3 _ rfl ⟨w.heap.size + 1,36,none⟩ _ rfl HB36.out Tryz.isAgg3 ?_;go_big_quiet_on;simp only [Act.put,zS,zA,zB])
    | (go_big_quiet_want;refine z11 49 _ rfl w.heap.size (opV a pa pc) 49 _ rfl HCA.out Tryz.underlying49 rfl HSA.out ?_;go_big_quiet_on;simp only [Act.put,zS,zA,zB])
    | (go_big_quiet_want;refine z11 49 _ rfl (w.heap.size + 1) (opV b pb pd) 49 _ rfl HCB.out Tryz.underlying49 rfl HSB.out ?_;go_big_quiet_on;simp only [Act.put,zS,zA,zB])
    | go_big_quiet_step ((intro hs';first
     | (go_at_call 35;exact (HNA.out _ hs').mono fun e w' h=>⟨h.1,hs'.trans (h.2.mono hs'.size)⟩)
     | (go_at_call 35;exact (HNB.out _ hs').mono fun e w' h=>⟨h.1,hs'.trans (h.2.mono hs'.size)⟩)
     | (go_at_call 42;exact (HCM.out _).mono fun e w' h=>⟨h.1,hs'.trans (h.2.mono hs'.size)⟩)
     | rfl)))
   refine wpQuiet_nil ?_
   intro w6 hs6
   have HB6:=Lib.hid (HB.out.trans (hs6.mono HB.out.size))
   clear hs6
   go_wp2_with fail
   go_ret
   exact ⟨by rw [HR.out];rfl,HB6.out⟩
  ·have HR:=Shut.mk (show F = false by rw [HBF.out,decide_eq_false h1,decide_eq_false h2];rfl)
   have h4:(A2 == B2) = false:=by simpa using h2
   clear HBF
   refine z09 (fun w'=>Below w2.heap.size w2 w') 20 (by kernel_rfl) (by kernel_rfl) (Below.refl _ _).drew ?_
   simp only [zC,zD,zE,zF]
   repeat (first
    | (go_big_quiet_want;refine z03 3 _ rfl ⟨w.heap.size,36,none⟩ _ rfl HA36.out Tryz.isAgg3 ?_;go_big_quiet_on;simp only [Act.put,zS,zA,zB])
    | (go_big_quiet_want;refine z03 3 _ rfl ⟨w.heap.size + 1,36,none⟩ _ rfl HB36.out Tryz.isAgg3 ?_;go_big_quiet_on;simp only [Act.put,zS,zA,zB])
    | go_big_quiet_step ((intro hs';rfl))
    | rw [h4])
   refine wpQuiet_nil ?_
   intro w6 hs6
   have HB6:=Lib.hid (HB.out.trans (hs6.mono HB.out.size))
   clear hs6
   go_wp2_with fail
   go_ret
   exact ⟨by rw [HR.out];rfl,HB6.out⟩
def BestC (g:Nat) (b:Option OpN) (w:World):Prop:=match b with
 | none=>Cells g 49 (opV z04 none 0) w
 | some x=>∃ pa pc,Cells g 49 (opV x pa pc) w ∧ IAt pa x.preds w
def bestG (b:Option OpN) (o:OpN):Option OpN:=match b with
 | none=>some o
 | some x=>if z7l x o = true then some o else some x
theorem bestF_of {key:List UInt8} {b:Option OpN} {o:OpN} (h1:o.d.kind = 3) (h2:o.d.key = key):zf1 key b o = bestG b o:=zek ⟨h1,h2⟩
theorem zji {key:List UInt8} {L:List OpN} {k:Nat} {x:OpN} (hx:L[k]? = some x):z5p key (L.take (k + 1)) = zf1 key (z5p key (L.take k)) x:=by
 rw [List.take_add_one,hx,Option.toList_some,zce]
theorem BestC.below {g:Nat} {b:Option OpN} {w w':World} (h:BestC g b w) (k:Below w.heap.size w w'):BestC g b w':=by
 cases b with
 | none=>exact Cells.below h k
 | some x =>
   obtain ⟨pa,pc,h1,h2⟩:=h
   exact ⟨pa,pc,h1.below k,h2.below k⟩
theorem zgr (Z:Nat → Prop) (gs:Nat) (vo vw vn vq:Value) (s:DagN) (key:List UInt8) (w:World) (h:RefAt Z gs vo vw vn vq s w) (hF:∀ x ∈ s.ops,x.Fit) (hN:s.ops.length ≤ 1000) :
 Calls Tryz.prog 9 #[.pointer (some ⟨gs,0,none⟩),.string ⟨key.toArray⟩] w fun e w'=>e = .returned (.tuple #[.string ⟨(z2o key s.ops).1.toArray⟩,.bool (z2o key s.ops).2]) ∧ Below w.heap.size w w':=by
 obtain ⟨ro,rc,hvo⟩:=h.ops.form
 have c0:=h.cells.at 0
 simp only [List.getElem?_toArray,List.getElem?_cons_zero] at c0
 rw [hvo] at c0
 have HAT:=Lib.hid (show OpsX Z ro s.ops w from (hvo ▸ h.ops:OwnX Z 0 49 (.slice ro s.ops.length rc) s.ops w).at)
 have HFR:=Lib.hid hF
 have HZO:=Lib.hid (show (Tryz.prog.info? 49).bind (·.zero) = some (.agg (opL z04 none 0).toArray) by kernel_rfl)
 obtain ⟨n,hn⟩:∃ n,s.ops.length = n:=⟨_,rfl⟩
 rw [hn] at c0 hN
 have HN:=Shut.mk hn
 have HGS:=Lib.hid (z48 c0)
 have HC0:=Lib.hid c0
 have HSV0:=Lib.hid (show (Tryz.prog.info? 49).map (·.size) = some (opV z04 none 0).size by rw [z08 rfl];exact Tryz.sizeO)
 have HB0:=Lib.hid z5f
 clear h hF hvo hn c0
 go_enter Tryz.func9,Tryz.ntmps9
 go_wp2_with (first
  | (refine z0n rfl 49 _ rfl [] _ rfl HB0.out ?_)
  | (refine z0b rfl 49 rfl (opL z04 none 0) HZO.out ?_)
  | (refine z00 rfl 49 _ _ rfl rfl w.heap.size (opL z04 none 0).toArray (opV z04 none 0) 49 rfl rfl (heap_alloc_new w _) HSV0.out rfl (z1c z04 none 0) ?_))
 intro w1 hc1 hb1
 have hb01:Below w.heap.size w w1:=But.toBelow ((Below.refl _ w).alloc (Nat.le_refl _) _) hb1.out (Nat.le_refl _) (by rw [World.size_alloc];exact Nat.le_succ _)
 have HC1:=Lib.hid (show BestC w.heap.size none w1 from hc1.out)
 have HB1:=Lib.hid hb01
 have c0:=(hb01.cell (p:=⟨gs,0,none⟩) HGS.out).trans HC0.out
 have HHI:=Lib.hid (show ∀ (k:Nat) (x:OpN),s.ops[k]? = some x → ∃ b o,ro = some ⟨b,o,none⟩ ∧ b < w.heap.size ∧ ∃ pa pc,w.rangeAt b (o + k * 38) (opL x pa pc) ∧ IAt pa x.preds w ∧ ∀ a,pa = some a → x.preds ≠ [] → a.block < w.heap.size from fun k x hx=>by
  obtain ⟨b,o,h1,h2,pa,pc,r1,i1,_⟩:=HAT.out.get hx
  exact ⟨b,o,h1,h2,pa,pc,r1,i1,fun a ha h0=>i1.lt h0 ha⟩)
 obtain ⟨gb,hgb⟩:∃ g,w.heap.size = g:=⟨_,rfl⟩
 have HGB:=Shut.mk hgb
 rw [hgb] at HC1 ⊢
 clear hc1 hb1 hb01 hgb HAT
 go_wp2_with fail
 go_loopw [7,16] (fun bv iv wr=>∃ (k:Nat) (b:Option OpN),bv = .bool b.isSome ∧ iv = .int .i64 k ∧ k ≤ n ∧ z5p key (s.ops.take k) = b ∧ BestC gb b wr ∧ (∀ x,b = some x → x.Fit) ∧ Below w.heap.size w wr) (fun _ iv _=>n - (intOf iv).toNat)
 case atStart=>exact ⟨0,none,rfl,rfl,Nat.zero_le _,rfl,HC1.out,(fun x hx=>by cases hx),HB1.out⟩
 case round =>
  clear HC1 HB1
  obtain ⟨wi,rfl⟩:∃ z,z = wr:=⟨_,rfl⟩
  obtain ⟨k,b,rfl,rfl,hk,hbr,hbc,hbf,hb⟩:=hrel
  have HBR:=Shut.mk hbr
  have HBC:=Lib.hid hbc
  have HBF:=Lib.hid hbf
  have HB:=Lib.hid hb
  clear hbr hbc hbf hb
  by_cases hlt:k < n
  ·obtain ⟨x,hx⟩:∃ x,s.ops[k]? = some x:=⟨_,List.getElem?_eq_getElem (by rw [HN.out];exact hlt)⟩
   have HF:=Lib.hid (HFR.out x (List.mem_of_getElem? hx))
   have hnx:=zji (key:=key) hx
   rw [HBR.out] at hnx
   have HNX:=Shut.mk hnx
   obtain ⟨br,rr,rfl,hbr,pa,pc,r1,i1,l1⟩:=HHI.out k x hx
   have HRX:=Lib.hid (z0c r1 HB.out hbr)
   have HIX:=Lib.hid (i1.below HB.out)
   have HLX:=Lib.hid (show ∀ a,pa = some a → x.preds ≠ [] → a.block ≠ gb from fun a ha h0 e=>by
    have h1:=l1 a ha h0
    have h2:=HGB.out
    omega)
   have HSL:=Lib.hid (show (Tryz.prog.info? 49).map (·.size) = some (opL x pa pc).length by rw [z14 HF.out.d.ref.1];exact Tryz.sizeO)
   have HSV:=Lib.hid (show (Tryz.prog.info? 49).map (·.size) = some (opV x pa pc).size by rw [z08 HF.out.d.ref.1];exact Tryz.sizeO)
   have HSZ:=Lib.hid (show (opL z04 none 0).toArray.size = (opV x pa pc).size by rw [z08 HF.out.d.ref.1];rfl)
   clear hx hnx hbr r1 i1 l1
   go_wp2_with (first
    | (refine wpList_load_mid rfl 49 _ rfl br (rr + k * 38) rfl (opL x pa pc) _ HRX.out Tryz.underlying49 rfl HSL.out ?_)
    | (refine z0b rfl 49 rfl (opL z04 none 0) HZO.out ?_)
    | (refine z00 rfl 49 _ _ rfl rfl wi.heap.size (opL z04 none 0).toArray (opV x pa pc) 49 rfl rfl (heap_alloc_new wi _) HSV.out HSZ.out (z1c x pa pc) ?_))
   intro w5 hcs hbs
   have hb5:Below wi.heap.size wi w5:=But.toBelow ((Below.refl _ wi).alloc (Nat.le_refl _) _) hbs.out (Nat.le_refl _) (by rw [World.size_alloc];exact Nat.le_succ _)
   have HB5:=Lib.hid (HB.out.trans (hb5.mono HB.out.size))
   have HC9:=Lib.hid (show Cells wi.heap.size 49 (opV x pa pc) w5 from hcs.out)
   have HBC5:=Lib.hid (HBC.out.below hb5)
   have HIX5:=Lib.hid (HIX.out.below hb5)
   obtain ⟨c0,c1,_,_⟩:=z1l (z0d HF.out.d.ref.1 hcs.out).1
   obtain ⟨g9,hg9⟩:∃ z,wi.heap.size = z:=⟨_,rfl⟩
   rw [hg9] at c0 c1 HC9 ⊢
   have HYES:=Lib.hid (show x.d.kind = 3 → x.d.key = key → zf1 key b x = bestG b x from bestF_of)
   have HNO:=Lib.hid (show ¬ (x.d.kind = 3 ∧ x.d.key = key) → zf1 key b x = b from zfd)
   obtain ⟨kd,hkd⟩:∃ z,x.d.kind = z:=⟨_,rfl⟩
   obtain ⟨ky,hky⟩:∃ z,x.d.key = z:=⟨_,rfl⟩
   rw [hkd] at c0 HYES HNO
   rw [hky] at c1 HYES HNO
   clear hcs hbs hb5 hg9 hkd hky HRX HIX HBC
   by_cases h1:kd = 3
   ·subst h1
    by_cases h2:ky = key
    ·subst h2
     have HY:=Shut.mk (HYES.out (by first | rfl | trivial) (by first | rfl | trivial))
     clear HYES HNO
     cases b with
     | none =>
       have HX:=Lib.hid (show z5p ky (s.ops.take (k + 1)) = some x from HNX.out.trans HY.out)
       have HCB:=Lib.hid (show Cells gb 49 (opV z04 none 0) w5 from HBC5.out)
       have HSZ2:=Lib.hid (show (opV z04 none 0).size = (opV x pa pc).size by rw [z08 HF.out.d.ref.1];rfl)
       have g1:((none:Option OpN)).isSome = false:=rfl
       rw [g1]
       go_wp2_with (first
        | (refine z01 rfl 49 _ rfl g9 (opV x pa pc) 49 _ rfl HC9.out Tryz.underlying49 rfl HSV.out ?_)
        | (refine z00 rfl 49 _ _ rfl rfl gb (opV z04 none 0) (opV x pa pc) 49 rfl rfl HCB.out HSV.out HSZ2.out (z1c x pa pc) ?_))
       intro w6 hc6 hb6
       have HC6:=Lib.hid (show BestC gb (some x) w6 from ⟨pa,pc,hc6.out,HIX5.out.only ((Only.refl (fun q=>q = gb) w5).but hb6.out (.inl rfl)) (fun a ha h0 e=>HLX.out a ha h0 e)⟩)
       have HB6:=Lib.hid (But.toBelow HB5.out hb6.out (by rw [HGB.out];exact Nat.le_refl _) HB5.out.size)
       clear hc6 hb6
       go_wp2_with fail
       exact ⟨⟨k + 1,some x,rfl,by go_num,by omega,HX.out,HC6.out,(fun z hz=>by cases hz;exact HF.out),HB6.out⟩,by simp [intOf];omega⟩
     | some y =>
       have HFY:=Lib.hid (HBF.out y rfl)
       obtain ⟨qa,qc,hcy,hiy⟩:=HBC5.out
       have HCB:=Lib.hid hcy
       have HBE:=Lib.hid (zis y x qa pa qc pc w5 HFY.out HF.out hiy HIX5.out)
       have HSY:=Lib.hid (show (Tryz.prog.info? 49).map (·.size) = some (opV y qa qc).size by rw [z08 HFY.out.d.ref.1];exact Tryz.sizeO)
       have HSZ2:=Lib.hid (show (opV y qa qc).size = (opV x pa pc).size by rw [z08 HF.out.d.ref.1,z08 HFY.out.d.ref.1])
       have g1:((some y:Option OpN)).isSome = true:=rfl
       rw [g1]
       have HIY:=Lib.hid hiy
       have HXX:=Shut.mk (show z5p ky (s.ops.take (k + 1)) = if z7l y x = true then some x else some y from HNX.out.trans HY.out)
       obtain ⟨F,hF⟩:∃ F,z7l y x = F:=⟨_,rfl⟩
       rw [hF] at HBE HXX
       clear hcy hiy hF g1 HBC5 HY HNX
       cases F with
       | false =>
         have HX:=Lib.hid (show z5p ky (s.ops.take (k + 1)) = some y from by rw [HXX.out];rfl)
         go_wp2_with (first
          | (refine z0m (by rfl) 49 _ rfl gb (opV y qa qc) 49 _ rfl HCB.out Tryz.underlying49 rfl HSY.out ?_)
          | (refine z0m (by rfl) 49 _ rfl g9 (opV x pa pc) 49 _ rfl HC9.out Tryz.underlying49 rfl HSV.out ?_)
          | (refine HBE.out.mono ?_;rintro e w6 ⟨rfl,hb6⟩;have HB6:=Lib.hid hb6;clear hb6))
         exact ⟨⟨k + 1,some y,rfl,by go_num,by omega,HX.out,⟨qa,qc,HCB.out.below HB6.out,HIY.out.below HB6.out⟩,HBF.out,HB5.out.trans (HB6.out.mono HB5.out.size)⟩,by simp [intOf];omega⟩
       | true =>
         have HX:=Lib.hid (show z5p ky (s.ops.take (k + 1)) = some x from by rw [HXX.out];rfl)
         go_wp2_with (first
          | (refine z0m (by rfl) 49 _ rfl gb (opV y qa qc) 49 _ rfl HCB.out Tryz.underlying49 rfl HSY.out ?_)
          | (refine z0m (by rfl) 49 _ rfl g9 (opV x pa pc) 49 _ rfl HC9.out Tryz.underlying49 rfl HSV.out ?_)
          | (refine HBE.out.mono ?_;rintro e w6 ⟨rfl,hb6⟩;have HB6:=Lib.hid (HB5.out.trans (hb6.mono HB5.out.size));have HC96:=Lib.hid (HC9.out.below hb6);have HCB6:=Lib.hid (HCB.out.below hb6);have HIX6:=Lib.hid (HIX5.out.below hb6);clear hb6)
          | (refine z01 rfl 49 _ rfl g9 (opV x pa pc) 49 _ rfl HC96.out Tryz.underlying49 rfl HSV.out ?_)
          | (refine z00 rfl 49 _ _ rfl rfl gb (opV y qa qc) (opV x pa pc) 49 rfl rfl HCB6.out HSV.out HSZ2.out (z1c x pa pc) ?_))
         intro w7 hc7 hb7
         have HC7:=Lib.hid (show BestC gb (some x) w7 from ⟨pa,pc,hc7.out,HIX6.out.only ((Only.refl (fun q=>q = gb) w6).but hb7.out (.inl rfl)) (fun a ha h0 e=>HLX.out a ha h0 e)⟩)
         have HB7:=Lib.hid (But.toBelow HB6.out hb7.out (by rw [HGB.out];exact Nat.le_refl _) HB6.out.size)
         clear hc7 hb7
         go_wp2_with fail
         exact ⟨⟨k + 1,some x,rfl,by go_num,by omega,HX.out,HC7.out,(fun z hz=>by cases hz;exact HF.out),HB7.out⟩,by simp [intOf];omega⟩
    ·have g2:(ky == key) = false:=by rw [beq_eq_false_iff_ne];exact h2
     have HX:=Lib.hid (show z5p key (s.ops.take (k + 1)) = b from HNX.out.trans (HNO.out fun q=>h2 q.2))
     go_wp2_with fail
     exact ⟨⟨k + 1,b,rfl,by go_num,by omega,HX.out,HBC5.out,HBF.out,HB5.out⟩,by simp [intOf];omega⟩
   ·have g1:(kd == 3) = false:=by rw [beq_eq_false_iff_ne];exact h1
    have HX:=Lib.hid (show z5p key (s.ops.take (k + 1)) = b from HNX.out.trans (HNO.out fun q=>h1 q.1))
    go_wp2_with fail
    exact ⟨⟨k + 1,b,rfl,by go_num,by omega,HX.out,HBC5.out,HBF.out,HB5.out⟩,by simp [intOf];omega⟩
  ·obtain rfl:k = n:=by omega
   have HE:=Shut.mk (show z5p key s.ops = b from by
    have:=HBR.out
    rwa [List.take_of_length_le (by rw [HN.out];exact Nat.le_refl _)] at this)
   cases b with
   | none =>
     have HV:=Lib.hid (show z2o key s.ops = ([],false) from by unfold z2o;rw [HE.out])
     have c2:=(z1l (z0d (o:=z04) rfl (show Cells gb 49 (opV z04 none 0) wi from HBC.out)).1).2.2.1
     go_wp2_with fail
     go_ret2
     exact ⟨by rw [HV.out];rfl,HB.out⟩
   | some y =>
     have HFY:=Lib.hid (HBF.out y rfl)
     have HV:=Lib.hid (show z2o key s.ops = (y.d.val,true) from by unfold z2o;rw [HE.out])
     obtain ⟨qa,qc,hcy,hiy⟩:=HBC.out
     have c2:=(z1l (z0d HFY.out.d.ref.1 hcy).1).2.2.1
     clear hcy hiy
     go_wp2_with fail
     go_ret2
     exact ⟨by rw [HV.out];rfl,HB.out⟩
theorem in_take {L:List Int} {z:Int} {k:Nat} (hk:k < L.length):z ∈ L.take (k + 1) ↔ z ∈ L.take k ∨ L.getD k 0 = z:=by
 rw [List.take_add_one,List.getD_eq_getElem?_getD,List.getElem?_eq_getElem hk,Option.toList_some,List.mem_append,List.mem_singleton]
 exact ⟨fun h=>h.imp id Eq.symm,fun h=>h.imp id Eq.symm⟩
theorem ref_in11 (ao:Option Addr) (L:List Int) (m c:Nat) (z:Int) (w:World) (h:IntsIn ao L w) (hm:L.length = m) (hl:m ≤ 140737488351232) :
 Calls Tryz.prog 18 #[.slice ao m c,.int .i64 z] w fun e w'=>e = .returned (.bool (decide (z ∈ L))) ∧ w' = w:=by
 have H:=Lib.hid h
 have HM:=Shut.mk hm
 clear h hm
 go_enter Tryz.func18,Tryz.ntmps18
 go_wp2_with fail
 go_loopw [9] (fun i wr=>∃ k:Nat,k ≤ m ∧ i = .int .i64 k ∧ z ∉ L.take k ∧ wr = w) (fun i _=>m - (intOf i).toNat)
 case atStart=>exact ⟨0,Nat.zero_le _,rfl,(fun e=>by cases e),rfl⟩
 case round =>
  obtain ⟨k,hk,rfl,hn,rfl⟩:=hrel
  have HN:=Lib.hid hn
  clear hn
  by_cases hlt:k < m
  ·obtain ⟨b,o,rfl,hb,hc⟩:=zkb H.out (by rw [HM.out];omega)
   have hck:=hc k (by rw [HM.out];exact hlt)
   have HT:=Lib.hid (in_take (L:=L) (z:=z) (k:=k) (by rw [HM.out];exact hlt))
   obtain ⟨y,hy⟩:∃ y,L.getD k 0 = y:=⟨_,rfl⟩
   rw [hy] at hck HT
   have HY:=Lib.hid (show y ∈ L from by
    rw [← hy,List.getD_eq_getElem?_getD,List.getElem?_eq_getElem (by rw [HM.out];exact hlt)]
    exact List.getElem_mem _)
   clear hc hy
   by_cases hyz:y = z
   ·subst hyz
    have HR:=Shut.mk (decide_eq_true HY.out)
    go_wp2_with fail
    go_ret
    exact ⟨by rw [HR.out];rfl,rfl⟩
   ·have HNE:=Lib.hid hyz
    go_wp2_with fail
    exact ⟨⟨k + 1,by omega,by go_num,fun e=>(HT.out.1 e).elim HN.out HNE.out,trivial⟩,by simp [intOf];omega⟩
  ·obtain rfl:k = m:=by omega
   have HR:=Shut.mk (decide_eq_false (show z ∉ L from fun e=>HN.out (by rw [List.take_of_length_le (by rw [HM.out];exact Nat.le_refl _)];exact e)))
   go_wp2_with fail
   go_ret
   exact ⟨by rw [HR.out];rfl,rfl⟩
theorem zkm {L:List OpN} {ks:List Int} {k:Nat} {x:OpN} (hx:L[k]? = some x):((L.take (k + 1)).filter fun o=>decide (o.d.kind ∈ ks)).map (fun o=>o.d.key) = (((L.take k).filter fun o=>decide (o.d.kind ∈ ks)).map fun o=>o.d.key) ++ if x.d.kind ∈ ks then [x.d.key] else []:=by
 rw [List.take_add_one,hx,Option.toList_some,List.filter_append,List.map_append]
 congr 1
 by_cases h:x.d.kind ∈ ks
 ·rw [if_pos h,List.filter_cons_of_pos (by simpa using h)];rfl
 ·rw [if_neg h,List.filter_cons_of_neg (by simpa using h)];rfl
theorem zit (Z:Nat → Prop) (gs:Nat) (vo vw vn vq:Value) (s:DagN) (ao:Option Addr) (L:List Int) (m c:Nat) (w:World) (h:RefAt Z gs vo vw vn vq s w) (hF:∀ x ∈ s.ops,x.Fit) (hN:s.ops.length ≤ 1000) (hI:IntsIn ao L w) (hm:L.length = m) (hl:m ≤ 140737488351232) :
 Calls Tryz.prog 7 #[.pointer (some ⟨gs,0,none⟩),.slice ao m c] w fun e w'=>∃ v,e = .returned v ∧ OwnS w.heap.size v (zcs s.ops L) w' ∧ Below w.heap.size w w':=by
 obtain ⟨ro,rc,hvo⟩:=h.ops.form
 have c0:=h.cells.at 0
 simp only [List.getElem?_toArray,List.getElem?_cons_zero] at c0
 rw [hvo] at c0
 have HAT:=Lib.hid (show OpsX Z ro s.ops w from (hvo ▸ h.ops:OwnX Z 0 49 (.slice ro s.ops.length rc) s.ops w).at)
 have HIN:=Lib.hid (fun z w' (k:Below w.heap.size w w')=>ref_in11 ao L m c z w' (hI.below k) hm hl)
 have HFR:=Lib.hid hF
 have HZO:=Lib.hid (show (Tryz.prog.info? 49).bind (·.zero) = some (.agg (opL z04 none 0).toArray) by kernel_rfl)
 obtain ⟨n,hn⟩:∃ n,s.ops.length = n:=⟨_,rfl⟩
 rw [hn] at c0 hN
 have HN:=Shut.mk hn
 clear h hF hI hm hvo hn
 go_enter Tryz.func7,Tryz.ntmps7
 go_wp2_with fail
 go_loopw [5,13] (fun tv iv wr=>∃ (v:Value) (k:Nat),tv = v ∧ iv = .int .i64 k ∧ k ≤ n ∧ OwnS w.heap.size v (((s.ops.take k).filter fun o=>decide (o.d.kind ∈ L)).map fun o=>o.d.key) wr ∧ Below w.heap.size w wr) (fun _ iv _=>n - (intOf iv).toNat)
 case atStart=>exact ⟨_,0,rfl,rfl,Nat.zero_le _,OwnS.nil _ _,Below.refl _ _⟩
 case round =>
  obtain ⟨wi,rfl⟩:∃ z,z = wr:=⟨_,rfl⟩
  obtain ⟨v,k,rfl,rfl,hk,ho,hb⟩:=hrel
  have HB:=Lib.hid hb
  have HATW:=Lib.hid (HAT.out.below hb)
  by_cases hlt:k < n
  ·obtain ⟨x,hx⟩:∃ x,s.ops[k]? = some x:=⟨_,List.getElem?_eq_getElem (by rw [HN.out];exact hlt)⟩
   have HF:=Lib.hid (HFR.out x (List.mem_of_getElem? hx))
   have hnx:=zkm (ks:=L) hx
   obtain ⟨br,rr,rfl,hbr,pa,pc,r1,i1,f1⟩:=HATW.out.get hx
   have HRX:=Lib.hid r1
   have HSL:=Lib.hid (show (Tryz.prog.info? 49).map (·.size) = some (opL x pa pc).length by rw [z14 HF.out.d.ref.1];exact Tryz.sizeO)
   have HSV:=Lib.hid (show (Tryz.prog.info? 49).map (·.size) = some (opV x pa pc).size by rw [z08 HF.out.d.ref.1];exact Tryz.sizeO)
   have HSZ:=Lib.hid (show (opL z04 none 0).toArray.size = (opV x pa pc).size by rw [z08 HF.out.d.ref.1];rfl)
   have hfl:=List.length_filter_le (fun o=>decide (o.d.kind ∈ L)) (s.ops.take k)
   rw [List.length_take,HN.out] at hfl
   obtain ⟨FL,hFL⟩:∃ z,(((s.ops.take k).filter fun o=>decide (o.d.kind ∈ L)).map fun o=>o.d.key) = z:=⟨_,rfl⟩
   have hfl2:FL.length ≤ 1000:=by rw [← hFL,List.length_map];omega
   rw [hFL] at ho hnx
   obtain ⟨oa,oc,hv⟩:=ho.form
   obtain ⟨ol,hol⟩:∃ z,FL.length = z:=⟨_,rfl⟩
   rw [hol] at hv
   subst hv
   have HO:=Lib.hid ho
   have HNX:=Lib.hid hnx
   have HFL:=Lib.hid (show FL.length ≤ 1000000 by omega)
   clear hx hnx hbr r1 i1 f1 hFL hfl hfl2 ho hb hol
   go_wp2_with (first
    | (refine wpList_load_mid rfl 49 _ rfl br (rr + k * 38) rfl (opL x pa pc) _ HRX.out Tryz.underlying49 rfl HSL.out ?_)
    | (refine z0b rfl 49 rfl (opL z04 none 0) HZO.out ?_)
    | (refine z00 rfl 49 _ _ rfl rfl wi.heap.size (opL z04 none 0).toArray (opV x pa pc) 49 rfl rfl (heap_alloc_new wi _) HSV.out HSZ.out (z1c x pa pc) ?_))
   intro w5 hcs hbs
   have hb5:Below wi.heap.size wi w5:=But.toBelow ((Below.refl _ wi).alloc (Nat.le_refl _) _) hbs.out (Nat.le_refl _) (by rw [World.size_alloc];exact Nat.le_succ _)
   have HB5:=Lib.hid (HB.out.trans (hb5.mono HB.out.size))
   have HO5:=Lib.hid (HO.out.below hb5)
   have c2:=(z1l (z0d HF.out.d.ref.1 hcs.out).1).1
   have c3:=(z1l (z0d HF.out.d.ref.1 hcs.out).1).2.1
   have HIN5:=Lib.hid (HIN.out x.d.kind w5 HB5.out)
   obtain ⟨g9,hg9⟩:∃ z,wi.heap.size = z:=⟨_,rfl⟩
   rw [hg9] at c2 c3 ⊢
   obtain ⟨kx,hkx⟩:∃ z,x.d.key = z:=⟨_,rfl⟩
   rw [hkx] at c3 HNX
   obtain ⟨F,hF⟩:∃ F,decide (x.d.kind ∈ L) = F:=⟨_,rfl⟩
   rw [hF] at HIN5
   have HF5:=Shut.mk hF
   obtain ⟨kd,hkd⟩:∃ z,x.d.kind = z:=⟨_,rfl⟩
   rw [hkd] at c2 HIN5 HNX HF5
   clear hcs hbs hb5 hg9 hkx hF hkd HRX
   cases F with
   | false =>
     have HNE:=Lib.hid (show (((s.ops.take (k + 1)).filter fun o=>decide (o.d.kind ∈ L)).map fun o=>o.d.key) = FL by
      rw [HNX.out,if_neg (of_decide_eq_false HF5.out),List.append_nil])
     go_wp2_with (refine HIN5.out.mono ?_;rintro e w6 ⟨rfl,rfl⟩)
     exact ⟨⟨_,k + 1,rfl,by go_num,by omega,by rw [HNE.out];exact HO5.out,HB5.out⟩,by simp [intOf];omega⟩
   | true =>
     have HNE:=Lib.hid (show (((s.ops.take (k + 1)).filter fun o=>decide (o.d.kind ∈ L)).map fun o=>o.d.key) = FL ++ [kx] by
      rw [HNX.out,if_pos (of_decide_eq_true HF5.out)])
     have b8:Below w5.heap.size w5 (w5.alloc (.cells #[.string ⟨kx.toArray⟩] 9)):=(Below.refl _ _).alloc (Nat.le_refl _) _
     have HO8:=Lib.hid (HO5.out.below b8)
     have HB8:=Lib.hid (HB5.out.trans (b8.mono HB5.out.size))
     have HC8:=Lib.hid (show (w5.alloc (.cells #[.string ⟨kx.toArray⟩] 9)).cell? ((⟨w5.heap.size,0,none⟩:Addr).add 0) = some (.string ⟨kx.toArray⟩) from by
      rw [Addr.add_lit,Lib.cell_of_heap (heap_alloc_new w5 _)]
      rfl)
     clear b8
     go_wp2_with (first
      | (refine HIN5.out.mono ?_;rintro e w6 ⟨rfl,rfl⟩)
      | (refine z2t rfl _ _ rfl w.heap.size (.slice oa ol oc) FL kx ⟨w6.heap.size,0,none⟩ 1 rfl HO8.out rfl HC8.out HFL.out HB8.out.size ?_))
     intro v9 w9 ho9 hb9 _
     have HO9:=Lib.hid ho9.out
     have HB9:=Lib.hid (HB8.out.trans hb9.out)
     clear ho9 hb9
     go_wp2_with fail
     exact ⟨⟨v9,k + 1,rfl,by go_num,by omega,by rw [HNE.out];exact HO9.out,HB9.out⟩,by simp [intOf];omega⟩
  ·obtain rfl:n = k:=by omega
   have HE:=Lib.hid (show s.ops.take n = s.ops from List.take_of_length_le (by rw [HN.out];exact Nat.le_refl _))
   have hfl:=List.length_filter_le (fun o=>decide (o.d.kind ∈ L)) s.ops
   rw [HN.out] at hfl
   have HK:=Shut.mk (show zcs s.ops L = z1a ((s.ops.filter fun o=>decide (o.d.kind ∈ L)).map fun o=>o.d.key) from rfl)
   rw [HE.out] at ho
   obtain ⟨FL,hFL⟩:∃ z,((s.ops.filter fun o=>decide (o.d.kind ∈ L)).map fun o=>o.d.key) = z:=⟨_,rfl⟩
   have hfl2:FL.length ≤ 1000:=by rw [← hFL,List.length_map];omega
   rw [hFL] at ho HK
   obtain ⟨oa,oc,hv⟩:=ho.form
   obtain ⟨ol,hol⟩:∃ z,FL.length = z:=⟨_,rfl⟩
   rw [hol] at hv hfl2
   subst hv
   have HRS:=Lib.hid (ze6 oa FL ol oc wi (z1r (by rw [hol];exact ho)) hol (by omega))
   clear ho hb hFL hfl hfl2 hol
   go_wp2_with (refine HRS.out.mono ?_;rintro e w9 ⟨v9,rfl,ho9,hb9⟩;have HO9:=Lib.hid ho9;have HB9:=Lib.hid hb9;clear ho9 hb9)
   go_ret
   exact ⟨_,rfl,by rw [HK.out];exact HO9.out.mono HB.out.size,HB.out.trans (HB9.out.mono HB.out.size)⟩
end Go.Proofs.YtjomgkiphecljaaGreatDoor
namespace Go.Proofs.YtjomgkiphecljaaGreatDoor
open Go.RowKit
theorem take_all {α:Type} {a b:List α} (hl:a.length = b.length) (h:a.take a.length = b.take a.length):a = b:=by
 rw [List.take_length,hl,List.take_length] at h
 exact h
theorem zkr {a b:List (List UInt8)} {q:Nat} (ha:q < a.length) (hb:q < b.length) (h:a.take q = b.take q) (he:a[q] = b[q]):a.take (q + 1) = b.take (q + 1):=by
 rw [List.take_succ_eq_append_getElem ha,List.take_succ_eq_append_getElem hb,h,he]
theorem ne_at {a b:List (List UInt8)} {q:Nat} (ha:q < a.length) (hb:q < b.length) (he:¬ a[q] = b[q]):decide (a = b) = false:=by
 rw [decide_eq_false_iff_not]
 rintro rfl
 exact he rfl
theorem zln (a b:List UInt8) (h:¬ a = b):(a == b) = false:=by simpa using h
theorem zjx (a b:List UInt8) (h:a = b):(a == b) = true:=by simpa using h
theorem same_len (x y:Option Addr) (c d:Nat) (a b:List (List UInt8)) (w:World) (h:¬ a.length = b.length) :
 Calls Tryz.prog 10 #[.slice x a.length c,.slice y b.length d] w fun e w'=>e = .returned (.bool (decide (a = b))) ∧ Below w.heap.size w w':=by
 have e:decide (a = b) = false:=by rw [decide_eq_false_iff_not];rintro rfl;exact h rfl
 have ht:((a.length:Int) == (b.length:Int)) = false:=by simp;omega
 rw [e]
 clear e
 go_enter Tryz.func10,Tryz.ntmps10
 go_wp2_with fail
 go_ret
 exact ⟨rfl,Below.refl _ _⟩
theorem same_any (x y:Option Addr) (c d:Nat) (a b:List (List UInt8)) (w:World) (hx:StrsAt x a w) (hy:StrsAt y b w) (hl:a.length ≤ 9223372036854775807) :
 Calls Tryz.prog 10 #[.slice x a.length c,.slice y b.length d] w fun e w'=>e = .returned (.bool (decide (a = b))) ∧ Below w.heap.size w w':=by
 by_cases h:a.length = b.length
 ·have HX:=Lib.hid hx
  have HY:=Lib.hid hy
  have HL:=Lib.hid h
  have ht:((a.length:Int) == (b.length:Int)) = true:=by simp;omega
  clear hx hy h
  go_enter Tryz.func10,Tryz.ntmps10
  go_wp2_with fail
  clear ht
  go_loopw [13] (fun i wr=>∃ q:Nat,q ≤ a.length ∧ i = .int .i64 q ∧ a.take q = b.take q ∧ Below w.heap.size w wr) (fun i _=>a.length - (intOf i).toNat)
  case atStart=>exact ⟨0,Nat.zero_le _,rfl,by simp,Below.refl _ _⟩
  case round =>
   obtain ⟨q,hq,rfl,htk,hbel⟩:=hrel
   by_cases hlt:q < a.length
   ·have hltb:q < b.length:=by have:=HL.out;omega
    obtain ⟨xb,xo,hxe,hxc⟩:=(HX.out.below hbel).cell hlt
    obtain ⟨yb,yo,hye,hyc⟩:=(HY.out.below hbel).cell hltb
    have HB:=Lib.hid hbel
    have HT:=Lib.hid htk
    subst hxe hye
    clear hbel htk
    by_cases he:a[q] = b[q]
    ·have ht:=zjx _ _ he
     have HE:=Lib.hid he
     clear he
     go_wp2_with fail
     go_quiet (fail)
     go_wp2_with fail
     exact ⟨⟨q + 1,by omega,by go_num,zkr hlt hltb HT.out HE.out,z0v HB.out nq⟩,by simp [intOf];omega⟩
    ·have ht:=zln _ _ he
     have HE:=Lib.hid he
     clear he
     go_wp2_with fail
     go_quiet (fail)
     go_wp2_with fail
     go_ret
     exact ⟨by rw [ne_at hlt hltb HE.out];rfl,z0v HB.out nq⟩
   ·obtain rfl:q = a.length:=by omega
    have HE:=Lib.hid (take_all HL.out htk)
    have HB:=Lib.hid hbel
    clear htk hbel
    go_wp2_with fail
    go_ret
    exact ⟨by rw [decide_eq_true HE.out];rfl,HB.out⟩
 ·exact same_len x y c d a b w h
open Go.BigFrame
theorem zj9 {A:List (List UInt8)} {n:Nat} (hn:A.length = n) (pa pb:Option Addr) (ca cb:Nat) (w:World) (hpa:StrsAt pa A w) (hpb:StrsAt pb A w) (hl:n ≤ 100000) :
 Calls Tryz.prog 10 #[.slice pa n ca,.slice pb n cb] w fun e w'=>e = .returned (.bool true) ∧ Below w.heap.size w w':=by
 subst hn
 have h:=same_any pa pb ca cb A A w hpa hpb (by omega)
 rwa [show decide (A = A) = true from decide_eq_true rfl] at h
theorem zjc {g:Nat} {w:World} (h:w.heap[g]? = some (.cells #[.int .i64 1,.int .i64 2,.int .i64 3] 3 (0,0))):IntsIn (some ⟨g,0,none⟩) [1,2,3] w:=fun i hi=>⟨_,rfl,by
 rw [Addr.add_lit,Lib.cell_of_heap h]
 have:i < 3:=hi
 rcases i with _ | _ | _ | i
 ·rfl
 ·rfl
 ·rfl
 ·omega⟩
theorem zhy {s:DagN} (ht:Tame s) (ks:List Int):(zcs s.ops ks).length ≤ 1000:=by
 have h1:=z5n ((s.ops.filter fun o=>decide (o.d.kind ∈ ks)).map fun o=>o.d.key) _ (Nat.le_refl _)
 rw [List.take_length,List.length_map] at h1
 have h2:=List.length_filter_le (fun o:OpN=>decide (o.d.kind ∈ ks)) s.ops
 have h3:=ht.many
 exact Nat.le_trans h1 (Nat.le_trans h2 (by omega))
namespace viewsRegisters
theorem walk (W:World) (hk:KAt W) (ao:Option Addr) (l:List MakeN) (c:Nat) (hs:MksAt ao l W) (hn:∀ x ∈ l,x.In) (ht:l.length ≤ 140737488351232) (key:List UInt8) (_hz:key.length ≤ 140737488351232) :
 Calls Tryz.prog 3 #[.slice ao l.length c,.string ⟨key.toArray⟩] W fun e W'=>e = .returned (.bool true) ∧ Below W.heap.size W W':=by
 have HAL:=Lib.hid (zmb W hk)
 have HBO:=Lib.hid (fun w1 (b:Below W.heap.size W w1)=>both12 W ao l c w1 hs hn ht b (hk.below b))
 obtain ⟨nl,hnl⟩:∃ i,l.length = i:=⟨_,rfl⟩
 rw [hnl] at HBO ⊢
 clear hs hn ht hk hnl _hz
 go_enter Tryz.func3,Tryz.ntmps3
 go_wp2_with fail
 refine HAL.out.mono ?_
 rintro e w1 ⟨rfl,hb1⟩
 have HB1:=Lib.hid hb1
 clear hb1
 by_cases h100:key.length ≤ 100
 ·have g2:decide ((100:Int) < (key.length:Int)) = false:=decide_eq_false (by omega)
  go_wp2_with fail
  refine (HBO.out w1 HB1.out).mono ?_
  rintro e w2 ⟨Z,X,B,gs,T,s,hs,M,vo,vw,vn,vq,rfl,hset,hinv,htm,hdp,hgd,href,hb2⟩
  have HB2:=Lib.hid (HB1.out.trans (hb2.mono HB1.out.size))
  have hops:s.ops.length ≤ 1000:=by have:=htm.many;omega
  have HVL:=Lib.hid (fun k w' (b:Below w2.heap.size w2 w')=>zhj X B T s hs M k w' (hset.below b) hinv.nodupN htm hgd)
  have HRV:=Lib.hid (fun k w' (b:Below w2.heap.size w2 w')=>zgr Z gs vo vw vn vq s k w' (href.below b) htm.ops hops)
  have HRG:=Lib.hid (fun w' (b:Below w2.heap.size w2 w')=>zf4 X B T s hs M w' (hset.below b) hinv.nodupN htm hgd)
  have HRK:=Lib.hid (fun (g:Nat) (L:List Int) (m:Nat) w' (b:Below w2.heap.size w2 w') (hI:IntsIn (some ⟨g,0,none⟩) L w') (hm:L.length = m) (hl:m ≤ 140737488351232)=>zit Z gs vo vw vn vq s (some ⟨g,0,none⟩) L m m w' (href.below b) htm.ops hops hI hm hl)
  have hk1:=zhy htm [1,2,3]
  have hk2:=zhy htm [3]
  have b3:Below w2.heap.size w2 (w2.alloc (.cells #[.int .i64 1,.int .i64 2,.int .i64 3] 3)):=(Below.refl _ _).alloc (Nat.le_refl _) _
  have HK3:=Lib.hid (HRK.out w2.heap.size [1,2,3] 3 _ b3 (zjc (heap_alloc_new w2 _)) rfl (by decide))
  have HB3:=Lib.hid b3
  obtain ⟨G,hG⟩:∃ z,zcs s.ops [1,2,3] = z:=⟨_,rfl⟩
  rw [hG] at HK3 hk1
  have HG1:=Lib.hid hk1
  obtain ⟨G3,hG3⟩:∃ z,zcs s.ops [3] = z:=⟨_,rfl⟩
  rw [hG3] at HRG hk2
  have HGK:=Shut.mk hG3
  obtain ⟨n3,hn3⟩:∃ z,G3.length = z:=⟨_,rfl⟩
  rw [hn3] at hk2
  have HN3:=Shut.mk hn3
  have HL3:=Lib.hid (show n3 ≤ 100000 by omega)
  clear hset hinv htm hdp hgd href hb2 hops HBO HAL g2 h100 hk1 hk2 b3 hG hG3 hn3
  go_wp2_with fail
  refine HK3.out.mono ?_
  rintro e w4 ⟨v4,rfl,ho4,hb4⟩
  obtain ⟨a4,c4,rfl⟩:=ho4.form
  have b5:Below w4.heap.size w4 (w4.alloc (.cells #[.string ⟨key.toArray⟩] 9)):=(Below.refl _ _).alloc (Nat.le_refl _) _
  have HB4:=Lib.hid (HB3.out.trans (hb4.mono HB3.out.size))
  have HO5:=Lib.hid ((ho4.below b5).mono HB3.out.size)
  have HB5:=Lib.hid (HB4.out.trans (b5.mono HB4.out.size))
  have HC5:=Lib.hid (show (w4.alloc (.cells #[.string ⟨key.toArray⟩] 9)).cell? ((⟨w4.heap.size,0,none⟩:Addr).add 0) = some (.string ⟨key.toArray⟩) from by
   rw [Addr.add_lit,Lib.cell_of_heap (heap_alloc_new w4 _)]
   rfl)
  obtain ⟨ng,hng⟩:∃ z,G.length = z:=⟨_,rfl⟩
  have HNG:=Shut.mk hng
  rw [hng] at HO5 ⊢
  clear ho4 hb4 b5 hng HK3
  go_wp2_with (refine z2t rfl _ _ rfl w2.heap.size (.slice a4 ng c4) _ key ⟨w4.heap.size,0,none⟩ 1 rfl HO5.out rfl HC5.out (Nat.le_trans HG1.out (by decide)) HB5.out.size ?_)
  intro v6 w6 ho6 hb6 _
  obtain ⟨a6,c6,rfl⟩:=ho6.out.form
  obtain ⟨KL,hKL⟩:∃ z,G ++ [key] = z:=⟨_,rfl⟩
  have hkl:KL.length ≤ 1001:=by rw [← hKL,List.length_append];have:=HG1.out;simp only [List.length_singleton];omega
  rw [hKL] at ho6 ⊢
  obtain ⟨n,hne⟩:∃ z,KL.length = z:=⟨_,rfl⟩
  have HN:=Shut.mk hne
  rw [hne] at hkl
  have HS6:=Lib.hid (z1r (ho6.out:OwnS w2.heap.size (.slice a6 KL.length c6) KL w6))
  rw [hne]
  have HB6:=Lib.hid (HB5.out.trans hb6.out)
  clear ho6 hb6 hKL hne HO5 HC5 HB5 HB4 HG1 HNG
  go_wp2_with fail
  go_loopw [32] (fun i wr=>∃ k:Nat,i = .int .i64 k ∧ k ≤ n ∧ Below w2.heap.size w2 wr ∧ StrsAt a6 KL wr) (fun i _=>n - (intOf i).toNat)
  case atStart=>exact ⟨0,rfl,Nat.zero_le _,HB6.out,HS6.out⟩
  case round =>
   clear HS6
   obtain ⟨wi,rfl⟩:∃ z,z = wr:=⟨_,rfl⟩
   obtain ⟨k,rfl,hk,hb,ho⟩:=hrel
   have HBI:=Lib.hid hb
   have HOI:=Lib.hid ho
   clear hb ho
   by_cases hlt:k < n
   ·obtain ⟨b,ob,rfl,hbl,hc⟩:=HOI.out.resolve_left (fun e=>by have:=HN.out;rw [e] at this;simp at this;omega)
    have ck:=hc k (by rw [HN.out];exact hlt)
    obtain ⟨y,hy⟩:∃ y,KL[k]'(by rw [HN.out];exact hlt) = y:=⟨_,rfl⟩
    rw [hy] at ck
    have HVC:=Lib.hid (HVL.out y wi HBI.out)
    have HRC:=Lib.hid (fun w' (b:Below w2.heap.size w2 w')=>HRV.out y w' b)
    obtain ⟨⟨vv,vb⟩,hvv⟩:∃ z,z2o y s.ops = z:=⟨_,rfl⟩
    rw [hvv] at HVC HRC
    clear hc hy hbl hvv
    go_wp2_with fail
    refine HVC.out.mono ?_
    rintro e w7 ⟨rfl,hb7⟩
    have HB7:=Lib.hid (HBI.out.trans (hb7.mono HBI.out.size))
    have HO7:=Lib.hid (HOI.out.below hb7)
    clear hb7
    go_wp2_with fail
    refine (HRC.out w7 HB7.out).mono ?_
    rintro e w8 ⟨rfl,hb8⟩
    have HB8:=Lib.hid (HB7.out.trans (hb8.mono HB7.out.size))
    have HO8:=Lib.hid (HO7.out.below hb8)
    clear hb8
    cases vb <;> (
     go_wp2_with fail
     exact ⟨⟨k + 1,by go_num,by omega,HB8.out,HO8.out⟩,by simp [intOf];omega⟩)
   ·obtain rfl:k = n:=by omega
    go_wp2_with fail
    refine (zfb key wi).mono ?_
    rintro e w7 ⟨rfl,hb7⟩
    have HB7:=Lib.hid (HBI.out.trans (hb7.mono HBI.out.size))
    clear hb7
    go_wp2_with fail
    refine (HRG.out w7 HB7.out).mono ?_
    rintro e w8 ⟨v8,rfl,ho8,hb8⟩
    obtain ⟨a8,c8,rfl⟩:=ho8.form
    have HB8:=Lib.hid (HB7.out.trans (hb8.mono HB7.out.size))
    have b9:Below w8.heap.size w8 (w8.alloc (.cells #[.int .i64 3] 3)):=(Below.refl _ _).alloc (Nat.le_refl _) _
    have HB9:=Lib.hid (HB8.out.trans (b9.mono HB8.out.size))
    have HK9:=Lib.hid (HRK.out w8.heap.size [3] 1 _ HB9.out (z86 (by rw [Lib.cell_of_heap (heap_alloc_new w8 _)];rfl)) rfl (by decide))
    rw [HGK.out] at HK9
    have HO9:=Lib.hid (z1r ((ho8.below b9:OwnS _ (.slice a8 G3.length c8) G3 _)))
    rw [HN3.out]
    clear ho8 hb8 b9
    go_wp2_with fail
    refine HK9.out.mono ?_
    rintro e w10 ⟨v10,rfl,ho10,hb10⟩
    obtain ⟨a10,c10,rfl⟩:=ho10.form
    have HB10:=Lib.hid (HB9.out.trans (hb10.mono HB9.out.size))
    have HST:=Lib.hid (zj9 HN3.out a8 a10 c8 c10 w10 (HO9.out.below hb10) (z1r (ho10:OwnS _ (.slice a10 G3.length c10) G3 w10)) HL3.out)
    rw [HN3.out]
    clear ho10 hb10 HO9
    go_wp2_with (first
     | (refine HST.out.mono ?_;rintro e w12 ⟨rfl,hb12⟩;have HB12:=Lib.hid (HB10.out.trans (hb12.mono HB10.out.size));clear hb12)
     | (refine (z9m w12).mono ?_;rintro e w13 ⟨rfl,hb13⟩;have HB13:=Lib.hid (HB12.out.trans (hb13.mono HB12.out.size));clear hb13))
    go_ret
    exact ⟨rfl,HB2.out.trans (HB13.out.mono HB2.out.size)⟩
 ·have g2:decide ((100:Int) < (key.length:Int)) = true:=decide_eq_true (by omega)
  go_wp2_with fail
  go_ret
  exact ⟨rfl,HB1.out⟩
end viewsRegisters
end Go.Proofs.YtjomgkiphecljaaGreatDoor
namespace Go.Proofs.YtjomgkiphecljaaGreatDoor.viewsRegisters
open Go.ChangeShapes Go.WideShapes Go.ChangeAt Go.RowKit
open Go.ChangeMaps (open_string shut_string)
set_option linter.unusedVariables false
theorem zcr (os:Os):laidMet Tryz.prog Rows.viewsRegistersRow.laid ((z5a os).forCall (fun _ _=>0) ⟨#[],#[.slice none 0 0,.string ByteArray.empty],[]⟩).memory :=
 laidMet_of_run' 8 (by kernel_rfl) (by kernel_rfl)
theorem reads (os:Os) {H:Type} (enc:TypeId × Value → H):∃ x,DataW.whole enc Tryz.prog ((z5a os).forCall (fun _ _=>0) ⟨#[],#[.slice none 0 0,.string ByteArray.empty],[]⟩).memory Tryz.f3.params.toList Rows.viewsRegistersSpec.vars false (#[.slice none 0 0,.string ByteArray.empty]:Array Value).toList 8 = some x :=
 ⟨([.nil,.lit (.string [])],[],[]),by kernel_rfl⟩
theorem lifted (os:Os) (started:os.Started) (H:Type) (enc:TypeId × Value → H) (F:Stop.Interp) :
 ReturnsInHanded {} Tryz.checked os 3 .any ((OpenSpec.ofChange Rows.viewsRegistersSpec).preRow enc Tryz.prog Tryz.f3 Rows.viewsRegistersRow.domain false Rows.viewsRegistersRow.laid) (((OpenSpec.ofChange Rows.viewsRegistersSpec).at F).post enc Tryz.prog Tryz.f3 false true false false):=by
 obtain ⟨x,hx⟩:=reads os enc
 refine returnsInHanded_of_row (C:=Tryz.checked) (s:=OpenSpec.ofChange Rows.viewsRegistersSpec) zkg started (by kernel_rfl) Tryz.func3
  (witness_row_at (enc:=enc) (C:=Tryz.checked) false (z5a os) #[.slice none 0 0,.string ByteArray.empty] rfl (by kernel_rfl) (by kernel_rfl) (by kernel_rfl)
   (OpenSpec.preRow_of_cond 8 hx rfl (fun k hk=>by cases hk) (by kernel_rfl) (zcr os))) ?_
 intro W base args ds gs before hval0 hW hcnd _ hsz0 hL _ _
 have hk:KAt W:=k_laid hL
 have hsz:(DataW.weightsEach Tryz.prog (Tryz.f3.params.toList ++ (OpenSpec.ofChange Rows.viewsRegistersSpec).bare.plain.varTypes Tryz.prog) (ds ++ gs)).all (· ≤ reachBytes) = true:=hsz0
 have hval:∀ (j:Nat) t v,Tryz.f3.params[j]? = some t → args[j]? = some v → Value.okWide Tryz.prog W .any base t v:=hval0
 have hW':=hW
 obtain ⟨p,q,hA0,hV,rfl,hfz,hnd⟩:=hW
 have hA:DataW.TrodAll enc Tryz.prog W 0 (fun _=>true) true Tryz.f3.params.toList args.toList ds p:=hA0
 rw [Tryz.params3] at hA hval hsz
 obtain ⟨v0,vs0,d0,ds0,p0,q0,hargs,rfl,rfl,h0,r0⟩:=trodAll_cons hA
 obtain ⟨v1,vs1,d1,ds1,p1,q1,rfl,rfl,rfl,h1,r1⟩:=trodAll_cons r0
 obtain ⟨rfl,rfl,rfl⟩:=trodAll_nil r1
 obtain rfl:args = #[v0,v1]:=by cases args;simp_all
 obtain ⟨rfl,rfl⟩:=trodVars_none hV
 have k0:=h0
 have lt0:∀ x ∈ p0,x.block < W.heap.size:=by obtain ⟨m,hm⟩:=k0;exact DataW.trod_lt m _ _ _ hm
 have z0:∀ n ∈ DataW.weights Tryz.prog 22 d0,n ≤ 140737488351232:=fun n hn=>of_decide_eq_true (List.all_eq_true.1 hsz n (DataW.weights_mem_each (j:=0) (t:=22) rfl rfl n hn))
 obtain ⟨ao0,l0,c0,rfl,s0,n0,t0⟩:=zbs (hval 0 22 v0 rfl rfl) h0 z0
 obtain ⟨a1,rfl,rfl,rfl,w1⟩:=open_string Tryz.underlying9 (hval 1 9 v1 rfl rfl) h1
 have z1:a1.data.toList.length ≤ 140737488351232:=sized_string hsz (j:=1) (t:=9) rfl rfl
 clear hA0 hval0
 refine (walk W hk ao0 l0 c0 s0 n0 t0 a1.data.toList z1).mono fun e W' ⟨he,bel⟩=>?_
 subst he
 exact ⟨_,rfl,_,_,_,[],_,[],hW',trodAll_mk1 (shut_bool Tryz.underlying4 _),(trodAll_cons_mk (Below.trod zam (by kernel_rfl) (of_decide_eq_true (by kernel_rfl)) k0 bel lt0) (trodAll_cons_mk (shut_string Tryz.underlying9 w1) trodAll_mk0)),rfl,bel.frame _,fun h=>by cases h⟩
theorem said:Rows.ViewsRegistersSaid :=
 OpenClaim.holds_of_cond 3 Tryz.f3 rfl rfl rfl rfl rfl rfl rfl ⟨rfl,rfl,rfl,rfl,rfl⟩ rfl rfl rfl rfl rfl (by kernel_rfl) Tryz.func3 (by kernel_rfl)
  (of_decide_eq_true (by kernel_rfl)) (by unfold Func.isWrapper;first | (rw [if_pos (by decide +kernel)];kernel_rfl) | (rw [if_neg (by decide +kernel)];exact ⟨rfl,rfl⟩))
  (fun os started H enc _ F=>by rw [OpenClaim.pre_eq_preRow];exact lifted os started H enc F)
theorem zab (f : FuncId) (fn : Func) (hf : Tryz.pinned.checked.prog.funcNamed "tribunal/tribunallaw12.ViewsRegisters" = some f) (hfn : Tryz.pinned.checked.prog.funcs[f]? = some fn) :
 true = Tryz.pinned.checked.prog.looks [] ∧ ∀ (j:Nat) t,fn.params[j]? = some t → Tryz.pinned.checked.prog.wantsStandIn t = false:=by
 obtain rfl : f = 3 := Option.some.inj ((show Tryz.prog.funcNamed "tribunal/tribunallaw12.ViewsRegisters" = some 3 by kernel_rfl).symm.trans hf) |>.symm
 obtain rfl:fn = Tryz.f3:=(Option.some.inj (Tryz.func3.symm.trans hfn)).symm
 refine ⟨by kernel_rfl,fun j t ht=>?_⟩
 have hall:Tryz.f3.params.toList.all (fun t=>!Tryz.prog.wantsStandIn t) = true:=by kernel_rfl
 have hm:t ∈ Tryz.f3.params.toList:=Array.mem_toList_iff.2 (Array.mem_of_getElem? ht)
 have h0:=List.all_eq_true.1 hall t hm
 have h1:Tryz.prog.wantsStandIn t = false:=by simpa using h0
 exact h1
theorem proved:Rows.ViewsRegistersCardSaid :=
 Claim7.holds_tied_plain_at .later [] _ _ _ _ said (fun _ h=>by cases h) (by kernel_rfl) (fun _ h=>by cases h) viewsRegisters_row_tie rfl ⟨rfl,rfl⟩ (by kernel_rfl) rfl zab (by kernel_rfl)
#print axioms proved
end Go.Proofs.YtjomgkiphecljaaGreatDoor.viewsRegisters
