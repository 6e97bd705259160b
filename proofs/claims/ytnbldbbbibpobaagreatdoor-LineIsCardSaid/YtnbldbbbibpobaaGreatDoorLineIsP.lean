/-
  The law LineIs: for every input it answers true, and its arguments read as they did. Condition: the round constants' table lies as the program's text lays it (the card ties it).
-/
import Derived.BigQuiet
import Derived.ChangeAlike
import Derived.ChangeSlices
import Derived.Deep.MidRow
import Derived.Deep.QuietTactic
import Derived.Deep.Slices
import Derived.Great.BuildSlice
import Derived.Laws.AppendOwnNone
import Derived.Laws.StructEq
import Derived.Lib.Builder
import Derived.Lib.Hide
import Derived.Lib.OwnBridge
import Derived.Lib.SlicesCompact
import Derived.OpenShut
import Derived.RegionTactic
import Derived.Sort.EncStr
import Derived.Sort.Walk0
import Derived.Test.YtnbldbbbibpobaaGreatDoorChecked
import Derived.WalkKit
import Derived.Test.YtnbldbbbibpobaaGreatDoorJ01
import Derived.Test.YtnbldbbbibpobaaGreatDoorJ02
import Derived.Test.YtnbldbbbibpobaaGreatDoorJ03
import Derived.Test.YtnbldbbbibpobaaGreatDoorJ04
import Derived.Test.YtnbldbbbibpobaaGreatDoorJ05
import Derived.Test.YtnbldbbbibpobaaGreatDoorJ06
import Derived.Test.YtnbldbbbibpobaaGreatDoorJ07
import Derived.Test.YtnbldbbbibpobaaGreatDoorJ08
import Derived.Test.YtnbldbbbibpobaaGreatDoorJ09
import Derived.Test.YtnbldbbbibpobaaGreatDoorJ10
import Derived.Test.YtnbldbbbibpobaaGreatDoorJ11
import Derived.Test.YtnbldbbbibpobaaGreatDoorJ12
import Derived.Test.YtnbldbbbibpobaaGreatDoorJ13
import Derived.Test.YtnbldbbbibpobaaGreatDoorJ14
import Derived.Test.YtnbldbbbibpobaaGreatDoorJ15
import Derived.Test.YtnbldbbbibpobaaGreatDoorJ16
import Derived.Test.YtnbldbbbibpobaaGreatDoorJ17
import Derived.Test.YtnbldbbbibpobaaGreatDoorJ18
import Derived.Test.YtnbldbbbibpobaaGreatDoorJ19
import Derived.Test.YtnbldbbbibpobaaGreatDoorJ20
import Derived.Test.YtnbldbbbibpobaaGreatDoorJ21
import Derived.Test.YtnbldbbbibpobaaGreatDoorJ22
import Derived.Test.YtnbldbbbibpobaaGreatDoorJ23
import Derived.Test.YtnbldbbbibpobaaGreatDoorJ24
import Derived.Test.YtnbldbbbibpobaaGreatDoorJ25
import Derived.Test.YtnbldbbbibpobaaGreatDoorJ26
set_option maxRecDepth 100000
set_option maxHeartbeats 20000000
namespace Go.Proofs.YtnbldbbbibpobaaGreatDoor
open Go.RowKit
theorem StrsAt.cell {ao:Option Addr} {l:List (List UInt8)} {w:World} (h:StrsAt ao l w) {q:Nat} (hq:q < l.length):∃ b o,ao = some ⟨b,o,none⟩ ∧ w.cell? ⟨b,o + q,none⟩ = some (.string ⟨l[q].toArray⟩):=by
 rcases h with h | ⟨b,o,ha,hb,hc⟩
 ·subst h;simp at hq
 ·exact ⟨b,o,ha,hc q hq⟩
open Go.ChangeShapes Go.WideShapes
theorem Ids.zeros (n:Nat):Ids (List.replicate n (List.replicate 32 0)):=fun z hz=>by
 obtain rfl:=(List.mem_replicate.1 hz).2
 exact ⟨rfl,by decide⟩
theorem z4x (n:Nat):z1o (List.replicate n (List.replicate 32 0)) = List.replicate (n * 32) (.int .u8 0):=by
 induction n with
 | zero=>rfl
 | succ n ih =>
   rw [List.replicate_succ,z1o,List.flatMap_cons]
   rw [show z07 .u8 (List.replicate 32 0) = List.replicate 32 (.int .u8 0) from rfl]
   have ih':List.flatMap (z07 .u8) (List.replicate n (List.replicate 32 0)) = List.replicate (n * 32) (.int .u8 0):=ih
   rw [ih',List.replicate_append_replicate]
   congr 1
   omega
theorem z3y (n:Nat):(madeCells (Value.agg (z07 .u8 (List.replicate 32 0)).toArray).cells (n * 32)).toList = z1o (List.replicate n (List.replicate 32 0)):=by
 rw [z4x]
 refine List.ext_getElem (by simp [madeCells]) fun j h1 h2=>?_
 have hz:(Value.agg (z07 .u8 (List.replicate 32 0)).toArray).cells = Array.replicate 32 (.int .u8 0):=rfl
 simp only [madeCells,hz,Array.getElem_toList,Array.getElem_map,Array.getElem_range,List.getElem_replicate,Array.size_replicate]
 have hj:j % 32 < 32:=Nat.mod_lt _ (by decide)
 rw [getElem!_pos _ _ (by simpa using hj),Array.getElem_replicate]
theorem OwnI.made {B g n:Nat} {e:TypeId} {w:World} (h:w.ownsRow B e 32 (.slice (some ⟨g,0,none⟩) n n) n (madeCells (Value.agg (z07 .u8 (List.replicate 32 0)).toArray).cells (n * 32)).toList) :
 OwnI B e (.slice (some ⟨g,0,none⟩) n n) (List.replicate n (List.replicate 32 0)) w:=by
 unfold OwnI
 rw [List.length_replicate,← z3y]
 exact h
end Go.Proofs.YtnbldbbbibpobaaGreatDoor
namespace Go.Proofs.YtnbldbbbibpobaaGreatDoor
open Go.RowKit
theorem z2m {P:Program} {o:Oper} {a:Act} {C:World → Prop} {K:Act → Prop} (op:BinOp) (t u:TypeId) (x y:Operand) (ho:o.op = .binOp op t x y u) (vx vy r:Value) (hx:a.eval x = vx) (hy:a.eval y = vy)
 (hg:∀ w,(eqGuard op t x y vx vy).run P w = .ok () w) (hr:∀ w,(binOp op t vx vy).run P w = .ok r w) (hk:K (a.put o.dst r)):o.quiet P a C K:=by
 refine ⟨_,fun w hw=>?_,hk⟩
 unfold Oper.quietAt execOp
 simp only [ho,hx,hy,Sem.run_bind,Sem.run_pure,hg,hr,Result.andThen_ok]
 exact ⟨rfl,rfl⟩
open Go.BigFrame
theorem OpAt.below {b o:Nat} {x:OpN} {w w':World} (h:OpAt b o x w) (hb:Below w.heap.size w w') (hlt:b < w.heap.size):OpAt b o x w':=by
 obtain ⟨pa,pc,h1,h2⟩:=h
 exact ⟨pa,pc,z08 h1 hb hlt,h2.below hb⟩
theorem OpsAt.below {ao:Option Addr} {L:List OpN} {w w':World} (h:OpsAt ao L w) (hb:Below w.heap.size w w'):OpsAt ao L w':=by
 rcases h with h | ⟨b,o,h1,h2,h3⟩
 ·exact .inl h
 ·exact .inr ⟨b,o,h1,Nat.lt_of_lt_of_le h2 hb.size,fun i x hx=>(h3 i x hx).below hb h2⟩
theorem OwnO.form {B:Nat} {e:TypeId} {v:Value} {L:List OpN} {w:World} (h:OwnO B e v L w):∃ ao cap,v = .slice ao L.length cap:=by
 obtain ⟨C,h,_⟩:=h
 rcases h.2 with ⟨hv,h0⟩ | ⟨g,cap,cur,hv,_⟩
 ·exact ⟨none,0,by rw [hv,h0]⟩
 ·exact ⟨some ⟨g,0,none⟩,cap,hv⟩
end Go.Proofs.YtnbldbbbibpobaaGreatDoor
namespace Go.Proofs.YtnbldbbbibpobaaGreatDoor
open Go.RowKit Go.ChangeShapes Go.WideShapes Go.Deep
theorem zc3 {H:Type} {enc:TypeId × Value → H} {W:World} {v:Value} {d:DataW H} {p:List MemPlace} {base:Nat} (hv:Value.okWide Tryz.prog W .any base 23 v)
 (h:DataW.Trod enc Tryz.prog W 0 (fun _=>true) true 23 v d p) (hwt:∀ n ∈ DataW.weights Tryz.prog 23 d,n ≤ 140737488351232) :
 ∃ (ao:Option Addr) (L:List Int) (cap:Nat),v = .slice ao L.length cap ∧ IntsIn ao L W ∧ (∀ z ∈ L,I64 z) ∧ L.length ≤ 140737488351232:=by
 obtain ⟨a0,len0,cap0,rfl⟩:=okWide_slice Tryz.underlying23 hv
 obtain ⟨fuel,hf⟩:=h
 rcases ChangeShapes.open_ints Tryz.underlying23 Tryz.underlying3 (by kernel_rfl) hf with ⟨hcs,_⟩ | ⟨a,len,cap,zs,hcs,_,hl,_,hz,hx,hc,hw⟩
 ·simp [Value.cells] at hcs
  obtain ⟨rfl,rfl,rfl⟩:=hcs
  exact ⟨none,[],0,rfl,(fun i hi=>by cases hi),(fun z hz=>by cases hz),by decide⟩
 ·simp [Value.cells] at hcs
  obtain ⟨rfl,rfl,rfl⟩:=hcs
  simp only [if_true] at hz
  have hd:d = .slice (ChangeShapes.lits .i64 (zs.take len0)) (ChangeShapes.lits .i64 (zs.drop len0)):=congrArg Prod.fst hx
  subst hd
  simp only [DataW.weights,Tryz.underlying23] at hwt
  have hwn:=hwt _ (List.mem_cons_self ..)
  have hb8:Tryz.prog.bytesOf 3 = 8:=by kernel_rfl
  rw [hb8] at hwn
  simp only [ChangeShapes.lits,List.length_map,List.length_take,List.length_drop] at hwn
  have hlen:(zs.take len0).length = len0:=by rw [List.length_take];omega
  refine ⟨some a,zs.take len0,cap0,by rw [hlen],fun i hi=>⟨a,rfl,?_⟩,fun z hz2=>?_,by rw [hlen];omega⟩
  ·rw [hlen] at hi
   rw [hc i (by omega),List.getD_eq_getElem?_getD,List.getD_eq_getElem?_getD,List.getElem?_take_of_lt hi]
  ·have:=hw z (List.mem_of_mem_take hz2)
   simp only [Lit.wf,Bool.and_eq_true,decide_eq_true_eq] at this
   exact ⟨this.1,this.2⟩
end Go.Proofs.YtnbldbbbibpobaaGreatDoor
namespace Go.Proofs.YtnbldbbbibpobaaGreatDoor
open Go.RowKit Go.BigFrame
theorem ze3 (w:World):Calls Tryz.prog 22 #[.pointer none] w fun e w'=>e = .returned (.slice none 0 0) ∧ w' = w:=by
 go_enter Tryz.func22,Tryz.ntmps22
 go_wp2_with fail
 go_ret
 exact ⟨rfl,rfl⟩
end Go.Proofs.YtnbldbbbibpobaaGreatDoor
namespace Go.Proofs.YtnbldbbbibpobaaGreatDoor
open Go.RowKit
theorem rowN_nil:z2g [] = []:=rfl
theorem zl5 {L:List OpN} (h:L ≠ []):z2g L = L.getD (z1r L L.length) z05 :: z2g (L.eraseIdx (z1r L L.length)):=by
 have hp:=List.length_pos_iff.2 h
 obtain ⟨k,hk⟩:∃ k,L.length = k + 1:=⟨L.length - 1,by omega⟩
 have hlt:=z5t L (i:=k + 1) (by omega)
 rw [z2g,z2g,hk,rowF,if_neg h,hk,List.length_eraseIdx_of_lt (by rw [hk];exact hlt),hk,Nat.add_sub_cancel]
def ofN (L:List OpN) (key:List UInt8) (ks:List Int):List OpN:=(z2g L).filter fun o=>decide (o.d.key = key ∧ o.d.kind ∈ ks)
theorem ofN_snoc (key:List UInt8) (ks:List Int) (T:List OpN) (o:OpN):(T ++ [o]).filter (fun o=>decide (o.d.key = key ∧ o.d.kind ∈ ks)) = T.filter (fun o=>decide (o.d.key = key ∧ o.d.kind ∈ ks)) ++ if o.d.key = key ∧ o.d.kind ∈ ks then [o] else []:=by
 rw [List.filter_append]
 congr 1
 by_cases h:o.d.key = key ∧ o.d.kind ∈ ks
 ·rw [if_pos h,List.filter_cons_of_pos (by simpa using h),List.filter_nil]
 ·rw [if_neg h,List.filter_cons_of_neg (by simpa using h),List.filter_nil]
theorem z6o (L:List (List UInt8)) (n:List UInt8):z0v (L ++ [n]) = zbg n (z0v L):=by
 rw [z0v,List.foldl_append]
 rfl
theorem z65 (n:List UInt8):∀ {L:List (List UInt8)} {k:Nat},(∀ j,j < k → ∀ x,L[j]? = some x → Op.bytesLess x n = true) → k ≤ L.length → (∀ x,L[k]? = some x → ¬ Op.bytesLess x n = true) → zbg n L = if L[k]? = some n then L else L.take k ++ n :: L.drop k
 | [], k, _, hk, _ => by
   obtain rfl:k = 0:=by simpa using hk
   rfl
 | x :: L, 0, _, _, h => by
   have hx:=h x rfl
   rw [zbg,if_neg hx]
   by_cases e:x = n
   ·rw [if_pos e,if_pos (by rw [e];rfl)]
   ·rw [if_neg e,if_neg (fun h=>e (by injection h))]
    rfl
 | x :: L, k + 1, hl, hk, h => by
   rw [zbg,if_pos (hl 0 (Nat.succ_pos _) x rfl),z65 n (L:=L) (k:=k) (fun j hj y hy=>hl (j + 1) (by omega) y (by rw [List.getElem?_cons_succ];exact hy)) (by simpa using hk) (fun y hy=>h y (by rw [List.getElem?_cons_succ];exact hy)),List.getElem?_cons_succ,List.take_succ_cons,List.drop_succ_cons]
   split <;> rfl
open Go.BigFrame
theorem z97 {L:List OpN} {K:OpN → Bool} (hd:(L.map z00).Nodup):z2g (L.filter K) = (z2g L).filter K:=by
 refine (zic (L:=(z2g L).filter K) ?_ ((z1e L).filter K) ((List.filter_sublist.map z00).nodup hd) fun o _=>z0p o).symm
 exact (z4t hd fun o _=>z0p o).sublist List.filter_sublist
theorem z9d (x:OpN) (pa:Option Addr) (pc gk gs:Nat) (key:List UInt8) (L:List Int) (w:World) (hx:x.d.ref.length = 32) (hk:1 ≤ x.d.kind ∧ x.d.kind ≤ 5) (hkey:w.cell? ⟨gk,0,none⟩ = some (.string ⟨key.toArray⟩)) (hset:Cells gs 102 (z18 L) w) :
 Calls Tryz.prog 68 (#[] ++ [Value.agg (opV x pa pc)].toArray ++ #[.pointer (some ⟨gk,0,none⟩),.pointer (some ⟨gs,0,none⟩)]) w fun e w'=>e = .returned (.bool (decide (x.d.key = key ∧ x.d.kind ∈ L))) ∧ Below w.heap.size w w':=by
 show Calls Tryz.prog 68 #[.agg (opV x pa pc),.pointer (some ⟨gk,0,none⟩),.pointer (some ⟨gs,0,none⟩)] w _
 have b1:Below w.heap.size w (w.alloc (.cells (opV x pa pc) 38)):=(Below.refl _ _).alloc (Nat.le_refl _) _
 have x1:Cells w.heap.size 38 (opV x pa pc) (w.alloc (.cells (opV x pa pc) 38)):=heap_alloc_new w _
 have c0:=(z20 (z0j hx x1).1).1
 have c1:=(z20 (z0j hx x1).1).2.1
 have ck:(w.alloc (.cells (opV x pa pc) 38)).cell? ⟨gk,0,none⟩ = some (.string ⟨key.toArray⟩):=(b1.cell (z3r hkey)).trans hkey
 have HB:=Lib.hid b1
 have hs:=hset.below b1
 have cs:(w.alloc (.cells (opV x pa pc) 38)).cell? ⟨gs,x.d.kind.toNat,none⟩ = some (.bool (decide (x.d.kind ∈ L))):=by
  rw [hs.at]
  exact z7l hk
 obtain ⟨n,hn⟩:∃ n:Nat,x.d.kind = (n:Int):=⟨x.d.kind.toNat,by omega⟩
 rw [hn,Int.toNat_natCast] at cs
 rw [hn] at c0
 have HR:=Shut.mk (show decide (x.d.key = key ∧ x.d.kind ∈ L) = (decide (x.d.key = key) && decide ((n:Int) ∈ L)) by rw [hn];simp)
 have hn6:(n:Int) < 6:=by omega
 obtain ⟨R,hR⟩:∃ R,decide ((n:Int) ∈ L) = R:=⟨_,rfl⟩
 obtain ⟨R0,hR0⟩:∃ R,decide (x.d.key = key ∧ x.d.kind ∈ L) = R:=⟨_,rfl⟩
 rw [hR] at cs HR
 rw [hR0] at HR ⊢
 obtain ⟨k0,hk0⟩:∃ k0,x.d.key = k0:=⟨_,rfl⟩
 rw [hk0] at c1 HR
 clear b1 x1 hs hset hk hn hR hR0 hx hk0 hkey
 by_cases he:k0 = key
 ·subst he
  have HR2:=Shut.mk (show R0 = R by rw [HR.out];simp)
  clear HR
  go_enter Tryz.func68,Tryz.ntmps68
  go_wp2_with fail
  go_ret
  exact ⟨by rw [HR2.out];rfl,HB.out⟩
 ·have HR2:=Shut.mk (show R0 = false by rw [HR.out,decide_eq_false he];rfl)
  clear HR
  go_enter Tryz.func68,Tryz.ntmps68
  go_wp2_with fail
  go_ret
  exact ⟨by rw [HR2.out];rfl,HB.out⟩
open Go.Sort
theorem OwnS.cap {B:Nat} {ao:Option Addr} {n c:Nat} {L:List (List UInt8)} {w:World} (h:OwnS B (.slice ao n c) L w):L.length ≤ c ∧ (ao = none → c = 0):=by
 rcases h.2 with ⟨h1,h2⟩ | ⟨g,cap,cur,h1,h2,h3,h4,_⟩
 ·cases h1
  exact ⟨by omega,fun _=>rfl⟩
 ·cases h1
  exact ⟨h4,fun h=>by cases h⟩
end Go.Proofs.YtnbldbbbibpobaaGreatDoor
namespace Go.Proofs.YtnbldbbbibpobaaGreatDoor
open Go.RowKit Go.BigFrame
theorem z6k {L:List (List Nat)} {k m:Nat} (hm:L.length = m) (h:k < m):(L.take k ++ List.replicate (m - k) (List.replicate 32 0)).set k (L.getD k []) = L.take (k + 1) ++ List.replicate (m - (k + 1)) (List.replicate 32 0):=by
 have hl:(L.take k).length = k:=by rw [List.length_take];omega
 rw [List.set_append_right _ _ (by omega),hl,Nat.sub_self,show m - k = (m - (k + 1)) + 1 by omega,List.replicate_succ,List.set_cons_zero,List.take_succ_eq_append_getElem (by omega),List.append_assoc,List.getD_eq_getElem?_getD,List.getElem?_eq_getElem (by omega)]
 rfl
theorem z7e (X:Nat → Prop) (B:Bs) (T:Ents) (s:DagN) (hs:List (List Nat)) (M:Bh) (w:World) (h:SetAt X B T s hs M w) (hn:s.names.Nodup) (ht:Tame s) :
 Calls Tryz.prog 31 #[.pointer (some ⟨B.gs,0,none⟩)] w fun e w'=>∃ v,e = .returned v ∧ OwnI w.heap.size 25 v ((z2g s.ops).map z00) w' ∧ Below w.heap.size w w':=by
 have HA:=Lib.hid (zdc X B T s hs M w h hn ht)
 have HF:=Lib.hid (z5r s hn ht)
 clear h hn ht
 obtain ⟨L,hL⟩:∃ L,z2g s.ops = L:=⟨_,rfl⟩
 rw [hL] at HA HF ⊢
 clear hL
 obtain ⟨i0,hi,hz0,hz1,hz2⟩:=info_parts Tryz.infoI32
 have HIF:=Lib.hid hi
 have HZ0:=Lib.hid hz0
 have HZ1:=Lib.hid hz1
 have HZ2:=Lib.hid hz2
 have HR:=Lib.hid HF.out.2.2.1
 obtain ⟨m,hm⟩:∃ m,L.length = m:=⟨_,rfl⟩
 have HM:=Shut.mk hm
 have hm2:m ≤ 1000:=hm ▸ HF.out.1
 clear hi hz0 hz1 hz2 hm
 go_enter Tryz.func31,Tryz.ntmps31
 go_wp2_with (first
  | (refine HA.out.mono ?_;rintro e w1 ⟨v1,rfl,ho1,hb1⟩;obtain ⟨ap,cp,rfl⟩:=ho1.form;have HB1:=Lib.hid hb1;have HP:=Lib.hid ho1;rw [HM.out] at HP ⊢;clear ho1 hb1)
  | (at_make;refine wpList_make_full _ rfl _ _ 34 rfl w1.heap.size 25 i0 _ 32 Tryz.underlying34 HIF.out HZ0.out HZ1.out .i64 .i64 _ _ m rfl rfl rfl rfl (by rw [HZ2.out];omega) (by unfold maxLen;omega) (Nat.le_refl _) ?_))
 intro w2 ho2 hg2
 have HO2:=Lib.hid (OwnI.made ho2)
 have HB2:=Lib.hid ((Below.refl w1.heap.size w1).grown hg2 (Nat.le_refl _) (fun k hk=>by cases hk))
 obtain ⟨gr,hgr⟩:∃ g,w1.heap.size = g:=⟨_,rfl⟩
 have HGR:=Shut.mk hgr
 rw [hgr] at HO2 HB2 ⊢
 clear ho2 hg2 hgr
 go_wp2_with fail
 go_loopw [14] (fun i wr=>∃ k:Nat,i = .int .i64 k ∧ k ≤ m ∧ OwnI gr 25 (.slice (some ⟨gr,0,none⟩) m m) ((L.map z00).take k ++ List.replicate (m - k) (List.replicate 32 0)) wr ∧ Below gr w1 wr) (fun i _=>m - (intOf i).toNat)
 case atStart=>exact ⟨0,rfl,Nat.zero_le _,HO2.out,HB2.out⟩
 case round =>
  obtain ⟨wi,rfl⟩:∃ z,z = wr:=⟨_,rfl⟩
  obtain ⟨k,rfl,hk,ho,hb⟩:=hrel
  have HO:=Lib.hid ho
  have HB:=Lib.hid hb
  clear hb ho HO2 HB2
  by_cases hlt:k < m
  ·have hx:L[k]? = some (L.getD k z05):=by
    rw [List.getD_eq_getElem?_getD,List.getElem?_eq_getElem (by rw [HM.out];exact hlt)]
    rfl
   obtain ⟨gp,rfl,hgp⟩:∃ g,ap = some ⟨g,0,none⟩ ∧ g < w1.heap.size:=by
    rcases HP.out.formB with ⟨_,h2⟩ | ⟨g,c,h2,_,_,h3⟩
    ·have:=HM.out;rw [h2] at this;simp at this;omega
    ·injection h2 with h4 _ _
     exact ⟨g,h4,h3⟩
   have hnx:(L.map z00).getD k [] = z00 (L.getD k z05):=by
    rw [List.getD_eq_getElem?_getD,List.getElem?_map,hx]
    rfl
   have hts:=z6k (L:=L.map z00) (by rw [List.length_map];exact HM.out) hlt
   have hxm:L.getD k z05 ∈ L:=List.mem_of_getElem? hx
   obtain ⟨x,hxe⟩:∃ x,L.getD k z05 = x:=⟨_,rfl⟩
   rw [hxe] at hx hnx hxm
   rw [hnx] at hts
   have HTS:=Shut.mk hts
   have hr:=HR.out x hxm
   have HXR:=Lib.hid hr
   obtain ⟨hgl,pa,pc,q1,q2,q3⟩:=HP.out.get hx
   have HQ1:=Lib.hid (show wi.rangeAt gp (k * 70) (plL x pa pc) by rw [Nat.mul_comm];exact z08 q1 HB.out (by rw [← HGR.out];exact hgl))
   have HSL:=Lib.hid (show (Tryz.prog.info? 99).map (·.size) = some (plL x pa pc).length by rw [z2e hr];exact Tryz.sizePl)
   have HSV:=Lib.hid (show (Tryz.prog.info? 99).map (·.size) = some (plV x pa pc).size by rw [plV,List.size_toArray,z2e hr];exact Tryz.sizePl)
   have HSZ:=Lib.hid (show (opL z05 none 0 ++ z07 .u8 zeroI).toArray.size = (plV x pa pc).size by rw [plV,List.size_toArray,List.size_toArray,z2e hr];rfl)
   have HSA:=Lib.hid (show (plV x pa pc).all (·.oneCell') = true by rw [plV,List.all_toArray];exact List.all_eq_true.2 (z80 x pa pc))
   have HSI:=Lib.hid (show (Tryz.prog.info? 25).map (·.size) = some (z00 x).length by rw [z0p];exact Tryz.sizeI)
   clear hx hts hxe hr q1 q2 q3 hgl hxm hnx
   go_wp2_with (first
    | (refine wpList_load_mid rfl 99 _ rfl gp (k * 70) rfl (plL x pa pc) _ HQ1.out Tryz.underlying99 rfl HSL.out ?_)
    | (refine z0d rfl 99 rfl (opL z05 none 0 ++ z07 .u8 zeroI) Tryz.zeroPl ?_)
    | (refine z02 rfl 99 _ _ rfl rfl wi.heap.size (opL z05 none 0 ++ z07 .u8 zeroI).toArray (plV x pa pc) 99 rfl rfl (heap_alloc_new wi _) HSV.out HSZ.out HSA.out ?_))
   intro w5 hcs hbs
   have hb5:Below wi.heap.size wi w5:=But.toBelow ((Below.refl _ wi).alloc (Nat.le_refl _) _) hbs.out (Nat.le_refl _) (by rw [World.size_alloc];exact Nat.le_succ _)
   have HC5:=Lib.hid (z8l HXR.out hcs.out).2
   have HO5:=Lib.hid (HO.out.below hb5)
   have HB5:=Lib.hid (HB.out.trans (hb5.mono (HGR.out ▸ HB.out.size)))
   have HLN:=Lib.hid (show m = ((L.map z00).take k ++ List.replicate (m - k) (List.replicate 32 0)).length by rw [List.length_append,List.length_take,List.length_replicate,List.length_map,HM.out];omega)
   have HLI:=Lib.hid (show Ids ((L.map z00).take k ++ List.replicate (m - k) (List.replicate 32 0)) from Ids.append (fun y hy=>by
    obtain ⟨o,_,rfl⟩:=List.mem_map.1 (List.mem_of_mem_take hy)
    exact z1v o) (Ids.zeros _))
   have HNO:=Lib.hid (z1v x)
   obtain ⟨nx,hnx⟩:∃ z,z00 x = z:=⟨_,rfl⟩
   rw [hnx] at HC5 HTS HSI HNO
   clear hcs hbs hb5 hnx
   go_wp2_with (first
    | (refine z0a rfl 25 _ rfl wi.heap.size 38 nx _ rfl HC5.out Tryz.underlying25 rfl HSI.out ?_)
    | (refine z2o rfl 25 _ _ rfl rfl gr gr m m k (k * 32) 25 _ nx HLN.out (Nat.mul_comm _ _) rfl rfl HO5.out HLI.out hlt HNO.out.1 HNO.out.2 Tryz.sizeI ?_))
   intro w6 ho6 hb6
   have HO6:=Lib.hid (HTS.out ▸ ho6.out)
   have HB6:=Lib.hid (But.toBelow HB5.out hb6.out (Nat.le_refl _) (HGR.out ▸ HB5.out.size))
   clear ho6 hb6
   go_wp2_with fail
   exact ⟨⟨k + 1,by go_num,by omega,HO6.out,HB6.out⟩,by simp [intOf];omega⟩
  ·obtain rfl:k = m:=by omega
   have HE:=Lib.hid (show (L.map z00).take k ++ List.replicate (k - k) (List.replicate 32 0) = L.map z00 by rw [Nat.sub_self,List.replicate_zero,List.append_nil,List.take_of_length_le (by rw [List.length_map,HM.out];exact Nat.le_refl _)])
   go_wp2_with fail
   go_ret
   exact ⟨_,rfl,OwnI.mono (HE.out ▸ HO.out) (HGR.out ▸ HB1.out.size),HB1.out.trans (HB.out.mono (HGR.out ▸ HB1.out.size))⟩
theorem z5s (s:DagN):((z2g s.ops).map z00).length = s.ops.length:=by rw [List.length_map,(z1e s.ops).length_eq]
theorem z96 (s:DagN):Ids ((z2g s.ops).map z00):=fun x hx=>by
 obtain ⟨o,_,rfl⟩:=List.mem_map.1 hx
 exact z1v o
theorem zap (w:World) (fv:Value):Calls Tryz.prog 70 #[.pointer none,fv] w fun e w'=>e = .returned (.slice none 0 0) ∧ w' = w:=by
 have HN:=Lib.hid (ze3 w)
 go_enter Tryz.func70,Tryz.ntmps70
 go_wp2_with (refine HN.out.mono ?_;rintro e w1 ⟨rfl,rfl⟩)
 go_loopw [5,13] (fun v i wr=>v = .slice none 0 0 ∧ i = .int .i64 0 ∧ wr = w1) (fun _ _ _=>0)
 case atStart=>exact ⟨rfl,rfl,rfl⟩
 case round =>
  obtain ⟨rfl,rfl,rfl⟩:=hrel
  go_wp2_with fail
  go_ret
  exact ⟨rfl,rfl⟩
theorem z6b (w:World) (fv:Value):Calls Tryz.prog 64 #[.pointer none,fv] w fun e w'=>e = .returned (.slice none 0 0) ∧ w' = w:=by
 have HN:=Lib.hid (zap w fv)
 have HS:=Lib.hid (AnyF.slices_SortFunc_none Tryz.sortPl none 0 (.func (.func 92) #[] #[]) w)
 go_enter Tryz.func64,Tryz.ntmps64
 go_wp2_with (first
  | (refine HN.out.mono ?_;rintro e w1 ⟨rfl,rfl⟩)
  | (refine Calls.mono (f:=91) HS.out ?_;rintro e w3 ⟨rfl,rfl⟩))
 go_ret
 exact ⟨rfl,rfl⟩
theorem zhp (w:World):Calls Tryz.prog 33 #[.pointer none] w fun e w'=>∃ v,e = .returned v ∧ OwnO w.heap.size 38 v [] w' ∧ Below w.heap.size w w':=by
 have HN:=Lib.hid (z6b w (.func (.func 65) #[] #[]))
 have HB:=Lib.hid (zag (OwnP.nil w.heap.size 99 w) (fun x hx=>by cases hx) (Nat.zero_le _))
 go_enter Tryz.func33,Tryz.ntmps33
 go_wp2_with (first
  | (refine HN.out.mono ?_;rintro e w1 ⟨rfl,rfl⟩)
  | (refine HB.out.mono ?_;rintro e w3 ⟨v3,rfl,ho3,hb3⟩;have HO3:=Lib.hid ho3;have HB3:=Lib.hid hb3;clear ho3 hb3))
 go_ret
 exact ⟨_,rfl,HO3.out,HB3.out⟩
theorem zdg (w:World):Calls Tryz.prog 31 #[.pointer none] w fun e w'=>∃ a c,e = .returned (.slice a 0 c) ∧ Below w.heap.size w w':=by
 have HN:=Lib.hid (z6b w (.func (.func 65) #[] #[]))
 obtain ⟨i0,hi,hz0,hz1,hz2⟩:=info_parts Tryz.infoI32
 have HIF:=Lib.hid hi
 have HZ0:=Lib.hid hz0
 have HZ1:=Lib.hid hz1
 have HZ2:=Lib.hid hz2
 clear hi hz0 hz1 hz2
 go_enter Tryz.func31,Tryz.ntmps31
 go_wp2_with (first
  | (refine HN.out.mono ?_;rintro e w1 ⟨rfl,rfl⟩)
  | (at_make;refine wpList_make_full _ rfl _ _ 34 rfl w1.heap.size 25 i0 _ 32 Tryz.underlying34 HIF.out HZ0.out HZ1.out .i64 .i64 _ _ 0 rfl rfl rfl rfl (by rw [HZ2.out];omega) (by unfold maxLen;omega) (Nat.le_refl _) ?_))
 intro w2 ho2 hg2
 have HB2:=Lib.hid ((Below.refl w1.heap.size w1).grown hg2 (Nat.le_refl _) (fun k hk=>by cases hk))
 clear ho2 hg2
 go_wp2_with fail
 go_loopw [14] (fun i wr=>i = .int .i64 0 ∧ wr = w2) (fun _ _=>0)
 case atStart=>exact ⟨rfl,rfl⟩
 case round =>
  obtain ⟨rfl,rfl⟩:=hrel
  go_wp2_with fail
  go_ret
  exact ⟨_,_,rfl,HB2.out⟩
theorem zdo (X:Nat → Prop) (B:Bs) (T:Ents) (s:DagN) (hs:List (List Nat)) (M:Bh) (key:List UInt8) (ao:Option Addr) (L:List Int) (m c:Nat) (w:World) (h:SetAt X B T s hs M w) (hn:s.names.Nodup) (ht:Tame s) (hg:Goods s) (hI:IntsIn ao L w) (hm:L.length = m) (hl:m ≤ 140737488351232) :
 Calls Tryz.prog 34 #[.pointer (some ⟨B.gs,0,none⟩),.string ⟨key.toArray⟩,.slice ao m c] w fun e w'=>∃ v,e = .returned v ∧ OwnO w.heap.size 38 v (ofN s.ops key L) w' ∧ Below w.heap.size w w':=by
 have HS0:=Lib.hid h
 have HND:=Lib.hid hn
 have HT:=Lib.hid ht
 have HGD:=Lib.hid hg
 have HSK:=Lib.hid (show (Tryz.prog.info? 102).map (·.size) = some (z18 L).size from Tryz.sizeK)
 have HSV:=Lib.hid (show [Value.bool false,.bool false,.bool false,.bool false,.bool false,.bool false].toArray.size = (z18 L).size from rfl)
 have b1:Below w.heap.size w (w.alloc (.cells #[.string ⟨key.toArray⟩] 9)):=(Below.refl _ _).alloc (Nat.le_refl _) _
 have x1:Cells w.heap.size 9 #[.string ⟨key.toArray⟩] (w.alloc (.cells #[.string ⟨key.toArray⟩] 9)):=heap_alloc_new w _
 have HA:=Lib.hid (zb0 ao L m c _ (hI.below b1) hm hl)
 have HB1:=Lib.hid b1
 have HX1:=Lib.hid x1
 clear h hn ht hg hI b1 x1
 go_enter Tryz.func34,Tryz.ntmps34
 go_wp2_with (first
  | (refine HA.out.mono ?_;rintro e w3 ⟨rfl,hb3⟩;have HB3:=Lib.hid hb3;clear hb3)
  | (refine z0d rfl 102 rfl _ Tryz.zeroK ?_)
  | (refine z02 rfl 102 _ _ rfl rfl w3.heap.size _ (z18 L) 102 rfl rfl (heap_alloc_new w3 _) HSK.out HSV.out (z7i L) ?_))
 intro w5 hc5 hb5
 have hb35:Below w3.heap.size w3 w5:=But.toBelow ((Below.refl _ w3).alloc (Nat.le_refl _) _) hb5.out (Nat.le_refl _) (by rw [World.size_alloc];exact Nat.le_succ _)
 have hb15:=HB3.out.trans (hb35.mono HB3.out.size)
 have HC5:=Lib.hid hc5.out
 have HB5:=Lib.hid (HB1.out.trans (hb15.mono HB1.out.size))
 have HX5:=Lib.hid (HX1.out.below hb15)
 have HAR:=Lib.hid (z78 X B T s hs M (fun o=>decide (o.d.key = key ∧ o.d.kind ∈ L)) 68 _ #[.pointer (some ⟨w.heap.size,0,none⟩),.pointer (some ⟨w3.heap.size,0,none⟩)] w5 (HS0.out.below HB5.out) HND.out HT.out Tryz.func68 rfl rfl (fun x hx pa pc w' hb=>z9d x pa pc w.heap.size w3.heap.size key L w' (HT.out.ops x hx).d.ref.1 (HGD.out.kind hx) (by rw [(HX5.out.below hb).at];rfl) (HC5.out.below hb)))
 have hpm:=z1e (s.ops.filter fun o=>decide (o.d.key = key ∧ o.d.kind ∈ L))
 have HR:=Lib.hid (show ∀ x ∈ z2g (s.ops.filter fun o=>decide (o.d.key = key ∧ o.d.kind ∈ L)),x.d.ref.length = 32 from fun x hx=>(HT.out.ops x (List.mem_filter.1 (hpm.mem_iff.1 hx)).1).d.ref.1)
 have HL:=Lib.hid (show (z2g (s.ops.filter fun o=>decide (o.d.key = key ∧ o.d.kind ∈ L))).length ≤ 1000 from by
  rw [hpm.length_eq]
  have:=List.length_filter_le (fun o=>decide (o.d.key = key ∧ o.d.kind ∈ L)) s.ops
  have:=HT.out.many
  omega)
 have HE:=Lib.hid (z97 (K:=fun o=>decide (o.d.key = key ∧ o.d.kind ∈ L)) HND.out)
 clear hc5 hb5 hb35 hb15 hpm
 go_wp2_with (first
  | (refine HAR.out.mono ?_;rintro e w6 ⟨v6,rfl,ho6,hb6⟩;have HB6:=Lib.hid (HB5.out.trans (hb6.mono HB5.out.size));have HBR:=Lib.hid (zag ho6 HR.out HL.out);clear ho6 hb6)
  | (refine HBR.out.mono ?_;rintro e w7 ⟨v7,rfl,ho7,hb7⟩;have HO7:=Lib.hid ho7;have HB7:=Lib.hid hb7;clear ho7 hb7))
 go_ret
 exact ⟨_,rfl,by rw [ofN,← HE.out];exact HO7.out.mono HB6.out.size,HB6.out.trans (HB7.out.mono HB6.out.size)⟩
theorem z1n {P:Program} {o:Oper} {a:Act} {C:World → Prop} {K:Act → Prop} (ty:TypeId) (x y:Operand) (ho:o.op = .indexAddr ty x y) (vx vy:Value) (q:Addr) (hx:a.eval x = vx) (hy:a.eval y = vy) (hr:∀ w,(Instr.indexAt ty vx vy).run P w = .ok (.pointer (some q)) w) (hk:K (a.put o.dst (.pointer (some q)))):o.quiet P a C K:=by
 refine ⟨_,fun w _=>?_,hk⟩
 unfold Oper.quietAt execOp
 simp only [ho,hx,hy,Sem.run_bind,hr w,Result.andThen_ok,Sem.run_pure]
 exact ⟨rfl,rfl⟩
theorem OpsX.offNew {X:Nat → Prop} {B:Nat} {ao:Option Addr} {L:List OpN} {w:World} (h:OpsX X ao L w) (hB:w.heap.size ≤ B):OpsX (fun b=>B ≤ b) ao L w:=by
 rcases h with h | ⟨b,o,h1,h2,h3⟩
 ·exact .inl h
 ·refine .inr ⟨b,o,h1,h2,fun i x hx=>?_⟩
  obtain ⟨pa,pc,q1,q2,_⟩:=h3 i x hx
  exact ⟨pa,pc,q1,q2,fun a ha h0 e=>by have:=q2.lt h0 ha;omega⟩
theorem OwnX.rowFit {X:Nat → Prop} {B:Nat} {ao:Option Addr} {n c:Nat} {L:List OpN} {w:World} (h:OwnX X B 38 (.slice ao n c) L w) (h0:L ≠ []):∃ g,ao = some ⟨g,0,none⟩ ∧ B ≤ g ∧ g < w.heap.size:=by
 rcases h.formB with ⟨_,h1⟩ | ⟨g,cap,h1,_,h2,h3⟩
 ·exact absurd h1 h0
 ·injection h1 with h1 _ _
  exact ⟨g,h1,h2,h3⟩
theorem zf9 (g n c i:Nat) (hi:i < n) (w:World):(Instr.indexAt 29 (.slice (some ⟨g,0,none⟩) n c) (.int .i64 (i:Int))).run Tryz.prog w = .ok (.pointer (some ⟨g,i * 38,none⟩)) w:=by
 have:=z3d g 0 n c i hi w
 rwa [Nat.zero_add] at this
theorem zm7 (Z:Nat → Prop) (gs:Nat) (vo vw vn vq:Value) (s:DagN) (w:World) (h:RefAt Z gs vo vw vn vq s w) (hF:∀ x ∈ s.ops,x.Fit) (hm:s.ops.length ≤ 1000) :
 Calls Tryz.prog 30 #[.pointer (some ⟨gs,0,none⟩)] w fun e w'=>∃ v,e = .returned v ∧ OwnX (fun b=>w.heap.size ≤ b) w.heap.size 38 v (z2g s.ops) w' ∧ Below w.heap.size w w':=by
 obtain ⟨X,hX⟩:∃ X:Nat → Prop,X = fun b=>w.heap.size ≤ b:=⟨_,rfl⟩
 obtain ⟨ro,rc,hvo⟩:=h.ops.form
 have c0:=h.cells.at 0
 simp only [List.getElem?_toArray,List.getElem?_cons_zero] at c0
 rw [hvo] at c0
 have HOP:=Lib.hid (hvo ▸ h.ops)
 have HFI:=Lib.hid hF
 have HX:=Lib.hid (show ∀ b,X b ↔ w.heap.size ≤ b from fun b=>by rw [hX])
 rw [← hX]
 obtain ⟨m,hme⟩:∃ m,s.ops.length = m:=⟨_,rfl⟩
 have HM:=Shut.mk hme
 rw [hme] at hm hvo c0 HOP
 have b1:Below w.heap.size w (w.alloc (.cells #[] 38)):=(Below.refl _ _).alloc (Nat.le_refl _) _
 have HL1:=Lib.hid (OwnX.lit X 38 w)
 have HB1:=Lib.hid b1
 have c1:(w.alloc (.cells #[] 38)).cell? ⟨gs,0,none⟩ = some (.slice ro m rc):=(b1.cell (p:=⟨gs,0,none⟩) (z3r c0)).trans c0
 have HRB:=Lib.hid (show OpsX X ro s.ops (w.alloc (.cells #[] 38)) from hX ▸ ((HOP.out.at).offNew (Nat.le_refl _)).below b1)
 have HMS:=Lib.hid (show w.heap.size ≤ (w.alloc (.cells #[] 38)).heap.size from b1.size)
 clear hF hX h hme c0 b1 hvo
 rcases HOP.out.formB with ⟨hn,h0⟩ | ⟨gr,rc',hn,_,hgr,_⟩
 ·injection hn with hn1 hn2 hn3
  subst hn1 hn3
  have hm0:m = 0:=by have:=HM.out;rw [h0] at this;exact this.symm
  subst hm0
  have HRE:=Lib.hid (show z2g s.ops = [] by rw [h0];rfl)
  obtain ⟨i0,hi,_,_,_⟩:=info_parts z2s
  have HI0:=Lib.hid hi
  obtain ⟨C0,hC1,_,hC3,_⟩:=HL1.out
  have hC0:C0 = []:=List.length_eq_zero_iff.1 hC3
  subst hC0
  have HL0:=Lib.hid hC1
  clear HOP h0 hi hC1 hC3
  go_enter Tryz.func30,Tryz.ntmps30
  go_wp2_with (refine wpList_append_own_none rfl _ _ _ rfl w.heap.size 38 i0 38 Tryz.underlying29 HI0.out (.slice (some ⟨w.heap.size,0,none⟩) 0 0) 0 [] rfl HL0.out rfl ?_)
  go_loopw [3,4] (fun tl tv wr=>tl = .slice (some ⟨w.heap.size,0,none⟩) 0 0 ∧ tv = .slice none 0 0 ∧ wr = w.alloc (.cells #[] 38)) (fun _ _ _=>0)
  case atStart=>exact ⟨rfl,rfl,rfl⟩
  case round =>
   obtain ⟨rfl,rfl,rfl⟩:=hrel
   go_wp2_with fail
   go_ret
   exact ⟨_,rfl,by rw [HRE.out];exact OwnX.nil _ _ _ _,HB1.out⟩
 ·injection hn with hn1 hn2 hn3
  subst hn1 hn3
  clear HOP hgr hn2
  go_enter Tryz.func30,Tryz.ntmps30
  go_wp2_with (refine z17 rfl _ _ 29 38 rfl w.heap.size 112 (.agg (opV z05 none 0)) rfl (by decide) Tryz.underlying29 z2s X (.slice (some ⟨w.heap.size,0,none⟩) 0 0) [] s.ops (fun x hx=>(HFI.out x hx).d.ref.1) ⟨gr,0,none⟩ m rc HM.out.symm rfl HL1.out (fun g hg=>(HX.out g).2 (HL1.out.lt hg).1) rfl HRB.out (by rw [HM.out];simp;omega) HMS.out ?_)
  intro v2 w2 ho2 hg2 _
  have HO2:=Lib.hid (ho2.out.mono (fun _ h=>.inl h) (Nat.le_refl _))
  have HB2:=Lib.hid (HB1.out.grown hg2.out HMS.out (fun k hk=>(HL1.out.lt hk).1))
  clear ho2 hg2 c1
  go_wp2_with fail
  go_loopw [3,4] (fun tl tv wr=>∃ (vl vo:Value) (Lf O:List OpN),tl = vl ∧ tv = vo ∧ OwnX X w.heap.size 38 vl Lf wr ∧ OwnX X w.heap.size 38 vo O wr ∧ O ++ z2g Lf = z2g s.ops ∧ Lf.length + O.length = m ∧ (∀ x ∈ Lf,x.Fit) ∧ (∀ b,vl.ownBlock = some b → vo.ownBlock ≠ some b) ∧ Below w.heap.size w wr) (fun tl _ _=>lenV tl)
  case atStart=>exact ⟨_,_,_,[],rfl,rfl,HO2.out,OwnX.nil _ _ _ _,rfl,HM.out,HFI.out,(fun b _ e=>by cases e),HB2.out⟩
  case round =>
   clear HO2 HB2 HRB
   obtain ⟨wi,rfl⟩:∃ z,z = wr:=⟨_,rfl⟩
   obtain ⟨vl,vx,Lf,O,rfl,rfl,hl,hx,hrow,hlen,hfit,hap,hb⟩:=hrel
   have HLF:=Lib.hid hl
   have HOX:=Lib.hid hx
   have HROWE:=Lib.hid hrow
   have HFL:=Lib.hid hfit
   have HAP:=Lib.hid hap
   have HB:=Lib.hid hb
   clear hx hrow hfit hap hb
   obtain ⟨al,cl,rfl⟩:=hl.form
   obtain ⟨n,hn⟩:∃ n,Lf.length = n:=⟨_,rfl⟩
   have HNL:=Shut.mk hn
   rw [hn] at hlen HLF HAP ⊢
   clear hl hn
   by_cases h0:n = 0
   ·subst h0
    have hLe:=List.length_eq_zero_iff.1 HNL.out
    have HRE:=Lib.hid (show O = z2g s.ops by have:=HROWE.out;rw [hLe,rowN_nil,List.append_nil] at this;exact this)
    clear hLe
    go_wp2_with fail
    go_ret
    exact ⟨_,rfl,HRE.out ▸ HOX.out,HB.out⟩
   ·have hne:Lf ≠ []:=fun e=>h0 (by rw [← HNL.out,e];rfl)
    have HNE:=Lib.hid hne
    obtain ⟨gl,rfl,hgl,hglt⟩:=HLF.out.rowFit hne
    have HAT:=Lib.hid HLF.out.at
    have HGL:=Lib.hid hglt
    have hg0:decide ((0:Int) < (n:Int)) = true:=decide_eq_true (by omega)
    have hn1:n ≤ 1000:=by omega
    clear hne hgl hglt
    go_wp2_with fail
    go_loopw [5,18] (fun kv iv wr=>∃ i:Nat,kv = .int .i64 (z1r Lf i) ∧ iv = .int .i64 i ∧ i ≤ n ∧ Below wi.heap.size wi wr) (fun _ iv _=>n - (intOf iv).toNat)
    case atStart=>exact ⟨0,rfl,rfl,Nat.zero_le _,Below.refl _ _⟩
    case round =>
     obtain ⟨wj,rfl⟩:∃ z,z = wr:=⟨_,rfl⟩
     obtain ⟨i,rfl,rfl,hi,hb⟩:=hrel
     have HBJ:=Lib.hid hb
     clear hb
     by_cases hit:i < n
     ·obtain ⟨x,hx⟩:∃ x,Lf[i]? = some x:=⟨_,List.getElem?_eq_getElem (by rw [HNL.out];exact hit)⟩
      have hlt:z1r Lf i < n:=Nat.lt_of_le_of_lt (z7g Lf i) hit
      have hxe:Lf.getD i z05 = x:=by rw [List.getD_eq_getElem?_getD,hx];rfl
      have hsp:z1r Lf (i + 1) = if z9r (Lf.getD i z05) (Lf.getD (z1r Lf i) z05) then i else z1r Lf i:=rfl
      rw [hxe] at hsp
      obtain ⟨q,hq⟩:∃ q,z1r Lf i = q:=⟨_,rfl⟩
      rw [hq] at hlt hsp ⊢
      obtain ⟨y,hy⟩:∃ y,Lf[q]? = some y:=⟨_,List.getElem?_eq_getElem (by rw [HNL.out];exact hlt)⟩
      have hye:Lf.getD q z05 = y:=by rw [List.getD_eq_getElem?_getD,hy];rfl
      rw [hye] at hsp
      have HSP:=Shut.mk hsp
      have HFX:=Lib.hid (HFL.out x (List.mem_of_getElem? hx))
      have HFY:=Lib.hid (HFL.out y (List.mem_of_getElem? hy))
      obtain ⟨bx,ox,e1,hbx,px,cx,rx,ix,_⟩:=HAT.out.get hx
      obtain ⟨by',oy,e2,hby,py,cy,ry,iy,_⟩:=HAT.out.get hy
      cases e1
      cases e2
      rw [Nat.zero_add] at rx ry
      have HRX:=Lib.hid (fun w' (k:Below wj.heap.size wj w')=>z08 rx (HBJ.out.trans (k.mono HBJ.out.size)) hbx)
      have HRY:=Lib.hid (fun w' (k:Below wj.heap.size wj w')=>z08 ry (HBJ.out.trans (k.mono HBJ.out.size)) hby)
      have HSX:=Lib.hid (show (Tryz.prog.info? 38).map (·.size) = some (opL x px cx).length by rw [z16 HFX.out.d.ref.1];exact Tryz.sizeO)
      have HSY:=Lib.hid (show (Tryz.prog.info? 38).map (·.size) = some (opL y py cy).length by rw [z16 HFY.out.d.ref.1];exact Tryz.sizeO)
      have HBE:=Lib.hid (fun w' (k:Below wj.heap.size wj w')=>z9s x y px py cx cy w' HFX.out HFY.out (ix.below (HBJ.out.trans (k.mono HBJ.out.size))) (iy.below (HBJ.out.trans (k.mono HBJ.out.size))))
      have HIX:=Lib.hid (fun w'=>zf9 gl n cl i hit w')
      have HIY:=Lib.hid (fun w'=>zf9 gl n cl q hlt w')
      obtain ⟨F,hF⟩:∃ F,z9r x y = F:=⟨_,rfl⟩
      rw [hF] at HBE HSP
      clear hxe hsp hye hx hy hbx hby rx ry ix iy hq hF
      go_upto_region 8 with (fail)
      refine z09 (fun w'=>Below wj.heap.size wj w') (by kernel_rfl) (by kernel_rfl) (Below.refl _ _).drew ?_
      repeat (first
       | (go_big_quiet_want;refine z1n 29 _ _ rfl _ _ _ rfl rfl HIX.out ?_;go_big_quiet_on;simp only [Act.put,zS,zA,zB])
       | (go_big_quiet_want;refine z1n 29 _ _ rfl _ _ _ rfl rfl HIY.out ?_;go_big_quiet_on;simp only [Act.put,zS,zA,zB])
       | (go_big_quiet_want;refine z14 38 _ rfl gl (i * 38) (opL x px cx) _ rfl HRX.out Tryz.underlying38 rfl HSX.out ?_;go_big_quiet_on;simp only [Act.put,zS,zA,zB])
       | (go_big_quiet_want;refine z14 38 _ rfl gl (q * 38) (opL y py cy) _ rfl HRY.out Tryz.underlying38 rfl HSY.out ?_;go_big_quiet_on;simp only [Act.put,zS,zA,zB])
       | go_big_quiet_step ((intro hs';first
        | (go_at_call 40;exact (HBE.out _ hs').mono fun e w' h=>⟨h.1,hs'.trans (h.2.mono hs'.size)⟩)
        | rfl)))
      refine wpQuiet_nil ?_
      intro w9 hs9
      have HB9:=Lib.hid (HBJ.out.trans (hs9.mono HBJ.out.size))
      clear hs9
      cases F with
      | false =>
        have HSQ:=Shut.mk (show z1r Lf (i + 1) = q by rw [HSP.out];rfl)
        go_wp2_with fail
        exact ⟨⟨i + 1,by rw [HSQ.out],by go_num,by omega,HB9.out⟩,by simp [intOf];omega⟩
      | true =>
        have HSQ:=Shut.mk (show z1r Lf (i + 1) = i by rw [HSP.out];rfl)
        go_wp2_with fail
        exact ⟨⟨i + 1,by rw [HSQ.out],by go_num,by omega,HB9.out⟩,by simp [intOf];omega⟩
     ·obtain rfl:n = i:=by omega
      have hlt:z1r Lf n < n:=z5t Lf (by omega)
      have hst:=zl5 HNE.out
      rw [HNL.out] at hst
      obtain ⟨jm,hq⟩:∃ jm,z1r Lf n = jm:=⟨_,rfl⟩
      rw [hq] at hlt hst ⊢
      obtain ⟨x,hx⟩:∃ x,Lf[jm]? = some x:=⟨_,List.getElem?_eq_getElem (by rw [HNL.out];exact hlt)⟩
      have hxe:Lf.getD jm z05 = x:=by rw [List.getD_eq_getElem?_getD,hx];rfl
      rw [hxe] at hst
      have HST:=Lib.hid hst
      have HFX:=Lib.hid (HFL.out x (List.mem_of_getElem? hx))
      have HLJ:=Lib.hid (HLF.out.below HBJ.out)
      have HOJ:=Lib.hid (HOX.out.below HBJ.out)
      have HBW:=Lib.hid (HB.out.trans (HBJ.out.mono HB.out.size))
      obtain ⟨bx,ox,e1,hbx,px,cx,rx,ix,fx⟩:=HLJ.out.at.get hx
      cases e1
      rw [Nat.zero_add] at rx
      have HRX:=Lib.hid rx
      have HSX:=Lib.hid (show (Tryz.prog.info? 38).map (·.size) = some (opL x px cx).length by rw [z16 HFX.out.d.ref.1];exact Tryz.sizeO)
      have hr8:=z3s (P:=Tryz.prog) 29 38 (opL x px cx) _ _ _ Tryz.underlying29 z2s (z16 HFX.out.d.ref.1) (by decide) (by decide)
      have HR8:=Lib.hid hr8
      have HIX:=Lib.hid ix
      have HFF:=Lib.hid fx
      obtain ⟨oa,oc,hvo⟩:=HOJ.out.form
      obtain ⟨ol,hol⟩:∃ z,O.length = z:=⟨_,rfl⟩
      rw [hol] at hvo hlen
      have HOL:=Lib.hid (show O.length = ol from hol)
      subst hvo
      clear hst hxe hx hq rx ix fx hbx hr8 hol
      go_wp2_with (first
       | (refine wpList_load_mid rfl 38 _ rfl gl (jm * 38) rfl (opL x px cx) _ HRX.out Tryz.underlying38 rfl HSX.out ?_)
       | (refine z3k rfl 29 38 _ rfl (opL x px cx) rfl HR8.out ?_))
      intro w5 hc5 hb5
      have HN5:=Lib.hid (show OpsX X (some ⟨wj.heap.size,0,none⟩) [x] w5 from .inr ⟨_,0,rfl,Cells.lt hc5.out,fun j z hj=>by
       obtain rfl:j = 0:=by
        have:=(List.getElem?_eq_some_iff.1 hj).1
        simpa using this
       cases hj
       exact ⟨px,cx,fun t v hv=>by rw [Nat.zero_mul,Nat.zero_add,hc5.out.at,List.getElem?_toArray];exact hv,HIX.out.below hb5.out,HFF.out⟩⟩)
      have HO5:=Lib.hid (HOJ.out.below hb5.out)
      have HL5:=Lib.hid (HLJ.out.below hb5.out)
      have HB5:=Lib.hid (HBW.out.trans (hb5.out.mono HBW.out.size))
      obtain ⟨g5,hg5⟩:∃ z,wj.heap.size = z:=⟨_,rfl⟩
      rw [hg5] at HN5 ⊢
      clear hc5 hb5 hg5 HIX HFF HRX
      go_wp2_with (refine z17 rfl _ _ 29 38 rfl w.heap.size 112 (.agg (opV z05 none 0)) rfl (by decide) Tryz.underlying29 z2s X (.slice oa ol oc) O [x] (fun z hz=>by rw [List.mem_singleton.1 hz];exact HFX.out.d.ref.1) ⟨g5,0,none⟩ 1 1 rfl rfl HO5.out (fun g hg=>(HX.out g).2 (HO5.out.lt hg).1) rfl HN5.out (by rw [HOL.out];simp;omega) HB5.out.size ?_)
      intro v6 wb ho6 hg6 hd6
      have on6:Only (fun b=>(Value.slice oa ol oc).ownBlock = some b) w5 wb:=(Only.refl _ w5).grown hg6.out (fun b hb=>.inl hb)
      have HO6:=Lib.hid (ho6.out.mono (fun _ h=>.inl h) (Nat.le_refl _))
      have HL6:=Lib.hid (HL5.out.only on6 (fun b h=>(HX.out b).2 (HO5.out.lt h).1) (fun g hg e=>HAP.out g hg e))
      have HB6:=Lib.hid (Only.toBelow HB5.out on6 (fun b e=>(HO5.out.lt e).1) HB5.out.size)
      have HLV:=Lib.hid (show ∀ b,v6.ownBlock = some b → b < wb.heap.size from fun b h=>(HO6.out.lt h).2)
      clear ho6 hg6 hd6 on6 HN5
      have hcap:=HL6.out.cap
      rw [HNL.out] at hcap
      have HXB:=Lib.hid (fun b (hb:wb.heap.size ≤ b)=>(HX.out b).2 (Nat.le_trans HB6.out.size hb))
      have HSR:=Lib.hid HL6.out.at
      obtain ⟨ad2,had2⟩:∃ ad2,(if cl = jm + 1 then some (⟨gl,0,none⟩:Addr) else Option.map (fun z:Addr=>z.add ((jm + 1) * 38)) (some ⟨gl,0,none⟩)) = some ad2:=by split <;> exact ⟨_,rfl⟩
      have hdr:=HSR.out.drop (j:=jm + 1) (c:=cl) (by rw [HNL.out];exact hcap)
      rw [had2] at hdr
      have HSD:=Lib.hid hdr
      have HSH:=Lib.hid (fun w=>za7 (some ⟨gl,0,none⟩) n cl jm (Nat.le_of_lt hlt) hcap w)
      have HSL:=Lib.hid (fun w=>had2 ▸ z7t (some ⟨gl,0,none⟩) n cl (jm + 1) hlt hcap w)
      have HDF:=Lib.hid (fun z (hz:z ∈ Lf)=>(HFL.out z hz).d.ref.1)
      have HAG:=Lib.hid (show ∀ w,(eqGuard .add 3 (.tmp 45) (.const (.int .i64 1)) (.int .i64 (jm:Int)) (.int .i64 1)).run Tryz.prog w = .ok () w from fun w=>by rfl)
      have HAD:=Lib.hid (fun w=>zmd jm (by omega) w)
      clear hdr had2 hcap
      go_upto_region 12 with (fail)
      refine z0e 10 (fun q V w'=>Vals q V [(1,.slice (some ⟨gl,0,none⟩) n cl),(2,.int .i64 (jm:Int)),(3,.slice (some ⟨gl,0,none⟩) jm cl),(5,.slice (some ⟨gl,0,none⟩) n cl),(6,.int .i64 (jm:Int)),(7,.int .i64 ((jm + 1:Nat):Int)),(8,.slice (some ad2) (n - (jm + 1)) (cl - (jm + 1)))] ∧ Below wb.heap.size wb w' ∧ Chain [0,4,9] (fun w'=>Below wb.heap.size wb w') (CutO X wb Lf jm) q V w') (fun | 0=>u39 | 1=>u40 | 2=>u41 | 3=>u42 | 4=>u43 | 5=>u44 | 6=>u45 | 7=>u46 | 8=>u47 | 9=>u48 | _=>undef) (by kernel_rfl) (by kernel_rfl) (by kernel_rfl) (by simp only [zC,zD,z0h,Act.put,zS,zA,zB]) ⟨Vals.none,(Below.refl _ _).drew,Chain.none (Below.refl _ _).drew (fun _=>(Below.refl _ _).drew)⟩ ?_ ?_
      ·simp only [zC,zD,z0h,Nat.zero_add,Nat.reduceAdd,Act.put,zS,zA,zB]
       refine zQc ?_ (zQc ?_ (zQc ?_ (zQc ?_ (zQc ?_ (zQc ?_ (zQc ?_ (zQc ?_ (zQc ?_ (zQc ?_ (zQn))))))))))
       all_goals (refine zQf rfl ?_;rintro q V wq hr hu ⟨hVs,hb,hch⟩ K hK)
       ·have hm:Below wb.heap.size wb wq:=hch.at 0 (by decide) hu (.inl rfl)
        refine z9x rfl ?_
        have hb':Below wq.heap.size wq (wq.alloc (.cells #[] 38)):=(Below.refl _ _).alloc (Nat.le_refl _) _
        have hbn:Below wb.heap.size wb (wq.alloc (.cells #[] 38)):=Below.trans hm (hb'.mono hm.size)
        have hc0:=hch.step (v:=.slice (some ⟨wq.heap.size,0,none⟩) 0 0) 0 (by decide) (by decide) hu (.inl rfl) hbn ⟨hbn,(OwnX.lit X 38 wq).mono (fun _ h=>h) hm.size⟩
        exact (hK _ _ ⟨hVs.off rfl,hbn,hc0⟩)
       ·exact z0f (.tmp 3) rfl _ rfl (hK _ _ ⟨hVs.set rfl,hb,hch.ne (by decide) (by decide)⟩)
       ·exact z0f (.tmp 5) rfl _ rfl (hK _ _ ⟨hVs.set rfl,hb,hch.ne (by decide) (by decide)⟩)
       ·exact z86 29 (.tmp 40) (.tmp 41) rfl _ _ _ (hVs.get 1 (hr { on:=1,ground:=.data } (by simp) rfl) rfl) (hVs.get 2 (hr { on:=2,ground:=.data } (by simp) rfl) rfl) HSH.out (hK _ _ ⟨hVs.set rfl,hb,hch.ne (by decide) (by decide)⟩)
       ·obtain ⟨hm,hv1⟩:CutO X wb Lf jm 1 (V 0) wq:=hch.at 1 (by decide) hu (.inr (hr { on:=0,ground:=.data } (by simp) rfl))
        refine z30 rfl (.tmp 39) (.tmp 42) rfl X wb.heap.size _ _ (Lf.take jm) (fun z hz=>HDF.out z (List.mem_of_mem_take hz)) ⟨gl,0,none⟩ jm cl (by rw [List.length_take,HNL.out];omega) rfl hv1 (fun g hg=>HXB.out g (hv1.lt hg).1) (hVs.get 3 (hr { on:=3,ground:=.data } (by simp) rfl) rfl) ((HSR.out.below hm).take jm) (by simp only [List.length_nil,List.length_take,HNL.out];omega) hm.size ?_
        intro v' w' ho' hg' _
        have hb':Below wb.heap.size wq w':=(Below.refl _ _).grown hg' hm.size (fun g hg=>(hv1.lt hg).1)
        have hbn:=Below.trans hm hb'
        have hc4:=hch.step (v:=v') 1 (by decide) (by decide) hu (.inr (hr { on:=0,ground:=.data } (by simp) rfl)) hbn ⟨hbn,ho'⟩
        exact (hK _ _ ⟨hVs.off rfl,hbn,hc4⟩)
       ·exact z0f (.tmp 3) rfl _ rfl (hK _ _ ⟨hVs.set rfl,hb,hch.ne (by decide) (by decide)⟩)
       ·exact z0f (.tmp 5) rfl _ rfl (hK _ _ ⟨hVs.set rfl,hb,hch.ne (by decide) (by decide)⟩)
       ·exact zbr .add 3 3 (.tmp 45) _ rfl _ _ _ (hVs.get 6 (hr { on:=6,ground:=.data } (by simp) rfl) rfl) rfl HAG.out HAD.out (hK _ _ ⟨hVs.set rfl,hb,hch.ne (by decide) (by decide)⟩)
       ·exact z85 29 (.tmp 44) (.tmp 46) rfl _ _ _ (hVs.get 5 (hr { on:=5,ground:=.data } (by simp) rfl) rfl) (hVs.get 7 (hr { on:=7,ground:=.data } (by simp) rfl) rfl) HSL.out (hK _ _ ⟨hVs.set rfl,hb,hch.ne (by decide) (by decide)⟩)
       ·obtain ⟨hm,hv2⟩:CutO X wb Lf jm 2 (V 4) wq:=hch.at 2 (by decide) hu (.inr (hr { on:=4,ground:=.data } (by simp) rfl))
        refine z30 rfl (.tmp 43) (.tmp 47) rfl X wb.heap.size _ _ (Lf.drop (jm + 1)) (fun z hz=>HDF.out z (List.mem_of_mem_drop hz)) ad2 (n - (jm + 1)) (cl - (jm + 1)) (by rw [List.length_drop,HNL.out]) rfl hv2 (fun g hg=>HXB.out g (hv2.lt hg).1) (hVs.get 8 (hr { on:=8,ground:=.data } (by simp) rfl) rfl) (HSD.out.below hm) (by simp only [List.length_take,List.length_drop,HNL.out];omega) hm.size ?_
        intro v' w' ho' hg' _
        have hb':Below wb.heap.size wq w':=(Below.refl _ _).grown hg' hm.size (fun g hg=>(hv2.lt hg).1)
        have hbn:=Below.trans hm hb'
        have hc9:=hch.step (v:=v') 2 (by decide) (by decide) hu (.inr (hr { on:=4,ground:=.data } (by simp) rfl)) hbn ⟨hbn,ho'⟩
        exact (hK _ _ ⟨hVs.off rfl,hbn,hc9⟩)
      rintro q V wq hall ⟨hVs,hb,hch⟩
      obtain ⟨u0,v0⟩:∃ v,V 0 = v:=⟨_,rfl⟩
      have v1:=hVs.get 1 (hall 1 (by decide)) rfl
      have v2:=hVs.get 2 (hall 2 (by decide)) rfl
      have v3:=hVs.get 3 (hall 3 (by decide)) rfl
      obtain ⟨u4,v4⟩:∃ v,V 4 = v:=⟨_,rfl⟩
      have v5:=hVs.get 5 (hall 5 (by decide)) rfl
      have v6:=hVs.get 6 (hall 6 (by decide)) rfl
      have v7:=hVs.get 7 (hall 7 (by decide)) rfl
      have v8:=hVs.get 8 (hall 8 (by decide)) rfl
      obtain ⟨u9,v9⟩:∃ v,V 9 = v:=⟨_,rfl⟩
      obtain ⟨hon,hrow⟩:CutO X wb Lf jm 3 (V 9) wq:=hch.fin (fun p hp=>by match p,hp with | 0,_=>exact hall 0 (by decide) | 1,_=>exact hall 4 (by decide) | 2,_=>exact hall 9 (by decide))
      have hrow:OwnX X wb.heap.size 38 (V 9) (Lf.take jm ++ Lf.drop (jm + 1)) wq:=hrow
      rw [v9] at hrow
      rw [zbq] at hrow
      have HROW:=Lib.hid hrow
      have HON:=Lib.hid hon
      clear hrow hon hch hb
      simp only [zC,zD,zE,zF,z0h,Nat.zero_add,Nat.reduceAdd,v0,v1,v2,v3,v4,v5,v6,v7,v8,v9,Act.put,zS,zA,zB]
      clear hVs v0 v1 v2 v3 v4 v5 v6 v7 v8 v9 hall
      go_wp2_with fail
      have hro:=HROW.out
      obtain ⟨ak,ck,hu⟩:=hro.form
      have hel:(Lf.eraseIdx jm).length = n - 1:=by rw [List.length_eraseIdx_of_lt (by rw [HNL.out];exact hlt),HNL.out]
      rw [hel] at hu
      subst hu
      refine ⟨⟨_,_,Lf.eraseIdx jm,O ++ [x],rfl,rfl,hro.mono (fun _ h=>h) HB6.out.size,HO6.out.below HON.out,?_,?_,fun z hz=>HFL.out z (List.mem_of_mem_eraseIdx hz),fun b h e=>?_,HB6.out.trans (HON.out.mono HB6.out.size)⟩,?_⟩
      ·rw [List.append_assoc,List.singleton_append,← HST.out]
       exact HROWE.out
      ·rw [hel,List.length_append,HOL.out,List.length_singleton]
       omega
      ·have h1:=(hro.lt h).1
       have h2:=HLV.out b e
       omega
      ·show n - 1 < n
       omega
theorem in_take {L:List Int} {z:Int} {k:Nat} (hk:k < L.length):z ∈ L.take (k + 1) ↔ z ∈ L.take k ∨ L.getD k 0 = z:=by
 rw [List.take_add_one,List.getD_eq_getElem?_getD,List.getElem?_eq_getElem hk,Option.toList_some,List.mem_append,List.mem_singleton]
 exact ⟨fun h=>h.imp id Eq.symm,fun h=>h.imp id Eq.symm⟩
theorem ziw (ao:Option Addr) (L:List Int) (m c:Nat) (z:Int) (w:World) (h:IntsIn ao L w) (hm:L.length = m) (hl:m ≤ 140737488351232) :
 Calls Tryz.prog 69 #[.slice ao m c,.int .i64 z] w fun e w'=>e = .returned (.bool (decide (z ∈ L))) ∧ w' = w:=by
 have H:=Lib.hid h
 have HM:=Shut.mk hm
 clear h hm
 go_enter Tryz.func69,Tryz.ntmps69
 go_wp2_with fail
 go_loopw [9] (fun i wr=>∃ k:Nat,k ≤ m ∧ i = .int .i64 k ∧ z ∉ L.take k ∧ wr = w) (fun i _=>m - (intOf i).toNat)
 case atStart=>exact ⟨0,Nat.zero_le _,rfl,(fun e=>by cases e),rfl⟩
 case round =>
  obtain ⟨k,hk,rfl,hn,rfl⟩:=hrel
  have HN:=Lib.hid hn
  clear hn
  by_cases hlt:k < m
  ·obtain ⟨b,o,rfl,hb,hc⟩:=zlg H.out (by rw [HM.out];omega)
   have hck:=hc k (by rw [HM.out];exact hlt)
   have HT:=Lib.hid (in_take (L:=L) (z:=z) (k:=k) (by rw [HM.out];exact hlt))
   obtain ⟨y,hy⟩:∃ y,L.getD k 0 = y:=⟨_,rfl⟩
   rw [hy] at hck HT
   have HY:=Lib.hid (show y ∈ L from by
    rw [← hy,List.getD_eq_getElem?_getD,List.getElem?_eq_getElem (by rw [HM.out];exact hlt)]
    exact List.getElem_mem _)
   clear hc hy
   by_cases hyz:y = z
   ·subst hyz
    have HR:=Shut.mk (decide_eq_true HY.out)
    go_wp2_with fail
    go_ret
    exact ⟨by rw [HR.out];rfl,rfl⟩
   ·have HNE:=Lib.hid hyz
    go_wp2_with fail
    exact ⟨⟨k + 1,by omega,by go_num,fun e=>(HT.out.1 e).elim HN.out HNE.out,trivial⟩,by simp [intOf];omega⟩
  ·obtain rfl:k = m:=by omega
   have HR:=Shut.mk (decide_eq_false (show z ∉ L from fun e=>HN.out (by rw [List.take_of_length_le (by rw [HM.out];exact Nat.le_refl _)];exact e)))
   go_wp2_with fail
   go_ret
   exact ⟨by rw [HR.out];rfl,rfl⟩
theorem ref_of11 (Z:Nat → Prop) (gs:Nat) (vo vw vn vq:Value) (s:DagN) (key:List UInt8) (ao:Option Addr) (L:List Int) (m c:Nat) (w:World) (h:RefAt Z gs vo vw vn vq s w) (hF:∀ x ∈ s.ops,x.Fit) (hN:s.ops.length ≤ 1000) (hI:IntsIn ao L w) (hm:L.length = m) (hl:m ≤ 140737488351232) :
 Calls Tryz.prog 35 #[.pointer (some ⟨gs,0,none⟩),.string ⟨key.toArray⟩,.slice ao m c] w fun e w'=>∃ v,e = .returned v ∧ OwnX (fun b=>w.heap.size ≤ b) w.heap.size 38 v (ofN s.ops key L) w' ∧ Below w.heap.size w w':=by
 obtain ⟨X,hX⟩:∃ X:Nat → Prop,X = fun b=>w.heap.size ≤ b:=⟨_,rfl⟩
 have hrr:=zm7 Z gs vo vw vn vq s w h hF hN
 rw [← hX] at hrr ⊢
 have HRW:=Lib.hid hrr
 have HX:=Lib.hid (show ∀ b,X b ↔ w.heap.size ≤ b from fun b=>by rw [hX])
 have HIN:=Lib.hid (fun z w' (k:Below w.heap.size w w')=>ziw ao L m c z w' (hI.below k) hm hl)
 have hp:=z1e s.ops
 have HFR:=Lib.hid (show ∀ x ∈ z2g s.ops,x.Fit from fun x hx=>hF x (hp.mem_iff.1 hx))
 have hrl:=hp.length_eq
 have HOF:=Shut.mk (show ofN s.ops key L = (z2g s.ops).filter fun o=>decide (o.d.key = key ∧ o.d.kind ∈ L) from rfl)
 have HZO:=Lib.hid (show (Tryz.prog.info? 38).bind (·.zero) = some (.agg (opL z05 none 0).toArray) by kernel_rfl)
 obtain ⟨R,hR⟩:∃ R,z2g s.ops = R:=⟨_,rfl⟩
 obtain ⟨n,hn⟩:∃ n,s.ops.length = n:=⟨_,rfl⟩
 rw [hR] at HRW HFR hrl HOF
 rw [hn] at hN hrl
 have HN:=Shut.mk hrl
 clear hX hrr h hF hI hm hp hrl hR hn
 go_enter Tryz.func35,Tryz.ntmps35
 go_wp2_with (refine HRW.out.mono ?_;rintro e w1 ⟨v1,rfl,ho1,hb1⟩;obtain ⟨ar,cr,rfl⟩:=ho1.form;rw [HN.out] at ho1 ⊢;have HO1:=Lib.hid ho1;have HB1:=Lib.hid hb1;clear ho1 hb1)
 have HAT:=Lib.hid HO1.out.at
 go_loopw [7,13] (fun tv iv wr=>∃ (v:Value) (k:Nat),tv = v ∧ iv = .int .i64 k ∧ k ≤ n ∧ OwnX X w1.heap.size 38 v ((R.take k).filter fun o=>decide (o.d.key = key ∧ o.d.kind ∈ L)) wr ∧ Below w1.heap.size w1 wr) (fun _ iv _=>n - (intOf iv).toNat)
 case atStart=>exact ⟨_,0,rfl,rfl,Nat.zero_le _,OwnX.nil _ _ _ _,Below.refl _ _⟩
 case round =>
  obtain ⟨wi,rfl⟩:∃ z,z = wr:=⟨_,rfl⟩
  obtain ⟨v,k,rfl,rfl,hk,ho,hb⟩:=hrel
  have HO:=Lib.hid ho
  have HBM:=Lib.hid hb
  have HB:=Lib.hid (HB1.out.trans (hb.mono HB1.out.size))
  have HATW:=Lib.hid (HAT.out.below hb)
  clear ho hb
  by_cases hlt:k < n
  ·obtain ⟨x,hx⟩:∃ x,R[k]? = some x:=⟨_,List.getElem?_eq_getElem (by rw [HN.out];exact hlt)⟩
   have HF:=Lib.hid (HFR.out x (List.mem_of_getElem? hx))
   have hts:R.take (k + 1) = R.take k ++ [x]:=by
    rw [List.take_add_one,hx]
    rfl
   have hsn:=ofN_snoc key L (R.take k) x
   rw [← hts] at hsn
   have HSN:=Lib.hid hsn
   obtain ⟨br,rr,rfl,hbr,pa,pc,r1,i1,f1⟩:=HATW.out.get hx
   have HRX:=Lib.hid r1
   have HIX:=Lib.hid i1
   have HFX:=Lib.hid f1
   have HSL:=Lib.hid (show (Tryz.prog.info? 38).map (·.size) = some (opL x pa pc).length by rw [z16 HF.out.d.ref.1];exact Tryz.sizeO)
   have HSV:=Lib.hid (show (Tryz.prog.info? 38).map (·.size) = some (opV x pa pc).size by rw [z0b HF.out.d.ref.1];exact Tryz.sizeO)
   have HSZ:=Lib.hid (show (opL z05 none 0).toArray.size = (opV x pa pc).size by rw [z0b HF.out.d.ref.1];rfl)
   clear hx hts hsn hbr r1 i1 f1
   go_wp2_with (first
    | (refine wpList_load_mid rfl 38 _ rfl br (rr + k * 38) rfl (opL x pa pc) _ HRX.out Tryz.underlying38 rfl HSL.out ?_)
    | (refine z0d rfl 38 rfl (opL z05 none 0) HZO.out ?_)
    | (refine z02 rfl 38 _ _ rfl rfl wi.heap.size (opL z05 none 0).toArray (opV x pa pc) 38 rfl rfl (heap_alloc_new wi _) HSV.out HSZ.out (z1i x pa pc) ?_))
   intro w5 hcs hbs
   have hb5:Below wi.heap.size wi w5:=But.toBelow ((Below.refl _ wi).alloc (Nat.le_refl _) _) hbs.out (Nat.le_refl _) (by rw [World.size_alloc];exact Nat.le_succ _)
   have HC5:=Lib.hid (show Cells wi.heap.size 38 (opV x pa pc) w5 from hcs.out)
   have HB5:=Lib.hid (HBM.out.trans (hb5.mono HBM.out.size))
   have HO5:=Lib.hid (HO.out.below hb5)
   have HIX5:=Lib.hid (HIX.out.below hb5)
   have c0:=(z20 (z0j HF.out.d.ref.1 HC5.out).1).1
   have c1:=(z20 (z0j HF.out.d.ref.1 HC5.out).1).2.1
   have HIN5:=Lib.hid (HIN.out x.d.kind w5 (HB1.out.trans (HB5.out.mono HB1.out.size)))
   obtain ⟨g9,hg9⟩:∃ z,wi.heap.size = z:=⟨_,rfl⟩
   rw [hg9] at HC5 c0 c1 ⊢
   obtain ⟨kx,hkx⟩:∃ z,x.d.key = z:=⟨_,rfl⟩
   rw [hkx] at c1 HSN
   obtain ⟨F,hF⟩:∃ F,decide (x.d.kind ∈ L) = F:=⟨_,rfl⟩
   rw [hF] at HIN5
   have HF5:=Shut.mk hF
   obtain ⟨kd,hkd⟩:∃ z,x.d.kind = z:=⟨_,rfl⟩
   rw [hkd] at c0 HIN5 HSN HF5
   clear hcs hbs hb5 hg9 hkx hF hkd HRX HIX
   by_cases he:kx = key
   ·subst he
    cases F with
    | false =>
      have HNX:=Lib.hid (show ((R.take (k + 1)).filter fun o=>decide (o.d.key = kx ∧ o.d.kind ∈ L)) = (R.take k).filter fun o=>decide (o.d.key = kx ∧ o.d.kind ∈ L) by
       rw [HSN.out,if_neg (fun h=>of_decide_eq_false HF5.out h.2),List.append_nil])
      go_wp2_with (refine HIN5.out.mono ?_;rintro e w6 ⟨rfl,rfl⟩)
      refine ⟨⟨_,k + 1,rfl,by go_num,by omega,by rw [HNX.out];exact HO5.out,HB5.out⟩,by simp [intOf];omega⟩
    | true =>
      have HNX:=Lib.hid (show ((R.take (k + 1)).filter fun o=>decide (o.d.key = kx ∧ o.d.kind ∈ L)) = ((R.take k).filter fun o=>decide (o.d.key = kx ∧ o.d.kind ∈ L)) ++ [x] by
       rw [HSN.out,if_pos ⟨rfl,of_decide_eq_true HF5.out⟩])
      have hr8:=z3s (P:=Tryz.prog) 29 38 (opL x pa pc) _ _ _ Tryz.underlying29 z2s (z16 HF.out.d.ref.1) (by decide) (by decide)
      have HR8:=Lib.hid hr8
      obtain ⟨oa,oc,hv⟩:=HO5.out.form
      have hol:=List.length_filter_le (fun o=>decide (o.d.key = kx ∧ o.d.kind ∈ L)) (R.take k)
      rw [List.length_take,HN.out] at hol
      obtain ⟨ol,hole⟩:∃ z,((R.take k).filter fun o=>decide (o.d.key = kx ∧ o.d.kind ∈ L)).length = z:=⟨_,rfl⟩
      rw [hole] at hv hol
      have HOL:=Lib.hid (show ((R.take k).filter fun o=>decide (o.d.key = kx ∧ o.d.kind ∈ L)).length + 1 ≤ 1000000 from by omega)
      subst hv
      obtain ⟨FL,hFL⟩:∃ z,((R.take k).filter fun o=>decide (o.d.key = kx ∧ o.d.kind ∈ L)) = z:=⟨_,rfl⟩
      rw [hFL] at HNX HO5 HOL
      clear hr8 hole hol hFL
      go_wp2_with (first
       | (refine HIN5.out.mono ?_;rintro e w6 ⟨rfl,rfl⟩)
       | (refine z01 rfl 38 _ rfl g9 (opV x pa pc) 38 _ rfl HC5.out Tryz.underlying38 rfl HSV.out ?_)
       | (refine z3k rfl 29 38 _ rfl (opL x pa pc) rfl HR8.out ?_))
      intro w7 hc7 hb7
      have HN7:=Lib.hid (show OpsX X (some ⟨w6.heap.size,0,none⟩) [x] w7 from .inr ⟨_,0,rfl,Cells.lt hc7.out,fun j z hj=>by
       obtain rfl:j = 0:=by
        have:=(List.getElem?_eq_some_iff.1 hj).1
        simpa using this
       cases hj
       exact ⟨pa,pc,fun t v hv=>by rw [Nat.zero_mul,Nat.zero_add,hc7.out.at,List.getElem?_toArray];exact hv,HIX5.out.below hb7.out,HFX.out⟩⟩)
      have HO7:=Lib.hid (HO5.out.below hb7.out)
      have HB7:=Lib.hid (HB5.out.trans (hb7.out.mono HB5.out.size))
      obtain ⟨g7,hg7⟩:∃ z,w6.heap.size = z:=⟨_,rfl⟩
      rw [hg7] at HN7 ⊢
      clear hc7 hb7 hg7
      go_wp2_with (refine z17 rfl _ _ 29 38 rfl w1.heap.size 112 (.agg (opV z05 none 0)) rfl (by decide) Tryz.underlying29 z2s X (.slice oa ol oc) _ [x] (fun z hz=>by rw [List.mem_singleton.1 hz];exact HF.out.d.ref.1) ⟨g7,0,none⟩ 1 1 rfl rfl HO7.out (fun g hg=>(HX.out g).2 (Nat.le_trans HB1.out.size (HO7.out.lt hg).1)) rfl HN7.out HOL.out HB7.out.size ?_)
      intro v8 w8 ho8 hg8 _
      have HO8:=Lib.hid (ho8.out.mono (fun _ h=>.inl h) (Nat.le_refl _))
      have HB8:=Lib.hid (HB7.out.grown hg8.out HB7.out.size (fun g hg=>(HO7.out.lt hg).1))
      clear ho8 hg8
      go_wp2_with fail
      exact ⟨⟨v8,k + 1,rfl,by go_num,by omega,by rw [HNX.out];exact HO8.out,HB8.out⟩,by simp [intOf];omega⟩
   ·have HNX:=Lib.hid (show ((R.take (k + 1)).filter fun o=>decide (o.d.key = key ∧ o.d.kind ∈ L)) = (R.take k).filter fun o=>decide (o.d.key = key ∧ o.d.kind ∈ L) by
     rw [HSN.out,if_neg (fun h=>he h.1),List.append_nil])
    go_wp2_with fail
    refine ⟨⟨_,k + 1,rfl,by go_num,by omega,by rw [HNX.out];exact HO5.out,HB5.out⟩,by simp [intOf];omega⟩
  ·obtain rfl:k = n:=by omega
   have HE:=Lib.hid (show R.take k = R from List.take_of_length_le (by rw [HN.out];exact Nat.le_refl _))
   go_wp2_with fail
   go_ret
   exact ⟨_,rfl,by rw [HOF.out];exact (HE.out ▸ HO.out).mono (fun _ h=>h) HB1.out.size,HB.out⟩
theorem StrsAt.drop {ap:Option Addr} {L:List (List UInt8)} {w:World} {c j:Nat} (h:StrsAt ap L w) (hc:L.length ≤ c):StrsAt (if c = j then ap else ap.map (·.add j)) (L.drop j) w:=by
 by_cases hj:L.length ≤ j
 ·exact .inl (List.drop_eq_nil_of_le hj)
 rw [if_neg (by omega)]
 rcases h with rfl | ⟨b,o,rfl,h2,h3⟩
 ·exact .inl (by simp)
 ·refine .inr ⟨b,o + j,by simp [Addr.add_lit],h2,fun i hi=>?_⟩
  rw [List.length_drop] at hi
  have:=h3 (j + i) (by omega)
  rw [show o + j + i = o + (j + i) by omega,this,List.getElem_drop]
theorem StrsAt.take {ap:Option Addr} {L:List (List UInt8)} {w:World} (h:StrsAt ap L w) (j:Nat):StrsAt ap (L.take j) w:=by
 rcases h with rfl | ⟨b,o,rfl,h2,h3⟩
 ·exact .inl (by simp)
 ·refine .inr ⟨b,o,rfl,h2,fun i hi=>?_⟩
  rw [List.length_take] at hi
  rw [List.getElem_take]
  exact h3 i (by omega)
theorem z63 {ad:Addr} {L:List (List UInt8)} {w:World} (h:StrsAt (some ad) L w):∀ j u,(z3t L)[j]? = some u → w.cell? (ad.add j) = some u:=by
 intro j u hj
 rcases h with rfl | ⟨b,o,h1,h2,h3⟩
 ·cases hj
 ·cases h1
  have hlt:=(List.getElem?_eq_some_iff.1 hj).1
  rw [z0r] at hlt
  rw [Addr.add_lit,h3 j hlt,← hj,z3t,List.getElem?_map,List.getElem?_eq_getElem hlt]
  rfl
section
variable {w:World} {ops:Array Oper} {rest:List Oper} {o:Oper} {a:Act} {Q:Exit → Act → World → Prop}
theorem z0o (hgd:o.guard = none) (s x:Operand) (ho:o.op = .call { callee:=.builtin .append,args:=#[s,x],argTypes:=#[67,67] })
 (B:Nat) (v:Value) (L M:List (List UInt8)) (ao:Option Addr) (n c:Nat) (hn:n = M.length) (hs:a.eval s = v) (hown:OwnS B v L w) (hx:a.eval x = .slice ao n c) (hsrc:StrsAt ao M w) (hnil:ao = none → c = 0)
 (h63:L.length + M.length ≤ 1000000) (hB:B ≤ w.heap.size)
 (h:∀ v' w',Hid (OwnS B v' (L ++ M) w') → Hid (w.grownBy w' v.ownBlock) → Hid (v'.ownBlock = v.ownBlock ∨ v'.ownBlock = some w.heap.size) → wpList Tryz.prog ops Q rest (a.put o.dst v') w'):wpList Tryz.prog ops Q (o :: rest) a w:=by
 obtain ⟨i,hi,hz0,hz1,hz2⟩:=info_parts Tryz.infoStr
 have hap:z3t (L ++ M) = z3t L ++ z3t M:=by simp [z3t]
 cases ao with
 | none =>
   obtain rfl:=hnil rfl
   have hm:M = []:=by
    rcases hsrc with h | ⟨b,o',h,_⟩
    ·exact h
    ·cases h
   subst hm
   subst hn
   refine wpList_append_own_none hgd s x _ ho B 9 i 1 Tryz.underlying67 hi v L.length (z3t L) hs hown hx (h _ _ (Lib.hid ?_) (Lib.hid ⟨rfl,rfl,rfl,Nat.le_refl _,fun _ _ _=>rfl⟩) (Lib.hid (.inl rfl)))
   rw [List.append_nil]
   exact hown
 | some ad =>
   subst hn
   refine wpList_append_own_at w hgd s x _ ho B 9 i _ 1 16 Tryz.underlying67 hi hz0 hz1 hz2 rfl (by decide) v L.length (z3t L) hs hown ad M.length c (z3t M) hx (by rw [z0r,Nat.mul_one]) (z63 hsrc) (zdk M) (by unfold maxLen;omega) (by omega) hB ?_
   intro v' w' h2 hg _ h3
   refine h v' w' (Lib.hid ?_) (Lib.hid hg) (Lib.hid h3)
   show w'.ownsRow B _ 1 v' (L ++ M).length (z3t (L ++ M))
   rw [List.length_append,hap]
   exact h2
theorem z1s (hgd:o.guard = none) (s x:Operand) (ho:o.op = .call { callee:=.builtin .append,args:=#[s,x],argTypes:=#[67,67] })
 (L M:List (List UInt8)) (ao:Option Addr) (k:Nat) (hk:k = L.length) (ad:Addr) (n c:Nat) (hn:n = M.length) (h0:0 < n) (hs:a.eval s = .slice ao k k) (hsrc:StrsAt ao L w) (hx:a.eval x = .slice (some ad) n c) (hnews:StrsAt (some ad) M w)
 (h63:L.length + M.length ≤ 1000000)
 (h:∀ v' w',Hid (OwnS w.heap.size v' (L ++ M) w') → Hid (Below w.heap.size w w') → wpList Tryz.prog ops Q rest (a.put o.dst v') w'):wpList Tryz.prog ops Q (o :: rest) a w:=by
 obtain ⟨i,hi,hz0,hz1,hz2⟩:=info_parts Tryz.infoStr
 have hap:z3t (L ++ M) = z3t L ++ z3t M:=by simp [z3t]
 subst hk hn
 cases ao with
 | none =>
   have hl:L = []:=by
    rcases hsrc with h | ⟨b,o',h,_⟩
    ·exact h
    ·cases h
   subst hl
   refine z0o hgd s x ho w.heap.size (.slice none 0 0) [] M (some ad) M.length c rfl hs (World.ownsRow_nil _ _ _ _) hx hnews (fun h=>by cases h) h63 (Nat.le_refl _) ?_
   intro v' w' h1 h2 _
   exact h v' w' h1 (Lib.hid ((Below.refl _ _).grown h2.out (Nat.le_refl _) (fun g hg=>by cases hg)))
 | some b =>
   have hr:=run_append_grow (P:=Tryz.prog) w 67 o.type 9 i _ Tryz.underlying67 hi hz0 b L.length L.length (z3t L) (by rw [z0r,hz1,Nat.mul_one]) (z63 hsrc) ad M.length c (z3t M) (by rw [z0r,hz1,Nat.mul_one]) (z63 hnews) (by omega) (by omega) (growslice_fits (by omega) (by rw [hz2];omega))
   have hge:=grownCap_ge w (L.length + M.length) L.length 9
   have hcm:=grownCap_le_maxLen w (L.length + M.length) L.length 9 (by unfold maxLen;omega)
   refine wpList_plain hgd fun K hK=>?_
   unfold Oper.wp execOp
   simp only [ho,resolve,invoke,builtin,Sem.run_bind,Sem.run_pure,Result.andThen_ok,List.map_toArray,List.map_cons,List.map_nil,hs,hx,hr]
   refine hK _ _ (h _ _ (Lib.hid ⟨?_,.inr ⟨w.heap.size,_,_,?_,Nat.le_refl _,heap_alloc_new w.drew _,?_,hcm,?_,?_⟩⟩) (Lib.hid ((z0q (Below.refl _ w) 1).alloc (Nat.le_refl _) _)))
   ·rw [z0r,List.length_append,Nat.mul_one]
   ·rw [List.length_append]
   ·rw [List.length_append]
    exact hge
   ·simp only [Array.size_append,List.size_toArray,size_zeroCells,z0r,Nat.mul_one]
    show _ + (_ - _) * 1 = _
    omega
   ·simp only [Array.toList_append]
    rw [hap,List.length_append,List.take_append_of_le_length (by rw [List.length_append,z0r,z0r,Nat.mul_one];exact Nat.le_refl _),List.take_of_length_le (by rw [List.length_append,z0r,z0r,Nat.mul_one];exact Nat.le_refl _)]
end
theorem z2i {P:Program} {ops:Array Oper} {rest:List Oper} {o:Oper} {a:Act} {w:World} {Q:Exit → Act → World → Prop} (hgd:o.guard = none) (t:TypeId) (x y z:Operand) (ho:o.op = .slice t x none (some y) (some z)) (vx vy vz r:Value) (hx:a.eval x = vx) (hy:a.eval y = vy) (hz:a.eval z = vz)
 (hr:∀ w,(Instr.sliceAt t vx none (some vy) (some vz)).run P w = .ok r w) (h:wpList P ops Q rest (a.put o.dst r) w):wpList P ops Q (o :: rest) a w:=by
 refine wpList_plain hgd fun K hK=>?_
 unfold Oper.wp execOp
 simp only [ho,Option.map_some,Option.map_none,hx,hy,hz,Sem.run_bind,hr w,Result.andThen_ok,Sem.run_pure]
 exact hK _ _ h
theorem z2k (ap:Option Addr) (n c j:Nat) (hj:j ≤ n) (_hc:n ≤ c) (w:World):(Instr.sliceAt 67 (.slice ap n c) (some (.int .i64 (j:Int))) none none).run Tryz.prog w = .ok (.slice (if c = j then ap else ap.map (·.add j)) (n - j) (c - j)) w:=by
 go_simp
theorem z2n (ap:Option Addr) (n c j:Nat) (hj:j ≤ n) (hc:n ≤ c) (w:World):(Instr.sliceAt 67 (.slice ap n c) none (some (.int .i64 (j:Int))) (some (.int .i64 (j:Int)))).run Tryz.prog w = .ok (.slice ap j j) w:=by
 go_simp
 intro h
 omega
theorem z5u {ap:Option Addr} {c j:Nat} (h:ap = none → c = 0):(if c = j then ap else ap.map (·.add j)) = none → c - j = 0:=by
 intro he
 split at he
 ·omega
 ·cases ap with
  | none=>rw [h rfl];omega
  | some z=>cases he
theorem z8p (n:List UInt8):∀ L:List (List UInt8),(zbg n L).length ≤ L.length + 1
 | []=>Nat.le_refl _
 | x :: r => by
   rw [zbg]
   split
   ·have:=z8p n r
    simp only [List.length_cons]
    omega
   ·split
    ·simp only [List.length_cons];omega
    ·simp only [List.length_cons];omega
theorem z48 {L:List (List UInt8)} {k:Nat} (h:k < L.length):z0v (L.take (k + 1)) = zbg L[k] (z0v (L.take k)):=by
 rw [List.take_succ_eq_append_getElem h,z6o]
theorem z34 (L:List (List UInt8)):∀ k,k ≤ L.length → (z0v (L.take k)).length ≤ k
 | 0,_=>Nat.le_refl _
 | k + 1, h => by
   rw [z48 (by omega)]
   have:=z8p L[k] (z0v (L.take k))
   have:=z34 L k (by omega)
   omega
theorem zfy {ao:Option Addr} {L:List (List UInt8)} {w:World} (h:StrsAt ao L w) {i:Nat} {x:List UInt8} (hx:L[i]? = some x):∃ b o,ao = some ⟨b,o,none⟩ ∧ b < w.heap.size ∧ w.cell? ⟨b,o + i,none⟩ = some (.string ⟨x.toArray⟩):=by
 obtain ⟨hi,rfl⟩:=List.getElem?_eq_some_iff.1 hx
 rcases h with rfl | ⟨b,o,h1,h2,h3⟩
 ·simp at hi
 ·exact ⟨b,o,h1,h2,h3 i hi⟩
theorem z71 (ao:Option Addr) (L:List (List UInt8)) (m c:Nat) (w:World) (h:StrsAt ao L w) (hm:L.length = m) (hl:m ≤ 100000) :
 Calls Tryz.prog 39 #[.slice ao m c] w fun e w'=>∃ v,e = .returned v ∧ OwnS w.heap.size v (z0v L) w' ∧ Below w.heap.size w w':=by
 have HM:=Shut.mk hm
 have HA:=Lib.hid h
 clear h hm
 go_enter Tryz.func39,Tryz.ntmps39
 go_wp2_with fail
 go_loopw [3,10] (fun tv iv wr=>∃ (v:Value) (k:Nat),tv = v ∧ iv = .int .i64 k ∧ k ≤ m ∧ OwnS w.heap.size v (z0v (L.take k)) wr ∧ Below w.heap.size w wr) (fun _ iv _=>m - (intOf iv).toNat)
 case atStart=>exact ⟨_,0,rfl,rfl,Nat.zero_le _,OwnS.nil _ _,Below.refl _ _⟩
 case round =>
  obtain ⟨wi,rfl⟩:∃ z,z = wr:=⟨_,rfl⟩
  obtain ⟨v,k,rfl,rfl,hk,ho,hb⟩:=hrel
  have HB:=Lib.hid hb
  have HAW:=Lib.hid (HA.out.below hb)
  clear hb
  by_cases hlt:k < m
  ·obtain ⟨x,hx⟩:∃ x,L[k]? = some x:=⟨_,List.getElem?_eq_getElem (by rw [HM.out];exact hlt)⟩
   obtain ⟨b,o,rfl,hbl,c1⟩:=zfy HAW.out hx
   have hnx:=z48 (L:=L) (k:=k) (by rw [HM.out];exact hlt)
   rw [(List.getElem?_eq_some_iff.1 hx).2] at hnx
   have hol:=z34 L k (by rw [HM.out];exact hk)
   obtain ⟨O,hO⟩:∃ O,z0v (L.take k) = O:=⟨_,rfl⟩
   rw [hO] at ho hnx hol
   obtain ⟨oa,oc,hv⟩:=ho.form
   obtain ⟨n,hn⟩:∃ n,O.length = n:=⟨_,rfl⟩
   rw [hn] at hv hol
   subst hv
   have HNX:=Lib.hid hnx
   have HN:=Shut.mk hn
   have HO:=Lib.hid ho
   have HOA:=Lib.hid (show StrsAt oa O wi from z1g (by rw [hn];exact ho))
   clear hx hbl hnx hO hn ho
   go_wp2_with fail
   go_loopw [6] (fun kv wr=>∃ j:Nat,kv = .int .i64 j ∧ j ≤ n ∧ (∀ t,t < j → ∀ y,O[t]? = some y → Op.bytesLess y x = true) ∧ wr = wi) (fun kv _=>n - (intOf kv).toNat)
   case atStart=>exact ⟨0,rfl,Nat.zero_le _,fun t ht=>absurd ht (Nat.not_lt_zero t),rfl⟩
   case round =>
    obtain ⟨j,rfl,hj,hless,rfl⟩:=hrel
    have HLE:=Lib.hid hless
    clear hless
    by_cases hjn:j < n
    ·obtain ⟨y,hy⟩:∃ y,O[j]? = some y:=⟨_,List.getElem?_eq_getElem (by rw [HN.out];exact hjn)⟩
     obtain ⟨b2,o2,rfl,hb2,c2⟩:=zfy HOA.out hy
     have HY:=Lib.hid hy
     clear hy hb2
     by_cases hls:Op.bytesLess y x = true
     ·have HLS:=Lib.hid hls
      go_wp2_with fail
      refine ⟨⟨j + 1,by go_num,by omega,fun t ht z hz=>?_,trivial⟩,by simp [intOf];omega⟩
      by_cases htj:t = j
      ·subst htj
       have:=HY.out
       rw [this] at hz
       cases hz
       exact HLS.out
      ·exact HLE.out t (by omega) z hz
     ·have hls':Op.bytesLess y x = false:=by simpa using hls
      by_cases he:y = x
      ·subst he
       have HIN:=Lib.hid (show z0v (L.take (k + 1)) = O by
        rw [HNX.out,z65 y HLE.out (by rw [HN.out];exact hj) (fun z hz=>by rw [HY.out] at hz;cases hz;exact hls),if_pos HY.out])
       go_wp2_with fail
       exact ⟨⟨_,k + 1,rfl,by go_num,by omega,by rw [HIN.out];exact HO.out,HB.out⟩,by simp [intOf];omega⟩
      ·have HNEQ:=Lib.hid he
       have HLS:=Lib.hid hls
       have heb:(y == x) = false:=by simpa using he
       go_upto_region 9 with (fail)
       clear hls he heb
       have HIN:=Lib.hid (show z0v (L.take (k + 1)) = O.take j ++ x :: O.drop j by
        rw [HNX.out,z65 x HLE.out (by rw [HN.out];exact hj) (fun z hz=>by rw [HY.out] at hz;cases hz;exact HLS.out),if_neg (fun e=>by rw [HY.out] at e;exact HNEQ.out (by injection e))])
       obtain ⟨hkc,hcn⟩:=OwnS.cap HO.out
       rw [HN.out] at hkc
       have b3:Below wr.heap.size wr (wr.alloc (.cells #[] 9)):=(Below.refl _ _).alloc (Nat.le_refl _) _
       obtain ⟨r,hr⟩:∃ r,n - j = r:=⟨_,rfl⟩
       have HRJ:=Shut.mk hr
       have hsl:=z2k (some ⟨b2,o2,none⟩) n oc j hj hkc
       have hdr:=(HOA.out.below b3).drop (j:=j) (c:=oc) (by rw [HN.out];exact hkc)
       have hni:=z5u (j:=j) hcn
       obtain ⟨RA,hRA⟩:∃ RA:Option Addr,(if oc = j then (some ⟨b2,o2,none⟩) else Option.map (fun z:Addr=>z.add j) (some ⟨b2,o2,none⟩)) = RA:=⟨_,rfl⟩
       rw [hRA] at hdr hni
       simp only [hRA] at hsl
       rw [hr] at hsl
       have HSL:=Lib.hid hsl
       have HDR:=Lib.hid hdr
       have HNI:=Lib.hid hni
       have HSM:=Lib.hid (z2n (some ⟨b2,o2,none⟩) n oc j hj hkc)
       have HL0:=Lib.hid (show OwnS wr.heap.size (.slice (some ⟨wr.heap.size,0,none⟩) 0 0) [] (wr.alloc (.cells #[] 9)) from World.ownsRow_lit wr #[] 0 (Nat.le_refl _) (by unfold maxLen;omega) rfl)
       have HB3:=Lib.hid b3
       clear hkc hcn b3 hsl hdr hni hRA hr
       skip
       refine wp_region_lit ?_
       iterate 9 (first | go_skip | go_guarded | go_step)
       refine z27 rfl 67 _ _ rfl _ _ _ rfl rfl HSL.out ?_
       simp only [Act.put,zS,zA,zB]
       refine z0o rfl _ _ rfl wr.heap.size (.slice (some ⟨wr.heap.size,0,none⟩) 0 0) [] (O.drop j) RA r (oc - j) (by rw [List.length_drop,HN.out];exact HRJ.out.symm) rfl HL0.out rfl HDR.out HNI.out (by rw [List.length_drop,HN.out];simp only [List.length_nil];omega) HB3.out.size ?_
       intro v5 w5 ho5 hg5 _
       obtain ⟨a5,c5,hv5⟩:=ho5.out.form
       rw [List.nil_append,List.length_drop,HN.out,HRJ.out] at hv5
       subst hv5
       have HO5:=Lib.hid (show OwnS wr.heap.size (.slice a5 r c5) (O.drop j) w5 from ho5.out)
       have HB5:=Lib.hid (HB3.out.grown hg5.out HB3.out.size (fun g hg=>(World.ownsRow.lt HL0.out g hg).1))
       have HOT:=Lib.hid ((HOA.out.below HB5.out).take j)
       clear ho5 hg5 HSL HDR HNI
       have HN5:=Lib.hid (show StrsAt (some ⟨w5.heap.size,0,none⟩) [x] (w5.alloc (.cells #[.string ⟨x.toArray⟩] 9)) from .inr ⟨_,0,rfl,by rw [World.size_alloc];exact Nat.lt_succ_self _,fun t ht=>by
        obtain rfl:t = 0:=by simpa using ht
        rw [Lib.cell_of_heap (heap_alloc_new w5 _)]
        rfl⟩)
       have b6:Below w5.heap.size w5 (w5.alloc (.cells #[.string ⟨x.toArray⟩] 9)):=(Below.refl _ _).alloc (Nat.le_refl _) _
       have HB6:=Lib.hid b6
       have HT6:=Lib.hid (HOT.out.below b6)
       have HR6:=Lib.hid (show StrsAt a5 (O.drop j) (w5.alloc (.cells #[.string ⟨x.toArray⟩] 9)) from (z1g (l:=O.drop j) (by rw [List.length_drop,HN.out,HRJ.out];exact HO5.out)).below b6)
       clear b6
       go_upto_region 10 with (fail)
       refine wp_region_lit ?_
       iterate 9 (first | go_skip | go_guarded | go_step)
       refine z2i rfl 67 _ _ _ rfl _ _ _ _ rfl rfl rfl HSM.out ?_
       simp only [Act.put,zS,zA,zB]
       iterate 6 (first | go_skip | go_guarded | go_step)
       refine z1s rfl _ _ rfl (O.take j) [x] (some ⟨b2,o2,none⟩) j (by rw [List.length_take,HN.out];omega) ⟨w5.heap.size,0,none⟩ 1 1 rfl (by decide) rfl HT6.out rfl HN5.out (by rw [List.length_take,HN.out];simp only [List.length_singleton];omega) ?_
       intro v7 w7 ho7 hb7
       have HO7:=Lib.hid ho7.out
       have HB7:=Lib.hid (HB6.out.trans (hb7.out.mono HB6.out.size))
       have HSQ:=Lib.hid hb7.out
       have HR7:=Lib.hid (HR6.out.below hb7.out)
       have HC5:=Lib.hid (OwnS.cap HO5.out).2
       clear ho7 hb7
       have HSZ7:=Lib.hid (show (w5.alloc (.cells #[.string ⟨x.toArray⟩] 9)).heap.size ≤ w7.heap.size from HSQ.out.size)
       simp only [Act.put,zS,zA,zB]
       iterate 3 (first | go_skip | go_guarded | go_step)
       refine z0o rfl _ _ rfl _ v7 (O.take j ++ [x]) (O.drop j) a5 r c5 (by rw [List.length_drop,HN.out];exact HRJ.out.symm) rfl HO7.out rfl HR7.out HC5.out (by rw [List.length_append,List.length_take,List.length_drop,HN.out];simp only [List.length_singleton];omega) HSZ7.out ?_
       intro v8 w8 ho8 hg8 _
       have HO8:=Lib.hid (show OwnS w.heap.size v8 (O.take j ++ x :: O.drop j) w8 from by
        have h8:=ho8.out
        rw [List.append_assoc,List.singleton_append] at h8
        exact h8.mono (Nat.le_trans HB.out.size (Nat.le_trans HB5.out.size HB6.out.size)))
       have HB8:=Lib.hid (HB7.out.grown hg8.out HB7.out.size (fun g hg=>Nat.le_trans HB6.out.size (World.ownsRow.lt HO7.out g hg).1))
       clear ho8 hg8
       go_wp2_with fail
       exact ⟨⟨v8,k + 1,rfl,by go_num,by omega,by rw [HIN.out];exact HO8.out,HB.out.trans ((HB5.out.trans (HB8.out.mono HB5.out.size)).mono HB.out.size)⟩,by simp [intOf];omega⟩
    ·obtain rfl:n = j:=by omega
     have HNO:=Lib.hid (show O[n]? = none from List.getElem?_eq_none (by rw [HN.out];exact Nat.le_refl _))
     have HIN:=Lib.hid (show z0v (L.take (k + 1)) = O.take n ++ x :: O.drop n by
      rw [HNX.out,z65 x HLE.out (by rw [HN.out];exact hj) (fun z hz=>by rw [HNO.out] at hz;cases hz),if_neg (fun e=>by rw [HNO.out] at e;cases e)])
     obtain ⟨hkc,hcn⟩:=OwnS.cap HO.out
     rw [HN.out] at hkc
     have b3:Below wr.heap.size wr (wr.alloc (.cells #[] 9)):=(Below.refl _ _).alloc (Nat.le_refl _) _
     obtain ⟨r,hr⟩:∃ r,n - n = r:=⟨_,rfl⟩
     have HRJ:=Shut.mk hr
     have hsl:=z2k oa n oc n hj hkc
     have hdr:=(HOA.out.below b3).drop (j:=n) (c:=oc) (by rw [HN.out];exact hkc)
     have hni:=z5u (j:=n) hcn
     obtain ⟨RA,hRA⟩:∃ RA:Option Addr,(if oc = n then oa else Option.map (fun z:Addr=>z.add n) oa) = RA:=⟨_,rfl⟩
     rw [hRA] at hdr hni
     simp only [hRA] at hsl
     rw [hr] at hsl
     have HSL:=Lib.hid hsl
     have HDR:=Lib.hid hdr
     have HNI:=Lib.hid hni
     have HSM:=Lib.hid (z2n oa n oc n hj hkc)
     have HL0:=Lib.hid (show OwnS wr.heap.size (.slice (some ⟨wr.heap.size,0,none⟩) 0 0) [] (wr.alloc (.cells #[] 9)) from World.ownsRow_lit wr #[] 0 (Nat.le_refl _) (by unfold maxLen;omega) rfl)
     have HB3:=Lib.hid b3
     clear hkc hcn b3 hsl hdr hni hRA hr
     go_upto_region 9 with (fail)
     refine wp_region_lit ?_
     iterate 9 (first | go_skip | go_guarded | go_step)
     refine z27 rfl 67 _ _ rfl _ _ _ rfl rfl HSL.out ?_
     simp only [Act.put,zS,zA,zB]
     refine z0o rfl _ _ rfl wr.heap.size (.slice (some ⟨wr.heap.size,0,none⟩) 0 0) [] (O.drop n) RA r (oc - n) (by rw [List.length_drop,HN.out];exact HRJ.out.symm) rfl HL0.out rfl HDR.out HNI.out (by rw [List.length_drop,HN.out];simp only [List.length_nil];omega) HB3.out.size ?_
     intro v5 w5 ho5 hg5 _
     obtain ⟨a5,c5,hv5⟩:=ho5.out.form
     rw [List.nil_append,List.length_drop,HN.out,HRJ.out] at hv5
     subst hv5
     have HO5:=Lib.hid (show OwnS wr.heap.size (.slice a5 r c5) (O.drop n) w5 from ho5.out)
     have HB5:=Lib.hid (HB3.out.grown hg5.out HB3.out.size (fun g hg=>(World.ownsRow.lt HL0.out g hg).1))
     have HOT:=Lib.hid ((HOA.out.below HB5.out).take n)
     clear ho5 hg5 HSL HDR HNI
     have HN5:=Lib.hid (show StrsAt (some ⟨w5.heap.size,0,none⟩) [x] (w5.alloc (.cells #[.string ⟨x.toArray⟩] 9)) from .inr ⟨_,0,rfl,by rw [World.size_alloc];exact Nat.lt_succ_self _,fun t ht=>by
      obtain rfl:t = 0:=by simpa using ht
      rw [Lib.cell_of_heap (heap_alloc_new w5 _)]
      rfl⟩)
     have b6:Below w5.heap.size w5 (w5.alloc (.cells #[.string ⟨x.toArray⟩] 9)):=(Below.refl _ _).alloc (Nat.le_refl _) _
     have HB6:=Lib.hid b6
     have HT6:=Lib.hid (HOT.out.below b6)
     have HR6:=Lib.hid (show StrsAt a5 (O.drop n) (w5.alloc (.cells #[.string ⟨x.toArray⟩] 9)) from (z1g (l:=O.drop n) (by rw [List.length_drop,HN.out,HRJ.out];exact HO5.out)).below b6)
     clear b6
     go_upto_region 10 with (fail)
     refine wp_region_lit ?_
     iterate 9 (first | go_skip | go_guarded | go_step)
     refine z2i rfl 67 _ _ _ rfl _ _ _ _ rfl rfl rfl HSM.out ?_
     simp only [Act.put,zS,zA,zB]
     iterate 6 (first | go_skip | go_guarded | go_step)
     refine z1s rfl _ _ rfl (O.take n) [x] oa n (by rw [List.length_take,HN.out];omega) ⟨w5.heap.size,0,none⟩ 1 1 rfl (by decide) rfl HT6.out rfl HN5.out (by rw [List.length_take,HN.out];simp only [List.length_singleton];omega) ?_
     intro v7 w7 ho7 hb7
     have HO7:=Lib.hid ho7.out
     have HB7:=Lib.hid (HB6.out.trans (hb7.out.mono HB6.out.size))
     have HSQ:=Lib.hid hb7.out
     have HR7:=Lib.hid (HR6.out.below hb7.out)
     have HC5:=Lib.hid (OwnS.cap HO5.out).2
     clear ho7 hb7
     have HSZ7:=Lib.hid (show (w5.alloc (.cells #[.string ⟨x.toArray⟩] 9)).heap.size ≤ w7.heap.size from HSQ.out.size)
     simp only [Act.put,zS,zA,zB]
     iterate 3 (first | go_skip | go_guarded | go_step)
     refine z0o rfl _ _ rfl _ v7 (O.take n ++ [x]) (O.drop n) a5 r c5 (by rw [List.length_drop,HN.out];exact HRJ.out.symm) rfl HO7.out rfl HR7.out HC5.out (by rw [List.length_append,List.length_take,List.length_drop,HN.out];simp only [List.length_singleton];omega) HSZ7.out ?_
     intro v8 w8 ho8 hg8 _
     have HO8:=Lib.hid (show OwnS w.heap.size v8 (O.take n ++ x :: O.drop n) w8 from by
      have h8:=ho8.out
      rw [List.append_assoc,List.singleton_append] at h8
      exact h8.mono (Nat.le_trans HB.out.size (Nat.le_trans HB5.out.size HB6.out.size)))
     have HB8:=Lib.hid (HB7.out.grown hg8.out HB7.out.size (fun g hg=>Nat.le_trans HB6.out.size (World.ownsRow.lt HO7.out g hg).1))
     clear ho8 hg8
     go_wp2_with fail
     exact ⟨⟨v8,k + 1,rfl,by go_num,by omega,by rw [HIN.out];exact HO8.out,HB.out.trans ((HB5.out.trans (HB8.out.mono HB5.out.size)).mono HB.out.size)⟩,by simp [intOf];omega⟩
  ·obtain rfl:k = m:=by omega
   have HE:=Lib.hid (show z0v (L.take k) = z0v L by rw [List.take_of_length_le (by rw [HM.out];exact Nat.le_refl _)])
   have HO:=Lib.hid (HE.out ▸ ho)
   clear ho
   go_wp2_with fail
   go_ret
   exact ⟨_,rfl,HO.out,HB.out⟩
theorem zly {L:List OpN} {ks:List Int} {k:Nat} {x:OpN} (hx:L[k]? = some x):((L.take (k + 1)).filter fun o=>decide (o.d.kind ∈ ks)).map (fun o=>o.d.key) = (((L.take k).filter fun o=>decide (o.d.kind ∈ ks)).map fun o=>o.d.key) ++ if x.d.kind ∈ ks then [x.d.key] else []:=by
 rw [List.take_add_one,hx,Option.toList_some,List.filter_append,List.map_append]
 congr 1
 by_cases h:x.d.kind ∈ ks
 ·rw [if_pos h,List.filter_cons_of_pos (by simpa using h)];rfl
 ·rw [if_neg h,List.filter_cons_of_neg (by simpa using h)];rfl
theorem zjw (Z:Nat → Prop) (gs:Nat) (vo vw vn vq:Value) (s:DagN) (ao:Option Addr) (L:List Int) (m c:Nat) (w:World) (h:RefAt Z gs vo vw vn vq s w) (hF:∀ x ∈ s.ops,x.Fit) (hN:s.ops.length ≤ 1000) (hI:IntsIn ao L w) (hm:L.length = m) (hl:m ≤ 140737488351232) :
 Calls Tryz.prog 38 #[.pointer (some ⟨gs,0,none⟩),.slice ao m c] w fun e w'=>∃ v,e = .returned v ∧ OwnS w.heap.size v (z6l s.ops L) w' ∧ Below w.heap.size w w':=by
 obtain ⟨ro,rc,hvo⟩:=h.ops.form
 have c0:=h.cells.at 0
 simp only [List.getElem?_toArray,List.getElem?_cons_zero] at c0
 rw [hvo] at c0
 have HAT:=Lib.hid (show OpsX Z ro s.ops w from (hvo ▸ h.ops:OwnX Z 0 38 (.slice ro s.ops.length rc) s.ops w).at)
 have HIN:=Lib.hid (fun z w' (k:Below w.heap.size w w')=>ziw ao L m c z w' (hI.below k) hm hl)
 have HFR:=Lib.hid hF
 have HZO:=Lib.hid (show (Tryz.prog.info? 38).bind (·.zero) = some (.agg (opL z05 none 0).toArray) by kernel_rfl)
 obtain ⟨n,hn⟩:∃ n,s.ops.length = n:=⟨_,rfl⟩
 rw [hn] at c0 hN
 have HN:=Shut.mk hn
 clear h hF hI hm hvo hn
 go_enter Tryz.func38,Tryz.ntmps38
 go_wp2_with fail
 go_loopw [5,13] (fun tv iv wr=>∃ (v:Value) (k:Nat),tv = v ∧ iv = .int .i64 k ∧ k ≤ n ∧ OwnS w.heap.size v (((s.ops.take k).filter fun o=>decide (o.d.kind ∈ L)).map fun o=>o.d.key) wr ∧ Below w.heap.size w wr) (fun _ iv _=>n - (intOf iv).toNat)
 case atStart=>exact ⟨_,0,rfl,rfl,Nat.zero_le _,OwnS.nil _ _,Below.refl _ _⟩
 case round =>
  obtain ⟨wi,rfl⟩:∃ z,z = wr:=⟨_,rfl⟩
  obtain ⟨v,k,rfl,rfl,hk,ho,hb⟩:=hrel
  have HB:=Lib.hid hb
  have HATW:=Lib.hid (HAT.out.below hb)
  by_cases hlt:k < n
  ·obtain ⟨x,hx⟩:∃ x,s.ops[k]? = some x:=⟨_,List.getElem?_eq_getElem (by rw [HN.out];exact hlt)⟩
   have HF:=Lib.hid (HFR.out x (List.mem_of_getElem? hx))
   have hnx:=zly (ks:=L) hx
   obtain ⟨br,rr,rfl,hbr,pa,pc,r1,i1,f1⟩:=HATW.out.get hx
   have HRX:=Lib.hid r1
   have HSL:=Lib.hid (show (Tryz.prog.info? 38).map (·.size) = some (opL x pa pc).length by rw [z16 HF.out.d.ref.1];exact Tryz.sizeO)
   have HSV:=Lib.hid (show (Tryz.prog.info? 38).map (·.size) = some (opV x pa pc).size by rw [z0b HF.out.d.ref.1];exact Tryz.sizeO)
   have HSZ:=Lib.hid (show (opL z05 none 0).toArray.size = (opV x pa pc).size by rw [z0b HF.out.d.ref.1];rfl)
   have hfl:=List.length_filter_le (fun o=>decide (o.d.kind ∈ L)) (s.ops.take k)
   rw [List.length_take,HN.out] at hfl
   obtain ⟨FL,hFL⟩:∃ z,(((s.ops.take k).filter fun o=>decide (o.d.kind ∈ L)).map fun o=>o.d.key) = z:=⟨_,rfl⟩
   have hfl2:FL.length ≤ 1000:=by rw [← hFL,List.length_map];omega
   rw [hFL] at ho hnx
   obtain ⟨oa,oc,hv⟩:=ho.form
   obtain ⟨ol,hol⟩:∃ z,FL.length = z:=⟨_,rfl⟩
   rw [hol] at hv
   subst hv
   have HO:=Lib.hid ho
   have HNX:=Lib.hid hnx
   have HFL:=Lib.hid (show FL.length ≤ 1000000 by omega)
   clear hx hnx hbr r1 i1 f1 hFL hfl hfl2 ho hb hol
   go_wp2_with (first
    | (refine wpList_load_mid rfl 38 _ rfl br (rr + k * 38) rfl (opL x pa pc) _ HRX.out Tryz.underlying38 rfl HSL.out ?_)
    | (refine z0d rfl 38 rfl (opL z05 none 0) HZO.out ?_)
    | (refine z02 rfl 38 _ _ rfl rfl wi.heap.size (opL z05 none 0).toArray (opV x pa pc) 38 rfl rfl (heap_alloc_new wi _) HSV.out HSZ.out (z1i x pa pc) ?_))
   intro w5 hcs hbs
   have hb5:Below wi.heap.size wi w5:=But.toBelow ((Below.refl _ wi).alloc (Nat.le_refl _) _) hbs.out (Nat.le_refl _) (by rw [World.size_alloc];exact Nat.le_succ _)
   have HB5:=Lib.hid (HB.out.trans (hb5.mono HB.out.size))
   have HO5:=Lib.hid (HO.out.below hb5)
   have c2:=(z20 (z0j HF.out.d.ref.1 hcs.out).1).1
   have c3:=(z20 (z0j HF.out.d.ref.1 hcs.out).1).2.1
   have HIN5:=Lib.hid (HIN.out x.d.kind w5 HB5.out)
   obtain ⟨g9,hg9⟩:∃ z,wi.heap.size = z:=⟨_,rfl⟩
   rw [hg9] at c2 c3 ⊢
   obtain ⟨kx,hkx⟩:∃ z,x.d.key = z:=⟨_,rfl⟩
   rw [hkx] at c3 HNX
   obtain ⟨F,hF⟩:∃ F,decide (x.d.kind ∈ L) = F:=⟨_,rfl⟩
   rw [hF] at HIN5
   have HF5:=Shut.mk hF
   obtain ⟨kd,hkd⟩:∃ z,x.d.kind = z:=⟨_,rfl⟩
   rw [hkd] at c2 HIN5 HNX HF5
   clear hcs hbs hb5 hg9 hkx hF hkd HRX
   cases F with
   | false =>
     have HNE:=Lib.hid (show (((s.ops.take (k + 1)).filter fun o=>decide (o.d.kind ∈ L)).map fun o=>o.d.key) = FL by
      rw [HNX.out,if_neg (of_decide_eq_false HF5.out),List.append_nil])
     go_wp2_with (refine HIN5.out.mono ?_;rintro e w6 ⟨rfl,rfl⟩)
     exact ⟨⟨_,k + 1,rfl,by go_num,by omega,by rw [HNE.out];exact HO5.out,HB5.out⟩,by simp [intOf];omega⟩
   | true =>
     have HNE:=Lib.hid (show (((s.ops.take (k + 1)).filter fun o=>decide (o.d.kind ∈ L)).map fun o=>o.d.key) = FL ++ [kx] by
      rw [HNX.out,if_pos (of_decide_eq_true HF5.out)])
     have b8:Below w5.heap.size w5 (w5.alloc (.cells #[.string ⟨kx.toArray⟩] 9)):=(Below.refl _ _).alloc (Nat.le_refl _) _
     have HO8:=Lib.hid (HO5.out.below b8)
     have HB8:=Lib.hid (HB5.out.trans (b8.mono HB5.out.size))
     have HC8:=Lib.hid (show (w5.alloc (.cells #[.string ⟨kx.toArray⟩] 9)).cell? ((⟨w5.heap.size,0,none⟩:Addr).add 0) = some (.string ⟨kx.toArray⟩) from by
      rw [Addr.add_lit,Lib.cell_of_heap (heap_alloc_new w5 _)]
      rfl)
     clear b8
     go_wp2_with (first
      | (refine HIN5.out.mono ?_;rintro e w6 ⟨rfl,rfl⟩)
      | (refine z79 rfl _ _ rfl w.heap.size (.slice oa ol oc) FL kx ⟨w6.heap.size,0,none⟩ 1 rfl HO8.out rfl HC8.out HFL.out HB8.out.size ?_))
     intro v9 w9 ho9 hb9 _
     have HO9:=Lib.hid ho9.out
     have HB9:=Lib.hid (HB8.out.trans hb9.out)
     clear ho9 hb9
     go_wp2_with fail
     exact ⟨⟨v9,k + 1,rfl,by go_num,by omega,by rw [HNE.out];exact HO9.out,HB9.out⟩,by simp [intOf];omega⟩
  ·obtain rfl:n = k:=by omega
   have HE:=Lib.hid (show s.ops.take n = s.ops from List.take_of_length_le (by rw [HN.out];exact Nat.le_refl _))
   have hfl:=List.length_filter_le (fun o=>decide (o.d.kind ∈ L)) s.ops
   rw [HN.out] at hfl
   have HK:=Shut.mk (show z6l s.ops L = z0v ((s.ops.filter fun o=>decide (o.d.kind ∈ L)).map fun o=>o.d.key) from rfl)
   rw [HE.out] at ho
   obtain ⟨FL,hFL⟩:∃ z,((s.ops.filter fun o=>decide (o.d.kind ∈ L)).map fun o=>o.d.key) = z:=⟨_,rfl⟩
   have hfl2:FL.length ≤ 1000:=by rw [← hFL,List.length_map];omega
   rw [hFL] at ho HK
   obtain ⟨oa,oc,hv⟩:=ho.form
   obtain ⟨ol,hol⟩:∃ z,FL.length = z:=⟨_,rfl⟩
   rw [hol] at hv hfl2
   subst hv
   have HRS:=Lib.hid (z71 oa FL ol oc wi (z1g (by rw [hol];exact ho)) hol (by omega))
   clear ho hb hFL hfl hfl2 hol
   go_wp2_with (refine HRS.out.mono ?_;rintro e w9 ⟨v9,rfl,ho9,hb9⟩;have HO9:=Lib.hid ho9;have HB9:=Lib.hid hb9;clear ho9 hb9)
   go_ret
   exact ⟨_,rfl,by rw [HK.out];exact HO9.out.mono HB.out.size,HB.out.trans (HB9.out.mono HB.out.size)⟩
theorem ops_all {A B:List OpN} {n:Nat} (hA:A.length = n) (hB:B.length = n) (h:∀ j,j < n → A[j]? = B[j]?):A = B:=by
 refine List.ext_getElem? fun j=>?_
 by_cases hj:j < n
 ·exact h j hj
 ·rw [List.getElem?_eq_none (by omega),List.getElem?_eq_none (by omega)]
theorem zhq (A B:List OpN) (pa pb:Option Addr) (ca cb:Nat) (w:World) (hA:∀ x ∈ A,x.Ok) (hB:∀ x ∈ B,x.Ok) (hpa:OpsAt pa A w) (hpb:OpsAt pb B w)
 (hnA:∀ x ∈ A,x.preds.length ≤ 140737488351232) (hnB:∀ x ∈ B,x.preds.length ≤ 140737488351232) (hlA:A.length ≤ 140737488351232) (hlB:B.length ≤ 140737488351232) :
 Calls Tryz.prog 32 #[.slice pa A.length ca,.slice pb B.length cb] w fun e w'=>e = .returned (.bool (decide (A = B))) ∧ Below w.heap.size w w':=by
 have HPA:=Lib.hid hpa
 have HPB:=Lib.hid hpb
 have HA:=Lib.hid hA
 have HB:=Lib.hid hB
 have HNA:=Lib.hid hnA
 have HNB:=Lib.hid hnB
 clear hpa hpb hA hB hnA hnB
 obtain ⟨n,hn⟩:∃ n,A.length = n:=⟨_,rfl⟩
 obtain ⟨m,hm⟩:∃ m,B.length = m:=⟨_,rfl⟩
 have HLA:=Shut.mk hn
 have HLB:=Shut.mk hm
 rw [hn] at hlA ⊢
 rw [hm] at hlB ⊢
 clear hn hm
 by_cases h3:¬ n = m
 ·have h3b:((n:Int) != (m:Int)) = true:=by simp;omega
  have HR:=Shut.mk (show decide (A = B) = false from decide_eq_false (fun h=>h3 (by rw [← HLA.out,← HLB.out,h])))
  go_enter Tryz.func32,Tryz.ntmps32
  go_wp2_with fail
  go_ret
  exact ⟨by rw [HR.out];rfl,Below.refl _ _⟩
 have h3:=Classical.not_not.1 h3
 subst h3
 go_enter Tryz.func32,Tryz.ntmps32
 go_wp2_with fail
 go_loopw [13] (fun i wr=>∃ k:Nat,k ≤ n ∧ i = .int .i64 k ∧ (∀ j,j < k → A[j]? = B[j]?) ∧ Below w.heap.size w wr) (fun i _=>n - (intOf i).toNat)
 case atStart=>exact ⟨0,Nat.zero_le _,rfl,fun j hj=>by omega,Below.refl _ _⟩
 case round =>
  obtain ⟨k,hk,rfl,hj,hb⟩:=hrel
  have HJ:=Lib.hid hj
  have HBW:=Lib.hid hb
  clear hj hb
  by_cases hkn:k < n
  ·obtain ⟨a,hak⟩:∃ a,A[k]? = some a:=⟨_,List.getElem?_eq_getElem (by rw [HLA.out];exact hkn)⟩
   obtain ⟨b,hbk⟩:∃ b,B[k]? = some b:=⟨_,List.getElem?_eq_getElem (by rw [HLB.out];exact hkn)⟩
   have HAK:=Shut.mk hak
   have HBK:=Shut.mk hbk
   have ham:=List.mem_of_getElem? hak
   have hbm:=List.mem_of_getElem? hbk
   obtain ⟨ga,oa,rfl,hga,hoa⟩:=(HPA.out.below HBW.out).get hak
   obtain ⟨gb,ob,rfl,hgb,hob⟩:=(HPB.out.below HBW.out).get hbk
   obtain ⟨qa,ra,r1,i1⟩:=hoa
   obtain ⟨qb,rb,r2,i2⟩:=hob
   have HR1:=Lib.hid (fun (w':World) (q:Below wr.heap.size wr w')=>show w'.rangeAt ga (oa + k * 38) (opL a qa ra) from z08 r1 q hga)
   have HR2:=Lib.hid (fun (w':World) (q:Below wr.heap.size wr w')=>show w'.rangeAt gb (ob + k * 38) (opL b qb rb) from z08 r2 q hgb)
   have HS1:=Lib.hid (show (Tryz.prog.info? 38).map (·.size) = some (opL a qa ra).length by rw [z16 (HA.out a ham).ref.1];exact Tryz.sizeO)
   have HS2:=Lib.hid (show (Tryz.prog.info? 38).map (·.size) = some (opL b qb rb).length by rw [z16 (HB.out b hbm).ref.1];exact Tryz.sizeO)
   have HC:=Lib.hid (fun (w':World) (q:Below wr.heap.size wr w')=>z57 a b qa qb ra rb w' (HA.out a ham) (HB.out b hbm) (i1.below q) (i2.below q) (HNA.out a ham) (HNB.out b hbm))
   obtain ⟨z,hz⟩:∃ z,decide (a = b) = z:=⟨_,rfl⟩
   have HZ:=Shut.mk hz
   rw [hz] at HC
   clear hak hbk ham hbm hga hgb r1 r2 i1 i2 hz
   cases z with
   | true =>
     have HXY:=Shut.mk (of_decide_eq_true HZ.out)
     go_upto_region 6 with (fail)
     refine z09 (fun w'=>Below wr.heap.size wr w') (by kernel_rfl) (by kernel_rfl) (Below.refl _ _).drew ?_
     repeat (first
      | go_big_quiet_skip
      | (go_big_quiet_want;refine z14 38 _ rfl ga (oa + k * 38) (opL a qa ra) _ rfl HR1.out Tryz.underlying38 rfl HS1.out ?_;go_big_quiet_on;simp only [Act.put,zS,zA,zB])
      | (go_big_quiet_want;refine z14 38 _ rfl gb (ob + k * 38) (opL b qb rb) _ rfl HR2.out Tryz.underlying38 rfl HS2.out ?_;go_big_quiet_on;simp only [Act.put,zS,zA,zB])
      | go_big_quiet_step ((intro hs';first
       | rfl
       | (go_at_call 20;exact (HC.out _ hs').mono fun e w' h=>⟨h.1,hs'.trans (h.2.mono hs'.size)⟩))))
     refine wpQuiet_nil ?_
     intro w3 hb2
     go_wp2_with fail
     refine ⟨⟨k + 1,by omega,by go_num,fun q hq=>?_,HBW.out.trans (hb2.mono HBW.out.size)⟩,by simp [intOf];omega⟩
     by_cases hqj:q = k
     ·subst hqj
      rw [HAK.out,HBK.out,HXY.out]
     ·exact HJ.out q (by omega)
   | false =>
     have hxy:=of_decide_eq_false HZ.out
     have HR:=Shut.mk (show decide (A = B) = false from decide_eq_false (fun h=>hxy (by have h1:=HAK.out;rw [h,HBK.out] at h1;exact (Option.some.inj h1).symm)))
     clear hxy
     go_upto_region 6 with (fail)
     refine z09 (fun w'=>Below wr.heap.size wr w') (by kernel_rfl) (by kernel_rfl) (Below.refl _ _).drew ?_
     repeat (first
      | go_big_quiet_skip
      | (go_big_quiet_want;refine z14 38 _ rfl ga (oa + k * 38) (opL a qa ra) _ rfl HR1.out Tryz.underlying38 rfl HS1.out ?_;go_big_quiet_on;simp only [Act.put,zS,zA,zB])
      | (go_big_quiet_want;refine z14 38 _ rfl gb (ob + k * 38) (opL b qb rb) _ rfl HR2.out Tryz.underlying38 rfl HS2.out ?_;go_big_quiet_on;simp only [Act.put,zS,zA,zB])
      | go_big_quiet_step ((intro hs';first
       | rfl
       | (go_at_call 20;exact (HC.out _ hs').mono fun e w' h=>⟨h.1,hs'.trans (h.2.mono hs'.size)⟩))))
     refine wpQuiet_nil ?_
     intro w3 hb2
     go_wp2_with fail
     go_ret
     exact ⟨by rw [HR.out];rfl,HBW.out.trans (hb2.mono HBW.out.size)⟩
  ·obtain rfl:k = n:=by omega
   have HR:=Shut.mk (show decide (A = B) = true from decide_eq_true (ops_all HLA.out HLB.out HJ.out))
   go_wp2_with fail
   go_ret
   exact ⟨by rw [HR.out];rfl,HBW.out⟩
end Go.Proofs.YtnbldbbbibpobaaGreatDoor
namespace Go.Proofs.YtnbldbbbibpobaaGreatDoor
open Go.RowKit
theorem zds {α:Type} {a b:List α} (hl:a.length = b.length) (h:a.take a.length = b.take a.length):a = b:=by
 rw [List.take_length,hl,List.take_length] at h
 exact h
theorem zba {a b:List (List UInt8)} {q:Nat} (ha:q < a.length) (hb:q < b.length) (h:a.take q = b.take q) (he:a[q] = b[q]):a.take (q + 1) = b.take (q + 1):=by
 rw [List.take_succ_eq_append_getElem ha,List.take_succ_eq_append_getElem hb,h,he]
theorem ne_at {a b:List (List UInt8)} {q:Nat} (ha:q < a.length) (hb:q < b.length) (he:¬ a[q] = b[q]):decide (a = b) = false:=by
 rw [decide_eq_false_iff_not]
 rintro rfl
 exact he rfl
theorem zay (a b:List UInt8) (h:¬ a = b):(a == b) = false:=by simpa using h
theorem z9g (a b:List UInt8) (h:a = b):(a == b) = true:=by simpa using h
theorem zdq (x y:Option Addr) (c d:Nat) (a b:List (List UInt8)) (w:World) (h:¬ a.length = b.length) :
 Calls Tryz.prog 36 #[.slice x a.length c,.slice y b.length d] w fun e w'=>e = .returned (.bool (decide (a = b))) ∧ Below w.heap.size w w':=by
 have e:decide (a = b) = false:=by rw [decide_eq_false_iff_not];rintro rfl;exact h rfl
 have ht:((a.length:Int) == (b.length:Int)) = false:=by simp;omega
 rw [e]
 clear e
 go_enter Tryz.func36,Tryz.ntmps36
 go_wp2_with fail
 go_ret
 exact ⟨rfl,Below.refl _ _⟩
theorem ze7 (x y:Option Addr) (c d:Nat) (a b:List (List UInt8)) (w:World) (hx:StrsAt x a w) (hy:StrsAt y b w) (hl:a.length ≤ 9223372036854775807) :
 Calls Tryz.prog 36 #[.slice x a.length c,.slice y b.length d] w fun e w'=>e = .returned (.bool (decide (a = b))) ∧ Below w.heap.size w w':=by
 by_cases h:a.length = b.length
 ·have HX:=Lib.hid hx
  have HY:=Lib.hid hy
  have HL:=Lib.hid h
  have ht:((a.length:Int) == (b.length:Int)) = true:=by simp;omega
  clear hx hy h
  go_enter Tryz.func36,Tryz.ntmps36
  go_wp2_with fail
  clear ht
  go_loopw [13] (fun i wr=>∃ q:Nat,q ≤ a.length ∧ i = .int .i64 q ∧ a.take q = b.take q ∧ Below w.heap.size w wr) (fun i _=>a.length - (intOf i).toNat)
  case atStart=>exact ⟨0,Nat.zero_le _,rfl,by simp,Below.refl _ _⟩
  case round =>
   obtain ⟨q,hq,rfl,htk,hbel⟩:=hrel
   by_cases hlt:q < a.length
   ·have hltb:q < b.length:=by have:=HL.out;omega
    obtain ⟨xb,xo,hxe,hxc⟩:=(HX.out.below hbel).cell hlt
    obtain ⟨yb,yo,hye,hyc⟩:=(HY.out.below hbel).cell hltb
    have HB:=Lib.hid hbel
    have HT:=Lib.hid htk
    subst hxe hye
    clear hbel htk
    by_cases he:a[q] = b[q]
    ·have ht:=z9g _ _ he
     have HE:=Lib.hid he
     clear he
     go_wp2_with fail
     go_quiet (fail)
     go_wp2_with fail
     exact ⟨⟨q + 1,by omega,by go_num,zba hlt hltb HT.out HE.out,z0q HB.out nq⟩,by simp [intOf];omega⟩
    ·have ht:=zay _ _ he
     have HE:=Lib.hid he
     clear he
     go_wp2_with fail
     go_quiet (fail)
     go_wp2_with fail
     go_ret
     exact ⟨by rw [ne_at hlt hltb HE.out];rfl,z0q HB.out nq⟩
   ·obtain rfl:q = a.length:=by omega
    have HE:=Lib.hid (zds HL.out htk)
    have HB:=Lib.hid hbel
    clear htk hbel
    go_wp2_with fail
    go_ret
    exact ⟨by rw [decide_eq_true HE.out];rfl,HB.out⟩
 ·exact zdq x y c d a b w h
open Go.BigFrame
theorem z9j {A:List (List UInt8)} {n:Nat} (hn:A.length = n) (pa pb:Option Addr) (ca cb:Nat) (w:World) (hpa:StrsAt pa A w) (hpb:StrsAt pb A w) (hl:n ≤ 100000) :
 Calls Tryz.prog 36 #[.slice pa n ca,.slice pb n cb] w fun e w'=>e = .returned (.bool true) ∧ Below w.heap.size w w':=by
 subst hn
 have h:=ze7 pa pb ca cb A A w hpa hpb (by omega)
 rwa [show decide (A = A) = true from decide_eq_true rfl] at h
theorem OpsX.plain {X:Nat → Prop} {ao:Option Addr} {L:List OpN} {w:World} (h:OpsX X ao L w):OpsAt ao L w:=by
 rcases h with h | ⟨b,o,h1,h2,h3⟩
 ·exact .inl h
 ·refine .inr ⟨b,o,h1,h2,fun i x hx=>?_⟩
  obtain ⟨pa,pc,q1,q2,_⟩:=h3 i x hx
  exact ⟨pa,pc,q1,q2⟩
theorem zg3 {A:List OpN} {n:Nat} (hn:A.length = n) (pa pb:Option Addr) (ca cb:Nat) (w:World) (hA:∀ x ∈ A,x.Fit) (hpa:OpsAt pa A w) (hpb:OpsAt pb A w) (hl:n ≤ 1000) :
 Calls Tryz.prog 32 #[.slice pa n ca,.slice pb n cb] w fun e w'=>e = .returned (.bool true) ∧ Below w.heap.size w w':=by
 subst hn
 have h:=zhq A A pa pb ca cb w (fun x hx=>(hA x hx).ok) (fun x hx=>(hA x hx).ok) hpa hpb (fun x hx=>Nat.le_trans (hA x hx).many (by decide)) (fun x hx=>Nat.le_trans (hA x hx).many (by decide)) (by omega) (by omega)
 rwa [show decide (A = A) = true from decide_eq_true rfl] at h
theorem zl9 {s:DagN} (ht:Tame s) (key:List UInt8) (ks:List Int):(ofN s.ops key ks).length ≤ 1000 ∧ ∀ x ∈ ofN s.ops key ks,x.Fit:=by
 have hp:=z1e s.ops
 refine ⟨?_,fun x hx=>ht.ops x (hp.mem_iff.1 (List.mem_filter.1 hx).1)⟩
 have h1:=List.length_filter_le (fun o:OpN=>decide (o.d.key = key ∧ o.d.kind ∈ ks)) (z2g s.ops)
 have h2:=ht.many
 rw [hp.length_eq] at h1
 exact Nat.le_trans h1 (by omega)
theorem zl0 {s:DagN} (ht:Tame s) (ks:List Int):(z6l s.ops ks).length ≤ 1000:=by
 have h1:=z34 ((s.ops.filter fun o=>decide (o.d.kind ∈ ks)).map fun o=>o.d.key) _ (Nat.le_refl _)
 rw [List.take_length,List.length_map] at h1
 have h2:=List.length_filter_le (fun o:OpN=>decide (o.d.kind ∈ ks)) s.ops
 have h3:=ht.many
 exact Nat.le_trans h1 (Nat.le_trans h2 (by omega))
namespace lineIs
theorem walk (W:World) (hk:KAt W) (ao:Option Addr) (l:List MakeN) (c:Nat) (hs:MksAt ao l W) (hn:∀ x ∈ l,x.In) (ht:l.length ≤ 140737488351232) (key:List UInt8) (_hz:key.length ≤ 140737488351232)
 (bo:Option Addr) (r:List Int) (rc:Nat) (hr:IntsIn bo r W) (_hr:∀ z ∈ r,I64 z) (hl:r.length ≤ 140737488351232) :
 Calls Tryz.prog 6 #[.slice ao l.length c,.string ⟨key.toArray⟩,.slice bo r.length rc] W fun e W'=>e = .returned (.bool true) ∧ Below W.heap.size W W':=by
 have HAL:=Lib.hid (zdd W hk)
 have HBO:=Lib.hid (fun w1 (b:Below W.heap.size W w1)=>zi6 W ao l c w1 hs hn ht b (hk.below b))
 have HIR:=Lib.hid (fun w1 (b:Below W.heap.size W w1)=>hr.below b)
 have HSO:=Lib.hid (show (Tryz.prog.info? 38).bind (·.zero) = some (.agg (opL z05 none 0).toArray) by kernel_rfl)
 obtain ⟨nl,hnl⟩:∃ i,l.length = i:=⟨_,rfl⟩
 obtain ⟨nr,hnr⟩:∃ i,r.length = i:=⟨_,rfl⟩
 rw [hnl] at HBO ⊢
 rw [hnr] at hl ⊢
 have HNR:=Shut.mk hnr
 obtain ⟨nk,hnk⟩:∃ i,key.length = i:=⟨_,rfl⟩
 have HNK:=Shut.mk hnk
 clear hs hn ht hk hnl hr _hr hnr _hz
 go_enter Tryz.func6,Tryz.ntmps6
 go_wp2_with fail
 refine HAL.out.mono ?_
 rintro e w1 ⟨rfl,hb1⟩
 have HB1:=Lib.hid hb1
 clear hb1
 by_cases h10:nr ≤ 10
 ·have g1:decide ((10:Int) < (nr:Int)) = false:=decide_eq_false (by omega)
  by_cases h100:key.length ≤ 100
  ·have g2:decide ((100:Int) < (key.length:Int)) = false:=decide_eq_false (by omega)
   clear hnk
   go_wp2_with fail
   refine (HBO.out w1 HB1.out).mono ?_
   rintro e w2 ⟨Z,X,B,gs,T,s,hs,M,vo,vw,vn,vq,rfl,hset,hinv,htm,hdp,hgd,href,hb2⟩
   have HB2:=Lib.hid (HB1.out.trans (hb2.mono HB1.out.size))
   have hops:s.ops.length ≤ 1000:=by have:=htm.many;omega
   have HRW:=Lib.hid (zm7 Z gs vo vw vn vq s w2 href htm.ops hops)
   have hlr:(z2g s.ops).length = s.ops.length:=(z1e s.ops).length_eq
   have hlm:=z5s s
   have hrf:=z5r s hinv.nodupN htm
   obtain ⟨n,hn⟩:∃ z,s.ops.length = z:=⟨_,rfl⟩
   rw [hn] at hops hlr hlm
   obtain ⟨R,hR⟩:∃ z,z2g s.ops = z:=⟨_,rfl⟩
   have hmi:=z96 s
   rw [hR] at HRW hlr hlm hrf hmi
   have HRL:=Shut.mk hlr
   have HLM:=Shut.mk hlm
   have HFI:=Lib.hid hrf.2.1
   have HID:=Lib.hid hmi
   have HOR:=Lib.hid (fun w' (b:Below w2.heap.size w2 w')=>show Calls Tryz.prog 31 #[.pointer (some ⟨B.gs,0,none⟩)] w' fun e w''=>∃ v,e = .returned v ∧ OwnI w'.heap.size 25 v (R.map z00) w'' ∧ Below w'.heap.size w' w'' from hR ▸ z7e X B T s hs M w' (hset.below b) hinv.nodupN htm)
   have HRO:=Lib.hid (fun w' (b:Below w2.heap.size w2 w')=>show Calls Tryz.prog 33 #[.pointer (some ⟨B.gs,0,none⟩)] w' fun e w''=>∃ v,e = .returned v ∧ OwnO w'.heap.size 38 v R w'' ∧ Below w'.heap.size w' w'' from hR ▸ zgy X B T s hs M w' (hset.below b) hinv.nodupN htm)
   have HOF:=Lib.hid (fun w' (b:Below w2.heap.size w2 w')=>zdo X B T s hs M key bo r nr rc w' (hset.below b) hinv.nodupN htm hgd (HIR.out w' (HB2.out.trans (b.mono HB2.out.size))) HNR.out hl)
   have HRF:=Lib.hid (fun w' (b:Below w2.heap.size w2 w')=>ref_of11 Z gs vo vw vn vq s key bo r nr rc w' (href.below b) htm.ops (by rw [hn];exact hops) (HIR.out w' (HB2.out.trans (b.mono HB2.out.size))) HNR.out hl)
   have HKY:=Lib.hid (fun w' (b:Below w2.heap.size w2 w')=>zdy X B T s hs M bo r nr rc w' (hset.below b) hinv.nodupN htm hgd (HIR.out w' (HB2.out.trans (b.mono HB2.out.size))) HNR.out hl)
   have HRK:=Lib.hid (fun w' (b:Below w2.heap.size w2 w')=>zjw Z gs vo vw vn vq s bo r nr rc w' (href.below b) htm.ops (by rw [hn];exact hops) (HIR.out w' (HB2.out.trans (b.mono HB2.out.size))) HNR.out hl)
   obtain ⟨F,hF⟩:∃ z,ofN s.ops key r = z:=⟨_,rfl⟩
   have hff:=zl9 htm key r
   rw [hF] at HOF HRF hff
   obtain ⟨fl,hfl⟩:∃ z,F.length = z:=⟨_,rfl⟩
   have HFL:=Shut.mk hfl
   have HFF:=Lib.hid hff.2
   have HF1:=Lib.hid (show fl ≤ 1000 from hfl ▸ hff.1)
   obtain ⟨G,hG⟩:∃ z,z6l s.ops r = z:=⟨_,rfl⟩
   have hkl:=zl0 htm r
   rw [hG] at HKY HRK hkl
   obtain ⟨kl,hkl2⟩:∃ z,G.length = z:=⟨_,rfl⟩
   have HKL:=Shut.mk hkl2
   have HK1:=Lib.hid (show kl ≤ 100000 from by rw [← hkl2];omega)
   clear hset hinv htm hdp hgd href hb2 hlr hlm hrf hmi hR hF hff hfl hG hkl hkl2 hn HBO HAL HIR g1 g2 h10 h100
   go_wp2_with (first
    | (refine HRW.out.mono ?_;rintro e w3 ⟨v3,rfl,ho3,hb3⟩;obtain ⟨a3,c3,rfl⟩:=ho3.form;rw [HRL.out] at ho3 ⊢;have HA3:=Lib.hid ho3.at.plain;have HB3:=Lib.hid hb3;clear ho3 hb3)
    | (refine (HOR.out w3 HB3.out).mono ?_;rintro e w4 ⟨v4,rfl,ho4,hb4⟩;obtain ⟨a4,c4,rfl⟩:=ho4.form;rw [HLM.out] at ho4 ⊢;have HA4:=Lib.hid (ho4.at HID.out);have HB4:=Lib.hid hb4;have HB24:=Lib.hid (HB3.out.trans (hb4.mono HB3.out.size));clear ho4 hb4)
    | (refine (HRO.out w4 HB24.out).mono ?_;rintro e w5 ⟨v5,rfl,ho5,hb5⟩;obtain ⟨a5,c5,rfl⟩:=ho5.form;rw [HRL.out] at ho5 ⊢;have HA5:=Lib.hid ho5.at;have HB5:=Lib.hid hb5;clear ho5 hb5;have HSM:=Lib.hid (zg3 HRL.out a5 a3 c5 c3 w5 HFI.out HA5.out ((HA3.out.below HB4.out).below HB5.out) hops))
    | (refine HSM.out.mono ?_;rintro e w6 ⟨rfl,hb6⟩;have HB6:=Lib.hid (HB5.out.trans (hb6.mono HB5.out.size));clear hb6))
   have HR6:=Lib.hid ((HA3.out.below HB4.out).below HB6.out)
   have HN6:=Lib.hid (HA4.out.below HB6.out)
   have HB26:=Lib.hid (HB24.out.trans (HB6.out.mono HB24.out.size))
   go_loopw [46] (fun i wr=>∃ k:Nat,i = .int .i64 k ∧ k ≤ n ∧ Below w6.heap.size w6 wr) (fun i _=>n - (intOf i).toNat)
   case atStart=>exact ⟨0,rfl,Nat.zero_le _,Below.refl _ _⟩
   case round =>
    obtain ⟨wi,rfl⟩:∃ z,z = wr:=⟨_,rfl⟩
    obtain ⟨k,rfl,hk,hb⟩:=hrel
    have HBM:=Lib.hid hb
    have HRI:=Lib.hid (HR6.out.below hb)
    have HNI:=Lib.hid (HN6.out.below hb)
    clear hb
    by_cases hlt:k < n
    ·obtain ⟨o,ho⟩:∃ o,R[k]? = some o:=⟨_,List.getElem?_eq_getElem (by rw [HRL.out];exact hlt)⟩
     have HFO:=Lib.hid (HFI.out o (List.mem_of_getElem? ho))
     obtain ⟨br,rr,rfl,hbr,pa,pc,r1,i1⟩:=HRI.out.get ho
     obtain ⟨bn,on,rfl,hbn⟩:=HNI.out.some (by rw [HLM.out];omega)
     have g1:=HNI.out.get (i:=k) (by rw [HLM.out];omega)
     have hnx:(R.map z00).getD k [] = z00 o:=by
      rw [List.getD_eq_getElem?_getD,List.getElem?_map,ho]
      rfl
     rw [hnx] at g1
     have HRX:=Lib.hid r1
     have HIX:=Lib.hid i1
     have HSL:=Lib.hid (show (Tryz.prog.info? 38).map (·.size) = some (opL o pa pc).length by rw [z16 HFO.out.d.ref.1];exact Tryz.sizeO)
     have HSV:=Lib.hid (show (Tryz.prog.info? 38).map (·.size) = some (opV o pa pc).size by rw [z0b HFO.out.d.ref.1];exact Tryz.sizeO)
     have HSZ:=Lib.hid (show (opL z05 none 0).toArray.size = (opV o pa pc).size by rw [z0b HFO.out.d.ref.1];rfl)
     have HG1:=Lib.hid (show ∀ w',Below wi.heap.size wi w' → w'.rangeAt bn (on + k * 32) (z07 .u8 (z00 o)) from fun w' q=>z08 g1 q hbn)
     clear ho hbr r1 i1 g1 hnx hbn
     go_wp2_with (first
      | (refine wpList_load_mid rfl 38 _ rfl br (rr + k * 38) rfl (opL o pa pc) _ HRX.out Tryz.underlying38 rfl HSL.out ?_)
      | (refine z0d rfl 38 rfl (opL z05 none 0) HSO.out ?_)
      | (refine z02 rfl 38 _ _ rfl rfl wi.heap.size (opL z05 none 0).toArray (opV o pa pc) 38 rfl rfl (heap_alloc_new wi _) HSV.out HSZ.out (z1i o pa pc) ?_))
     intro w7 hcs hbs
     have hb7:Below wi.heap.size wi w7:=But.toBelow ((Below.refl _ wi).alloc (Nat.le_refl _) _) hbs.out (Nat.le_refl _) (by rw [World.size_alloc];exact Nat.le_succ _)
     have HC7:=Lib.hid (show ∀ w',Below w7.heap.size w7 w' → Cells wi.heap.size 38 (opV o pa pc) w' from fun w' q=>Cells.below hcs.out q)
     have HB7:=Lib.hid (HBM.out.trans (hb7.mono HBM.out.size))
     have HNM:=Lib.hid (fun w' (q:Below w7.heap.size w7 w')=>z44 o pa pc w' HFO.out ((HIX.out.below hb7).below q))
     have HG7:=Lib.hid (fun w' (q:Below w7.heap.size w7 w')=>HG1.out w' (hb7.trans (q.mono hb7.size)))
     have HXI:=Lib.hid (z1v o)
     obtain ⟨x,hx⟩:∃ x,z00 o = x:=⟨_,rfl⟩
     rw [hx] at HNM HG7 HXI
     have HS1:=Lib.hid (show (Tryz.prog.info? 25).map (·.size) = some x.length by rw [HXI.out.1];exact Tryz.sizeI)
     have HQG:=Lib.hid (show ∀ w,(eqGuard .neq 25 (.tmp 52) (.tmp 56) (.agg (z07 .u8 x).toArray) (.agg (z07 .u8 x).toArray)).run Tryz.prog w = .ok () w from fun w=>by rfl)
     have HQ2:=Lib.hid (show ∀ w,(binOp .neq 25 (.agg (z07 .u8 x).toArray) (.agg (z07 .u8 x).toArray)).run Tryz.prog w = .ok (.bool false) w from fun w=>by
      go_simp
      rw [z40 x x HXI.out.1 HXI.out.1 HXI.out.2 HXI.out.2]
      simp)
     have HIXI:=Lib.hid (fun w=>zec bn on n c4 k hlt w)
     obtain ⟨g12,hg12⟩:∃ z,wi.heap.size = z:=⟨_,rfl⟩
     rw [hg12] at HC7 ⊢
     clear hcs hbs hb7 hg12 hx HG1 HIX HRX
     go_upto_region 13 with (fail)
     refine z09 (fun w'=>Below w7.heap.size w7 w') (by kernel_rfl) (by kernel_rfl) (Below.refl _ _).drew ?_
     repeat (first
      | (go_big_quiet_want;refine z0k 38 _ rfl g12 (opV o pa pc) 38 _ rfl HC7.out Tryz.underlying38 rfl HSV.out ?_;go_big_quiet_on;simp only [Act.put,zS,zA,zB])
      | (go_big_quiet_want;refine z1n 34 _ _ rfl _ _ _ rfl rfl HIXI.out ?_;go_big_quiet_on;simp only [Act.put,zS,zA,zB])
      | (go_big_quiet_want;refine z0i 25 _ rfl bn (on + k * 32) x _ rfl HG7.out Tryz.underlying25 rfl HS1.out ?_;go_big_quiet_on;simp only [Act.put,zS,zA,zB])
      | (go_big_quiet_want;refine z2m .neq 25 25 (.tmp 52) (.tmp 56) rfl _ _ _ rfl rfl HQG.out HQ2.out ?_;go_big_quiet_on;simp only [Act.put,zS,zA,zB])
      | go_big_quiet_step ((intro hs';first
       | (go_at_call 26;exact (HNM.out _ hs').mono fun e w' h=>⟨h.1,hs'.trans (h.2.mono hs'.size)⟩)
       | rfl)))
     refine wpQuiet_nil ?_
     intro w8 hs8
     have HB8:=Lib.hid (HB7.out.trans (hs8.mono HB7.out.size))
     clear hs8
     go_wp2_with fail
     exact ⟨⟨k + 1,by go_num,by omega,HB8.out⟩,by simp [intOf];omega⟩
    ·obtain rfl:n = k:=by omega
     have HB2I:=Lib.hid (HB26.out.trans (HBM.out.mono HB26.out.size))
     go_wp2_with (first
      | (refine (HOF.out wi HB2I.out).mono ?_;rintro e w7 ⟨v7,rfl,ho7,hb7⟩;obtain ⟨a7,c7,rfl⟩:=ho7.form;rw [HFL.out] at ho7 ⊢;have HA7:=Lib.hid ho7.at;have HB7:=Lib.hid hb7;have HB27:=Lib.hid (HB2I.out.trans (hb7.mono HB2I.out.size));clear ho7 hb7)
      | (refine (HRF.out w7 HB27.out).mono ?_;rintro e w8 ⟨v8,rfl,ho8,hb8⟩;obtain ⟨a8,c8,rfl⟩:=ho8.form;rw [HFL.out] at ho8 ⊢;have HB28:=Lib.hid (HB27.out.trans (hb8.mono HB27.out.size));have HSF:=Lib.hid (zg3 HFL.out a7 a8 c7 c8 w8 HFF.out (HA7.out.below hb8) ho8.at.plain HF1.out);clear ho8 hb8)
      | (refine HSF.out.mono ?_;rintro e w9 ⟨rfl,hb9⟩;have HB29:=Lib.hid (HB28.out.trans (hb9.mono HB28.out.size));clear hb9)
      | (refine (HKY.out w9 HB29.out).mono ?_;rintro e w10 ⟨v10,rfl,ho10,hb10⟩;obtain ⟨a10,c10,rfl⟩:=ho10.form;rw [HKL.out] at ho10 ⊢;have HO10:=Lib.hid (z1g (by rw [HKL.out];exact ho10));have HB210:=Lib.hid (HB29.out.trans (hb10.mono HB29.out.size));clear ho10 hb10)
      | (refine (HRK.out w10 HB210.out).mono ?_;rintro e w11 ⟨v11,rfl,ho11,hb11⟩;obtain ⟨a11,c11,rfl⟩:=ho11.form;rw [HKL.out] at ho11 ⊢;have HB211:=Lib.hid (HB210.out.trans (hb11.mono HB210.out.size));have HST:=Lib.hid (z9j HKL.out a10 a11 c10 c11 w11 (HO10.out.below hb11) (z1g (by rw [HKL.out];exact ho11)) HK1.out);clear ho11 hb11)
      | (refine HST.out.mono ?_;rintro e w12 ⟨rfl,hb12⟩;have HB212:=Lib.hid (HB211.out.trans (hb12.mono HB211.out.size));clear hb12)
      | (refine (zhp w12).mono ?_;rintro e w13 ⟨v13,rfl,ho13,hb13⟩;obtain ⟨a13,c13,rfl⟩:=ho13.form;have HB213:=Lib.hid (HB212.out.trans (hb13.mono HB212.out.size));clear ho13 hb13)
      | (refine (zdg w13).mono ?_;rintro e w14 ⟨a14,c14,rfl,hb14⟩;have HB214:=Lib.hid (HB213.out.trans (hb14.mono HB213.out.size));clear hb14))
     go_ret
     exact ⟨rfl,HB2.out.trans (HB214.out.mono HB2.out.size)⟩
  ·have g2:decide ((100:Int) < (key.length:Int)) = true:=decide_eq_true (by omega)
   clear hnk
   go_wp2_with fail
   go_ret
   exact ⟨rfl,HB1.out⟩
 ·have g1:decide ((10:Int) < (nr:Int)) = true:=decide_eq_true (by omega)
  clear hnk
  go_wp2_with fail
  go_ret
  exact ⟨rfl,HB1.out⟩
end lineIs
end Go.Proofs.YtnbldbbbibpobaaGreatDoor
namespace Go.Proofs.YtnbldbbbibpobaaGreatDoor.lineIs
open Go.ChangeShapes Go.WideShapes Go.ChangeAt Go.RowKit
open Go.ChangeMaps (open_string shut_string)
set_option linter.unusedVariables false
theorem z64 (os:Os):laidMet Tryz.prog Rows.lineIsRow.laid ((z2a os).forCall (fun _ _=>0) ⟨#[],#[.slice none 0 0,.string ByteArray.empty,.slice none 0 0],[]⟩).memory :=
 laidMet_of_run' 8 (by kernel_rfl) (by kernel_rfl)
theorem reads (os:Os) {H:Type} (enc:TypeId × Value → H):∃ x,DataW.whole enc Tryz.prog ((z2a os).forCall (fun _ _=>0) ⟨#[],#[.slice none 0 0,.string ByteArray.empty,.slice none 0 0],[]⟩).memory Tryz.f6.params.toList Rows.lineIsSpec.vars false (#[.slice none 0 0,.string ByteArray.empty,.slice none 0 0]:Array Value).toList 8 = some x :=
 ⟨([.nil,.lit (.string []),.nil],[],[]),by kernel_rfl⟩
theorem lifted (os:Os) (started:os.Started) (H:Type) (enc:TypeId × Value → H) (F:Stop.Interp) :
 ReturnsInHanded {} Tryz.checked os 6 .any ((OpenSpec.ofChange Rows.lineIsSpec).preRow enc Tryz.prog Tryz.f6 Rows.lineIsRow.domain false Rows.lineIsRow.laid) (((OpenSpec.ofChange Rows.lineIsSpec).at F).post enc Tryz.prog Tryz.f6 false true false false):=by
 obtain ⟨x,hx⟩:=reads os enc
 refine returnsInHanded_of_row (C:=Tryz.checked) (s:=OpenSpec.ofChange Rows.lineIsSpec) zdu started (by kernel_rfl) Tryz.func6
  (witness_row_at (enc:=enc) (C:=Tryz.checked) false (z2a os) #[.slice none 0 0,.string ByteArray.empty,.slice none 0 0] rfl (by kernel_rfl) (by kernel_rfl) (by kernel_rfl)
   (OpenSpec.preRow_of_cond 8 hx rfl (fun k hk=>by cases hk) (by kernel_rfl) (z64 os))) ?_
 intro W base args ds gs before hval0 hW hcnd _ hsz0 hL _ _
 have hk:KAt W:=zit hL
 have hsz:(DataW.weightsEach Tryz.prog (Tryz.f6.params.toList ++ (OpenSpec.ofChange Rows.lineIsSpec).bare.plain.varTypes Tryz.prog) (ds ++ gs)).all (· ≤ reachBytes) = true:=hsz0
 have hval:∀ (j:Nat) t v,Tryz.f6.params[j]? = some t → args[j]? = some v → Value.okWide Tryz.prog W .any base t v:=hval0
 have hW':=hW
 obtain ⟨p,q,hA0,hV,rfl,hfz,hnd⟩:=hW
 have hA:DataW.TrodAll enc Tryz.prog W 0 (fun _=>true) true Tryz.f6.params.toList args.toList ds p:=hA0
 rw [Tryz.params6] at hA hval hsz
 obtain ⟨v0,vs0,d0,ds0,p0,q0,hargs,rfl,rfl,h0,r0⟩:=trodAll_cons hA
 obtain ⟨v1,vs1,d1,ds1,p1,q1,rfl,rfl,rfl,h1,r1⟩:=trodAll_cons r0
 obtain ⟨v2,vs2,d2,ds2,p2,q2,rfl,rfl,rfl,h2,r2⟩:=trodAll_cons r1
 obtain ⟨rfl,rfl,rfl⟩:=trodAll_nil r2
 obtain rfl:args = #[v0,v1,v2]:=by cases args;simp_all
 obtain ⟨rfl,rfl⟩:=trodVars_none hV
 have k0:=h0
 have lt0:∀ x ∈ p0,x.block < W.heap.size:=by obtain ⟨m,hm⟩:=k0;exact DataW.trod_lt m _ _ _ hm
 have z0:∀ n ∈ DataW.weights Tryz.prog 22 d0,n ≤ 140737488351232:=fun n hn=>of_decide_eq_true (List.all_eq_true.1 hsz n (DataW.weights_mem_each (j:=0) (t:=22) rfl rfl n hn))
 obtain ⟨ao0,l0,c0,rfl,s0,n0,t0⟩:=z7k (hval 0 22 v0 rfl rfl) h0 z0
 obtain ⟨a1,rfl,rfl,rfl,w1⟩:=open_string Tryz.underlying9 (hval 1 9 v1 rfl rfl) h1
 have z1:a1.data.toList.length ≤ 140737488351232:=sized_string hsz (j:=1) (t:=9) rfl rfl
 have k2:=h2
 have lt2:∀ x ∈ p2,x.block < W.heap.size:=by obtain ⟨m,hm⟩:=k2;exact DataW.trod_lt m _ _ _ hm
 have z2:∀ n ∈ DataW.weights Tryz.prog 23 d2,n ≤ 140737488351232:=fun n hn=>of_decide_eq_true (List.all_eq_true.1 hsz n (DataW.weights_mem_each (j:=2) (t:=23) rfl rfl n hn))
 obtain ⟨ao2,l2,c2,rfl,s2,n2,t2⟩:=zc3 (hval 2 23 v2 rfl rfl) h2 z2
 clear hA0 hval0
 refine (walk W hk ao0 l0 c0 s0 n0 t0 a1.data.toList z1 ao2 l2 c2 s2 n2 t2).mono fun e W' ⟨he,bel⟩=>?_
 subst he
 exact ⟨_,rfl,_,_,_,[],_,[],hW',trodAll_mk1 (shut_bool Tryz.underlying4 _),(trodAll_cons_mk (Below.trod z4z (by kernel_rfl) (of_decide_eq_true (by kernel_rfl)) k0 bel lt0) (trodAll_cons_mk (shut_string Tryz.underlying9 w1) (trodAll_cons_mk (Below.trod z4z (by kernel_rfl) (of_decide_eq_true (by kernel_rfl)) k2 bel lt2) trodAll_mk0))),rfl,bel.frame _,fun h=>by cases h⟩
theorem said:Rows.LineIsSaid :=
 OpenClaim.holds_of_cond 6 Tryz.f6 rfl rfl rfl rfl rfl rfl rfl ⟨rfl,rfl,rfl,rfl,rfl⟩ rfl rfl rfl rfl rfl (by kernel_rfl) Tryz.func6 (by kernel_rfl)
  (of_decide_eq_true (by kernel_rfl)) (by unfold Func.isWrapper;first | (rw [if_pos (by decide +kernel)];kernel_rfl) | (rw [if_neg (by decide +kernel)];exact ⟨rfl,rfl⟩))
  (fun os started H enc _ F=>by rw [OpenClaim.pre_eq_preRow];exact lifted os started H enc F)
theorem plain (f : FuncId) (fn : Func) (hf : Tryz.pinned.checked.prog.funcNamed "tribunal/tribunallaw11.LineIs" = some f) (hfn : Tryz.pinned.checked.prog.funcs[f]? = some fn) :
 true = Tryz.pinned.checked.prog.looks [] ∧ ∀ (j:Nat) t,fn.params[j]? = some t → Tryz.pinned.checked.prog.wantsStandIn t = false:=by
 obtain rfl : f = 6 := Option.some.inj ((show Tryz.prog.funcNamed "tribunal/tribunallaw11.LineIs" = some 6 by kernel_rfl).symm.trans hf) |>.symm
 obtain rfl:fn = Tryz.f6:=(Option.some.inj (Tryz.func6.symm.trans hfn)).symm
 refine ⟨by kernel_rfl,fun j t ht=>?_⟩
 have hall:Tryz.f6.params.toList.all (fun t=>!Tryz.prog.wantsStandIn t) = true:=by kernel_rfl
 have hm:t ∈ Tryz.f6.params.toList:=Array.mem_toList_iff.2 (Array.mem_of_getElem? ht)
 have h0:=List.all_eq_true.1 hall t hm
 have h1:Tryz.prog.wantsStandIn t = false:=by simpa using h0
 exact h1
theorem proved:Rows.LineIsCardSaid :=
 Claim7.holds_tied_plain_at .later [] _ _ _ _ said (fun _ h=>by cases h) (by kernel_rfl) (fun _ h=>by cases h) lineIs_row_tie rfl ⟨rfl,rfl⟩ (by kernel_rfl) rfl plain (by kernel_rfl)
#print axioms proved
end Go.Proofs.YtnbldbbbibpobaaGreatDoor.lineIs
