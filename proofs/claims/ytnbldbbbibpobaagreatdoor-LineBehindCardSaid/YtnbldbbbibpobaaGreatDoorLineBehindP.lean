/-
  The law LineBehind: for every input it answers true, and its arguments read as they did. Condition: the round constants' table lies as the program's text lays it (the card ties it).
-/
import Derived.Carry
import Derived.Deep.MidRow
import Derived.Deep.Slices
import Derived.DeepKeys5
import Derived.Great.BuildSlice
import Derived.Maps.Keyed
import Derived.OpenShut
import Derived.Test.YtnbldbbbibpobaaGreatDoorJ01
import Derived.Test.YtnbldbbbibpobaaGreatDoorJ02
import Derived.Test.YtnbldbbbibpobaaGreatDoorJ03
import Derived.Test.YtnbldbbbibpobaaGreatDoorJ04
import Derived.Test.YtnbldbbbibpobaaGreatDoorJ05
import Derived.Test.YtnbldbbbibpobaaGreatDoorJ06
import Derived.Test.YtnbldbbbibpobaaGreatDoorJ07
import Derived.Test.YtnbldbbbibpobaaGreatDoorJ08
import Derived.Test.YtnbldbbbibpobaaGreatDoorJ09
import Derived.Test.YtnbldbbbibpobaaGreatDoorJ10
import Derived.Test.YtnbldbbbibpobaaGreatDoorJ11
import Derived.Test.YtnbldbbbibpobaaGreatDoorJ12
import Derived.Test.YtnbldbbbibpobaaGreatDoorJ13
import Derived.Test.YtnbldbbbibpobaaGreatDoorJ14
import Derived.Test.YtnbldbbbibpobaaGreatDoorJ15
import Derived.Test.YtnbldbbbibpobaaGreatDoorJ16
import Derived.Test.YtnbldbbbibpobaaGreatDoorJ17
import Derived.Test.YtnbldbbbibpobaaGreatDoorJ18
import Derived.Test.YtnbldbbbibpobaaGreatDoorJ19
import Derived.Test.YtnbldbbbibpobaaGreatDoorJ20
import Derived.Test.YtnbldbbbibpobaaGreatDoorJ21
import Derived.Test.YtnbldbbbibpobaaGreatDoorJ22
import Derived.Test.YtnbldbbbibpobaaGreatDoorJ23
import Derived.Test.YtnbldbbbibpobaaGreatDoorJ24
import Derived.Test.YtnbldbbbibpobaaGreatDoorJ25
import Derived.Test.YtnbldbbbibpobaaGreatDoorJ26
set_option maxRecDepth 100000
set_option maxHeartbeats 20000000
namespace Go.Proofs.YtnbldbbbibpobaaGreatDoor
open Go.RowKit Go.ChangeShapes Go.WideShapes
theorem Ids.zeros (n:Nat):Ids (List.replicate n (List.replicate 32 0)):=fun z hz=>by
 obtain rfl:=(List.mem_replicate.1 hz).2
 exact ⟨rfl,by decide⟩
theorem z4x (n:Nat):z1o (List.replicate n (List.replicate 32 0)) = List.replicate (n * 32) (.int .u8 0):=by
 induction n with
 | zero=>rfl
 | succ n ih =>
   rw [List.replicate_succ,z1o,List.flatMap_cons]
   rw [show z07 .u8 (List.replicate 32 0) = List.replicate 32 (.int .u8 0) from rfl]
   have ih':List.flatMap (z07 .u8) (List.replicate n (List.replicate 32 0)) = List.replicate (n * 32) (.int .u8 0):=ih
   rw [ih',List.replicate_append_replicate]
   congr 1
   omega
theorem z3y (n:Nat):(madeCells (Value.agg (z07 .u8 (List.replicate 32 0)).toArray).cells (n * 32)).toList = z1o (List.replicate n (List.replicate 32 0)):=by
 rw [z4x]
 refine List.ext_getElem (by simp [madeCells]) fun j h1 h2=>?_
 have hz:(Value.agg (z07 .u8 (List.replicate 32 0)).toArray).cells = Array.replicate 32 (.int .u8 0):=rfl
 simp only [madeCells,hz,Array.getElem_toList,Array.getElem_map,Array.getElem_range,List.getElem_replicate,Array.size_replicate]
 have hj:j % 32 < 32:=Nat.mod_lt _ (by decide)
 rw [getElem!_pos _ _ (by simpa using hj),Array.getElem_replicate]
theorem OwnI.made {B g n:Nat} {e:TypeId} {w:World} (h:w.ownsRow B e 32 (.slice (some ⟨g,0,none⟩) n n) n (madeCells (Value.agg (z07 .u8 (List.replicate 32 0)).toArray).cells (n * 32)).toList) :
 OwnI B e (.slice (some ⟨g,0,none⟩) n n) (List.replicate n (List.replicate 32 0)) w:=by
 unfold OwnI
 rw [List.length_replicate,← z3y]
 exact h
end Go.Proofs.YtnbldbbbibpobaaGreatDoor
namespace Go.Proofs.YtnbldbbbibpobaaGreatDoor
open Go.RowKit
theorem zdl {s:DagN} (hn:s.names.Nodup) {x:OpN} (hx:x ∈ s.ops):z0z s.ops (z00 x) = x.depth:=by
 obtain ⟨i,hi,rfl⟩:=List.getElem_of_mem hx
 have hl:i < s.names.length:=by rw [DagN.names,List.length_map];exact hi
 have e:(s.ops.map z00).idxOf (z00 s.ops[i]) = i:=by
  have h1:(s.ops.map z00)[i]'hl = z00 s.ops[i]:=List.getElem_map ..
  rw [← h1]
  exact hn.idxOf_getElem i hl
 unfold z0z
 rw [e,List.getElem?_eq_getElem hi]
 rfl
open Go.MapKept
section
variable {P:Program} {w:World} {T K E:TypeId} {ops:Array Oper} {rest:List Oper} {o:Oper} {a:Act} {Q:Exit → Act → World → Prop}
theorem zab (hg:o.guard = none) (m x:Operand) (T K E:TypeId) (c:Bool) (ho:o.op = .lookup T m x c) (hk:IdKey P K) (hT:P.underlying T = some (.map K E)) (z:Value) (hz:(zeroValue E).run P w = .ok z w) (b:Nat) (L:List (List Nat × Value)) (h:MapN b L w) (n:List Nat) (hn:IdOk n)
 (hm:a.eval m = .map (some b)) (hx:a.eval x = idV n) (hK:wpList P ops Q rest (a.put o.dst (if c then .tuple #[atE L z n,.bool (decide (n ∈ L.map (·.1)))] else atE L z n)) w):wpList P ops Q (o :: rest) a w:=by
 refine wpList_plain hg fun K' hK'=>?_
 unfold Oper.wp execOp
 simp only [ho,hm,hx,h.lookup hk hT hz c hn,Sem.run_bind,Sem.run_pure,Result.andThen_ok]
 exact hK' _ _ hK
end
end Go.Proofs.YtnbldbbbibpobaaGreatDoor
namespace Go.Proofs.YtnbldbbbibpobaaGreatDoor
open Go.RowKit Go.BigFrame
theorem z9p (hs:List (List Nat)):(z41 hs).map (·.1) = hs:=by simp [z41,List.map_map,Function.comp_def]
end Go.Proofs.YtnbldbbbibpobaaGreatDoor
namespace Go.Proofs.YtnbldbbbibpobaaGreatDoor
open Go.RowKit
inductive Anc (s:DagN) (n:List Nat):List Nat → Prop
 | one {o:OpN} {p:List Nat}:o ∈ s.ops → z00 o = n → p ∈ o.preds → Anc s n p
 | more {m:List Nat} {o:OpN} {p:List Nat}:Anc s n m → o ∈ s.ops → z00 o = m → p ∈ o.preds → Anc s n p
theorem Anc.op {s:DagN} {n p:List Nat} (h:Anc s n p):∃ o ∈ s.ops,p ∈ o.preds:=by
 cases h with
 | one h1 _ h3=>exact ⟨_,h1,h3⟩
 | more _ h2 _ h4=>exact ⟨_,h2,h4⟩
theorem Anc.there {s:DagN} {n p:List Nat} (h:Anc s n p) (hc:∀ o ∈ s.ops,∀ p ∈ o.preds,p ∈ s.names):p ∈ s.names:=by
 obtain ⟨o,h1,h2⟩:=h.op
 exact hc o h1 p h2
theorem zkc {ops:List OpN}:∀ (L:List (List Nat)) (m:Int),m ≤ L.foldl (fun n p=>if n < z0z ops p then z0z ops p else n) m ∧ ∀ p ∈ L,z0z ops p ≤ L.foldl (fun n p=>if n < z0z ops p then z0z ops p else n) m
 | [],m=>⟨Int.le_refl _,fun p hp=>by cases hp⟩
 | q :: L, m => by
   rw [List.foldl_cons]
   obtain ⟨h1,h2⟩:=zkc (ops:=ops) L (if m < z0z ops q then z0z ops q else m)
   have h3:m ≤ (if m < z0z ops q then z0z ops q else m) ∧ z0z ops q ≤ (if m < z0z ops q then z0z ops q else m):=by split <;> omega
   refine ⟨Int.le_trans h3.1 h1,fun p hp=>?_⟩
   rcases List.mem_cons.1 hp with rfl | hp
   ·exact Int.le_trans h3.2 h1
   ·exact h2 p hp
theorem zf4 {s:DagN} (hn:s.names.Nodup) (hd:Deep s) {o:OpN} (ho:o ∈ s.ops) {p:List Nat} (hp:p ∈ o.preds):z0z s.ops p < z0z s.ops (z00 o):=by
 rw [zdl hn ho,hd.deep o ho]
 have:=(zkc (ops:=s.ops) o.preds 0).2 p hp
 show z0z s.ops p < z6i s.ops o.preds + 1
 unfold z6i
 omega
theorem Anc.less {s:DagN} (hn:s.names.Nodup) (hd:Deep s) {n p:List Nat} (h:Anc s n p):z0z s.ops p < z0z s.ops n:=by
 induction h with
 | one h1 h2 h3=>rw [← h2];exact zf4 hn hd h1 h3
 | more _ h2 h3 h4 ih =>
   have:=zf4 hn hd h2 h4
   rw [h3] at this
   omega
theorem z8g {α:Type} [DecidableEq α]:∀ {P L:List α},P.Nodup → (∀ x ∈ P,x ∈ L) → P.length ≤ L.length
 | [],L,_,_=>Nat.zero_le _
 | x :: r, L, hd, hs => by
   have hx:x ∈ L:=hs x (List.mem_cons_self ..)
   obtain ⟨h1,h2⟩:=List.nodup_cons.1 hd
   have:=z8g (P:=r) (L:=L.erase x) h2 (fun y hy=>(List.mem_erase_of_ne (fun (e:y = x)=>h1 (e ▸ hy))).2 (hs y (List.mem_cons_of_mem _ hy)))
   rw [List.length_erase_of_mem hx] at this
   have hl:=List.length_pos_of_mem hx
   rw [List.length_cons]
   omega
structure PastInv (s:DagN) (n:List Nat) (P Q:List (List Nat)):Prop where
 nodup:P.Nodup
 anc:∀ p ∈ P,Anc s n p
 todo:∀ q ∈ Q,q = n ∨ q ∈ P
 done:∀ m,m = n ∨ m ∈ P → m ∈ Q ∨ ∀ o ∈ s.ops,z00 o = m → ∀ p ∈ o.preds,p ∈ P
structure PastMid (s:DagN) (n m:List Nat) (P Q R:List (List Nat)):Prop where
 nodup:P.Nodup
 anc:∀ p ∈ P,Anc s n p
 todo:∀ q ∈ Q,q = n ∨ q ∈ P
 left:∀ p ∈ R,Anc s n p
 done:∀ k,k = n ∨ k ∈ P → k ∈ Q ∨ (∀ o ∈ s.ops,z00 o = k → ∀ p ∈ o.preds,p ∈ P) ∨ (k = m ∧ ∀ o ∈ s.ops,z00 o = m → ∀ p ∈ o.preds,p ∈ P ∨ p ∈ R)
section
variable {s:DagN} {n m p:List Nat} {P Q R:List (List Nat)}
theorem PastInv.new:PastInv s n [] [n]:=⟨List.nodup_nil,(fun p hp=>by cases hp),(fun q hq=>.inl (List.mem_singleton.1 hq)),fun m hm=>.inl (by
 rcases hm with rfl | hm
 ·exact List.mem_singleton.2 rfl
 ·cases hm)⟩
theorem PastInv.pop (h:PastInv s n P (Q ++ [m])) (hR:∀ o ∈ s.ops,z00 o = m → o.preds = R) (h0:R = [] ∨ ∃ o ∈ s.ops,z00 o = m ∧ o.preds = R):PastMid s n m P Q R:=by
 refine ⟨h.nodup,h.anc,fun q hq=>h.todo q (List.mem_append_left _ hq),fun p hp=>?_,fun k hk=>?_⟩
 ·rcases h0 with rfl | ⟨o,h1,h2,h3⟩
  ·cases hp
  ·rw [← h3] at hp
   rcases h.todo m (List.mem_append_right _ (List.mem_singleton.2 rfl)) with e | e
   ·exact .one h1 (h2.trans e) hp
   ·exact .more (h.anc m e) h1 h2 hp
 ·rcases h.done k hk with e | e
  ·rcases List.mem_append.1 e with e | e
   ·exact .inl e
   ·refine .inr (.inr ⟨List.mem_singleton.1 e,fun o ho hn p hp=>.inr ?_⟩)
    rw [← hR o ho hn]
    exact hp
  ·exact .inr (.inl e)
theorem PastMid.old (h:PastMid s n m P Q (p :: R)) (hp:p ∈ P):PastMid s n m P Q R :=
 ⟨h.nodup,h.anc,h.todo,fun q hq=>h.left q (List.mem_cons_of_mem _ hq),fun k hk=>by
  rcases h.done k hk with e | e | ⟨e1,e2⟩
  ·exact .inl e
  ·exact .inr (.inl e)
  ·refine .inr (.inr ⟨e1,fun o ho hn q hq=>?_⟩)
   rcases e2 o ho hn q hq with e | e
   ·exact .inl e
   ·rcases List.mem_cons.1 e with rfl | e
    ·exact .inl hp
    ·exact .inr e⟩
theorem PastMid.new (h:PastMid s n m P Q (p :: R)) (hp:p ∉ P):PastMid s n m (P ++ [p]) (Q ++ [p]) R:=by
 refine ⟨List.nodup_append.2 ⟨h.nodup,List.nodup_cons.2 ⟨List.not_mem_nil,List.nodup_nil⟩,fun a ha b hb e=>by
  rw [List.mem_singleton.1 hb] at e
  exact hp (e ▸ ha)⟩,fun q hq=>?_,fun q hq=>?_,fun q hq=>h.left q (List.mem_cons_of_mem _ hq),fun k hk=>?_⟩
 ·rcases List.mem_append.1 hq with hq | hq
  ·exact h.anc q hq
  ·rw [List.mem_singleton.1 hq]
   exact h.left p (List.mem_cons_self ..)
 ·rcases List.mem_append.1 hq with hq | hq
  ·exact (h.todo q hq).imp id (List.mem_append_left _)
  ·exact .inr (List.mem_append_right _ hq)
 ·have hk':(k = n ∨ k ∈ P) ∨ k = p:=by
   rcases hk with e | e
   ·exact .inl (.inl e)
   ·rcases List.mem_append.1 e with e | e
    ·exact .inl (.inr e)
    ·exact .inr (List.mem_singleton.1 e)
  rcases hk' with hk' | rfl
  ·rcases h.done k hk' with e | e | ⟨e1,e2⟩
   ·exact .inl (List.mem_append_left _ e)
   ·exact .inr (.inl fun o ho hn q hq=>List.mem_append_left _ (e o ho hn q hq))
   ·refine .inr (.inr ⟨e1,fun o ho hn q hq=>?_⟩)
    rcases e2 o ho hn q hq with e | e
    ·exact .inl (List.mem_append_left _ e)
    ·rcases List.mem_cons.1 e with rfl | e
     ·exact .inl (List.mem_append_right _ (List.mem_singleton.2 rfl))
     ·exact .inr e
  ·exact .inl (List.mem_append_right _ (List.mem_singleton.2 rfl))
theorem PastMid.fin (h:PastMid s n m P Q []):PastInv s n P Q :=
 ⟨h.nodup,h.anc,h.todo,fun k hk=>by
  rcases h.done k hk with e | e | ⟨rfl,e2⟩
  ·exact .inl e
  ·exact .inr e
  ·exact .inr fun o ho hn p hp=>(e2 o ho hn p hp).elim id (fun e=>by cases e)⟩
theorem PastInv.all (h:PastInv s n P []) (hp:Anc s n p):p ∈ P:=by
 induction hp with
 | one h1 h2 h3=>exact (h.done n (.inl rfl)).elim (fun e=>by cases e) (fun e=>e _ h1 h2 _ h3)
 | more _ h2 h3 h4 ih=>exact (h.done _ (.inr ih)).elim (fun e=>by cases e) (fun e=>e _ h2 h3 _ h4)
theorem PastMid.lenP (h:PastMid s n m P Q R) (hc:∀ o ∈ s.ops,∀ p ∈ o.preds,p ∈ s.names):P.length ≤ s.ops.length:=by
 have:=z8g h.nodup (fun x hx=>(h.anc x hx).there hc)
 rwa [DagN.names,List.length_map] at this
theorem PastInv.lenP (h:PastInv s n P Q) (hc:∀ o ∈ s.ops,∀ p ∈ o.preds,p ∈ s.names):P.length ≤ s.ops.length:=by
 have:=z8g h.nodup (fun x hx=>(h.anc x hx).there hc)
 rwa [DagN.names,List.length_map] at this
end
theorem zh8 {L:List OpN} (h:Rows L) {i j:Nat} {a b:OpN} (ha:L[i]? = some a) (hb:L[j]? = some b) (hij:i < j):z9r a b = true:=by
 obtain ⟨hi,rfl⟩:=List.getElem?_eq_some_iff.1 ha
 obtain ⟨hj,rfl⟩:=List.getElem?_eq_some_iff.1 hb
 exact List.pairwise_iff_getElem.1 h i j hi hj hij
theorem zk5 {L:List OpN} (h:Rows L) {i j:Nat} {a b:OpN} (ha:L[i]? = some a) (hb:L[j]? = some b) (hd:b.depth < a.depth):j < i:=by
 by_cases hij:j < i
 ·exact hij
 ·exfalso
  by_cases he:i = j
  ·subst he
   rw [ha] at hb
   cases hb
   omega
  ·have:=zh8 h ha hb (by omega)
   rcases befN_iff.1 this with h1 | ⟨h1,_⟩ <;> omega
theorem zfz (L:List OpN) {n:List Nat}:n ∈ (z2g L).map z00 ↔ n ∈ L.map z00:=((z1e L).map z00).mem_iff
theorem zjo {s:DagN} (hn:s.names.Nodup) (hl:∀ o ∈ s.ops,(z00 o).length = 32) (hd:Deep s) (hc:∀ o ∈ s.ops,∀ p ∈ o.preds,p ∈ s.names) {i:Nat} {n p:List Nat} (hi:((z2g s.ops).map z00)[i]? = some n) (hp:Anc s n p):p ∈ ((z2g s.ops).map z00).take i:=by
 have hR:=z4t hn hl
 rw [List.getElem?_map] at hi
 obtain ⟨a,ha,rfl⟩:=Option.map_eq_some_iff.1 hi
 have hpn:=(zfz s.ops).2 (hp.there hc)
 obtain ⟨b,hb,rfl⟩:=List.mem_map.1 hpn
 obtain ⟨j,hj⟩:=List.getElem?_of_mem hb
 have ham:a ∈ s.ops:=(z1e _).mem_iff.1 (List.mem_of_getElem? ha)
 have hbm:b ∈ s.ops:=(z1e _).mem_iff.1 hb
 have hless:=hp.less hn hd
 rw [zdl hn ham,zdl hn hbm] at hless
 have hji:=zk5 hR ha hj hless
 rw [← List.map_take]
 refine List.mem_map.2 ⟨b,?_,rfl⟩
 exact List.mem_of_getElem? (i:=j) (by rw [List.getElem?_take_of_lt hji];exact hj)
theorem row_once {L:List OpN} (hd:(L.map z00).Nodup) {i:Nat} {n:List Nat} (hi:((z2g L).map z00)[i]? = some n):n ∉ ((z2g L).map z00).take i:=by
 have hN:((z2g L).map z00).Nodup:=((z1e L).map z00).nodup_iff.2 hd
 intro hm
 obtain ⟨j,hj⟩:=List.getElem?_of_mem hm
 have hji:j < i:=by
  have:=(List.getElem?_eq_some_iff.1 hj).1
  rw [List.length_take] at this
  omega
 rw [List.getElem?_take_of_lt hji] at hj
 have:=(List.getElem?_inj (List.getElem?_eq_some_iff.1 hj).1 hN).1 (hj.trans hi.symm)
 omega
open Go.BigFrame
theorem z6k {L:List (List Nat)} {k m:Nat} (hm:L.length = m) (h:k < m):(L.take k ++ List.replicate (m - k) (List.replicate 32 0)).set k (L.getD k []) = L.take (k + 1) ++ List.replicate (m - (k + 1)) (List.replicate 32 0):=by
 have hl:(L.take k).length = k:=by rw [List.length_take];omega
 rw [List.set_append_right _ _ (by omega),hl,Nat.sub_self,show m - k = (m - (k + 1)) + 1 by omega,List.replicate_succ,List.set_cons_zero,List.take_succ_eq_append_getElem (by omega),List.append_assoc,List.getD_eq_getElem?_getD,List.getElem?_eq_getElem (by omega)]
 rfl
theorem z7e (X:Nat → Prop) (B:Bs) (T:Ents) (s:DagN) (hs:List (List Nat)) (M:Bh) (w:World) (h:SetAt X B T s hs M w) (hn:s.names.Nodup) (ht:Tame s) :
 Calls Tryz.prog 31 #[.pointer (some ⟨B.gs,0,none⟩)] w fun e w'=>∃ v,e = .returned v ∧ OwnI w.heap.size 25 v ((z2g s.ops).map z00) w' ∧ Below w.heap.size w w':=by
 have HA:=Lib.hid (zdc X B T s hs M w h hn ht)
 have HF:=Lib.hid (z5r s hn ht)
 clear h hn ht
 obtain ⟨L,hL⟩:∃ L,z2g s.ops = L:=⟨_,rfl⟩
 rw [hL] at HA HF ⊢
 clear hL
 obtain ⟨i0,hi,hz0,hz1,hz2⟩:=info_parts Tryz.infoI32
 have HIF:=Lib.hid hi
 have HZ0:=Lib.hid hz0
 have HZ1:=Lib.hid hz1
 have HZ2:=Lib.hid hz2
 have HR:=Lib.hid HF.out.2.2.1
 obtain ⟨m,hm⟩:∃ m,L.length = m:=⟨_,rfl⟩
 have HM:=Shut.mk hm
 have hm2:m ≤ 1000:=hm ▸ HF.out.1
 clear hi hz0 hz1 hz2 hm
 go_enter Tryz.func31,Tryz.ntmps31
 go_wp2_with (first
  | (refine HA.out.mono ?_;rintro e w1 ⟨v1,rfl,ho1,hb1⟩;obtain ⟨ap,cp,rfl⟩:=ho1.form;have HB1:=Lib.hid hb1;have HP:=Lib.hid ho1;rw [HM.out] at HP ⊢;clear ho1 hb1)
  | (at_make;refine wpList_make_full _ rfl _ _ 34 rfl w1.heap.size 25 i0 _ 32 Tryz.underlying34 HIF.out HZ0.out HZ1.out .i64 .i64 _ _ m rfl rfl rfl rfl (by rw [HZ2.out];omega) (by unfold maxLen;omega) (Nat.le_refl _) ?_))
 intro w2 ho2 hg2
 have HO2:=Lib.hid (OwnI.made ho2)
 have HB2:=Lib.hid ((Below.refl w1.heap.size w1).grown hg2 (Nat.le_refl _) (fun k hk=>by cases hk))
 obtain ⟨gr,hgr⟩:∃ g,w1.heap.size = g:=⟨_,rfl⟩
 have HGR:=Shut.mk hgr
 rw [hgr] at HO2 HB2 ⊢
 clear ho2 hg2 hgr
 go_wp2_with fail
 go_loopw [14] (fun i wr=>∃ k:Nat,i = .int .i64 k ∧ k ≤ m ∧ OwnI gr 25 (.slice (some ⟨gr,0,none⟩) m m) ((L.map z00).take k ++ List.replicate (m - k) (List.replicate 32 0)) wr ∧ Below gr w1 wr) (fun i _=>m - (intOf i).toNat)
 case atStart=>exact ⟨0,rfl,Nat.zero_le _,HO2.out,HB2.out⟩
 case round =>
  obtain ⟨wi,rfl⟩:∃ z,z = wr:=⟨_,rfl⟩
  obtain ⟨k,rfl,hk,ho,hb⟩:=hrel
  have HO:=Lib.hid ho
  have HB:=Lib.hid hb
  clear hb ho HO2 HB2
  by_cases hlt:k < m
  ·have hx:L[k]? = some (L.getD k z05):=by
    rw [List.getD_eq_getElem?_getD,List.getElem?_eq_getElem (by rw [HM.out];exact hlt)]
    rfl
   obtain ⟨gp,rfl,hgp⟩:∃ g,ap = some ⟨g,0,none⟩ ∧ g < w1.heap.size:=by
    rcases HP.out.formB with ⟨_,h2⟩ | ⟨g,c,h2,_,_,h3⟩
    ·have:=HM.out;rw [h2] at this;simp at this;omega
    ·injection h2 with h4 _ _
     exact ⟨g,h4,h3⟩
   have hnx:(L.map z00).getD k [] = z00 (L.getD k z05):=by
    rw [List.getD_eq_getElem?_getD,List.getElem?_map,hx]
    rfl
   have hts:=z6k (L:=L.map z00) (by rw [List.length_map];exact HM.out) hlt
   have hxm:L.getD k z05 ∈ L:=List.mem_of_getElem? hx
   obtain ⟨x,hxe⟩:∃ x,L.getD k z05 = x:=⟨_,rfl⟩
   rw [hxe] at hx hnx hxm
   rw [hnx] at hts
   have HTS:=Shut.mk hts
   have hr:=HR.out x hxm
   have HXR:=Lib.hid hr
   obtain ⟨hgl,pa,pc,q1,q2,q3⟩:=HP.out.get hx
   have HQ1:=Lib.hid (show wi.rangeAt gp (k * 70) (plL x pa pc) by rw [Nat.mul_comm];exact z08 q1 HB.out (by rw [← HGR.out];exact hgl))
   have HSL:=Lib.hid (show (Tryz.prog.info? 99).map (·.size) = some (plL x pa pc).length by rw [z2e hr];exact Tryz.sizePl)
   have HSV:=Lib.hid (show (Tryz.prog.info? 99).map (·.size) = some (plV x pa pc).size by rw [plV,List.size_toArray,z2e hr];exact Tryz.sizePl)
   have HSZ:=Lib.hid (show (opL z05 none 0 ++ z07 .u8 zeroI).toArray.size = (plV x pa pc).size by rw [plV,List.size_toArray,List.size_toArray,z2e hr];rfl)
   have HSA:=Lib.hid (show (plV x pa pc).all (·.oneCell') = true by rw [plV,List.all_toArray];exact List.all_eq_true.2 (z80 x pa pc))
   have HSI:=Lib.hid (show (Tryz.prog.info? 25).map (·.size) = some (z00 x).length by rw [z0p];exact Tryz.sizeI)
   clear hx hts hxe hr q1 q2 q3 hgl hxm hnx
   go_wp2_with (first
    | (refine wpList_load_mid rfl 99 _ rfl gp (k * 70) rfl (plL x pa pc) _ HQ1.out Tryz.underlying99 rfl HSL.out ?_)
    | (refine z0d rfl 99 rfl (opL z05 none 0 ++ z07 .u8 zeroI) Tryz.zeroPl ?_)
    | (refine z02 rfl 99 _ _ rfl rfl wi.heap.size (opL z05 none 0 ++ z07 .u8 zeroI).toArray (plV x pa pc) 99 rfl rfl (heap_alloc_new wi _) HSV.out HSZ.out HSA.out ?_))
   intro w5 hcs hbs
   have hb5:Below wi.heap.size wi w5:=But.toBelow ((Below.refl _ wi).alloc (Nat.le_refl _) _) hbs.out (Nat.le_refl _) (by rw [World.size_alloc];exact Nat.le_succ _)
   have HC5:=Lib.hid (z8l HXR.out hcs.out).2
   have HO5:=Lib.hid (HO.out.below hb5)
   have HB5:=Lib.hid (HB.out.trans (hb5.mono (HGR.out ▸ HB.out.size)))
   have HLN:=Lib.hid (show m = ((L.map z00).take k ++ List.replicate (m - k) (List.replicate 32 0)).length by rw [List.length_append,List.length_take,List.length_replicate,List.length_map,HM.out];omega)
   have HLI:=Lib.hid (show Ids ((L.map z00).take k ++ List.replicate (m - k) (List.replicate 32 0)) from Ids.append (fun y hy=>by
    obtain ⟨o,_,rfl⟩:=List.mem_map.1 (List.mem_of_mem_take hy)
    exact z1v o) (Ids.zeros _))
   have HNO:=Lib.hid (z1v x)
   obtain ⟨nx,hnx⟩:∃ z,z00 x = z:=⟨_,rfl⟩
   rw [hnx] at HC5 HTS HSI HNO
   clear hcs hbs hb5 hnx
   go_wp2_with (first
    | (refine z0a rfl 25 _ rfl wi.heap.size 38 nx _ rfl HC5.out Tryz.underlying25 rfl HSI.out ?_)
    | (refine z2o rfl 25 _ _ rfl rfl gr gr m m k (k * 32) 25 _ nx HLN.out (Nat.mul_comm _ _) rfl rfl HO5.out HLI.out hlt HNO.out.1 HNO.out.2 Tryz.sizeI ?_))
   intro w6 ho6 hb6
   have HO6:=Lib.hid (HTS.out ▸ ho6.out)
   have HB6:=Lib.hid (But.toBelow HB5.out hb6.out (Nat.le_refl _) (HGR.out ▸ HB5.out.size))
   clear ho6 hb6
   go_wp2_with fail
   exact ⟨⟨k + 1,by go_num,by omega,HO6.out,HB6.out⟩,by simp [intOf];omega⟩
  ·obtain rfl:k = m:=by omega
   have HE:=Lib.hid (show (L.map z00).take k ++ List.replicate (k - k) (List.replicate 32 0) = L.map z00 by rw [Nat.sub_self,List.replicate_zero,List.append_nil,List.take_of_length_le (by rw [List.length_map,HM.out];exact Nat.le_refl _)])
   go_wp2_with fail
   go_ret
   exact ⟨_,rfl,OwnI.mono (HE.out ▸ HO.out) (HGR.out ▸ HB1.out.size),HB1.out.trans (HB.out.mono (HGR.out ▸ HB1.out.size))⟩
theorem z5s (s:DagN):((z2g s.ops).map z00).length = s.ops.length:=by rw [List.length_map,(z1e s.ops).length_eq]
theorem z96 (s:DagN):Ids ((z2g s.ops).map z00):=fun x hx=>by
 obtain ⟨o,_,rfl⟩:=List.mem_map.1 hx
 exact z1v o
attribute [local go_sem] Oper.semAt_some
theorem keys_u (b:Nat) (w:World) :
 Calls Tryz.prog 86 #[.map (some b)] w fun x w'=>x = .returned (.func (.func 106) #[] #[.pointer (some ⟨w.heap.size,0,none⟩)]) ∧ Cells w.heap.size 77 #[.map (some b)] w' ∧ w'.heap.size = w.heap.size + 1 ∧ Below w.heap.size w w':=by
 go_enter Tryz.func86,Tryz.ntmps86
 go_wp2_with fail
 go_ret
 exact ⟨rfl,heap_alloc_new w _,World.size_alloc _ _,(Below.refl _ _).alloc (Nat.le_refl _) _⟩
theorem keys1_u (m l Bm b:Nat) (L:List (List Nat × Value)) (J Jx:List NId → World → Prop) (W:World) (hJ:AbidesFrom W.heap.size J) (hBm:W.cell? ⟨Bm,0,none⟩ = some (.map (some b))) (hM:MapN b L W)
 (hY:∀ pre (x:NId) W1,J pre W1 → pre.length < L.length → YieldAt Fence.wide (m - 1) Tryz.prog l #[.agg (z07 .u8 x.val).toArray] W1 fun e W' =>
  (e = .returned (.bool true) ∧ J (pre ++ [x]) W' ∧ KeepsWalks W1 W') ∨ (e = .returned (.bool false) ∧ Jx (pre ++ [x]) W'))
 (h0:J [] W) :
 CallsIn Fence.wide m Tryz.prog 106 #[.func (.yield l) #[] #[],.pointer (some ⟨Bm,0,none⟩)] W fun e W'=>(∃ v,e = .returned v) ∧
  ((∃ xs,(z24 xs).Perm (L.map (·.1)) ∧ J xs W') ∨ (∃ pre:List NId,pre.length ≤ L.length ∧ Jx pre W')):=by
 refine callsIn_wide.2 ?_
 have HJ:=Lib.hid hJ
 have HY:=Lib.hid hY
 have HM:=Lib.hid hM
 have H0:=Lib.hid h0
 clear hJ hY hM h0
 go_enter Tryz.func106,Tryz.ntmps106
 go_wp2_with (refine z7b rfl _ 77 rfl 25 92 Tryz.underlying77 rfl HM.out ?_)
 intro w0 hi0 hg0 hb0
 have HI0:=Lib.hid (show ∃ ss:List NId,IterN b W.heap.size L (z24 ss) w0 ∧ J ss w0 from ⟨[],hi0.out,HJ.out [] W w0 none H0.out hg0.out (fun r e=>by cases e)⟩)
 obtain ⟨r,hr⟩:∃ r,W.heap.size = r:=⟨_,rfl⟩
 rw [hr] at HI0 HJ ⊢
 clear hi0 hg0 hb0 HM H0 hBm hr
 go_wp2_with fail
 go_loopw [3] (fun _ wr=>∃ ss:List NId,IterN b r L (z24 ss) wr ∧ J ss wr) (fun _ wr=>wr.rangeLeft b r)
 case atStart=>exact HI0.out
 case round =>
  clear HI0
  obtain ⟨ss,hit,hJs⟩:=hrel
  have HIT:=Lib.hid hit
  have HJS:=Lib.hid hJs
  clear hit hJs
  go_wp2_with (refine z7r rfl _ rfl rfl HIT.out ?_ ?_)
  ·intro hp
   go_wp2_with fail
   refine bodyPost_end (results_none rfl _ _ _) rfl ?_
   exact ⟨⟨_,rfl⟩,.inl ⟨ss,hp.out,HJS.out⟩⟩
  ·intro n v w2 hnv hns hi2 hlt hg2 hen
   have hxok:IdOk n:=HIT.out.ok _ hnv.out
   have HX:=Lib.hid hxok
   have HLT:=Lib.hid hlt.out
   have hj2:J ss w2:=HJ.out ss wr w2 (some r) HJS.out hg2.out (fun q e=>by cases e;exact ⟨Nat.le_refl _,HIT.out.walk⟩)
   have HJ2:=Lib.hid hj2
   have HI2:=Lib.hid hi2.out
   have HS1:=Lib.hid (show (Tryz.prog.info? 25).map (·.size) = some n.length by rw [hxok.1];exact Tryz.sizeI)
   have HL2:=Lib.hid (show (List.replicate 32 0).length = n.length by rw [hxok.1];rfl)
   clear hnv hns hi2 hlt hg2 hxok hj2
   go_wp2_with (refine z06 rfl 25 _ _ rfl rfl w2.heap.size .u8 (List.replicate 32 0) n 25 rfl rfl (heap_alloc_new w2 _) HS1.out HL2.out ?_)
   intro w3 hc3 hb3
   have hB3:Below w2.heap.size w2 w3:=But.toBelow ((Below.refl _ _).alloc (Nat.le_refl _) _) hb3.out (Nat.le_refl _) (by rw [World.size_alloc];exact Nat.le_succ _)
   have HB3:=Lib.hid hB3
   have HC3:=Lib.hid hc3.out
   have HJ3:=Lib.hid (HJ.out ss w2 w3 none HJ2.out (z94 hB3 none) (fun q e=>by cases e))
   have HI3:=Lib.hid (HI2.out.kept (z8q hB3))
   have HR3:=Lib.hid (HI2.out.left_eq (z8q hB3))
   obtain ⟨g,hg⟩:∃ g,w2.heap.size = g:=⟨_,rfl⟩
   rw [hg] at HC3 ⊢
   clear hc3 hb3 hB3 HJ2 hg hen
   obtain ⟨fn,tmps,assign,body,hy,hR⟩:=HY.out ss ⟨n,HX.out⟩ w3 HJ3.out (by
    have:=HI3.out.count
    rw [List.length_append,z1j] at this
    simp only [List.length_singleton] at this
    omega)
   have HYY:=Lib.hid hy
   have HRR:=Lib.hid hR
   clear hy hR
   go_upto_region 3 with (fail)
   refine (wpIn_wide (n:=m)).1 ?_
   refine wpIn_region_lit ?_
   gi_wp2_with (refine z3f rfl 25 _ rfl g .u8 n 25 _ rfl HC3.out Tryz.underlying25 rfl HS1.out ?_)
   have hy:(Instr.yield l #[.agg (z07 .u8 n).toArray]).run Tryz.prog w3 = .ok (.round l fn tmps assign body) w3:=HYY.out
   rw [hy]
   refine ⟨(fun h=>by cases h),?_⟩
   refine HRR.out.mono ?_
   rintro e w4 (⟨rfl,hJ4,hk4⟩ | ⟨rfl,hJx4⟩)
   ·have HREL:=Lib.hid (show ∃ ss:List NId,IterN b r L (z24 ss) w4 ∧ J ss w4 from ⟨_,by rw [z5x];exact HI3.out.kept hk4,hJ4⟩)
    have HMS:=Lib.hid (show w4.rangeLeft b r < wr.rangeLeft b r from by rw [HI3.out.left_eq hk4,HR3.out];exact HLT.out)
    clear hJ4 hk4 hy
    gi_wp2
    go_wp2_with fail
    exact ⟨HREL.out,HMS.out⟩
   ·have HJ4:=Lib.hid hJx4
    clear hJx4 hy
    gi_wp2
    go_wp2_with fail
    refine bodyPost_ret (results_none rfl _ _ _) rfl ?_
    exact ⟨⟨_,rfl⟩,.inr ⟨_,by have:=HI3.out.count;rw [← z5x ss ⟨n,HX.out⟩,z1j] at this;exact this,HJ4.out⟩⟩
theorem zj3 (m Bm b:Nat) (L:List (List Nat × Value)) (w:World) (hBm:Cells Bm 77 #[.map (some b)] w) (hM:MapN b L w) :
 SeqStopsK Fence.wide m Tryz.prog 106 #[.pointer (some ⟨Bm,0,none⟩)] (fun x:NId=>#[.agg (z07 .u8 x.val).toArray]) KeepsWalks (fun xs=>(z24 xs).Perm (L.map (·.1))) (fun pre=>pre.length ≤ L.length) L.length w:=fun l J Jx W hW hJ _ hY h0=>by
 have hc:=(hBm.below hW).at 0
 exact keys1_u m l Bm b L J Jx W hJ hc (hM.below hW) hY h0
theorem zgo (b:Nat) (L:List (List Nat × Value)) (w:World) (hM:MapN b L w) (hn:L.length ≤ 100000) :
 Calls Tryz.prog 61 #[.map (some b)] w fun e w'=>∃ v,e = .returned v ∧ OwnI w.heap.size 25 v (z0g (L.map (·.1))) w' ∧ Below w.heap.size w w':=by
 have HK:=Lib.hid (keys_u b w)
 have HM:=Lib.hid hM
 have HN:=Lib.hid hn
 clear hM hn
 go_enter Tryz.func61,Tryz.ntmps61
 go_wp2_with (first
  | (refine HK.out.mono ?_; rintro e w2 ⟨rfl, hc, hz, hb⟩
     have HB:=Lib.hid hb
     have HS:=Lib.hid (z7q _ _ (enters_of Tryz.func106 (by kernel_rfl) rfl) (L.map (·.1)) (fun pre=>pre.length ≤ L.length) (fun x hx=>by
      obtain ⟨p,hp,rfl⟩:=List.mem_map.1 hx
      exact (HM.out.ok p hp).1) HM.out.nodup (by rw [List.length_map];exact HN.out) w2 (by rw [List.length_map];exact zj3 2 w.heap.size b L w2 hc (HM.out.below hb)))
     clear hc hz hb)
  | (refine HS.out.mono ?_;rintro e w3 ⟨v,rfl,ho,hb3⟩))
 go_ret
 exact ⟨v,rfl,ho.mono HB.out.size,HB.out.trans (hb3.mono HB.out.size)⟩
theorem zgt {o:Oper} {a:Act} {C:World → Prop} {K:Act → Prop} (x:Operand) (ho:o.op = .field 38 x 3) (y:OpN) (pa:Option Addr) (pc:Nat) (hy:y.d.ref.length = 32) (hx:a.eval x = .agg (opV y pa pc)) (hk:K (a.put o.dst (.slice pa y.preds.length pc))):o.quiet Tryz.prog a C K:=by
 have hc:(opV y pa pc)[37]? = some (.slice pa y.preds.length pc):=by
  rw [opV,List.getElem?_toArray,opL,List.getElem?_append_right (by rw [z0u hy];decide),z0u hy]
  rfl
 refine ⟨_,fun w _=>?_,hk⟩
 unfold Oper.quietAt execOp
 have hr:(Instr.field 38 (.agg (opV y pa pc)) 3).run Tryz.prog w = .ok (.slice pa y.preds.length pc) w:=by
  obtain ⟨Z,hZ⟩:∃ Z,opV y pa pc = Z:=⟨_,rfl⟩
  rw [hZ] at hc ⊢
  go_simp
  exact z7a (Tryz.isAgg34 w) hc
 simp only [ho,hx,hr,Sem.run_bind,Sem.run_pure,Result.andThen_ok]
 exact ⟨rfl,rfl⟩
theorem OwnI.cut {B g n c k:Nat} {e:TypeId} {L:List (List Nat)} {w:World} (h:OwnI B e (.slice (some ⟨g,0,none⟩) n c) L w) (hL:Ids L) (hn:n = L.length) (hk:k ≤ n):OwnI B e (.slice (some ⟨g,0,none⟩) k c) (L.take k) w:=by
 subst hn
 have hlen:(L.take k).length = k:=by rw [List.length_take];omega
 have hfk:(z1o (L.take k)).length = k * 32:=by rw [z1a (hL.take k),hlen]
 have hfl:z1o (L.take k) = (z1o L).take (k * 32):=by
  have e1:z1o L = z1o (L.take k) ++ z1o (L.drop k):=by rw [← z2h,List.take_append_drop]
  rw [e1,List.take_append_of_le_length (by rw [hfk];exact Nat.le_refl _),List.take_of_length_le (l:=z1o (L.take k)) (by rw [hfk];exact Nat.le_refl _)]
 refine ⟨by rw [hfk,hlen],?_⟩
 rcases h.2 with ⟨h0,_⟩ | ⟨g',cap,cur,h0,hB,hg,hc,hm,hs,ht⟩
 ·cases h0
 ·injection h0 with h0 _ h1
  injection h0 with h0
  injection h0 with h0
  subst h0 h1
  refine .inr ⟨g,c,cur,by rw [hlen],hB,hg,by rw [hlen];omega,hm,hs,?_⟩
  rw [hlen,hfl,← ht,List.take_take,Nat.min_eq_left (Nat.mul_le_mul_right 32 hk)]
theorem zb1 {P:Program} {ops:Array Oper} {rest:List Oper} {o:Oper} {a:Act} {w:World} {Q:Exit → Act → World → Prop} (hgd:o.guard = none) (t:TypeId) (x y:Operand) (ho:o.op = .slice t x none (some y) none) (vx vy r:Value) (hx:a.eval x = vx) (hy:a.eval y = vy)
 (hr:∀ w,(Instr.sliceAt t vx none (some vy) none).run P w = .ok r w) (h:wpList P ops Q rest (a.put o.dst r) w):wpList P ops Q (o :: rest) a w:=by
 refine wpList_plain hgd fun K hK=>?_
 unfold Oper.wp execOp
 simp only [ho,Option.map_some,Option.map_none,hx,hy,Sem.run_bind,hr w,Result.andThen_ok,Sem.run_pure]
 exact hK _ _ h
theorem ziu:∀ (P:List (List Nat)) (p:List Nat),atE (z41 P) (Value.agg #[]) p = .agg #[]
 | [],_=>rfl
 | q :: P, p => by
   have ih:=ziu P p
   unfold atE z41 at ih ⊢
   rw [List.map_cons,List.lookup_cons]
   split
   ·rfl
   ·exact ih
theorem zkz (w:World):(zeroValue 92).run Tryz.prog w = .ok (.agg #[]) w:=by go_simp
theorem zlw {P:List (List Nat)} {p:List Nat} (h:p ∉ P):z3c (z41 P) p (Value.agg #[]) = z41 (P ++ [p]):=by
 rw [z1u (by rw [z9p];exact h)]
 simp [z41]
theorem dev_past (X:Nat → Prop) (B:Bs) (T:Ents) (s:DagN) (hs:List (List Nat)) (M:Bh) (n:List Nat) (w:World) (h:SetAt X B T s hs M w) (hD:DInv s hs M [] []) (ht:Tame s) (hn:IdOk n) :
 Calls Tryz.prog 25 #[.pointer (some ⟨B.gs,0,none⟩),.agg (z07 .u8 n).toArray] w fun e w'=>∃ v P,e = .returned v ∧ OwnI w.heap.size 25 v (z0g P) w' ∧ P.Nodup ∧ (∀ p,p ∈ P ↔ Anc s n p) ∧ Below w.heap.size w w':=by
 have HLK:=Lib.hid (fun m=>show ∃ (x:OpN) (qa:Option Addr) (qc:Nat),atE T.p (.agg (opV z05 none 0)) m = .agg (opV x qa qc) ∧ x.d.ref.length = 32 ∧ IAt qa x.preds w ∧ Ids x.preds ∧ x.preds.length ≤ 70 ∧ (∀ o ∈ s.ops,z00 o = m → o.preds = x.preds) ∧ (x.preds = [] ∨ ∃ o ∈ s.ops,z00 o = m ∧ o.preds = x.preds) from by
  obtain ⟨x,qa,qc,e1,_,e3,e4,e5⟩:=z47 h.ops h.pm.nodup (fun x hx=>(ht.ops x hx).d.ref.1) m
  refine ⟨x,qa,qc,e1,e3,e4,?_⟩
  rcases e5 with ⟨_,h1,h2,_⟩ | ⟨h1,rfl,_⟩
  ·refine ⟨(ht.ops x h1).preds,(ht.ops x h1).many,fun o ho he=>?_,.inr ⟨x,h1,h2,rfl⟩⟩
   rw [z4a hD.nodupN ho h1 (he.trans h2.symm)]
  ·exact ⟨(fun p hp=>by cases hp),Nat.zero_le _,fun o ho he=>absurd (List.mem_map.2 ⟨o,ho,he⟩) h1,.inl rfl⟩)
 have HCL:=Lib.hid hD.closed
 have HIA:=Lib.hid (fun p (hp:Anc s n p)=>show IdOk p from by
  obtain ⟨o,h1,h2⟩:=hp.op
  exact (ht.ops o h1).preds p h2)
 have HN:=Lib.hid hn
 have hops:s.ops.length ≤ 1000:=by have:=ht.many;omega
 have HSN:=Lib.hid (show (Tryz.prog.info? 25).map (·.size) = some n.length by rw [hn.1];exact Tryz.sizeI)
 have hmm:=@run_makeMap Tryz.prog
 have x1:Blk w.heap.size 25 .u8 n (w.alloc (.cells (z07 .u8 n).toArray 25)):=heap_alloc_new w _
 have a1:Below w.heap.size w (w.alloc (.cells (z07 .u8 n).toArray 25)):=(Below.refl _ _).alloc (Nat.le_refl _) _
 have HS1:=Lib.hid (h.below a1)
 clear h hD ht hn
 go_enter Tryz.func25,Tryz.ntmps25
 go_upto_region 1 with (fail)
 obtain ⟨w1,hw1⟩:∃ z,z = w.alloc (.cells (z07 .u8 n).toArray 25):=⟨_,rfl⟩
 rw [← hw1] at x1 a1 HS1 ⊢
 have HX1:=Lib.hid x1
 have HA1:=Lib.hid a1
 obtain ⟨g3,hg3⟩:∃ g,w.heap.size = g:=⟨_,rfl⟩
 have HG3:=Shut.mk hg3
 rw [hg3] at HX1 ⊢
 have b2:Below w1.heap.size w1 (w1.alloc (.map #[] 0)):=(Below.refl _ _).alloc (Nat.le_refl _) _
 have m2:=z8f w1
 clear hw1 x1 a1 hg3
 go_upto_region 4 with (fail)
 obtain ⟨w2,hw2⟩:∃ z,z = w1.alloc (.map #[] 0):=⟨_,rfl⟩
 rw [← hw2] at b2 m2 ⊢
 have HM2:=Lib.hid m2
 have HB2:=Lib.hid (HA1.out.trans (b2.mono HA1.out.size))
 have HB12:=Lib.hid b2
 have HX2:=Lib.hid (HX1.out.below b2)
 obtain ⟨gp,hgp⟩:∃ g,w1.heap.size = g:=⟨_,rfl⟩
 have HGP:=Lib.hid (show w1.heap.size ≤ gp from hgp ▸ Nat.le_refl _)
 rw [hgp] at HM2 ⊢
 clear hw2 m2 b2 hgp hmm
 have HSNG:=Lib.hid HSN.out
 go_wp2_with (first
  | (refine z04 rfl 25 (.tmp 3) rfl g3 .u8 n 25 _ rfl HX2.out Tryz.underlying25 rfl HSN.out ?_)
  | (refine z13 rfl 34 25 _ rfl n rfl HN.out.1 Tryz.underlying34 Tryz.infoI32 ?_))
 intro w3 hc3 hb3
 have HB3:=Lib.hid (HB2.out.trans (hb3.out.mono HB2.out.size))
 have HM3:=Lib.hid (HM2.out.below hb3.out)
 have HS3:=Lib.hid (fun w' (b:Below w1.heap.size w1 w')=>HS1.out.below b)
 have HQ3:=Lib.hid (zh2 hc3.out HN.out.1 HB12.out.size)
 have HB13:=Lib.hid (show Below w1.heap.size w1 w3 from HB12.out.trans (hb3.out.mono HB12.out.size))
 clear hc3 hb3
 go_wp2_with fail
 go_loopw [6] (fun tv wr=>∃ (v:Value) (P Q:List (List Nat)),tv = v ∧ OwnI w1.heap.size 25 v Q wr ∧ MapN gp (z41 P) wr ∧ PastInv s n P Q ∧ Q.length ≤ P.length + 1 ∧ Below w1.heap.size w1 wr) (fun tv wr=>(1000 - zb3 wr gp) + lenV tv)
 case atStart=>exact ⟨_,[],[n],rfl,HQ3.out,HM3.out,PastInv.new,Nat.le_refl _,HB13.out⟩
 case round =>
  clear HQ3 HM3
  obtain ⟨wx,rfl⟩:∃ z,z = wr:=⟨_,rfl⟩
  obtain ⟨v,P,Q,rfl,hq,hm,hp,hql,hb⟩:=hrel
  have HM:=Lib.hid hm
  have HP:=Lib.hid hp
  have HB:=Lib.hid hb
  have HPL:=Lib.hid (hp.lenP HCL.out)
  have HIQ:=Lib.hid (show Ids Q from fun x hx=>by
   rcases hp.todo x hx with rfl | e
   ·exact HN.out
   ·exact HIA.out x (hp.anc x e))
  have hmz:=hm.size
  clear hm hp hb
  rcases List.eq_nil_or_concat Q with rfl | ⟨Q0,m,rfl⟩
  ·obtain ⟨oa,oc,rfl⟩:=hq.form
   have HASC:=Lib.hid (zgo gp _ wx HM.out (by rw [z41,List.length_map];have:=HPL.out;omega))
   clear hq hql
   go_wp2_with fail
   refine HASC.out.mono ?_
   rintro e w9 ⟨v9,rfl,ho9,hb9⟩
   rw [z9p] at ho9
   have HO9:=Lib.hid ho9
   have HB9:=Lib.hid (HB.out.trans (hb9.mono HB.out.size))
   clear ho9 hb9
   go_wp2_with fail
   go_ret
   exact ⟨_,P,rfl,HO9.out.mono (Nat.le_trans HA1.out.size HB.out.size),HP.out.nodup,fun p=>⟨HP.out.anc p,HP.out.all⟩,HA1.out.trans (HB9.out.mono HA1.out.size)⟩
  ·rw [List.concat_eq_append] at hq hql HP HIQ
   obtain ⟨q,hqe⟩:∃ q,Q0.length = q:=⟨_,rfl⟩
   obtain ⟨g,cap,rfl,hwg,hgx⟩:=hq.formB (by rw [List.length_append];exact Nat.succ_pos _)
   have hlq:(Q0 ++ [m]).length = q + 1:=by rw [List.length_append,hqe];rfl
   rw [hlq] at hq hql ⊢
   have HQE:=Shut.mk hqe
   have HQL:=Lib.hid hql
   have hcap:q + 1 ≤ cap:=by have:=hq.cap.1;rw [hlq] at this;exact this
   have hmi:IdOk m:=HIQ.out m (List.mem_append_right _ (List.mem_singleton.2 rfl))
   have HMI:=Lib.hid hmi
   have HMS:=Lib.hid (show (Tryz.prog.info? 25).map (·.size) = some m.length by rw [hmi.1];exact Tryz.sizeI)
   have hgm:(Q0 ++ [m]).getD q [] = m:=by rw [List.getD_eq_getElem?_getD,List.getElem?_append_right (by rw [hqe];exact Nat.le_refl _),hqe,Nat.sub_self];rfl
   have HG1:=Lib.hid (fun w' (b:Below wx.heap.size wx w')=>show w'.rangeAt g (q * 32) (z07 .u8 m) from by
    have:=((hq.at HIQ.out).below b).get (i:=q) (by rw [hlq];exact Nat.lt_succ_self _)
    rwa [hgm,Nat.zero_add] at this)
   have hcut:=hq.cut HIQ.out hlq.symm (Nat.le_succ q)
   rw [List.take_append_of_le_length (by rw [hqe];exact Nat.le_refl _),List.take_of_length_le (by rw [hqe];exact Nat.le_refl _)] at hcut
   have HC:=Lib.hid hcut
   have HSL:=Lib.hid (fun w=>z74 (some ⟨g,0,none⟩) (q + 1) cap q (Nat.le_succ q) hcap w)
   obtain ⟨y,qa,qc,e1,e2,e3,e4,e5,e6,e7⟩:=HLK.out m
   have HE1:=Shut.mk e1
   have HE2:=Lib.hid e2
   have HE4:=Lib.hid e4
   have HE5:=Lib.hid e5
   have HMID:=Lib.hid (HP.out.pop e6 e7)
   have HXB:=Lib.hid (HA1.out.trans (HB.out.mono HA1.out.size))
   have HIAY:=Lib.hid (fun w' (b:Below w1.heap.size w1 w')=>e3.below (HA1.out.trans (b.mono HA1.out.size)))
   have HWR:=Shut.mk (show wrap64 (q:Int) = (q:Int) by have:=HPL.out;have:=HQL.out;unfold wrap64;omega)
   have HIX:=Lib.hid (show q < q + 1 from Nat.lt_succ_self q)
   have HSX:=Lib.hid (fun w' (b:Below wx.heap.size wx w')=>HS3.out w' (HB.out.trans (b.mono HB.out.size)))
   clear hq hql hqe hcap hmi hgm hcut e1 e2 e3 e4 e5 e6 e7 HP hlq
   go_upto_region 7 with (fail)
   rw [HWR.out]
   have HCE:=Lib.hid (fun w' (hb:Below wx.heap.size wx w')=>(HSX.out w' hb).cell.1)
   refine z0c (fun w'=>Below wx.heap.size wx w') 10 (by kernel_rfl) (by kernel_rfl) (Below.refl _ _).drew ?_
   simp only [zC,zD,zE,zF]
   repeat (first
    | (go_big_quiet_want;refine z03 76 _ rfl ⟨B.gs,0,none⟩ _ rfl HCE.out Tryz.isAgg76 ?_;go_big_quiet_on;simp only [Act.put,zS,zA,zB])
    | (go_big_quiet_want;refine z0i 25 _ rfl g (q * 32) m _ rfl HG1.out Tryz.underlying25 rfl HMS.out ?_;go_big_quiet_on;simp only [Act.put,zS,zA,zB])
    | (go_big_quiet_want;refine z3b _ _ 76 25 38 false rfl Tryz.idKey Tryz.underlying76 (.agg (opV z05 none 0)) z6m B.p T.p (fun w' hb=>(HSX.out w' hb).pm) m HMI.out rfl rfl _ HE1.out ?_;go_big_quiet_on;simp only [Act.put,zS,zA,zB])
    | (go_big_quiet_want;refine zgt _ rfl y qa qc HE2.out rfl ?_;go_big_quiet_on;simp only [Act.put,zS,zA,zB])
    | go_big_quiet_step ((intro hs';rfl)))
   refine wpQuiet_nil ?_
   intro w6 hs6
   have HB6:=Lib.hid hs6
   clear hs6
   have HB16:=Lib.hid (HB.out.trans (HB6.out.mono HB.out.size))
   have HC6:=Lib.hid (HC.out.below HB6.out)
   have HM6:=Lib.hid (HM.out.below HB6.out)
   obtain ⟨Ln,hLn⟩:∃ k,y.preds.length = k:=⟨_,rfl⟩
   rw [hLn]
   have HLN:=Shut.mk hLn
   have HLN70:=Lib.hid (show Ln ≤ 70 from hLn ▸ HE5.out)
   clear hLn
   go_wp2_with (refine zb1 rfl 34 _ _ rfl _ _ _ rfl rfl HSL.out ?_)
   go_loopw [6,39] (fun tv i wr=>∃ (v:Value) (k:Nat) (P1 Q1:List (List Nat)),tv = v ∧ i = .int .i64 k ∧ k ≤ Ln ∧ OwnI w1.heap.size 25 v Q1 wr ∧ MapN gp (z41 P1) wr ∧ PastMid s n m P1 Q1 (y.preds.drop k) ∧ Q1.length + P.length = P1.length + q ∧ Below w1.heap.size w1 wr) (fun _ i _=>Ln - (intOf i).toNat)
   case atStart=>exact ⟨_,0,P,Q0,rfl,rfl,Nat.zero_le _,HC6.out,HM6.out,HMID.out,by rw [HQE.out];omega,HB16.out⟩
   case round =>
    clear HC6 HM6 HM HC HMID
    obtain ⟨wi,rfl⟩:∃ z,z = wr:=⟨_,rfl⟩
    obtain ⟨v,k,P1,Q1,rfl,rfl,hk,hq,hm,hp,hl,hb⟩:=hrel
    have HBI:=Lib.hid hb
    have HMI1:=Lib.hid hm
    have HP1:=Lib.hid hp
    have HL1:=Lib.hid hl
    have HPL1:=Lib.hid (hp.lenP HCL.out)
    have HQ1:=Lib.hid hq
    have HYI:=Lib.hid (HIAY.out _ hb)
    clear hb hm hp hl hq
    by_cases hlt:k < Ln
    ·obtain ⟨b,ob,rfl,hbl⟩:=HYI.out.some (by rw [HLN.out];omega)
     have g1:=HYI.out.get (i:=k) (by rw [HLN.out];omega)
     have i1:=Ids.getD HE4.out (i:=k) (by rw [HLN.out];omega)
     have hdr:y.preds.drop k = y.preds.getD k [] :: y.preds.drop (k + 1):=by
      rw [List.drop_eq_getElem_cons (by rw [HLN.out];exact hlt),List.getD_eq_getElem?_getD,List.getElem?_eq_getElem (by rw [HLN.out];exact hlt)]
      rfl
     obtain ⟨x,hx⟩:∃ x,y.preds.getD k [] = x:=⟨_,rfl⟩
     rw [hx] at g1 i1 hdr
     have HPD:=Lib.hid (hdr ▸ HP1.out)
     have HXI:=Lib.hid i1
     have HG1:=Lib.hid g1
     have HS1:=Lib.hid (show (Tryz.prog.info? 25).map (·.size) = some x.length by rw [i1.1];exact Tryz.sizeI)
     have HL2:=Lib.hid (show (List.replicate 32 0).length = x.length by rw [i1.1];rfl)
     clear hx g1 i1 hdr hbl
     have hl70:=HLN70.out
     go_wp2_with (first
      | (refine z0a rfl 25 _ rfl b (ob + k * 32) x _ rfl HG1.out Tryz.underlying25 rfl HS1.out ?_)
      | (refine z06 rfl 25 _ _ rfl rfl wi.heap.size .u8 (List.replicate 32 0) x 25 rfl rfl (heap_alloc_new wi _) HS1.out HL2.out ?_))
     intro w5 hc' hb'
     have HB5a:=Lib.hid (show Below wi.heap.size wi w5 from But.toBelow ((Below.refl _ _).alloc (Nat.le_refl _) _) hb'.out (Nat.le_refl _) (by rw [World.size_alloc];exact Nat.le_succ _))
     have HC5:=Lib.hid (show Blk wi.heap.size 25 .u8 x w5 from hc'.out)
     have HM5:=Lib.hid (HMI1.out.below HB5a.out)
     clear hc' hb'
     go_upto_region 13 with (first
      | (refine z04 rfl 25 (.tmp 10) rfl wi.heap.size .u8 x 25 _ rfl HC5.out Tryz.underlying25 rfl HS1.out ?_)
      | (refine zab rfl _ _ 77 25 92 true rfl Tryz.idKey Tryz.underlying77 (.agg #[]) (zkz _) gp (z41 P1) HM5.out x HXI.out rfl rfl ?_;rw [ziu,z9p]))
     obtain ⟨w7,hw7⟩:∃ z,z = w5.alloc (.cells #[] 92):=⟨_,rfl⟩
     have b7:Below w5.heap.size w5 w7:=hw7 ▸ (Below.refl _ _).alloc (Nat.le_refl _) _
     rw [← hw7]
     have HB7a:=Lib.hid (HB5a.out.trans (b7.mono HB5a.out.size))
     have HB7:=Lib.hid (HBI.out.trans (HB7a.out.mono HBI.out.size))
     have HC7:=Lib.hid (HC5.out.below b7)
     have HM7:=Lib.hid (HM5.out.below b7)
     have HQ7:=Lib.hid (HQ1.out.below HB7a.out)
     clear b7 hw7 HC5 HM5
     by_cases hin:x ∈ P1
     ·have HIN:=Lib.hid hin
      rw [decide_eq_true hin]
      clear hin
      go_wp2_with fail
      refine ⟨⟨_,k + 1,P1,Q1,rfl,by go_num,by omega,HQ7.out,HM7.out,HPD.out.old HIN.out,HL1.out,HB7.out⟩,by simp [intOf];omega⟩
     ·have HIN:=Lib.hid hin
      rw [decide_eq_false hin]
      have HL63:=Lib.hid (show Q1.length + [x].length ≤ 1000000 from by
       have:=HL1.out
       have:=HPL1.out
       have:=HQL.out
       simp only [List.length_cons,List.length_nil]
       omega)
      clear hin
      go_wp2_with (first
       | (refine z04 rfl 25 (.tmp 10) rfl wi.heap.size .u8 x 25 _ rfl HC7.out Tryz.underlying25 rfl HS1.out ?_)
       | (refine z2x rfl _ _ _ 77 25 92 rfl Tryz.idKey Tryz.underlying77 gp (z41 P1) HM7.out x HXI.out (.agg #[]) rfl rfl rfl ?_))
      intro w8 hm8 ho8
      rw [zlw HIN.out] at hm8
      have HM8:=Lib.hid hm8.out
      have HQ8:=Lib.hid (HQ7.out.only ho8.out (fun g hg e=>HM7.out.notRow HQ7.out (e ▸ hg)))
      have HC8:=Lib.hid (HC7.out.only ho8.out (fun e=>by have:=HMI1.out.lt;omega))
      have HB8:=Lib.hid (Only.toBelow HB7.out ho8.out (fun b e=>e ▸ HGP.out) HB7.out.size)
      obtain ⟨oa,oc,rfl⟩:=HQ8.out.form
      clear hm8 ho8
      go_wp2_with (first
       | (refine z04 rfl 25 (.tmp 10) rfl wi.heap.size .u8 x 25 _ rfl HC8.out Tryz.underlying25 rfl HS1.out ?_)
       | (refine z13 rfl 34 25 _ rfl x rfl HXI.out.1 Tryz.underlying34 Tryz.infoI32 ?_))
      intro w9 hk9 hb9
      have HB9:=Lib.hid (HB8.out.trans (hb9.out.mono HB8.out.size))
      have HM9:=Lib.hid (HM8.out.below hb9.out)
      have HQ9:=Lib.hid (HQ8.out.below hb9.out)
      have HIA9:=Lib.hid (z5m hk9.out)
      obtain ⟨g9,hg9⟩:∃ g,w8.heap.size = g:=⟨_,rfl⟩
      rw [hg9] at HIA9 ⊢
      clear hk9 hb9 hg9
      go_wp2_with (refine z0w rfl _ _ 34 25 rfl w1.heap.size (.agg (z07 .u8 (List.replicate 32 0)).toArray) rfl Tryz.underlying34 Tryz.infoI32 (.slice oa Q1.length oc) Q1 [x] (Ids.one HXI.out.1 HXI.out.2) (some ⟨g9,0,none⟩) 1 1 rfl rfl HQ9.out rfl HIA9.out (fun h=>by cases h) HL63.out HB9.out.size ?_)
      intro v10 w10 ho10 hg10 hd10
      have on10:Only (fun b=>(Value.slice oa Q1.length oc).ownBlock = some b) w9 w10:=(Only.refl _ w9).grown hg10.out (fun b hb=>.inl hb)
      have HB10:=Lib.hid (Only.toBelow HB9.out on10 (fun b e=>(World.ownsRow.lt HQ9.out b e).1) HB9.out.size)
      have HM10:=Lib.hid (HM9.out.only on10 (fun e=>HM9.out.notRow HQ9.out e))
      have HQ10:=Lib.hid ho10.out
      clear on10 ho10 hg10 hd10
      go_wp2_with fail
      exact ⟨⟨v10,k + 1,P1 ++ [x],Q1 ++ [x],rfl,by go_num,by omega,HQ10.out,HM10.out,HPD.out.new HIN.out,by have:=HL1.out;simp only [List.length_append];omega,HB10.out⟩,by simp [intOf];omega⟩
    ·obtain rfl:k = Ln:=by omega
     have HFI:=Lib.hid (show PastMid s n m P1 Q1 [] from by
      have:=HP1.out
      rwa [List.drop_of_length_le (by rw [HLN.out];exact Nat.le_refl _)] at this)
     obtain ⟨oa,oc,rfl⟩:=HQ1.out.form
     have hsz:=HMI1.out.size
     rw [z41,List.length_map] at hsz
     go_wp2_with fail
     have hsx:=HL1.out
     have hpl:=HPL.out
     have hpl1:=HPL1.out
     refine ⟨⟨_,P1,Q1,rfl,HQ1.out,HMI1.out,HFI.out.fin,?_,HBI.out⟩,?_⟩
     ·have:=HQL.out
      omega
     ·rw [hsz,hmz,z41,List.length_map]
      show 1000 - P1.length + Q1.length < 1000 - P.length + (q + 1)
      omega
theorem ref_in (ao:Option Addr) (cap m:Nat) (L:List (List Nat)) (n:List Nat) (w:World) (hat:IAt ao L w) (hL:Ids L) (hme:L.length = m) (hn:n.length = 32) (hnl:∀ y ∈ n,y < 256) (hm:m ≤ 1000000) :
 Calls Tryz.prog 27 #[.slice ao m cap,.agg (z07 .u8 n).toArray] w fun e w'=>e = .returned (.bool (decide (n ∈ L))) ∧ Below w.heap.size w w':=by
 have HM:=Shut.mk hme
 have HL:=Lib.hid hL
 have b1:Below w.heap.size w (w.alloc (.cells (z07 .u8 n).toArray 25)):=(Below.refl _ _).alloc (Nat.le_refl _) _
 have x1:Blk w.heap.size 25 .u8 n (w.alloc (.cells (z07 .u8 n).toArray 25)):=heap_alloc_new w _
 have HB:=Lib.hid b1
 have HX:=Lib.hid x1
 have HAT:=Lib.hid (hat.below b1)
 have HN:=Lib.hid hn
 have HNL:=Lib.hid hnl
 have HSN:=Lib.hid (show (Tryz.prog.info? 25).map (·.size) = some n.length by rw [hn];exact Tryz.sizeI)
 clear hL hat hme b1 x1 hn hnl
 go_enter Tryz.func27,Tryz.ntmps27
 go_upto_region 1 with (fail)
 obtain ⟨w1,hw1⟩:∃ x,x = w.alloc (.cells (z07 .u8 n).toArray 25):=⟨_,rfl⟩
 rw [← hw1] at HB HX HAT ⊢
 clear hw1
 go_wp2_with fail
 go_loopw [9] (fun i wr=>∃ k:Nat,k ≤ m ∧ i = .int .i64 k ∧ (∀ j,j < k → L.getD j [] ≠ n) ∧ Below w1.heap.size w1 wr) (fun i _=>m - (intOf i).toNat)
 case atStart=>exact ⟨0,Nat.zero_le _,rfl,fun j hj=>by omega,Below.refl _ _⟩
 case round =>
  obtain ⟨k,hk,rfl,hj,hbw⟩:=hrel
  have HJ:=Lib.hid hj
  have HBW:=Lib.hid hbw
  have HXW:=Lib.hid (HX.out.below hbw)
  have HATW:=Lib.hid (HAT.out.below hbw)
  clear hj hbw
  by_cases hlt:k < m
  ·obtain ⟨b,ob,rfl,hbl⟩:=HATW.out.some (by rw [HM.out];omega)
   have g1:=HATW.out.get (i:=k) (by rw [HM.out];omega)
   have i1:=Ids.getD HL.out (i:=k) (by rw [HM.out];omega)
   obtain ⟨x,hx⟩:∃ x,L.getD k [] = x:=⟨_,rfl⟩
   rw [hx] at g1 i1
   have HXE:=Shut.mk hx
   have HG1:=Lib.hid g1
   have HS1:=Lib.hid (show (Tryz.prog.info? 25).map (·.size) = some x.length by rw [i1.1];exact Tryz.sizeI)
   have HL2:=Lib.hid (show (List.replicate 32 0).length = x.length by rw [i1.1];rfl)
   have HEQ:=Lib.hid (fun w'=>z40 x n i1.1 HN.out i1.2 HNL.out w')
   have HXL:=Lib.hid i1.1
   have hxw:=HXW.out.lt
   have hgw:w.heap.size ≠ wr.heap.size:=by omega
   clear hx g1 i1 hbl hxw
   go_wp2_with (first
    | (refine z0a rfl 25 _ rfl b (ob + k * 32) x _ rfl HG1.out Tryz.underlying25 rfl HS1.out ?_)
    | (refine z06 rfl 25 _ _ rfl rfl wr.heap.size .u8 (List.replicate 32 0) x 25 rfl rfl (heap_alloc_new wr _) HS1.out HL2.out ?_))
   intro w5 hc' hb'
   have HY:=Lib.hid hc'.out
   have HX5:=Lib.hid ((HXW.out.alloc _).but hb'.out hgw)
   have HB5:=Lib.hid (show Below w1.heap.size w1 w5 from But.toBelow (HBW.out.alloc HBW.out.size _) hb'.out HBW.out.size (Nat.le_trans HBW.out.size (by rw [World.size_alloc];exact Nat.le_succ _)))
   clear hc' hb' HL2 hgw
   have heq:=HEQ.out
   have hs1:=HS1.out
   obtain ⟨z,hz⟩:∃ z,(x == n) = z:=⟨_,rfl⟩
   rw [hz] at heq
   have HZ:=Shut.mk hz
   clear hz HEQ
   cases z with
   | true =>
     have HR:=Shut.mk (show decide (n ∈ L) = true from decide_eq_true (by rw [show n = L.getD k [] by rw [HXE.out];exact (by have:=HZ.out;simpa using this:x = n).symm,List.getD_eq_getElem?_getD,List.getElem?_eq_getElem (by rw [HM.out];exact hlt)];exact List.getElem_mem _))
     go_wp2_with (first
      | (refine z04 rfl 25 (.tmp 6) rfl wr.heap.size .u8 _ 25 _ rfl HY.out Tryz.underlying25 rfl HS1.out ?_)
      | (refine z04 rfl 25 (.tmp 3) rfl w.heap.size .u8 _ 25 _ rfl HX5.out Tryz.underlying25 rfl HSN.out ?_))
     go_ret
     exact ⟨by rw [HR.out];rfl,HB.out.trans (HB5.out.mono HB.out.size)⟩
   | false =>
     have HNE:=Lib.hid (show x ≠ n by have:=HZ.out;simpa using this)
     go_wp2_with (first
      | (refine z04 rfl 25 (.tmp 6) rfl wr.heap.size .u8 _ 25 _ rfl HY.out Tryz.underlying25 rfl HS1.out ?_)
      | (refine z04 rfl 25 (.tmp 3) rfl w.heap.size .u8 _ 25 _ rfl HX5.out Tryz.underlying25 rfl HSN.out ?_))
     refine ⟨⟨k + 1,by omega,by go_num,fun q hq=>?_,HB5.out⟩,by simp [intOf];omega⟩
     by_cases hqj:q = k
     ·subst hqj
      rw [HXE.out]
      exact HNE.out
     ·exact HJ.out q (by omega)
  ·obtain rfl:k = m:=by omega
   have HR:=Shut.mk (show decide (n ∈ L) = false from decide_eq_false (zh5 (fun j hj=>HJ.out j (by rw [← HM.out];exact hj))).2)
   go_wp2_with fail
   go_ret
   exact ⟨by rw [HR.out];rfl,HB.out.trans (HBW.out.mono HB.out.size)⟩
theorem z7w {P:Program} {o:Oper} {a:Act} {C:World → Prop} {K:Act → Prop} (t:TypeId) (x y:Operand) (ho:o.op = .slice t x none (some y) none) (vx vy r:Value) (hx:a.eval x = vx) (hy:a.eval y = vy) (hr:∀ w,(Instr.sliceAt t vx none (some vy) none).run P w = .ok r w) (hk:K (a.put o.dst r)):o.quiet P a C K:=by
 refine ⟨_,fun w _=>?_,hk⟩
 unfold Oper.quietAt execOp
 simp only [ho,Option.map_some,Option.map_none,hx,hy,Sem.run_bind,hr w,Result.andThen_ok,Sem.run_pure]
 exact ⟨rfl,rfl⟩
namespace lineBehind
theorem walk (W:World) (hk:KAt W) (ao:Option Addr) (l:List MakeN) (c:Nat) (hs:MksAt ao l W) (hn:∀ x ∈ l,x.In) (ht:l.length ≤ 140737488351232) :
 Calls Tryz.prog 7 #[.slice ao l.length c] W fun e W'=>e = .returned (.bool true) ∧ Below W.heap.size W W':=by
 have HAL:=Lib.hid (zdd W hk)
 have HBO:=Lib.hid (fun w1 (b:Below W.heap.size W w1)=>zi6 W ao l c w1 hs hn ht b (hk.below b))
 obtain ⟨nl,hnl⟩:∃ i,l.length = i:=⟨_,rfl⟩
 rw [hnl] at HBO ⊢
 clear hs hn ht hk hnl
 go_enter Tryz.func7,Tryz.ntmps7
 go_wp2_with fail
 refine HAL.out.mono ?_
 rintro e w1 ⟨rfl,hb1⟩
 have HB1:=Lib.hid hb1
 clear hb1
 go_wp2_with fail
 refine (HBO.out w1 HB1.out).mono ?_
 rintro e w2 ⟨Z,X,B,gs,T,s,hs,M,vo,vw,vn,vq,rfl,hset,hinv,htm,hdp,hgd,href,hb2⟩
 have HSET:=Lib.hid hset
 have HINV:=Lib.hid hinv
 have HTM:=Lib.hid htm
 have HDP:=Lib.hid hdp
 have HREF:=Lib.hid href
 have HB2:=Lib.hid (HB1.out.trans (hb2.mono HB1.out.size))
 have HOR:=Lib.hid (z7e X B T s hs M w2 hset hinv.nodupN htm)
 obtain ⟨NM,hNM⟩:∃ z,(z2g s.ops).map z00 = z:=⟨_,rfl⟩
 have hml:=z5s s
 have hmi:=z96 s
 rw [hNM] at HOR hml hmi
 have HNM:=Shut.mk hNM
 have HID:=Lib.hid hmi
 have HL:=Shut.mk hml
 have HOL:=Lib.hid (show s.ops.length ≤ 1000 by have:=htm.many;omega)
 clear hset hinv htm hdp hgd href hb2 hNM hml hmi HBO HAL
 obtain ⟨m,hm⟩:∃ z,s.ops.length = z:=⟨_,rfl⟩
 have HM:=Shut.mk hm
 rw [hm] at HL HOL
 have hm2:m ≤ 1000:=HOL.out
 clear hm
 go_wp2_with (refine HOR.out.mono ?_;rintro e w3 ⟨v3,rfl,ho3,hb3⟩;obtain ⟨ap,cp,rfl⟩:=ho3.form;rw [HL.out] at ho3 ⊢;have HO3:=Lib.hid ho3;have HB3:=Lib.hid hb3;clear ho3 hb3)
 have HIA:=Lib.hid (HO3.out.at HID.out)
 go_loopw [21] (fun i wr=>∃ k:Nat,i = .int .i64 k ∧ k ≤ m ∧ Below w3.heap.size w3 wr) (fun i _=>m - (intOf i).toNat)
 case atStart=>exact ⟨0,rfl,Nat.zero_le _,Below.refl _ _⟩
 case round =>
  obtain ⟨wi,rfl⟩:∃ z,z = wr:=⟨_,rfl⟩
  obtain ⟨k,rfl,hk,hb⟩:=hrel
  have HBM:=Lib.hid hb
  have HBW:=Lib.hid (HB3.out.trans (hb.mono HB3.out.size))
  have HIW:=Lib.hid (HIA.out.below hb)
  clear hb
  by_cases hlt:k < m
  ·obtain ⟨b,ob,rfl,hbl⟩:=HIW.out.some (by rw [HL.out];omega)
   have g1:=HIW.out.get (i:=k) (by rw [HL.out];omega)
   have i1:=Ids.getD HID.out (i:=k) (by rw [HL.out];omega)
   have hxi:NM[k]? = some (NM.getD k []):=by
    rw [List.getD_eq_getElem?_getD,List.getElem?_eq_getElem (by rw [HL.out];exact hlt)]
    rfl
   obtain ⟨x,hx⟩:∃ x,NM.getD k [] = x:=⟨_,rfl⟩
   rw [hx] at g1 i1 hxi
   have hxr:=hxi
   rw [← HNM.out] at hxr
   have HBEH:=Lib.hid (fun p (h:Anc s x p)=>show p ∈ NM.take k from HNM.out ▸ zjo HINV.out.nodupN (fun o _=>z0p o) HDP.out HDP.out.closed hxr h)
   have HONE:=Lib.hid (show x ∉ NM.take k from HNM.out ▸ row_once HINV.out.nodupN hxr)
   have hxin:x ∈ s.names:=by
    have:=List.mem_of_getElem? hxr
    exact (zfz s.ops).1 this
   have HAT0:=Lib.hid (show 0 ≤ atN s.names x by rw [atN,if_pos hxin];omega)
   have HXI:=Lib.hid i1
   have HG1:=Lib.hid g1
   have HS1:=Lib.hid (show (Tryz.prog.info? 25).map (·.size) = some x.length by rw [i1.1];exact Tryz.sizeI)
   have HL2:=Lib.hid (show (List.replicate 32 0).length = x.length by rw [i1.1];rfl)
   clear hx g1 i1 hbl hxi hxr hxin
   go_wp2_with (first
    | (refine z0a rfl 25 _ rfl b (ob + k * 32) x _ rfl HG1.out Tryz.underlying25 rfl HS1.out ?_)
    | (refine z06 rfl 25 _ _ rfl rfl wi.heap.size .u8 (List.replicate 32 0) x 25 rfl rfl (heap_alloc_new wi _) HS1.out HL2.out ?_))
   intro w5 hc' hb'
   have HB5a:=Lib.hid (show Below wi.heap.size wi w5 from But.toBelow ((Below.refl _ _).alloc (Nat.le_refl _) _) hb'.out (Nat.le_refl _) (by rw [World.size_alloc];exact Nat.le_succ _))
   have HC5:=Lib.hid (show Blk wi.heap.size 25 .u8 x w5 from hc'.out)
   have HB5:=Lib.hid (HBM.out.trans (HB5a.out.mono HBM.out.size))
   have HPA:=Lib.hid (dev_past X B T s hs M x w5 (HSET.out.below (HB3.out.trans (HB5.out.mono HB3.out.size))) HINV.out HTM.out HXI.out)
   obtain ⟨g7,hg7⟩:∃ z,wi.heap.size = z:=⟨_,rfl⟩
   rw [hg7] at HC5 ⊢
   clear hc' hb' hg7
   go_wp2_with (first
    | (refine z04 rfl 25 (.tmp 7) rfl g7 .u8 x 25 _ rfl HC5.out Tryz.underlying25 rfl HS1.out ?_)
    | (refine HPA.out.mono ?_;rintro e w6 ⟨v6,P,rfl,ho6,hnd,hpa,hb6⟩;obtain ⟨aq,cq,rfl⟩:=ho6.form;have HO6:=Lib.hid ho6;have HPI:=Lib.hid hpa;have HND:=Lib.hid hnd;have HB6:=Lib.hid hb6;clear ho6 hnd hpa hb6))
   have HLE:=Lib.hid (show (z0g P).length ≤ 1000 by
    rw [z36]
    have:=z8g HND.out (fun x hx=>((HPI.out x).1 hx).there HDP.out.closed)
    rw [DagN.names,List.length_map,HM.out] at this
    omega)
   have HPM:=Lib.hid (fun p (h:p ∈ z0g P)=>HBEH.out p ((HPI.out p).1 (risingN_mem.1 h)))
   have HPD:=Lib.hid (show Ids (z0g P) from fun p h=>HID.out p (List.mem_of_mem_take (HPM.out p h)))
   obtain ⟨RP,hRP⟩:∃ z,z0g P = z:=⟨_,rfl⟩
   rw [hRP] at HO6 HLE HPM HPD ⊢
   obtain ⟨n,hn⟩:∃ z,RP.length = z:=⟨_,rfl⟩
   have HN:=Shut.mk hn
   have hn2:n ≤ 1000:=hn ▸ HLE.out
   rw [hn] at HO6 ⊢
   have HB36:=Lib.hid (HB5.out.trans (HB6.out.mono HB5.out.size))
   have HC6:=Lib.hid (HC5.out.below HB6.out)
   have HI6:=Lib.hid (HO6.out.at HPD.out)
   have HSLH:=Lib.hid (fun w=>z74 (some ⟨b,ob,none⟩) m cp k (by omega) (by have:=HO3.out.cap.1;rw [HL.out] at this;exact this) w)
   clear hRP hn HPA HO6
   go_loopw [30] (fun i wr=>∃ j:Nat,i = .int .i64 j ∧ j ≤ n ∧ Below w6.heap.size w6 wr) (fun i _=>n - (intOf i).toNat)
   case atStart=>exact ⟨0,rfl,Nat.zero_le _,Below.refl _ _⟩
   case round =>
    obtain ⟨wj,rfl⟩:∃ z,z = wr:=⟨_,rfl⟩
    obtain ⟨j,rfl,hj,hb⟩:=hrel
    have HBJ:=Lib.hid hb
    have HIJ:=Lib.hid (HI6.out.below hb)
    have HB3J:=Lib.hid (HB36.out.trans (hb.mono HB36.out.size))
    have HCJ:=Lib.hid (HC6.out.below hb)
    clear hb
    by_cases hjt:j < n
    ·obtain ⟨bj,oj,rfl,hbl⟩:=HIJ.out.some (by rw [HN.out];omega)
     have g1:=HIJ.out.get (i:=j) (by rw [HN.out];omega)
     have i1:=Ids.getD HPD.out (i:=j) (by rw [HN.out];omega)
     have hmem:RP.getD j [] ∈ RP:=by
      rw [List.getD_eq_getElem?_getD,List.getElem?_eq_getElem (by rw [HN.out];exact hjt)]
      exact List.getElem_mem _
     obtain ⟨y,hy⟩:∃ y,RP.getD j [] = y:=⟨_,rfl⟩
     rw [hy] at g1 i1 hmem
     have hym:=HPM.out y hmem
     have HYI:=Lib.hid i1
     have HG2:=Lib.hid g1
     have HS2:=Lib.hid (show (Tryz.prog.info? 25).map (·.size) = some y.length by rw [i1.1];exact Tryz.sizeI)
     have HL3:=Lib.hid (show (List.replicate 32 0).length = y.length by rw [i1.1];rfl)
     have HYM:=Shut.mk (show decide (y ∈ NM.take k) = true from decide_eq_true hym)
     clear hy g1 i1 hbl hmem hym
     go_wp2_with (first
      | (refine z0a rfl 25 _ rfl bj (oj + j * 32) y _ rfl HG2.out Tryz.underlying25 rfl HS2.out ?_)
      | (refine z06 rfl 25 _ _ rfl rfl wj.heap.size .u8 (List.replicate 32 0) y 25 rfl rfl (heap_alloc_new wj _) HS2.out HL3.out ?_))
     intro w7 hc' hb'
     have hb7:Below wj.heap.size wj w7:=But.toBelow ((Below.refl _ _).alloc (Nat.le_refl _) _) hb'.out (Nat.le_refl _) (by rw [World.size_alloc];exact Nat.le_succ _)
     have HC7:=Lib.hid (show Blk wj.heap.size 25 .u8 y w7 from hc'.out)
     have HB7:=Lib.hid (HBJ.out.trans (hb7.mono HBJ.out.size))
     have HB37:=Lib.hid (HB3J.out.trans (hb7.mono HB3J.out.size))
     have HIN:=Lib.hid (fun w' (q:Below w7.heap.size w7 w')=>show Calls Tryz.prog 27 #[.slice (some ⟨b,ob,none⟩) k cp,.agg (z07 .u8 y).toArray] w' fun e w''=>e = .returned (.bool true) ∧ Below w'.heap.size w' w'' from
      HYM.out ▸ ref_in (some ⟨b,ob,none⟩) cp k (NM.take k) y w' ((HIA.out.below (HB37.out.trans (q.mono HB37.out.size))).take k) (HID.out.take k) (by rw [List.length_take,HL.out];omega) HYI.out.1 HYI.out.2 (by omega))
     have HCC:=Lib.hid (fun w' (q:Below w7.heap.size w7 w')=>HC7.out.below q)
     obtain ⟨g9,hg9⟩:∃ z,wj.heap.size = z:=⟨_,rfl⟩
     rw [hg9] at HCC ⊢
     clear hc' hb' hb7 hg9 HC7 HL3
     go_upto_region 11 with (fail)
     refine z09 (fun w'=>Below w7.heap.size w7 w') (by kernel_rfl) (by kernel_rfl) (Below.refl _ _).drew ?_
     repeat (first
      | (go_big_quiet_want;refine z7w 34 _ _ rfl _ _ _ rfl rfl HSLH.out ?_;go_big_quiet_on;simp only [Act.put,zS,zA,zB])
      | (go_big_quiet_want;refine z0x 25 (.tmp 9) rfl g9 .u8 y 25 _ rfl HCC.out Tryz.underlying25 rfl HS2.out ?_;go_big_quiet_on;simp only [Act.put,zS,zA,zB])
      | go_big_quiet_step ((intro hs';first
       | (go_at_call 27;exact (HIN.out _ hs').mono fun e w' h=>⟨h.1,hs'.trans (h.2.mono hs'.size)⟩)
       | rfl)))
     refine wpQuiet_nil ?_
     intro w8 hs8
     have HB8:=Lib.hid (HB7.out.trans (hs8.mono HB7.out.size))
     clear hs8
     go_wp2_with fail
     exact ⟨⟨j + 1,by go_num,by omega,HB8.out⟩,by simp [intOf];omega⟩
    ·obtain rfl:j = n:=by omega
     have HXD:=Lib.hid (fun w' (q:Below wj.heap.size wj w')=>HCJ.out.below q)
     have HINX:=Lib.hid (fun w' (q:Below wj.heap.size wj w')=>show Calls Tryz.prog 27 #[.slice (some ⟨b,ob,none⟩) k cp,.agg (z07 .u8 x).toArray] w' fun e w''=>e = .returned (.bool false) ∧ Below w'.heap.size w' w'' from
      (decide_eq_false HONE.out) ▸ ref_in (some ⟨b,ob,none⟩) cp k (NM.take k) x w' ((HIA.out.below (HB3J.out.trans (q.mono HB3J.out.size))).take k) (HID.out.take k) (by rw [List.length_take,HL.out];omega) HXI.out.1 HXI.out.2 (by omega))
     have HATX:=Lib.hid (fun w' (q:Below wj.heap.size wj w')=>zai Z gs vo vw vn vq s x w' (HREF.out.below (HB3.out.trans ((HB3J.out.trans (q.mono HB3J.out.size)).mono HB3.out.size))) HXI.out.1 HXI.out.2 (by rw [HM.out];omega))
     obtain ⟨A0,hA0⟩:∃ z,atN s.names x = z:=⟨_,rfl⟩
     rw [hA0] at HATX HAT0
     have hge:decide (A0 < 0) = false:=decide_eq_false (by have:=HAT0.out;omega)
     clear hA0
     go_upto_region 14 with (fail)
     refine z09 (fun w'=>Below wj.heap.size wj w') (by kernel_rfl) (by kernel_rfl) (Below.refl _ _).drew ?_
     repeat (first
      | go_big_quiet_skip
      | (go_big_quiet_want;refine z7w 34 _ _ rfl _ _ _ rfl rfl HSLH.out ?_;go_big_quiet_on;simp only [Act.put,zS,zA,zB])
      | (go_big_quiet_want;refine z0x 25 (.tmp 7) rfl g7 .u8 x 25 _ rfl HXD.out Tryz.underlying25 rfl HS1.out ?_;go_big_quiet_on;simp only [Act.put,zS,zA,zB])
      | go_big_quiet_step ((intro hs';first
       | (go_at_call 27;exact (HINX.out _ hs').mono fun e w' h=>⟨h.1,hs'.trans (h.2.mono hs'.size)⟩)
       | (go_at_call 21;exact (HATX.out _ hs').mono fun e w' h=>⟨h.1,hs'.trans (h.2.mono hs'.size)⟩)
       | rfl)))
     refine wpQuiet_nil ?_
     intro w8 hs8
     have HB8:=Lib.hid (HB3J.out.trans (hs8.mono HB3J.out.size))
     clear hs8
     go_wp2_with fail
     exact ⟨⟨k + 1,by go_num,by omega,HB8.out⟩,by simp [intOf];omega⟩
  ·obtain rfl:k = m:=by omega
   have HRW:=Lib.hid (HREF.out.below HBW.out)
   have c0:=(HRW.out.cells).at 0
   obtain ⟨ro,rc,hvo⟩:=HRW.out.ops.form
   rw [HM.out] at hvo
   rw [hvo] at c0
   simp only [List.getElem?_toArray,List.getElem?_cons_zero] at c0
   have HBF:=Lib.hid (HB2.out.trans (HBW.out.mono HB2.out.size))
   go_wp2_with fail
   go_ret
   exact ⟨rfl,HBF.out⟩
end lineBehind
end Go.Proofs.YtnbldbbbibpobaaGreatDoor
namespace Go.Proofs.YtnbldbbbibpobaaGreatDoor.lineBehind
open Go.ChangeShapes Go.WideShapes Go.ChangeAt Go.RowKit
open Go.ChangeMaps (open_string shut_string)
set_option linter.unusedVariables false
theorem z64 (os:Os):laidMet Tryz.prog Rows.lineBehindRow.laid ((z2a os).forCall (fun _ _=>0) ⟨#[],#[.slice none 0 0],[]⟩).memory :=
 laidMet_of_run' 8 (by kernel_rfl) (by kernel_rfl)
theorem reads (os:Os) {H:Type} (enc:TypeId × Value → H):∃ x,DataW.whole enc Tryz.prog ((z2a os).forCall (fun _ _=>0) ⟨#[],#[.slice none 0 0],[]⟩).memory Tryz.f7.params.toList Rows.lineBehindSpec.vars false (#[.slice none 0 0]:Array Value).toList 8 = some x :=
 ⟨([.nil],[],[]),by kernel_rfl⟩
theorem lifted (os:Os) (started:os.Started) (H:Type) (enc:TypeId × Value → H) (F:Stop.Interp) :
 ReturnsInHanded {} Tryz.checked os 7 .any ((OpenSpec.ofChange Rows.lineBehindSpec).preRow enc Tryz.prog Tryz.f7 Rows.lineBehindRow.domain false Rows.lineBehindRow.laid) (((OpenSpec.ofChange Rows.lineBehindSpec).at F).post enc Tryz.prog Tryz.f7 false true false false):=by
 obtain ⟨x,hx⟩:=reads os enc
 refine returnsInHanded_of_row (C:=Tryz.checked) (s:=OpenSpec.ofChange Rows.lineBehindSpec) zdu started (by kernel_rfl) Tryz.func7
  (witness_row_at (enc:=enc) (C:=Tryz.checked) false (z2a os) #[.slice none 0 0] rfl (by kernel_rfl) (by kernel_rfl) (by kernel_rfl)
   (OpenSpec.preRow_of_cond 8 hx rfl (fun k hk=>by cases hk) (by kernel_rfl) (z64 os))) ?_
 intro W base args ds gs before hval0 hW hcnd _ hsz0 hL _ _
 have hk:KAt W:=zit hL
 have hsz:(DataW.weightsEach Tryz.prog (Tryz.f7.params.toList ++ (OpenSpec.ofChange Rows.lineBehindSpec).bare.plain.varTypes Tryz.prog) (ds ++ gs)).all (· ≤ reachBytes) = true:=hsz0
 have hval:∀ (j:Nat) t v,Tryz.f7.params[j]? = some t → args[j]? = some v → Value.okWide Tryz.prog W .any base t v:=hval0
 have hW':=hW
 obtain ⟨p,q,hA0,hV,rfl,hfz,hnd⟩:=hW
 have hA:DataW.TrodAll enc Tryz.prog W 0 (fun _=>true) true Tryz.f7.params.toList args.toList ds p:=hA0
 rw [Tryz.params7] at hA hval hsz
 obtain ⟨v0,vs0,d0,ds0,p0,q0,hargs,rfl,rfl,h0,r0⟩:=trodAll_cons hA
 obtain ⟨rfl,rfl,rfl⟩:=trodAll_nil r0
 obtain rfl:args = #[v0]:=by cases args;simp_all
 obtain ⟨rfl,rfl⟩:=trodVars_none hV
 have k0:=h0
 have lt0:∀ x ∈ p0,x.block < W.heap.size:=by obtain ⟨m,hm⟩:=k0;exact DataW.trod_lt m _ _ _ hm
 have z0:∀ n ∈ DataW.weights Tryz.prog 22 d0,n ≤ 140737488351232:=fun n hn=>of_decide_eq_true (List.all_eq_true.1 hsz n (DataW.weights_mem_each (j:=0) (t:=22) rfl rfl n hn))
 obtain ⟨ao0,l0,c0,rfl,s0,n0,t0⟩:=z7k (hval 0 22 v0 rfl rfl) h0 z0
 clear hA0 hval0
 refine (walk W hk ao0 l0 c0 s0 n0 t0).mono fun e W' ⟨he,bel⟩=>?_
 subst he
 exact ⟨_,rfl,_,_,_,[],_,[],hW',trodAll_mk1 (shut_bool Tryz.underlying4 _),(trodAll_cons_mk (Below.trod z4z (by kernel_rfl) (of_decide_eq_true (by kernel_rfl)) k0 bel lt0) trodAll_mk0),rfl,bel.frame _,fun h=>by cases h⟩
theorem said:Rows.LineBehindSaid :=
 OpenClaim.holds_of_cond 7 Tryz.f7 rfl rfl rfl rfl rfl rfl rfl ⟨rfl,rfl,rfl,rfl,rfl⟩ rfl rfl rfl rfl rfl (by kernel_rfl) Tryz.func7 (by kernel_rfl)
  (of_decide_eq_true (by kernel_rfl)) (by unfold Func.isWrapper;first | (rw [if_pos (by decide +kernel)];kernel_rfl) | (rw [if_neg (by decide +kernel)];exact ⟨rfl,rfl⟩))
  (fun os started H enc _ F=>by rw [OpenClaim.pre_eq_preRow];exact lifted os started H enc F)
theorem plain (f : FuncId) (fn : Func) (hf : Tryz.pinned.checked.prog.funcNamed "tribunal/tribunallaw11.LineBehind" = some f) (hfn : Tryz.pinned.checked.prog.funcs[f]? = some fn) :
 true = Tryz.pinned.checked.prog.looks [] ∧ ∀ (j:Nat) t,fn.params[j]? = some t → Tryz.pinned.checked.prog.wantsStandIn t = false:=by
 obtain rfl : f = 7 := Option.some.inj ((show Tryz.prog.funcNamed "tribunal/tribunallaw11.LineBehind" = some 7 by kernel_rfl).symm.trans hf) |>.symm
 obtain rfl:fn = Tryz.f7:=(Option.some.inj (Tryz.func7.symm.trans hfn)).symm
 refine ⟨by kernel_rfl,fun j t ht=>?_⟩
 have hall:Tryz.f7.params.toList.all (fun t=>!Tryz.prog.wantsStandIn t) = true:=by kernel_rfl
 have hm:t ∈ Tryz.f7.params.toList:=Array.mem_toList_iff.2 (Array.mem_of_getElem? ht)
 have h0:=List.all_eq_true.1 hall t hm
 have h1:Tryz.prog.wantsStandIn t = false:=by simpa using h0
 exact h1
theorem proved:Rows.LineBehindCardSaid :=
 Claim7.holds_tied_plain_at .later [] _ _ _ _ said (fun _ h=>by cases h) (by kernel_rfl) (fun _ h=>by cases h) lineBehind_row_tie rfl ⟨rfl,rfl⟩ (by kernel_rfl) rfl plain (by kernel_rfl)
#print axioms proved
end Go.Proofs.YtnbldbbbibpobaaGreatDoor.lineBehind
