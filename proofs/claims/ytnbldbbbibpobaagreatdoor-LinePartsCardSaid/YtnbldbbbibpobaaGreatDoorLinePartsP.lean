/-
  The law LineParts: for every input it answers true, and its arguments read as they did. Condition: the round constants' table lies as the program's text lays it (the card ties it).
-/
import Derived.BigQuiet
import Derived.ChangeAlike
import Derived.Deep.MidRow
import Derived.Deep.QuietTactic
import Derived.Laws.AppendOwnNone
import Derived.Laws.StructEq
import Derived.Lib.Builder
import Derived.Lib.Hide
import Derived.Lib.OwnBridge
import Derived.Lib.SlicesCompact
import Derived.RegionTactic
import Derived.Sort.EncStr
import Derived.Sort.Walk0
import Derived.Test.YtnbldbbbibpobaaGreatDoorChecked
import Derived.WalkKit
import Derived.Test.YtnbldbbbibpobaaGreatDoorJ01
import Derived.Test.YtnbldbbbibpobaaGreatDoorJ02
import Derived.Test.YtnbldbbbibpobaaGreatDoorJ03
import Derived.Test.YtnbldbbbibpobaaGreatDoorJ04
import Derived.Test.YtnbldbbbibpobaaGreatDoorJ05
import Derived.Test.YtnbldbbbibpobaaGreatDoorJ06
import Derived.Test.YtnbldbbbibpobaaGreatDoorJ07
import Derived.Test.YtnbldbbbibpobaaGreatDoorJ08
import Derived.Test.YtnbldbbbibpobaaGreatDoorJ09
import Derived.Test.YtnbldbbbibpobaaGreatDoorJ10
import Derived.Test.YtnbldbbbibpobaaGreatDoorJ11
import Derived.Test.YtnbldbbbibpobaaGreatDoorJ12
import Derived.Test.YtnbldbbbibpobaaGreatDoorJ13
import Derived.Test.YtnbldbbbibpobaaGreatDoorJ14
import Derived.Test.YtnbldbbbibpobaaGreatDoorJ15
import Derived.Test.YtnbldbbbibpobaaGreatDoorJ16
import Derived.Test.YtnbldbbbibpobaaGreatDoorJ17
import Derived.Test.YtnbldbbbibpobaaGreatDoorJ18
import Derived.Test.YtnbldbbbibpobaaGreatDoorJ19
import Derived.Test.YtnbldbbbibpobaaGreatDoorJ20
import Derived.Test.YtnbldbbbibpobaaGreatDoorJ21
import Derived.Test.YtnbldbbbibpobaaGreatDoorJ22
import Derived.Test.YtnbldbbbibpobaaGreatDoorJ23
import Derived.Test.YtnbldbbbibpobaaGreatDoorJ24
import Derived.Test.YtnbldbbbibpobaaGreatDoorJ25
import Derived.Test.YtnbldbbbibpobaaGreatDoorJ26
set_option maxRecDepth 100000
set_option maxHeartbeats 20000000
namespace Go.Proofs.YtnbldbbbibpobaaGreatDoor
open Go.RowKit
theorem StrsAt.cell {ao:Option Addr} {l:List (List UInt8)} {w:World} (h:StrsAt ao l w) {q:Nat} (hq:q < l.length):∃ b o,ao = some ⟨b,o,none⟩ ∧ w.cell? ⟨b,o + q,none⟩ = some (.string ⟨l[q].toArray⟩):=by
 rcases h with h | ⟨b,o,ha,hb,hc⟩
 ·subst h;simp at hq
 ·exact ⟨b,o,ha,hc q hq⟩
theorem z2m {P:Program} {o:Oper} {a:Act} {C:World → Prop} {K:Act → Prop} (op:BinOp) (t u:TypeId) (x y:Operand) (ho:o.op = .binOp op t x y u) (vx vy r:Value) (hx:a.eval x = vx) (hy:a.eval y = vy)
 (hg:∀ w,(eqGuard op t x y vx vy).run P w = .ok () w) (hr:∀ w,(binOp op t vx vy).run P w = .ok r w) (hk:K (a.put o.dst r)):o.quiet P a C K:=by
 refine ⟨_,fun w hw=>?_,hk⟩
 unfold Oper.quietAt execOp
 simp only [ho,hx,hy,Sem.run_bind,Sem.run_pure,hg,hr,Result.andThen_ok]
 exact ⟨rfl,rfl⟩
open Go.BigFrame
theorem OpAt.below {b o:Nat} {x:OpN} {w w':World} (h:OpAt b o x w) (hb:Below w.heap.size w w') (hlt:b < w.heap.size):OpAt b o x w':=by
 obtain ⟨pa,pc,h1,h2⟩:=h
 exact ⟨pa,pc,z08 h1 hb hlt,h2.below hb⟩
theorem OpsAt.below {ao:Option Addr} {L:List OpN} {w w':World} (h:OpsAt ao L w) (hb:Below w.heap.size w w'):OpsAt ao L w':=by
 rcases h with h | ⟨b,o,h1,h2,h3⟩
 ·exact .inl h
 ·exact .inr ⟨b,o,h1,Nat.lt_of_lt_of_le h2 hb.size,fun i x hx=>(h3 i x hx).below hb h2⟩
theorem OwnO.form {B:Nat} {e:TypeId} {v:Value} {L:List OpN} {w:World} (h:OwnO B e v L w):∃ ao cap,v = .slice ao L.length cap:=by
 obtain ⟨C,h,_⟩:=h
 rcases h.2 with ⟨hv,h0⟩ | ⟨g,cap,cur,hv,_⟩
 ·exact ⟨none,0,by rw [hv,h0]⟩
 ·exact ⟨some ⟨g,0,none⟩,cap,hv⟩
end Go.Proofs.YtnbldbbbibpobaaGreatDoor
namespace Go.Proofs.YtnbldbbbibpobaaGreatDoor
open Go.RowKit
def ofN (L:List OpN) (key:List UInt8) (ks:List Int):List OpN:=(z2g L).filter fun o=>decide (o.d.key = key ∧ o.d.kind ∈ ks)
theorem zby {α:Type} {p:α → Bool}:∀ {L:List α} {t:Nat} {o:α},L[t]? = some o → p o = true → (L.filter p)[((L.take t).filter p).length]? = some o
 | [],t,_,h,_=>by cases h
 | x :: L, 0, o, h, hp => by
   cases h
   rw [List.filter_cons_of_pos hp]
   rfl
 | x :: L, t + 1, o, h, hp => by
   rw [List.getElem?_cons_succ] at h
   have ih:=zby h hp
   rw [List.take_succ_cons]
   by_cases hx:p x = true
   ·rw [List.filter_cons_of_pos hx,List.filter_cons_of_pos hx,List.length_cons,List.getElem?_cons_succ]
    exact ih
   ·rw [List.filter_cons_of_neg hx,List.filter_cons_of_neg hx]
    exact ih
theorem z2z {α:Type} {p:α → Bool} {L:List α} {t:Nat} {o:α} (h:L[t]? = some o):((L.take (t + 1)).filter p).length = ((L.take t).filter p).length + if p o = true then 1 else 0:=by
 rw [List.take_add_one,h,Option.toList_some,List.filter_append,List.length_append]
 congr 1
 by_cases hp:p o = true
 ·rw [List.filter_cons_of_pos hp,if_pos hp];rfl
 ·rw [List.filter_cons_of_neg hp,if_neg hp];rfl
theorem zi5 {L:List OpN} {key:List UInt8} {a b c:Int} (hc:c ∈ [a,b]):(ofN L key [a,b]).filter (fun o=>decide (o.d.kind = c)) = ofN L key [c]:=by
 rw [ofN,ofN,List.filter_filter]
 congr 1
 funext o
 rw [List.mem_cons,List.mem_singleton] at hc
 by_cases h1:o.d.kind = c
 ·subst h1
  by_cases h2:o.d.key = key
  ·simp [h2,hc]
  ·simp [h2]
 ·simp [h1]
theorem zi1 {L:List OpN} {key:List UInt8} {ks:List Int} {o:OpN} (h:o ∈ ofN L key ks):o.d.kind ∈ ks:=by
 have:=(List.mem_filter.1 h).2
 simp only [decide_eq_true_eq] at this
 exact this.2
structure PartsAt (x:List OpN) (a b:Int) (t i k:Nat):Prop where
 one:i = ((x.take t).filter fun o=>decide (o.d.kind = a)).length
 two:k = ((x.take t).filter fun o=>decide (o.d.kind = b)).length
theorem PartsAt.zero (x:List OpN) (a b:Int):PartsAt x a b 0 0 0:=⟨rfl,rfl⟩
section
variable {L:List OpN} {key:List UInt8} {a b:Int} {t i k:Nat} {o:OpN}
theorem PartsAt.left (h:PartsAt (ofN L key [a,b]) a b t i k) (hab:a ≠ b) (ho:(ofN L key [a,b])[t]? = some o) (hk:o.d.kind = a):(ofN L key [a])[i]? = some o ∧ PartsAt (ofN L key [a,b]) a b (t + 1) (i + 1) k:=by
 refine ⟨?_,?_,?_⟩
 ·have:=zby (p:=fun o=>decide (o.d.kind = a)) ho (by simpa using hk)
  rw [zi5 (List.mem_cons_self ..),← h.one] at this
  exact this
 ·rw [z2z ho,← h.one,if_pos (by simpa using hk)]
 ·rw [z2z ho,← h.two,if_neg (by simp [hk,hab])]
  rfl
theorem PartsAt.right (h:PartsAt (ofN L key [a,b]) a b t i k) (ho:(ofN L key [a,b])[t]? = some o) (hk:o.d.kind ≠ a):o.d.kind = b ∧ (∀ y,(ofN L key [a])[i]? = some y → y ≠ o) ∧ (ofN L key [b])[k]? = some o ∧ PartsAt (ofN L key [a,b]) a b (t + 1) i (k + 1):=by
 have hb:o.d.kind = b:=by
  have:=zi1 (List.mem_of_getElem? ho)
  rw [List.mem_cons,List.mem_singleton] at this
  exact this.resolve_left hk
 refine ⟨hb,fun y hy e=>?_,?_,?_,?_⟩
 ·have:=zi1 (List.mem_of_getElem? hy)
  rw [List.mem_singleton,e] at this
  exact hk this
 ·have:=zby (p:=fun o=>decide (o.d.kind = b)) ho (by simpa using hb)
  rw [zi5 (List.mem_cons_of_mem _ (List.mem_cons_self ..)),← h.two] at this
  exact this
 ·rw [z2z ho,← h.one,if_neg (by simpa using hk)]
  rfl
 ·rw [z2z ho,← h.two,if_pos (by simpa using hb)]
theorem PartsAt.fin (h:PartsAt (ofN L key [a,b]) a b (ofN L key [a,b]).length i k):i = (ofN L key [a]).length ∧ k = (ofN L key [b]).length:=by
 obtain ⟨h1,h2⟩:=h
 rw [List.take_length,zi5 (List.mem_cons_self ..)] at h1
 rw [List.take_length,zi5 (List.mem_cons_of_mem _ (List.mem_cons_self ..))] at h2
 exact ⟨h1,h2⟩
end
theorem z6o (L:List (List UInt8)) (n:List UInt8):z0v (L ++ [n]) = zbg n (z0v L):=by
 rw [z0v,List.foldl_append]
 rfl
theorem z65 (n:List UInt8):∀ {L:List (List UInt8)} {k:Nat},(∀ j,j < k → ∀ x,L[j]? = some x → Op.bytesLess x n = true) → k ≤ L.length → (∀ x,L[k]? = some x → ¬ Op.bytesLess x n = true) → zbg n L = if L[k]? = some n then L else L.take k ++ n :: L.drop k
 | [], k, _, hk, _ => by
   obtain rfl:k = 0:=by simpa using hk
   rfl
 | x :: L, 0, _, _, h => by
   have hx:=h x rfl
   rw [zbg,if_neg hx]
   by_cases e:x = n
   ·rw [if_pos e,if_pos (by rw [e];rfl)]
   ·rw [if_neg e,if_neg (fun h=>e (by injection h))]
    rfl
 | x :: L, k + 1, hl, hk, h => by
   rw [zbg,if_pos (hl 0 (Nat.succ_pos _) x rfl),z65 n (L:=L) (k:=k) (fun j hj y hy=>hl (j + 1) (by omega) y (by rw [List.getElem?_cons_succ];exact hy)) (by simpa using hk) (fun y hy=>h y (by rw [List.getElem?_cons_succ];exact hy)),List.getElem?_cons_succ,List.take_succ_cons,List.drop_succ_cons]
   split <;> rfl
theorem zkw {L:List OpN} {ks:List Int} {x:List UInt8}:x ∈ z6l L ks ↔ ∃ o ∈ L,o.d.kind ∈ ks ∧ o.d.key = x:=by
 rw [z6l,risingT_mem,List.mem_map]
 constructor
 ·rintro ⟨o,h1,h2⟩
  obtain ⟨h3,h4⟩:=List.mem_filter.1 h1
  exact ⟨o,h3,by simpa using h4,h2⟩
 ·rintro ⟨o,h1,h2,h3⟩
  exact ⟨o,List.mem_filter.2 ⟨h1,by simpa using h2⟩,h3⟩
theorem zmf (L:List OpN) (a b:Int):z6l L [a,b] = z0v (z6l L [a] ++ z6l L [b]):=by
 refine z9e (z8a _) fun x=>?_
 simp only [List.mem_append,zkw]
 constructor
 ·rintro ⟨o,h1,h2,h3⟩
  rcases List.mem_cons.1 h2 with h2 | h2
  ·exact .inl ⟨o,h1,List.mem_singleton.2 h2,h3⟩
  ·exact .inr ⟨o,h1,h2,h3⟩
 ·rintro (⟨o,h1,h2,h3⟩ | ⟨o,h1,h2,h3⟩)
  ·exact ⟨o,h1,List.mem_cons.2 (.inl (List.mem_singleton.1 h2)),h3⟩
  ·exact ⟨o,h1,List.mem_cons_of_mem _ h2,h3⟩
open Go.BigFrame
theorem z97 {L:List OpN} {K:OpN → Bool} (hd:(L.map z00).Nodup):z2g (L.filter K) = (z2g L).filter K:=by
 refine (zic (L:=(z2g L).filter K) ?_ ((z1e L).filter K) ((List.filter_sublist.map z00).nodup hd) fun o _=>z0p o).symm
 exact (z4t hd fun o _=>z0p o).sublist List.filter_sublist
theorem z9d (x:OpN) (pa:Option Addr) (pc gk gs:Nat) (key:List UInt8) (L:List Int) (w:World) (hx:x.d.ref.length = 32) (hk:1 ≤ x.d.kind ∧ x.d.kind ≤ 5) (hkey:w.cell? ⟨gk,0,none⟩ = some (.string ⟨key.toArray⟩)) (hset:Cells gs 102 (z18 L) w) :
 Calls Tryz.prog 68 (#[] ++ [Value.agg (opV x pa pc)].toArray ++ #[.pointer (some ⟨gk,0,none⟩),.pointer (some ⟨gs,0,none⟩)]) w fun e w'=>e = .returned (.bool (decide (x.d.key = key ∧ x.d.kind ∈ L))) ∧ Below w.heap.size w w':=by
 show Calls Tryz.prog 68 #[.agg (opV x pa pc),.pointer (some ⟨gk,0,none⟩),.pointer (some ⟨gs,0,none⟩)] w _
 have b1:Below w.heap.size w (w.alloc (.cells (opV x pa pc) 38)):=(Below.refl _ _).alloc (Nat.le_refl _) _
 have x1:Cells w.heap.size 38 (opV x pa pc) (w.alloc (.cells (opV x pa pc) 38)):=heap_alloc_new w _
 have c0:=(z20 (z0j hx x1).1).1
 have c1:=(z20 (z0j hx x1).1).2.1
 have ck:(w.alloc (.cells (opV x pa pc) 38)).cell? ⟨gk,0,none⟩ = some (.string ⟨key.toArray⟩):=(b1.cell (z3r hkey)).trans hkey
 have HB:=Lib.hid b1
 have hs:=hset.below b1
 have cs:(w.alloc (.cells (opV x pa pc) 38)).cell? ⟨gs,x.d.kind.toNat,none⟩ = some (.bool (decide (x.d.kind ∈ L))):=by
  rw [hs.at]
  exact z7l hk
 obtain ⟨n,hn⟩:∃ n:Nat,x.d.kind = (n:Int):=⟨x.d.kind.toNat,by omega⟩
 rw [hn,Int.toNat_natCast] at cs
 rw [hn] at c0
 have HR:=Shut.mk (show decide (x.d.key = key ∧ x.d.kind ∈ L) = (decide (x.d.key = key) && decide ((n:Int) ∈ L)) by rw [hn];simp)
 have hn6:(n:Int) < 6:=by omega
 obtain ⟨R,hR⟩:∃ R,decide ((n:Int) ∈ L) = R:=⟨_,rfl⟩
 obtain ⟨R0,hR0⟩:∃ R,decide (x.d.key = key ∧ x.d.kind ∈ L) = R:=⟨_,rfl⟩
 rw [hR] at cs HR
 rw [hR0] at HR ⊢
 obtain ⟨k0,hk0⟩:∃ k0,x.d.key = k0:=⟨_,rfl⟩
 rw [hk0] at c1 HR
 clear b1 x1 hs hset hk hn hR hR0 hx hk0 hkey
 by_cases he:k0 = key
 ·subst he
  have HR2:=Shut.mk (show R0 = R by rw [HR.out];simp)
  clear HR
  go_enter Tryz.func68,Tryz.ntmps68
  go_wp2_with fail
  go_ret
  exact ⟨by rw [HR2.out];rfl,HB.out⟩
 ·have HR2:=Shut.mk (show R0 = false by rw [HR.out,decide_eq_false he];rfl)
  clear HR
  go_enter Tryz.func68,Tryz.ntmps68
  go_wp2_with fail
  go_ret
  exact ⟨by rw [HR2.out];rfl,HB.out⟩
open Go.Sort
theorem OwnS.cap {B:Nat} {ao:Option Addr} {n c:Nat} {L:List (List UInt8)} {w:World} (h:OwnS B (.slice ao n c) L w):L.length ≤ c ∧ (ao = none → c = 0):=by
 rcases h.2 with ⟨h1,h2⟩ | ⟨g,cap,cur,h1,h2,h3,h4,_⟩
 ·cases h1
  exact ⟨by omega,fun _=>rfl⟩
 ·cases h1
  exact ⟨h4,fun h=>by cases h⟩
end Go.Proofs.YtnbldbbbibpobaaGreatDoor
namespace Go.Proofs.YtnbldbbbibpobaaGreatDoor
open Go.RowKit Go.BigFrame
theorem zdo (X:Nat → Prop) (B:Bs) (T:Ents) (s:DagN) (hs:List (List Nat)) (M:Bh) (key:List UInt8) (ao:Option Addr) (L:List Int) (m c:Nat) (w:World) (h:SetAt X B T s hs M w) (hn:s.names.Nodup) (ht:Tame s) (hg:Goods s) (hI:IntsIn ao L w) (hm:L.length = m) (hl:m ≤ 140737488351232) :
 Calls Tryz.prog 34 #[.pointer (some ⟨B.gs,0,none⟩),.string ⟨key.toArray⟩,.slice ao m c] w fun e w'=>∃ v,e = .returned v ∧ OwnO w.heap.size 38 v (ofN s.ops key L) w' ∧ Below w.heap.size w w':=by
 have HS0:=Lib.hid h
 have HND:=Lib.hid hn
 have HT:=Lib.hid ht
 have HGD:=Lib.hid hg
 have HSK:=Lib.hid (show (Tryz.prog.info? 102).map (·.size) = some (z18 L).size from Tryz.sizeK)
 have HSV:=Lib.hid (show [Value.bool false,.bool false,.bool false,.bool false,.bool false,.bool false].toArray.size = (z18 L).size from rfl)
 have b1:Below w.heap.size w (w.alloc (.cells #[.string ⟨key.toArray⟩] 9)):=(Below.refl _ _).alloc (Nat.le_refl _) _
 have x1:Cells w.heap.size 9 #[.string ⟨key.toArray⟩] (w.alloc (.cells #[.string ⟨key.toArray⟩] 9)):=heap_alloc_new w _
 have HA:=Lib.hid (zb0 ao L m c _ (hI.below b1) hm hl)
 have HB1:=Lib.hid b1
 have HX1:=Lib.hid x1
 clear h hn ht hg hI b1 x1
 go_enter Tryz.func34,Tryz.ntmps34
 go_wp2_with (first
  | (refine HA.out.mono ?_;rintro e w3 ⟨rfl,hb3⟩;have HB3:=Lib.hid hb3;clear hb3)
  | (refine z0d rfl 102 rfl _ Tryz.zeroK ?_)
  | (refine z02 rfl 102 _ _ rfl rfl w3.heap.size _ (z18 L) 102 rfl rfl (heap_alloc_new w3 _) HSK.out HSV.out (z7i L) ?_))
 intro w5 hc5 hb5
 have hb35:Below w3.heap.size w3 w5:=But.toBelow ((Below.refl _ w3).alloc (Nat.le_refl _) _) hb5.out (Nat.le_refl _) (by rw [World.size_alloc];exact Nat.le_succ _)
 have hb15:=HB3.out.trans (hb35.mono HB3.out.size)
 have HC5:=Lib.hid hc5.out
 have HB5:=Lib.hid (HB1.out.trans (hb15.mono HB1.out.size))
 have HX5:=Lib.hid (HX1.out.below hb15)
 have HAR:=Lib.hid (z78 X B T s hs M (fun o=>decide (o.d.key = key ∧ o.d.kind ∈ L)) 68 _ #[.pointer (some ⟨w.heap.size,0,none⟩),.pointer (some ⟨w3.heap.size,0,none⟩)] w5 (HS0.out.below HB5.out) HND.out HT.out Tryz.func68 rfl rfl (fun x hx pa pc w' hb=>z9d x pa pc w.heap.size w3.heap.size key L w' (HT.out.ops x hx).d.ref.1 (HGD.out.kind hx) (by rw [(HX5.out.below hb).at];rfl) (HC5.out.below hb)))
 have hpm:=z1e (s.ops.filter fun o=>decide (o.d.key = key ∧ o.d.kind ∈ L))
 have HR:=Lib.hid (show ∀ x ∈ z2g (s.ops.filter fun o=>decide (o.d.key = key ∧ o.d.kind ∈ L)),x.d.ref.length = 32 from fun x hx=>(HT.out.ops x (List.mem_filter.1 (hpm.mem_iff.1 hx)).1).d.ref.1)
 have HL:=Lib.hid (show (z2g (s.ops.filter fun o=>decide (o.d.key = key ∧ o.d.kind ∈ L))).length ≤ 1000 from by
  rw [hpm.length_eq]
  have:=List.length_filter_le (fun o=>decide (o.d.key = key ∧ o.d.kind ∈ L)) s.ops
  have:=HT.out.many
  omega)
 have HE:=Lib.hid (z97 (K:=fun o=>decide (o.d.key = key ∧ o.d.kind ∈ L)) HND.out)
 clear hc5 hb5 hb35 hb15 hpm
 go_wp2_with (first
  | (refine HAR.out.mono ?_;rintro e w6 ⟨v6,rfl,ho6,hb6⟩;have HB6:=Lib.hid (HB5.out.trans (hb6.mono HB5.out.size));have HBR:=Lib.hid (zag ho6 HR.out HL.out);clear ho6 hb6)
  | (refine HBR.out.mono ?_;rintro e w7 ⟨v7,rfl,ho7,hb7⟩;have HO7:=Lib.hid ho7;have HB7:=Lib.hid hb7;clear ho7 hb7))
 go_ret
 exact ⟨_,rfl,by rw [ofN,← HE.out];exact HO7.out.mono HB6.out.size,HB6.out.trans (HB7.out.mono HB6.out.size)⟩
theorem z1n {P:Program} {o:Oper} {a:Act} {C:World → Prop} {K:Act → Prop} (ty:TypeId) (x y:Operand) (ho:o.op = .indexAddr ty x y) (vx vy:Value) (q:Addr) (hx:a.eval x = vx) (hy:a.eval y = vy) (hr:∀ w,(Instr.indexAt ty vx vy).run P w = .ok (.pointer (some q)) w) (hk:K (a.put o.dst (.pointer (some q)))):o.quiet P a C K:=by
 refine ⟨_,fun w _=>?_,hk⟩
 unfold Oper.quietAt execOp
 simp only [ho,hx,hy,Sem.run_bind,hr w,Result.andThen_ok,Sem.run_pure]
 exact ⟨rfl,rfl⟩
theorem StrsAt.drop {ap:Option Addr} {L:List (List UInt8)} {w:World} {c j:Nat} (h:StrsAt ap L w) (hc:L.length ≤ c):StrsAt (if c = j then ap else ap.map (·.add j)) (L.drop j) w:=by
 by_cases hj:L.length ≤ j
 ·exact .inl (List.drop_eq_nil_of_le hj)
 rw [if_neg (by omega)]
 rcases h with rfl | ⟨b,o,rfl,h2,h3⟩
 ·exact .inl (by simp)
 ·refine .inr ⟨b,o + j,by simp [Addr.add_lit],h2,fun i hi=>?_⟩
  rw [List.length_drop] at hi
  have:=h3 (j + i) (by omega)
  rw [show o + j + i = o + (j + i) by omega,this,List.getElem_drop]
theorem StrsAt.take {ap:Option Addr} {L:List (List UInt8)} {w:World} (h:StrsAt ap L w) (j:Nat):StrsAt ap (L.take j) w:=by
 rcases h with rfl | ⟨b,o,rfl,h2,h3⟩
 ·exact .inl (by simp)
 ·refine .inr ⟨b,o,rfl,h2,fun i hi=>?_⟩
  rw [List.length_take] at hi
  rw [List.getElem_take]
  exact h3 i (by omega)
theorem z63 {ad:Addr} {L:List (List UInt8)} {w:World} (h:StrsAt (some ad) L w):∀ j u,(z3t L)[j]? = some u → w.cell? (ad.add j) = some u:=by
 intro j u hj
 rcases h with rfl | ⟨b,o,h1,h2,h3⟩
 ·cases hj
 ·cases h1
  have hlt:=(List.getElem?_eq_some_iff.1 hj).1
  rw [z0r] at hlt
  rw [Addr.add_lit,h3 j hlt,← hj,z3t,List.getElem?_map,List.getElem?_eq_getElem hlt]
  rfl
section
variable {w:World} {ops:Array Oper} {rest:List Oper} {o:Oper} {a:Act} {Q:Exit → Act → World → Prop}
theorem z0o (hgd:o.guard = none) (s x:Operand) (ho:o.op = .call { callee:=.builtin .append,args:=#[s,x],argTypes:=#[67,67] })
 (B:Nat) (v:Value) (L M:List (List UInt8)) (ao:Option Addr) (n c:Nat) (hn:n = M.length) (hs:a.eval s = v) (hown:OwnS B v L w) (hx:a.eval x = .slice ao n c) (hsrc:StrsAt ao M w) (hnil:ao = none → c = 0)
 (h63:L.length + M.length ≤ 1000000) (hB:B ≤ w.heap.size)
 (h:∀ v' w',Hid (OwnS B v' (L ++ M) w') → Hid (w.grownBy w' v.ownBlock) → Hid (v'.ownBlock = v.ownBlock ∨ v'.ownBlock = some w.heap.size) → wpList Tryz.prog ops Q rest (a.put o.dst v') w'):wpList Tryz.prog ops Q (o :: rest) a w:=by
 obtain ⟨i,hi,hz0,hz1,hz2⟩:=info_parts Tryz.infoStr
 have hap:z3t (L ++ M) = z3t L ++ z3t M:=by simp [z3t]
 cases ao with
 | none =>
   obtain rfl:=hnil rfl
   have hm:M = []:=by
    rcases hsrc with h | ⟨b,o',h,_⟩
    ·exact h
    ·cases h
   subst hm
   subst hn
   refine wpList_append_own_none hgd s x _ ho B 9 i 1 Tryz.underlying67 hi v L.length (z3t L) hs hown hx (h _ _ (Lib.hid ?_) (Lib.hid ⟨rfl,rfl,rfl,Nat.le_refl _,fun _ _ _=>rfl⟩) (Lib.hid (.inl rfl)))
   rw [List.append_nil]
   exact hown
 | some ad =>
   subst hn
   refine wpList_append_own_at w hgd s x _ ho B 9 i _ 1 16 Tryz.underlying67 hi hz0 hz1 hz2 rfl (by decide) v L.length (z3t L) hs hown ad M.length c (z3t M) hx (by rw [z0r,Nat.mul_one]) (z63 hsrc) (zdk M) (by unfold maxLen;omega) (by omega) hB ?_
   intro v' w' h2 hg _ h3
   refine h v' w' (Lib.hid ?_) (Lib.hid hg) (Lib.hid h3)
   show w'.ownsRow B _ 1 v' (L ++ M).length (z3t (L ++ M))
   rw [List.length_append,hap]
   exact h2
theorem z1s (hgd:o.guard = none) (s x:Operand) (ho:o.op = .call { callee:=.builtin .append,args:=#[s,x],argTypes:=#[67,67] })
 (L M:List (List UInt8)) (ao:Option Addr) (k:Nat) (hk:k = L.length) (ad:Addr) (n c:Nat) (hn:n = M.length) (h0:0 < n) (hs:a.eval s = .slice ao k k) (hsrc:StrsAt ao L w) (hx:a.eval x = .slice (some ad) n c) (hnews:StrsAt (some ad) M w)
 (h63:L.length + M.length ≤ 1000000)
 (h:∀ v' w',Hid (OwnS w.heap.size v' (L ++ M) w') → Hid (Below w.heap.size w w') → wpList Tryz.prog ops Q rest (a.put o.dst v') w'):wpList Tryz.prog ops Q (o :: rest) a w:=by
 obtain ⟨i,hi,hz0,hz1,hz2⟩:=info_parts Tryz.infoStr
 have hap:z3t (L ++ M) = z3t L ++ z3t M:=by simp [z3t]
 subst hk hn
 cases ao with
 | none =>
   have hl:L = []:=by
    rcases hsrc with h | ⟨b,o',h,_⟩
    ·exact h
    ·cases h
   subst hl
   refine z0o hgd s x ho w.heap.size (.slice none 0 0) [] M (some ad) M.length c rfl hs (World.ownsRow_nil _ _ _ _) hx hnews (fun h=>by cases h) h63 (Nat.le_refl _) ?_
   intro v' w' h1 h2 _
   exact h v' w' h1 (Lib.hid ((Below.refl _ _).grown h2.out (Nat.le_refl _) (fun g hg=>by cases hg)))
 | some b =>
   have hr:=run_append_grow (P:=Tryz.prog) w 67 o.type 9 i _ Tryz.underlying67 hi hz0 b L.length L.length (z3t L) (by rw [z0r,hz1,Nat.mul_one]) (z63 hsrc) ad M.length c (z3t M) (by rw [z0r,hz1,Nat.mul_one]) (z63 hnews) (by omega) (by omega) (growslice_fits (by omega) (by rw [hz2];omega))
   have hge:=grownCap_ge w (L.length + M.length) L.length 9
   have hcm:=grownCap_le_maxLen w (L.length + M.length) L.length 9 (by unfold maxLen;omega)
   refine wpList_plain hgd fun K hK=>?_
   unfold Oper.wp execOp
   simp only [ho,resolve,invoke,builtin,Sem.run_bind,Sem.run_pure,Result.andThen_ok,List.map_toArray,List.map_cons,List.map_nil,hs,hx,hr]
   refine hK _ _ (h _ _ (Lib.hid ⟨?_,.inr ⟨w.heap.size,_,_,?_,Nat.le_refl _,heap_alloc_new w.drew _,?_,hcm,?_,?_⟩⟩) (Lib.hid ((z0q (Below.refl _ w) 1).alloc (Nat.le_refl _) _)))
   ·rw [z0r,List.length_append,Nat.mul_one]
   ·rw [List.length_append]
   ·rw [List.length_append]
    exact hge
   ·simp only [Array.size_append,List.size_toArray,size_zeroCells,z0r,Nat.mul_one]
    show _ + (_ - _) * 1 = _
    omega
   ·simp only [Array.toList_append]
    rw [hap,List.length_append,List.take_append_of_le_length (by rw [List.length_append,z0r,z0r,Nat.mul_one];exact Nat.le_refl _),List.take_of_length_le (by rw [List.length_append,z0r,z0r,Nat.mul_one];exact Nat.le_refl _)]
end
theorem z2i {P:Program} {ops:Array Oper} {rest:List Oper} {o:Oper} {a:Act} {w:World} {Q:Exit → Act → World → Prop} (hgd:o.guard = none) (t:TypeId) (x y z:Operand) (ho:o.op = .slice t x none (some y) (some z)) (vx vy vz r:Value) (hx:a.eval x = vx) (hy:a.eval y = vy) (hz:a.eval z = vz)
 (hr:∀ w,(Instr.sliceAt t vx none (some vy) (some vz)).run P w = .ok r w) (h:wpList P ops Q rest (a.put o.dst r) w):wpList P ops Q (o :: rest) a w:=by
 refine wpList_plain hgd fun K hK=>?_
 unfold Oper.wp execOp
 simp only [ho,Option.map_some,Option.map_none,hx,hy,hz,Sem.run_bind,hr w,Result.andThen_ok,Sem.run_pure]
 exact hK _ _ h
theorem z2k (ap:Option Addr) (n c j:Nat) (hj:j ≤ n) (_hc:n ≤ c) (w:World):(Instr.sliceAt 67 (.slice ap n c) (some (.int .i64 (j:Int))) none none).run Tryz.prog w = .ok (.slice (if c = j then ap else ap.map (·.add j)) (n - j) (c - j)) w:=by
 go_simp
theorem z2n (ap:Option Addr) (n c j:Nat) (hj:j ≤ n) (hc:n ≤ c) (w:World):(Instr.sliceAt 67 (.slice ap n c) none (some (.int .i64 (j:Int))) (some (.int .i64 (j:Int)))).run Tryz.prog w = .ok (.slice ap j j) w:=by
 go_simp
 intro h
 omega
theorem z5u {ap:Option Addr} {c j:Nat} (h:ap = none → c = 0):(if c = j then ap else ap.map (·.add j)) = none → c - j = 0:=by
 intro he
 split at he
 ·omega
 ·cases ap with
  | none=>rw [h rfl];omega
  | some z=>cases he
theorem z8p (n:List UInt8):∀ L:List (List UInt8),(zbg n L).length ≤ L.length + 1
 | []=>Nat.le_refl _
 | x :: r => by
   rw [zbg]
   split
   ·have:=z8p n r
    simp only [List.length_cons]
    omega
   ·split
    ·simp only [List.length_cons];omega
    ·simp only [List.length_cons];omega
theorem z48 {L:List (List UInt8)} {k:Nat} (h:k < L.length):z0v (L.take (k + 1)) = zbg L[k] (z0v (L.take k)):=by
 rw [List.take_succ_eq_append_getElem h,z6o]
theorem z34 (L:List (List UInt8)):∀ k,k ≤ L.length → (z0v (L.take k)).length ≤ k
 | 0,_=>Nat.le_refl _
 | k + 1, h => by
   rw [z48 (by omega)]
   have:=z8p L[k] (z0v (L.take k))
   have:=z34 L k (by omega)
   omega
theorem zfy {ao:Option Addr} {L:List (List UInt8)} {w:World} (h:StrsAt ao L w) {i:Nat} {x:List UInt8} (hx:L[i]? = some x):∃ b o,ao = some ⟨b,o,none⟩ ∧ b < w.heap.size ∧ w.cell? ⟨b,o + i,none⟩ = some (.string ⟨x.toArray⟩):=by
 obtain ⟨hi,rfl⟩:=List.getElem?_eq_some_iff.1 hx
 rcases h with rfl | ⟨b,o,h1,h2,h3⟩
 ·simp at hi
 ·exact ⟨b,o,h1,h2,h3 i hi⟩
theorem z71 (ao:Option Addr) (L:List (List UInt8)) (m c:Nat) (w:World) (h:StrsAt ao L w) (hm:L.length = m) (hl:m ≤ 100000) :
 Calls Tryz.prog 39 #[.slice ao m c] w fun e w'=>∃ v,e = .returned v ∧ OwnS w.heap.size v (z0v L) w' ∧ Below w.heap.size w w':=by
 have HM:=Shut.mk hm
 have HA:=Lib.hid h
 clear h hm
 go_enter Tryz.func39,Tryz.ntmps39
 go_wp2_with fail
 go_loopw [3,10] (fun tv iv wr=>∃ (v:Value) (k:Nat),tv = v ∧ iv = .int .i64 k ∧ k ≤ m ∧ OwnS w.heap.size v (z0v (L.take k)) wr ∧ Below w.heap.size w wr) (fun _ iv _=>m - (intOf iv).toNat)
 case atStart=>exact ⟨_,0,rfl,rfl,Nat.zero_le _,OwnS.nil _ _,Below.refl _ _⟩
 case round =>
  obtain ⟨wi,rfl⟩:∃ z,z = wr:=⟨_,rfl⟩
  obtain ⟨v,k,rfl,rfl,hk,ho,hb⟩:=hrel
  have HB:=Lib.hid hb
  have HAW:=Lib.hid (HA.out.below hb)
  clear hb
  by_cases hlt:k < m
  ·obtain ⟨x,hx⟩:∃ x,L[k]? = some x:=⟨_,List.getElem?_eq_getElem (by rw [HM.out];exact hlt)⟩
   obtain ⟨b,o,rfl,hbl,c1⟩:=zfy HAW.out hx
   have hnx:=z48 (L:=L) (k:=k) (by rw [HM.out];exact hlt)
   rw [(List.getElem?_eq_some_iff.1 hx).2] at hnx
   have hol:=z34 L k (by rw [HM.out];exact hk)
   obtain ⟨O,hO⟩:∃ O,z0v (L.take k) = O:=⟨_,rfl⟩
   rw [hO] at ho hnx hol
   obtain ⟨oa,oc,hv⟩:=ho.form
   obtain ⟨n,hn⟩:∃ n,O.length = n:=⟨_,rfl⟩
   rw [hn] at hv hol
   subst hv
   have HNX:=Lib.hid hnx
   have HN:=Shut.mk hn
   have HO:=Lib.hid ho
   have HOA:=Lib.hid (show StrsAt oa O wi from z1g (by rw [hn];exact ho))
   clear hx hbl hnx hO hn ho
   go_wp2_with fail
   go_loopw [6] (fun kv wr=>∃ j:Nat,kv = .int .i64 j ∧ j ≤ n ∧ (∀ t,t < j → ∀ y,O[t]? = some y → Op.bytesLess y x = true) ∧ wr = wi) (fun kv _=>n - (intOf kv).toNat)
   case atStart=>exact ⟨0,rfl,Nat.zero_le _,fun t ht=>absurd ht (Nat.not_lt_zero t),rfl⟩
   case round =>
    obtain ⟨j,rfl,hj,hless,rfl⟩:=hrel
    have HLE:=Lib.hid hless
    clear hless
    by_cases hjn:j < n
    ·obtain ⟨y,hy⟩:∃ y,O[j]? = some y:=⟨_,List.getElem?_eq_getElem (by rw [HN.out];exact hjn)⟩
     obtain ⟨b2,o2,rfl,hb2,c2⟩:=zfy HOA.out hy
     have HY:=Lib.hid hy
     clear hy hb2
     by_cases hls:Op.bytesLess y x = true
     ·have HLS:=Lib.hid hls
      go_wp2_with fail
      refine ⟨⟨j + 1,by go_num,by omega,fun t ht z hz=>?_,trivial⟩,by simp [intOf];omega⟩
      by_cases htj:t = j
      ·subst htj
       have:=HY.out
       rw [this] at hz
       cases hz
       exact HLS.out
      ·exact HLE.out t (by omega) z hz
     ·have hls':Op.bytesLess y x = false:=by simpa using hls
      by_cases he:y = x
      ·subst he
       have HIN:=Lib.hid (show z0v (L.take (k + 1)) = O by
        rw [HNX.out,z65 y HLE.out (by rw [HN.out];exact hj) (fun z hz=>by rw [HY.out] at hz;cases hz;exact hls),if_pos HY.out])
       go_wp2_with fail
       exact ⟨⟨_,k + 1,rfl,by go_num,by omega,by rw [HIN.out];exact HO.out,HB.out⟩,by simp [intOf];omega⟩
      ·have HNEQ:=Lib.hid he
       have HLS:=Lib.hid hls
       have heb:(y == x) = false:=by simpa using he
       go_upto_region 9 with (fail)
       clear hls he heb
       have HIN:=Lib.hid (show z0v (L.take (k + 1)) = O.take j ++ x :: O.drop j by
        rw [HNX.out,z65 x HLE.out (by rw [HN.out];exact hj) (fun z hz=>by rw [HY.out] at hz;cases hz;exact HLS.out),if_neg (fun e=>by rw [HY.out] at e;exact HNEQ.out (by injection e))])
       obtain ⟨hkc,hcn⟩:=OwnS.cap HO.out
       rw [HN.out] at hkc
       have b3:Below wr.heap.size wr (wr.alloc (.cells #[] 9)):=(Below.refl _ _).alloc (Nat.le_refl _) _
       obtain ⟨r,hr⟩:∃ r,n - j = r:=⟨_,rfl⟩
       have HRJ:=Shut.mk hr
       have hsl:=z2k (some ⟨b2,o2,none⟩) n oc j hj hkc
       have hdr:=(HOA.out.below b3).drop (j:=j) (c:=oc) (by rw [HN.out];exact hkc)
       have hni:=z5u (j:=j) hcn
       obtain ⟨RA,hRA⟩:∃ RA:Option Addr,(if oc = j then (some ⟨b2,o2,none⟩) else Option.map (fun z:Addr=>z.add j) (some ⟨b2,o2,none⟩)) = RA:=⟨_,rfl⟩
       rw [hRA] at hdr hni
       simp only [hRA] at hsl
       rw [hr] at hsl
       have HSL:=Lib.hid hsl
       have HDR:=Lib.hid hdr
       have HNI:=Lib.hid hni
       have HSM:=Lib.hid (z2n (some ⟨b2,o2,none⟩) n oc j hj hkc)
       have HL0:=Lib.hid (show OwnS wr.heap.size (.slice (some ⟨wr.heap.size,0,none⟩) 0 0) [] (wr.alloc (.cells #[] 9)) from World.ownsRow_lit wr #[] 0 (Nat.le_refl _) (by unfold maxLen;omega) rfl)
       have HB3:=Lib.hid b3
       clear hkc hcn b3 hsl hdr hni hRA hr
       skip
       refine wp_region_lit ?_
       iterate 9 (first | go_skip | go_guarded | go_step)
       refine z27 rfl 67 _ _ rfl _ _ _ rfl rfl HSL.out ?_
       simp only [Act.put,zS,zA,zB]
       refine z0o rfl _ _ rfl wr.heap.size (.slice (some ⟨wr.heap.size,0,none⟩) 0 0) [] (O.drop j) RA r (oc - j) (by rw [List.length_drop,HN.out];exact HRJ.out.symm) rfl HL0.out rfl HDR.out HNI.out (by rw [List.length_drop,HN.out];simp only [List.length_nil];omega) HB3.out.size ?_
       intro v5 w5 ho5 hg5 _
       obtain ⟨a5,c5,hv5⟩:=ho5.out.form
       rw [List.nil_append,List.length_drop,HN.out,HRJ.out] at hv5
       subst hv5
       have HO5:=Lib.hid (show OwnS wr.heap.size (.slice a5 r c5) (O.drop j) w5 from ho5.out)
       have HB5:=Lib.hid (HB3.out.grown hg5.out HB3.out.size (fun g hg=>(World.ownsRow.lt HL0.out g hg).1))
       have HOT:=Lib.hid ((HOA.out.below HB5.out).take j)
       clear ho5 hg5 HSL HDR HNI
       have HN5:=Lib.hid (show StrsAt (some ⟨w5.heap.size,0,none⟩) [x] (w5.alloc (.cells #[.string ⟨x.toArray⟩] 9)) from .inr ⟨_,0,rfl,by rw [World.size_alloc];exact Nat.lt_succ_self _,fun t ht=>by
        obtain rfl:t = 0:=by simpa using ht
        rw [Lib.cell_of_heap (heap_alloc_new w5 _)]
        rfl⟩)
       have b6:Below w5.heap.size w5 (w5.alloc (.cells #[.string ⟨x.toArray⟩] 9)):=(Below.refl _ _).alloc (Nat.le_refl _) _
       have HB6:=Lib.hid b6
       have HT6:=Lib.hid (HOT.out.below b6)
       have HR6:=Lib.hid (show StrsAt a5 (O.drop j) (w5.alloc (.cells #[.string ⟨x.toArray⟩] 9)) from (z1g (l:=O.drop j) (by rw [List.length_drop,HN.out,HRJ.out];exact HO5.out)).below b6)
       clear b6
       go_upto_region 10 with (fail)
       refine wp_region_lit ?_
       iterate 9 (first | go_skip | go_guarded | go_step)
       refine z2i rfl 67 _ _ _ rfl _ _ _ _ rfl rfl rfl HSM.out ?_
       simp only [Act.put,zS,zA,zB]
       iterate 6 (first | go_skip | go_guarded | go_step)
       refine z1s rfl _ _ rfl (O.take j) [x] (some ⟨b2,o2,none⟩) j (by rw [List.length_take,HN.out];omega) ⟨w5.heap.size,0,none⟩ 1 1 rfl (by decide) rfl HT6.out rfl HN5.out (by rw [List.length_take,HN.out];simp only [List.length_singleton];omega) ?_
       intro v7 w7 ho7 hb7
       have HO7:=Lib.hid ho7.out
       have HB7:=Lib.hid (HB6.out.trans (hb7.out.mono HB6.out.size))
       have HSQ:=Lib.hid hb7.out
       have HR7:=Lib.hid (HR6.out.below hb7.out)
       have HC5:=Lib.hid (OwnS.cap HO5.out).2
       clear ho7 hb7
       have HSZ7:=Lib.hid (show (w5.alloc (.cells #[.string ⟨x.toArray⟩] 9)).heap.size ≤ w7.heap.size from HSQ.out.size)
       simp only [Act.put,zS,zA,zB]
       iterate 3 (first | go_skip | go_guarded | go_step)
       refine z0o rfl _ _ rfl _ v7 (O.take j ++ [x]) (O.drop j) a5 r c5 (by rw [List.length_drop,HN.out];exact HRJ.out.symm) rfl HO7.out rfl HR7.out HC5.out (by rw [List.length_append,List.length_take,List.length_drop,HN.out];simp only [List.length_singleton];omega) HSZ7.out ?_
       intro v8 w8 ho8 hg8 _
       have HO8:=Lib.hid (show OwnS w.heap.size v8 (O.take j ++ x :: O.drop j) w8 from by
        have h8:=ho8.out
        rw [List.append_assoc,List.singleton_append] at h8
        exact h8.mono (Nat.le_trans HB.out.size (Nat.le_trans HB5.out.size HB6.out.size)))
       have HB8:=Lib.hid (HB7.out.grown hg8.out HB7.out.size (fun g hg=>Nat.le_trans HB6.out.size (World.ownsRow.lt HO7.out g hg).1))
       clear ho8 hg8
       go_wp2_with fail
       exact ⟨⟨v8,k + 1,rfl,by go_num,by omega,by rw [HIN.out];exact HO8.out,HB.out.trans ((HB5.out.trans (HB8.out.mono HB5.out.size)).mono HB.out.size)⟩,by simp [intOf];omega⟩
    ·obtain rfl:n = j:=by omega
     have HNO:=Lib.hid (show O[n]? = none from List.getElem?_eq_none (by rw [HN.out];exact Nat.le_refl _))
     have HIN:=Lib.hid (show z0v (L.take (k + 1)) = O.take n ++ x :: O.drop n by
      rw [HNX.out,z65 x HLE.out (by rw [HN.out];exact hj) (fun z hz=>by rw [HNO.out] at hz;cases hz),if_neg (fun e=>by rw [HNO.out] at e;cases e)])
     obtain ⟨hkc,hcn⟩:=OwnS.cap HO.out
     rw [HN.out] at hkc
     have b3:Below wr.heap.size wr (wr.alloc (.cells #[] 9)):=(Below.refl _ _).alloc (Nat.le_refl _) _
     obtain ⟨r,hr⟩:∃ r,n - n = r:=⟨_,rfl⟩
     have HRJ:=Shut.mk hr
     have hsl:=z2k oa n oc n hj hkc
     have hdr:=(HOA.out.below b3).drop (j:=n) (c:=oc) (by rw [HN.out];exact hkc)
     have hni:=z5u (j:=n) hcn
     obtain ⟨RA,hRA⟩:∃ RA:Option Addr,(if oc = n then oa else Option.map (fun z:Addr=>z.add n) oa) = RA:=⟨_,rfl⟩
     rw [hRA] at hdr hni
     simp only [hRA] at hsl
     rw [hr] at hsl
     have HSL:=Lib.hid hsl
     have HDR:=Lib.hid hdr
     have HNI:=Lib.hid hni
     have HSM:=Lib.hid (z2n oa n oc n hj hkc)
     have HL0:=Lib.hid (show OwnS wr.heap.size (.slice (some ⟨wr.heap.size,0,none⟩) 0 0) [] (wr.alloc (.cells #[] 9)) from World.ownsRow_lit wr #[] 0 (Nat.le_refl _) (by unfold maxLen;omega) rfl)
     have HB3:=Lib.hid b3
     clear hkc hcn b3 hsl hdr hni hRA hr
     go_upto_region 9 with (fail)
     refine wp_region_lit ?_
     iterate 9 (first | go_skip | go_guarded | go_step)
     refine z27 rfl 67 _ _ rfl _ _ _ rfl rfl HSL.out ?_
     simp only [Act.put,zS,zA,zB]
     refine z0o rfl _ _ rfl wr.heap.size (.slice (some ⟨wr.heap.size,0,none⟩) 0 0) [] (O.drop n) RA r (oc - n) (by rw [List.length_drop,HN.out];exact HRJ.out.symm) rfl HL0.out rfl HDR.out HNI.out (by rw [List.length_drop,HN.out];simp only [List.length_nil];omega) HB3.out.size ?_
     intro v5 w5 ho5 hg5 _
     obtain ⟨a5,c5,hv5⟩:=ho5.out.form
     rw [List.nil_append,List.length_drop,HN.out,HRJ.out] at hv5
     subst hv5
     have HO5:=Lib.hid (show OwnS wr.heap.size (.slice a5 r c5) (O.drop n) w5 from ho5.out)
     have HB5:=Lib.hid (HB3.out.grown hg5.out HB3.out.size (fun g hg=>(World.ownsRow.lt HL0.out g hg).1))
     have HOT:=Lib.hid ((HOA.out.below HB5.out).take n)
     clear ho5 hg5 HSL HDR HNI
     have HN5:=Lib.hid (show StrsAt (some ⟨w5.heap.size,0,none⟩) [x] (w5.alloc (.cells #[.string ⟨x.toArray⟩] 9)) from .inr ⟨_,0,rfl,by rw [World.size_alloc];exact Nat.lt_succ_self _,fun t ht=>by
      obtain rfl:t = 0:=by simpa using ht
      rw [Lib.cell_of_heap (heap_alloc_new w5 _)]
      rfl⟩)
     have b6:Below w5.heap.size w5 (w5.alloc (.cells #[.string ⟨x.toArray⟩] 9)):=(Below.refl _ _).alloc (Nat.le_refl _) _
     have HB6:=Lib.hid b6
     have HT6:=Lib.hid (HOT.out.below b6)
     have HR6:=Lib.hid (show StrsAt a5 (O.drop n) (w5.alloc (.cells #[.string ⟨x.toArray⟩] 9)) from (z1g (l:=O.drop n) (by rw [List.length_drop,HN.out,HRJ.out];exact HO5.out)).below b6)
     clear b6
     go_upto_region 10 with (fail)
     refine wp_region_lit ?_
     iterate 9 (first | go_skip | go_guarded | go_step)
     refine z2i rfl 67 _ _ _ rfl _ _ _ _ rfl rfl rfl HSM.out ?_
     simp only [Act.put,zS,zA,zB]
     iterate 6 (first | go_skip | go_guarded | go_step)
     refine z1s rfl _ _ rfl (O.take n) [x] oa n (by rw [List.length_take,HN.out];omega) ⟨w5.heap.size,0,none⟩ 1 1 rfl (by decide) rfl HT6.out rfl HN5.out (by rw [List.length_take,HN.out];simp only [List.length_singleton];omega) ?_
     intro v7 w7 ho7 hb7
     have HO7:=Lib.hid ho7.out
     have HB7:=Lib.hid (HB6.out.trans (hb7.out.mono HB6.out.size))
     have HSQ:=Lib.hid hb7.out
     have HR7:=Lib.hid (HR6.out.below hb7.out)
     have HC5:=Lib.hid (OwnS.cap HO5.out).2
     clear ho7 hb7
     have HSZ7:=Lib.hid (show (w5.alloc (.cells #[.string ⟨x.toArray⟩] 9)).heap.size ≤ w7.heap.size from HSQ.out.size)
     simp only [Act.put,zS,zA,zB]
     iterate 3 (first | go_skip | go_guarded | go_step)
     refine z0o rfl _ _ rfl _ v7 (O.take n ++ [x]) (O.drop n) a5 r c5 (by rw [List.length_drop,HN.out];exact HRJ.out.symm) rfl HO7.out rfl HR7.out HC5.out (by rw [List.length_append,List.length_take,List.length_drop,HN.out];simp only [List.length_singleton];omega) HSZ7.out ?_
     intro v8 w8 ho8 hg8 _
     have HO8:=Lib.hid (show OwnS w.heap.size v8 (O.take n ++ x :: O.drop n) w8 from by
      have h8:=ho8.out
      rw [List.append_assoc,List.singleton_append] at h8
      exact h8.mono (Nat.le_trans HB.out.size (Nat.le_trans HB5.out.size HB6.out.size)))
     have HB8:=Lib.hid (HB7.out.grown hg8.out HB7.out.size (fun g hg=>Nat.le_trans HB6.out.size (World.ownsRow.lt HO7.out g hg).1))
     clear ho8 hg8
     go_wp2_with fail
     exact ⟨⟨v8,k + 1,rfl,by go_num,by omega,by rw [HIN.out];exact HO8.out,HB.out.trans ((HB5.out.trans (HB8.out.mono HB5.out.size)).mono HB.out.size)⟩,by simp [intOf];omega⟩
  ·obtain rfl:k = m:=by omega
   have HE:=Lib.hid (show z0v (L.take k) = z0v L by rw [List.take_of_length_le (by rw [HM.out];exact Nat.le_refl _)])
   have HO:=Lib.hid (HE.out ▸ ho)
   clear ho
   go_wp2_with fail
   go_ret
   exact ⟨_,rfl,HO.out,HB.out⟩
end Go.Proofs.YtnbldbbbibpobaaGreatDoor
namespace Go.Proofs.YtnbldbbbibpobaaGreatDoor
open Go.RowKit
theorem zds {α:Type} {a b:List α} (hl:a.length = b.length) (h:a.take a.length = b.take a.length):a = b:=by
 rw [List.take_length,hl,List.take_length] at h
 exact h
theorem zba {a b:List (List UInt8)} {q:Nat} (ha:q < a.length) (hb:q < b.length) (h:a.take q = b.take q) (he:a[q] = b[q]):a.take (q + 1) = b.take (q + 1):=by
 rw [List.take_succ_eq_append_getElem ha,List.take_succ_eq_append_getElem hb,h,he]
theorem ne_at {a b:List (List UInt8)} {q:Nat} (ha:q < a.length) (hb:q < b.length) (he:¬ a[q] = b[q]):decide (a = b) = false:=by
 rw [decide_eq_false_iff_not]
 rintro rfl
 exact he rfl
theorem zay (a b:List UInt8) (h:¬ a = b):(a == b) = false:=by simpa using h
theorem z9g (a b:List UInt8) (h:a = b):(a == b) = true:=by simpa using h
theorem zdq (x y:Option Addr) (c d:Nat) (a b:List (List UInt8)) (w:World) (h:¬ a.length = b.length) :
 Calls Tryz.prog 36 #[.slice x a.length c,.slice y b.length d] w fun e w'=>e = .returned (.bool (decide (a = b))) ∧ Below w.heap.size w w':=by
 have e:decide (a = b) = false:=by rw [decide_eq_false_iff_not];rintro rfl;exact h rfl
 have ht:((a.length:Int) == (b.length:Int)) = false:=by simp;omega
 rw [e]
 clear e
 go_enter Tryz.func36,Tryz.ntmps36
 go_wp2_with fail
 go_ret
 exact ⟨rfl,Below.refl _ _⟩
theorem ze7 (x y:Option Addr) (c d:Nat) (a b:List (List UInt8)) (w:World) (hx:StrsAt x a w) (hy:StrsAt y b w) (hl:a.length ≤ 9223372036854775807) :
 Calls Tryz.prog 36 #[.slice x a.length c,.slice y b.length d] w fun e w'=>e = .returned (.bool (decide (a = b))) ∧ Below w.heap.size w w':=by
 by_cases h:a.length = b.length
 ·have HX:=Lib.hid hx
  have HY:=Lib.hid hy
  have HL:=Lib.hid h
  have ht:((a.length:Int) == (b.length:Int)) = true:=by simp;omega
  clear hx hy h
  go_enter Tryz.func36,Tryz.ntmps36
  go_wp2_with fail
  clear ht
  go_loopw [13] (fun i wr=>∃ q:Nat,q ≤ a.length ∧ i = .int .i64 q ∧ a.take q = b.take q ∧ Below w.heap.size w wr) (fun i _=>a.length - (intOf i).toNat)
  case atStart=>exact ⟨0,Nat.zero_le _,rfl,by simp,Below.refl _ _⟩
  case round =>
   obtain ⟨q,hq,rfl,htk,hbel⟩:=hrel
   by_cases hlt:q < a.length
   ·have hltb:q < b.length:=by have:=HL.out;omega
    obtain ⟨xb,xo,hxe,hxc⟩:=(HX.out.below hbel).cell hlt
    obtain ⟨yb,yo,hye,hyc⟩:=(HY.out.below hbel).cell hltb
    have HB:=Lib.hid hbel
    have HT:=Lib.hid htk
    subst hxe hye
    clear hbel htk
    by_cases he:a[q] = b[q]
    ·have ht:=z9g _ _ he
     have HE:=Lib.hid he
     clear he
     go_wp2_with fail
     go_quiet (fail)
     go_wp2_with fail
     exact ⟨⟨q + 1,by omega,by go_num,zba hlt hltb HT.out HE.out,z0q HB.out nq⟩,by simp [intOf];omega⟩
    ·have ht:=zay _ _ he
     have HE:=Lib.hid he
     clear he
     go_wp2_with fail
     go_quiet (fail)
     go_wp2_with fail
     go_ret
     exact ⟨by rw [ne_at hlt hltb HE.out];rfl,z0q HB.out nq⟩
   ·obtain rfl:q = a.length:=by omega
    have HE:=Lib.hid (zds HL.out htk)
    have HB:=Lib.hid hbel
    clear htk hbel
    go_wp2_with fail
    go_ret
    exact ⟨by rw [decide_eq_true HE.out];rfl,HB.out⟩
 ·exact zdq x y c d a b w h
open Go.BigFrame
theorem z9j {A:List (List UInt8)} {n:Nat} (hn:A.length = n) (pa pb:Option Addr) (ca cb:Nat) (w:World) (hpa:StrsAt pa A w) (hpb:StrsAt pb A w) (hl:n ≤ 100000) :
 Calls Tryz.prog 36 #[.slice pa n ca,.slice pb n cb] w fun e w'=>e = .returned (.bool true) ∧ Below w.heap.size w w':=by
 subst hn
 have h:=ze7 pa pb ca cb A A w hpa hpb (by omega)
 rwa [show decide (A = A) = true from decide_eq_true rfl] at h
theorem zjs {s:DagN} (ht:Tame s) (key:List UInt8) (ks:List Int):(ofN s.ops key ks).length ≤ 1000 ∧ ∀ x ∈ ofN s.ops key ks,x.Fit:=by
 have hp:=z1e s.ops
 refine ⟨?_,fun x hx=>ht.ops x (hp.mem_iff.1 (List.mem_filter.1 hx).1)⟩
 have h1:=List.length_filter_le (fun o:OpN=>decide (o.d.key = key ∧ o.d.kind ∈ ks)) (z2g s.ops)
 have h2:=ht.many
 rw [hp.length_eq] at h1
 exact Nat.le_trans h1 (by omega)
theorem zj1 {s:DagN} (ht:Tame s) (ks:List Int):(z6l s.ops ks).length ≤ 1000:=by
 have h1:=z34 ((s.ops.filter fun o=>decide (o.d.kind ∈ ks)).map fun o=>o.d.key) _ (Nat.le_refl _)
 rw [List.take_length,List.length_map] at h1
 have h2:=List.length_filter_le (fun o:OpN=>decide (o.d.kind ∈ ks)) s.ops
 have h3:=ht.many
 exact Nat.le_trans h1 (Nat.le_trans h2 (by omega))
theorem zaf {g:Nat} {a:Int} {w:World} (h:w.heap[g]? = some (.cells #[.int .i64 a] 3 (0,0))):IntsIn (some ⟨g,0,none⟩) [a] w:=fun i hi=>by
 obtain rfl:i = 0:=by simpa using hi
 refine ⟨_,rfl,?_⟩
 rw [Addr.add_lit,Lib.cell_of_heap h]
 rfl
theorem zi3 {g:Nat} {a b:Int} {w:World} (h:w.heap[g]? = some (.cells #[.int .i64 a,.int .i64 b] 3 (0,0))):IntsIn (some ⟨g,0,none⟩) [a,b] w:=fun i hi=>by
 have hi2:i = 0 ∨ i = 1:=by simp at hi;omega
 rcases hi2 with rfl | rfl
 ·refine ⟨_,rfl,?_⟩
  rw [Addr.add_lit,Lib.cell_of_heap h]
  rfl
 ·refine ⟨_,rfl,?_⟩
  rw [Addr.add_lit,Lib.cell_of_heap h]
  rfl
theorem zdi (i n:Nat) (h:i < n) (w:World):(binOp .lss 3 (.int .i64 (i:Int)) (.int .i64 (n:Int))).run Tryz.prog w = .ok (.bool true) w:=by
 have h1:(i:Int) < (n:Int):=by omega
 go_simp
theorem lss_no (i n:Nat) (h:n ≤ i) (w:World):(binOp .lss 3 (.int .i64 (i:Int)) (.int .i64 (n:Int))).run Tryz.prog w = .ok (.bool false) w:=by
 go_simp
theorem z69 {w:World} {ops:Array Oper} {rest:List Oper} {o:Oper} {a:Act} {Q:Exit → Act → World → Prop} (hw:Region.wanted o (yielded ops a.tmps) = true) (s x:Operand) (ho:o.op = .call { callee:=.builtin .append,args:=#[s,x],argTypes:=#[67,67] })
 (B:Nat) (v:Value) (L M:List (List UInt8)) (ao:Option Addr) (n c:Nat) (hn:n = M.length) (hs:a.eval s = v) (hown:OwnS B v L w) (hx:a.eval x = .slice ao n c) (hsrc:StrsAt ao M w) (hnil:ao = none → c = 0)
 (h63:L.length + M.length ≤ 1000000) (hB:B ≤ w.heap.size)
 (h:∀ v' w',Hid (OwnS B v' (L ++ M) w') → Hid (w.grownBy w' v.ownBlock) → wpList Tryz.prog ops Q rest (a.put o.dst v') w'):wpList Tryz.prog ops Q (o :: rest) a w :=
 BigFrame.wpList_want hw fun K hK=>(show OpWp Tryz.prog { o with guard:=none } a w K Q from
  z1q (ops:=#[]) rfl (z0o rfl s x ho B v L M ao n c hn hs hown hx hsrc hnil h63 hB fun v' w' h1 h2 _=>⟨rfl,hK _ _ (h v' w' h1 h2)⟩)).out
namespace lineParts
theorem walk (W:World) (hk:KAt W) (ao:Option Addr) (l:List MakeN) (c:Nat) (hs:MksAt ao l W) (hn:∀ x ∈ l,x.In) (ht:l.length ≤ 140737488351232) (key:List UInt8) (_hz:key.length ≤ 140737488351232)
 (A:Int) (_hA:(Lit.int .i64 A).wf = true) (E:Int) (_hE:(Lit.int .i64 E).wf = true) :
 Calls Tryz.prog 8 #[.slice ao l.length c,.string ⟨key.toArray⟩,.int .i64 A,.int .i64 E] W fun e W'=>e = .returned (.bool true) ∧ Below W.heap.size W W':=by
 have HAL:=Lib.hid (zdd W hk)
 have HBO:=Lib.hid (fun w1 (b:Below W.heap.size W w1)=>zi6 W ao l c w1 hs hn ht b (hk.below b))
 have HSO:=Lib.hid (show (Tryz.prog.info? 38).bind (·.zero) = some (.agg (opL z05 none 0).toArray) by kernel_rfl)
 obtain ⟨nl,hnl⟩:∃ i,l.length = i:=⟨_,rfl⟩
 rw [hnl] at HBO ⊢
 clear hs hn ht hk hnl _hz
 go_enter Tryz.func8,Tryz.ntmps8
 go_wp2_with fail
 refine HAL.out.mono ?_
 rintro e w1 ⟨rfl,hb1⟩
 have HB1:=Lib.hid hb1
 clear hb1
 by_cases hab:A = E
 ·subst hab
  go_wp2_with fail
  go_ret
  exact ⟨rfl,HB1.out⟩
 ·have g1:(A == E) = false:=by simpa using hab
  have HAB:=Lib.hid hab
  by_cases h100:key.length ≤ 100
  ·have g2:decide ((100:Int) < (key.length:Int)) = false:=decide_eq_false (by omega)
   go_wp2_with fail
   refine (HBO.out w1 HB1.out).mono ?_
   rintro e w2 ⟨Z,X,B,gs,T,s,hs,M,vo,vw,vn,vq,rfl,hset,hinv,htm,hdp,hgd,href,hb2⟩
   have HB2:=Lib.hid (HB1.out.trans (hb2.mono HB1.out.size))
   have HOF:=Lib.hid (fun w' (b:Below w2.heap.size w2 w') bo r nr (hI:IntsIn bo r w') (hr:r.length = nr) (hl:nr ≤ 140737488351232)=>zdo X B T s hs M key bo r nr nr w' (hset.below b) hinv.nodupN htm hgd hI hr hl)
   have HKY:=Lib.hid (fun w' (b:Below w2.heap.size w2 w') bo r nr (hI:IntsIn bo r w') (hr:r.length = nr) (hl:nr ≤ 140737488351232)=>zdy X B T s hs M bo r nr nr w' (hset.below b) hinv.nodupN htm hgd hI hr hl)
   have HFA:=Lib.hid (fun ks=>zjs htm key ks)
   have HKA:=Lib.hid (fun ks=>zj1 htm ks)
   obtain ⟨x,hx⟩:∃ x,ofN s.ops key [A,E] = x:=⟨_,rfl⟩
   obtain ⟨y,hy⟩:∃ x,ofN s.ops key [A] = x:=⟨_,rfl⟩
   obtain ⟨z,hz⟩:∃ x,ofN s.ops key [E] = x:=⟨_,rfl⟩
   have HX:=Shut.mk hx
   have HY:=Shut.mk hy
   have HZ:=Shut.mk hz
   have hfx:=HFA.out [A,E]
   have hfy:=HFA.out [A]
   have hfz:=HFA.out [E]
   rw [hx] at hfx
   rw [hy] at hfy
   rw [hz] at hfz
   obtain ⟨nx,hnx⟩:∃ i,x.length = i:=⟨_,rfl⟩
   obtain ⟨ny,hny⟩:∃ i,y.length = i:=⟨_,rfl⟩
   obtain ⟨nz,hnz⟩:∃ i,z.length = i:=⟨_,rfl⟩
   have HNX:=Shut.mk hnx
   have HNY:=Shut.mk hny
   have HNZ:=Shut.mk hnz
   have hx3:nx ≤ 1000:=hnx ▸ hfx.1
   have hy3:ny ≤ 1000:=hny ▸ hfy.1
   have hz3:nz ≤ 1000:=hnz ▸ hfz.1
   have HFX:=Lib.hid hfx.2
   have HFY:=Lib.hid hfy.2
   have HFZ:=Lib.hid hfz.2
   clear hset hinv htm hdp hgd href hb2 hx hy hz hfx hfy hfz hnx hny hnz HBO HAL g1 g2 h100 hab
   have b3:Below w2.heap.size w2 (w2.alloc (.cells #[.int .i64 A,.int .i64 E] 3)):=(Below.refl _ _).alloc (Nat.le_refl _) _
   have H3:=Lib.hid (HOF.out _ b3 _ [A,E] 2 (zi3 (heap_alloc_new w2 _)) rfl (by decide))
   rw [HX.out] at H3
   go_wp2_with (refine H3.out.mono ?_;rintro e w3 ⟨v3,rfl,ho3,hb3⟩;obtain ⟨a3,c3,rfl⟩:=ho3.form;rw [HNX.out] at ho3 ⊢;have HA3:=Lib.hid ho3.at;have HB3:=Lib.hid (b3.trans (hb3.mono b3.size));clear ho3 hb3;have b4:Below w3.heap.size w3 (w3.alloc (.cells #[.int .i64 A] 3)):=(Below.refl _ _).alloc (Nat.le_refl _) _;have H4:=Lib.hid (HOF.out _ (HB3.out.trans (b4.mono HB3.out.size)) _ [A] 1 (zaf (heap_alloc_new w3 _)) rfl (by decide));rw [HY.out] at H4;clear H3 b3)
   go_wp2_with (refine H4.out.mono ?_;rintro e w4 ⟨v4,rfl,ho4,hb4⟩;obtain ⟨a4,c4,rfl⟩:=ho4.form;rw [HNY.out] at ho4 ⊢;have HA4:=Lib.hid ho4.at;have HB34:=Lib.hid (b4.trans (hb4.mono b4.size));have HB4:=Lib.hid (HB3.out.trans (HB34.out.mono HB3.out.size));clear ho4 hb4;have b5:Below w4.heap.size w4 (w4.alloc (.cells #[.int .i64 E] 3)):=(Below.refl _ _).alloc (Nat.le_refl _) _;have H5:=Lib.hid (HOF.out _ (HB4.out.trans (b5.mono HB4.out.size)) _ [E] 1 (zaf (heap_alloc_new w4 _)) rfl (by decide));rw [HZ.out] at H5;clear H4 b4)
   go_wp2_with (refine H5.out.mono ?_;rintro e w5 ⟨v5,rfl,ho5,hb5⟩;obtain ⟨a5,c5,rfl⟩:=ho5.form;rw [HNZ.out] at ho5 ⊢;have HA5:=Lib.hid ho5.at;have HB45:=Lib.hid (b5.trans (hb5.mono b5.size));have HB5:=Lib.hid (HB4.out.trans (HB45.out.mono HB4.out.size));clear ho5 hb5 H5 b5)
   have HX5:=Lib.hid ((HA3.out.below HB34.out).below HB45.out)
   have HY5:=Lib.hid (HA4.out.below HB45.out)
   have hleft:∀ t i k o,PartsAt (ofN s.ops key [A,E]) A E t i k → (ofN s.ops key [A,E])[t]? = some o → o.d.kind = A → (ofN s.ops key [A])[i]? = some o ∧ PartsAt (ofN s.ops key [A,E]) A E (t + 1) (i + 1) k:=fun t i k o h ho hk=>h.left HAB.out ho hk
   have hright:∀ t i k o,PartsAt (ofN s.ops key [A,E]) A E t i k → (ofN s.ops key [A,E])[t]? = some o → o.d.kind ≠ A → (∀ y,(ofN s.ops key [A])[i]? = some y → y ≠ o) ∧ (ofN s.ops key [E])[k]? = some o ∧ PartsAt (ofN s.ops key [A,E]) A E (t + 1) i (k + 1):=fun t i k o h ho hk=>(h.right ho hk).2
   have hfin:∀ i k,PartsAt (ofN s.ops key [A,E]) A E (ofN s.ops key [A,E]).length i k → i = (ofN s.ops key [A]).length ∧ k = (ofN s.ops key [E]).length:=fun i k h=>h.fin
   rw [HX.out,HY.out] at hleft
   rw [HX.out,HY.out,HZ.out] at hright hfin
   rw [HNX.out,HNY.out,HNZ.out] at hfin
   have HLE:=Lib.hid hleft
   have HRI:=Lib.hid hright
   have HFN:=Lib.hid hfin
   clear hleft hright hfin
   go_wp2_with fail
   go_loopw [14,15,51] (fun iv kv tv wr=>∃ i k t:Nat,iv = .int .i64 i ∧ kv = .int .i64 k ∧ tv = .int .i64 t ∧ t ≤ nx ∧ i ≤ t ∧ k ≤ t ∧ PartsAt x A E t i k ∧ Below w5.heap.size w5 wr) (fun _ _ tv _=>nx - (intOf tv).toNat)
   case atStart=>exact ⟨0,0,0,rfl,rfl,rfl,Nat.zero_le _,Nat.le_refl _,Nat.le_refl _,PartsAt.zero _ _ _,Below.refl _ _⟩
   case round =>
    obtain ⟨wi,rfl⟩:∃ z,z = wr:=⟨_,rfl⟩
    obtain ⟨i,k,t,rfl,rfl,rfl,ht,hit,hkt,hpt,hb⟩:=hrel
    have HPT:=Lib.hid hpt
    have HBM:=Lib.hid hb
    have HXI:=Lib.hid (HX5.out.below hb)
    clear hpt hb
    by_cases hlt:t < nx
    ·obtain ⟨o,ho⟩:∃ o,x[t]? = some o:=⟨_,List.getElem?_eq_getElem (by rw [HNX.out];exact hlt)⟩
     have HOX:=Lib.hid ho
     have HFO:=Lib.hid (HFX.out o (List.mem_of_getElem? ho))
     obtain ⟨br,rr,rfl,hbr,pa,pc,r1,i1⟩:=HXI.out.get ho
     have HRX:=Lib.hid r1
     have HSL:=Lib.hid (show (Tryz.prog.info? 38).map (·.size) = some (opL o pa pc).length by rw [z16 HFO.out.d.ref.1];exact Tryz.sizeO)
     have HSV:=Lib.hid (show (Tryz.prog.info? 38).map (·.size) = some (opV o pa pc).size by rw [z0b HFO.out.d.ref.1];exact Tryz.sizeO)
     have HSZ:=Lib.hid (show (opL z05 none 0).toArray.size = (opV o pa pc).size by rw [z0b HFO.out.d.ref.1];rfl)
     have HI1:=Lib.hid i1
     clear ho hbr r1 i1
     go_wp2_with (first
      | (refine wpList_load_mid rfl 38 _ rfl br (rr + t * 38) rfl (opL o pa pc) _ HRX.out Tryz.underlying38 rfl HSL.out ?_)
      | (refine z0d rfl 38 rfl (opL z05 none 0) HSO.out ?_)
      | (refine z02 rfl 38 _ _ rfl rfl wi.heap.size (opL z05 none 0).toArray (opV o pa pc) 38 rfl rfl (heap_alloc_new wi _) HSV.out HSZ.out (z1i o pa pc) ?_))
     intro w7 hcs hbs
     have hb7:Below wi.heap.size wi w7:=But.toBelow ((Below.refl _ wi).alloc (Nat.le_refl _) _) hbs.out (Nat.le_refl _) (by rw [World.size_alloc];exact Nat.le_succ _)
     have HC17:=Lib.hid (show Cells wi.heap.size 38 (opV o pa pc) w7 from hcs.out)
     have HB7:=Lib.hid (HBM.out.trans (hb7.mono HBM.out.size))
     have HIO:=Lib.hid (HI1.out.below hb7)
     obtain ⟨g17,hg17⟩:∃ z,wi.heap.size = z:=⟨_,rfl⟩
     rw [hg17] at HC17 ⊢
     clear hcs hbs hb7 hg17 HI1 HRX
     by_cases hka:o.d.kind = A
     ·obtain ⟨hyo',hpn⟩:=HLE.out t i k o HPT.out HOX.out hka
      obtain ⟨yo,hyy⟩:∃ z,o = z:=⟨_,rfl⟩
      have heq:decide (yo = o) = true:=decide_eq_true hyy.symm
      have hyo:y[i]? = some yo:=by rw [hyo',hyy]
      have HPN:=Lib.hid hpn
      clear hpn hka hyy hyo'
      have hlt':=(List.getElem?_eq_some_iff.1 hyo).1
      rw [HNY.out] at hlt'
      have HFQ:=Lib.hid (HFY.out yo (List.mem_of_getElem? hyo))
      obtain ⟨bq,oq,e1,hbq,pq,cq,rq,iq⟩:=(show Hid (OpsAt a4 y w7) from Lib.hid (HY5.out.below HB7.out)).out.get hyo
      cases e1
      have HLT:=Lib.hid (fun w=>zdi i ny hlt' w)
      have HIX:=Lib.hid (fun w=>z3d bq oq ny c4 i hlt' w)
      have HRQ:=Lib.hid (fun w' (q:Below w7.heap.size w7 w')=>z08 rq q hbq)
      have HSQ:=Lib.hid (show (Tryz.prog.info? 38).map (·.size) = some (opL yo pq cq).length by rw [z16 HFQ.out.d.ref.1];exact Tryz.sizeO)
      have HCQ:=Lib.hid (fun w' (q:Below w7.heap.size w7 w')=>HC17.out.below q)
      have HSA:=Lib.hid (fun w' (q:Below w7.heap.size w7 w')=>show Calls Tryz.prog 20 #[.agg (opV yo pq cq),.agg (opV o pa pc)] w' fun e w''=>e = .returned (.bool true) ∧ Below w'.heap.size w' w'' from
       heq ▸ z57 yo o pq pa cq pc w' HFQ.out.ok HFO.out.ok (iq.below q) (HIO.out.below q) (Nat.le_trans HFQ.out.many (by decide)) (Nat.le_trans HFO.out.many (by decide)))
      clear hyo hbq rq iq heq hlt'
      go_upto_region 11 with (fail)
      refine z09 (fun w'=>Below w7.heap.size w7 w') (by kernel_rfl) (by kernel_rfl) (Below.refl _ _).drew ?_
      repeat (first
       | go_big_quiet_skip
       | (go_big_quiet_want;refine z2m .lss 3 3 _ _ rfl _ _ _ rfl rfl (fun w=>rfl) HLT.out ?_;go_big_quiet_on;simp only [Act.put,zS,zA,zB])
       | (go_big_quiet_want;refine z1n 29 _ _ rfl _ _ _ rfl rfl HIX.out ?_;go_big_quiet_on;simp only [Act.put,zS,zA,zB])
       | (go_big_quiet_want;refine z14 38 _ rfl bq (oq + i * 38) (opL yo pq cq) _ rfl HRQ.out Tryz.underlying38 rfl HSQ.out ?_;go_big_quiet_on;simp only [Act.put,zS,zA,zB])
       | (go_big_quiet_want;refine z0k 38 _ rfl g17 (opV o pa pc) 38 _ rfl HCQ.out Tryz.underlying38 rfl HSV.out ?_;go_big_quiet_on;simp only [Act.put,zS,zA,zB])
       | go_big_quiet_step ((intro hs';first
        | (go_at_call 20;exact (HSA.out _ hs').mono fun e w' h=>⟨h.1,hs'.trans (h.2.mono hs'.size)⟩)
        | rfl)))
      refine wpQuiet_nil ?_
      intro w8 hsn
      have HB8:=Lib.hid (HB7.out.trans (hsn.mono HB7.out.size))
      have HDN:=Lib.hid hsn
      clear hsn
      go_wp2_with fail
      exact ⟨⟨i + 1,k,t + 1,by go_num,by go_num,by go_num,by omega,by omega,by omega,HPN.out,HB8.out⟩,by simp [intOf];omega⟩
     ·obtain ⟨hne,hzo,hpn⟩:=HRI.out t i k o HPT.out HOX.out hka
      have HPN:=Lib.hid hpn
      have HZO:=Lib.hid hzo
      have HNE:=Lib.hid hne
      clear hpn hka hzo hne
      by_cases hiy:i < ny
      ·obtain ⟨yo,hyo⟩:∃ z,y[i]? = some z:=⟨_,List.getElem?_eq_getElem (by rw [HNY.out];exact hiy)⟩
       have heq:decide (yo = o) = false:=decide_eq_false (HNE.out yo hyo)
       have hlt':=(List.getElem?_eq_some_iff.1 hyo).1
       rw [HNY.out] at hlt'
       have HFQ:=Lib.hid (HFY.out yo (List.mem_of_getElem? hyo))
       obtain ⟨bq,oq,e1,hbq,pq,cq,rq,iq⟩:=(show Hid (OpsAt a4 y w7) from Lib.hid (HY5.out.below HB7.out)).out.get hyo
       cases e1
       have HLT:=Lib.hid (fun w=>zdi i ny hlt' w)
       have HIX:=Lib.hid (fun w=>z3d bq oq ny c4 i hlt' w)
       have HRQ:=Lib.hid (fun w' (q:Below w7.heap.size w7 w')=>z08 rq q hbq)
       have HSQ:=Lib.hid (show (Tryz.prog.info? 38).map (·.size) = some (opL yo pq cq).length by rw [z16 HFQ.out.d.ref.1];exact Tryz.sizeO)
       have HCQ:=Lib.hid (fun w' (q:Below w7.heap.size w7 w')=>HC17.out.below q)
       have HSA:=Lib.hid (fun w' (q:Below w7.heap.size w7 w')=>show Calls Tryz.prog 20 #[.agg (opV yo pq cq),.agg (opV o pa pc)] w' fun e w''=>e = .returned (.bool false) ∧ Below w'.heap.size w' w'' from
        heq ▸ z57 yo o pq pa cq pc w' HFQ.out.ok HFO.out.ok (iq.below q) (HIO.out.below q) (Nat.le_trans HFQ.out.many (by decide)) (Nat.le_trans HFO.out.many (by decide)))
       clear hyo hbq rq iq heq hlt'
       go_upto_region 11 with (fail)
       refine z09 (fun w'=>Below w7.heap.size w7 w') (by kernel_rfl) (by kernel_rfl) (Below.refl _ _).drew ?_
       repeat (first
        | go_big_quiet_skip
        | (go_big_quiet_want;refine z2m .lss 3 3 _ _ rfl _ _ _ rfl rfl (fun w=>rfl) HLT.out ?_;go_big_quiet_on;simp only [Act.put,zS,zA,zB])
        | (go_big_quiet_want;refine z1n 29 _ _ rfl _ _ _ rfl rfl HIX.out ?_;go_big_quiet_on;simp only [Act.put,zS,zA,zB])
        | (go_big_quiet_want;refine z14 38 _ rfl bq (oq + i * 38) (opL yo pq cq) _ rfl HRQ.out Tryz.underlying38 rfl HSQ.out ?_;go_big_quiet_on;simp only [Act.put,zS,zA,zB])
        | (go_big_quiet_want;refine z0k 38 _ rfl g17 (opV o pa pc) 38 _ rfl HCQ.out Tryz.underlying38 rfl HSV.out ?_;go_big_quiet_on;simp only [Act.put,zS,zA,zB])
        | go_big_quiet_step ((intro hs';first
         | (go_at_call 20;exact (HSA.out _ hs').mono fun e w' h=>⟨h.1,hs'.trans (h.2.mono hs'.size)⟩)
         | rfl)))
       refine wpQuiet_nil ?_
       intro w8 hsn
       have HB8:=Lib.hid (HB7.out.trans (hsn.mono HB7.out.size))
       have HDN:=Lib.hid hsn
       clear hsn
       have HC19:=Lib.hid (HC17.out.below HDN.out)
       have HIO9:=Lib.hid (HIO.out.below HDN.out)
       clear HC17 HIO HDN
       have HC17:=HC19
       have HIO:=HIO9
       obtain ⟨yo,hyy⟩:∃ z,o = z:=⟨_,rfl⟩
       have heq:decide (yo = o) = true:=decide_eq_true hyy.symm
       have hyo:z[k]? = some yo:=by rw [HZO.out,hyy]
       clear hyy
       have hlt':=(List.getElem?_eq_some_iff.1 hyo).1
       rw [HNZ.out] at hlt'
       have HFQ:=Lib.hid (HFZ.out yo (List.mem_of_getElem? hyo))
       obtain ⟨bq,oq,e1,hbq,pq,cq,rq,iq⟩:=(show Hid (OpsAt a5 z w8) from Lib.hid (HA5.out.below HB8.out)).out.get hyo
       cases e1
       have HLT:=Lib.hid (fun w=>zdi k nz hlt' w)
       have HIX:=Lib.hid (fun w=>z3d bq oq nz c5 k hlt' w)
       have HRQ:=Lib.hid (fun w' (q:Below w8.heap.size w8 w')=>z08 rq q hbq)
       have HSQ:=Lib.hid (show (Tryz.prog.info? 38).map (·.size) = some (opL yo pq cq).length by rw [z16 HFQ.out.d.ref.1];exact Tryz.sizeO)
       have HCQ:=Lib.hid (fun w' (q:Below w8.heap.size w8 w')=>HC17.out.below q)
       have HSA:=Lib.hid (fun w' (q:Below w8.heap.size w8 w')=>show Calls Tryz.prog 20 #[.agg (opV yo pq cq),.agg (opV o pa pc)] w' fun e w''=>e = .returned (.bool true) ∧ Below w'.heap.size w' w'' from
        heq ▸ z57 yo o pq pa cq pc w' HFQ.out.ok HFO.out.ok (iq.below q) (HIO.out.below q) (Nat.le_trans HFQ.out.many (by decide)) (Nat.le_trans HFO.out.many (by decide)))
       clear hyo hbq rq iq heq hlt'
       go_upto_region 13 with (fail)
       refine z09 (fun w'=>Below w8.heap.size w8 w') (by kernel_rfl) (by kernel_rfl) (Below.refl _ _).drew ?_
       repeat (first
        | go_big_quiet_skip
        | (go_big_quiet_want;refine z2m .lss 3 3 _ _ rfl _ _ _ rfl rfl (fun w=>rfl) HLT.out ?_;go_big_quiet_on;simp only [Act.put,zS,zA,zB])
        | (go_big_quiet_want;refine z1n 29 _ _ rfl _ _ _ rfl rfl HIX.out ?_;go_big_quiet_on;simp only [Act.put,zS,zA,zB])
        | (go_big_quiet_want;refine z14 38 _ rfl bq (oq + k * 38) (opL yo pq cq) _ rfl HRQ.out Tryz.underlying38 rfl HSQ.out ?_;go_big_quiet_on;simp only [Act.put,zS,zA,zB])
        | (go_big_quiet_want;refine z0k 38 _ rfl g17 (opV o pa pc) 38 _ rfl HCQ.out Tryz.underlying38 rfl HSV.out ?_;go_big_quiet_on;simp only [Act.put,zS,zA,zB])
        | go_big_quiet_step ((intro hs';first
         | (go_at_call 20;exact (HSA.out _ hs').mono fun e w' h=>⟨h.1,hs'.trans (h.2.mono hs'.size)⟩)
         | rfl)))
       refine wpQuiet_nil ?_
       intro w9 hsn
       have HB9:=Lib.hid (HB8.out.trans (hsn.mono HB8.out.size))
       have HDN:=Lib.hid hsn
       clear hsn
       go_wp2_with fail
       exact ⟨⟨i,k + 1,t + 1,by go_num,by go_num,by go_num,by omega,by omega,by omega,HPN.out,HB9.out⟩,by simp [intOf];omega⟩
      ·have HLT:=Lib.hid (fun w=>lss_no i ny (by omega) w)
       go_upto_region 11 with (fail)
       refine z09 (fun w'=>Below w7.heap.size w7 w') (by kernel_rfl) (by kernel_rfl) (Below.refl _ _).drew ?_
       repeat (first
        | go_big_quiet_skip
        | (go_big_quiet_want;refine z2m .lss 3 3 _ _ rfl _ _ _ rfl rfl (fun w=>rfl) HLT.out ?_;go_big_quiet_on;simp only [Act.put,zS,zA,zB])
        | go_big_quiet_step ((intro hs';rfl)))
       refine wpQuiet_nil ?_
       intro w8 hsn
       have HB8:=Lib.hid (HB7.out.trans (hsn.mono HB7.out.size))
       have HDN:=Lib.hid hsn
       clear hsn
       have HC19:=Lib.hid (HC17.out.below HDN.out)
       have HIO9:=Lib.hid (HIO.out.below HDN.out)
       clear HC17 HIO HDN
       have HC17:=HC19
       have HIO:=HIO9
       obtain ⟨yo,hyy⟩:∃ z,o = z:=⟨_,rfl⟩
       have heq:decide (yo = o) = true:=decide_eq_true hyy.symm
       have hyo:z[k]? = some yo:=by rw [HZO.out,hyy]
       clear hyy
       have hlt':=(List.getElem?_eq_some_iff.1 hyo).1
       rw [HNZ.out] at hlt'
       have HFQ:=Lib.hid (HFZ.out yo (List.mem_of_getElem? hyo))
       obtain ⟨bq,oq,e1,hbq,pq,cq,rq,iq⟩:=(show Hid (OpsAt a5 z w8) from Lib.hid (HA5.out.below HB8.out)).out.get hyo
       cases e1
       have HLT:=Lib.hid (fun w=>zdi k nz hlt' w)
       have HIX:=Lib.hid (fun w=>z3d bq oq nz c5 k hlt' w)
       have HRQ:=Lib.hid (fun w' (q:Below w8.heap.size w8 w')=>z08 rq q hbq)
       have HSQ:=Lib.hid (show (Tryz.prog.info? 38).map (·.size) = some (opL yo pq cq).length by rw [z16 HFQ.out.d.ref.1];exact Tryz.sizeO)
       have HCQ:=Lib.hid (fun w' (q:Below w8.heap.size w8 w')=>HC17.out.below q)
       have HSA:=Lib.hid (fun w' (q:Below w8.heap.size w8 w')=>show Calls Tryz.prog 20 #[.agg (opV yo pq cq),.agg (opV o pa pc)] w' fun e w''=>e = .returned (.bool true) ∧ Below w'.heap.size w' w'' from
        heq ▸ z57 yo o pq pa cq pc w' HFQ.out.ok HFO.out.ok (iq.below q) (HIO.out.below q) (Nat.le_trans HFQ.out.many (by decide)) (Nat.le_trans HFO.out.many (by decide)))
       clear hyo hbq rq iq heq hlt'
       go_upto_region 13 with (fail)
       refine z09 (fun w'=>Below w8.heap.size w8 w') (by kernel_rfl) (by kernel_rfl) (Below.refl _ _).drew ?_
       repeat (first
        | go_big_quiet_skip
        | (go_big_quiet_want;refine z2m .lss 3 3 _ _ rfl _ _ _ rfl rfl (fun w=>rfl) HLT.out ?_;go_big_quiet_on;simp only [Act.put,zS,zA,zB])
        | (go_big_quiet_want;refine z1n 29 _ _ rfl _ _ _ rfl rfl HIX.out ?_;go_big_quiet_on;simp only [Act.put,zS,zA,zB])
        | (go_big_quiet_want;refine z14 38 _ rfl bq (oq + k * 38) (opL yo pq cq) _ rfl HRQ.out Tryz.underlying38 rfl HSQ.out ?_;go_big_quiet_on;simp only [Act.put,zS,zA,zB])
        | (go_big_quiet_want;refine z0k 38 _ rfl g17 (opV o pa pc) 38 _ rfl HCQ.out Tryz.underlying38 rfl HSV.out ?_;go_big_quiet_on;simp only [Act.put,zS,zA,zB])
        | go_big_quiet_step ((intro hs';first
         | (go_at_call 20;exact (HSA.out _ hs').mono fun e w' h=>⟨h.1,hs'.trans (h.2.mono hs'.size)⟩)
         | rfl)))
       refine wpQuiet_nil ?_
       intro w9 hsn
       have HB9:=Lib.hid (HB8.out.trans (hsn.mono HB8.out.size))
       have HDN:=Lib.hid hsn
       clear hsn
       go_wp2_with fail
       exact ⟨⟨i,k + 1,t + 1,by go_num,by go_num,by go_num,by omega,by omega,by omega,HPN.out,HB9.out⟩,by simp [intOf];omega⟩
    ·obtain rfl:nx = t:=by omega
     obtain ⟨hie,hke⟩:=HFN.out i k HPT.out
     subst hie hke
     have HB2I:=Lib.hid (HB5.out.trans (HBM.out.mono HB5.out.size))
     have HKN:=Shut.mk (zmf s.ops A E)
     obtain ⟨G,hG⟩:∃ z,z6l s.ops [A,E] = z:=⟨_,rfl⟩
     obtain ⟨GA,hGA⟩:∃ z,z6l s.ops [A] = z:=⟨_,rfl⟩
     obtain ⟨GE,hGE⟩:∃ z,z6l s.ops [E] = z:=⟨_,rfl⟩
     have hg1:=HKA.out [A,E]
     have hg2:=HKA.out [A]
     have hg3:=HKA.out [E]
     have HK2:=Lib.hid HKY.out
     rw [hG,hGA,hGE] at HKN
     rw [hG] at hg1
     rw [hGA] at hg2
     rw [hGE] at hg3
     have HG:=Shut.mk hG
     have HGA:=Shut.mk hGA
     have HGE:=Shut.mk hGE
     clear hG hGA hGE
     have b6:Below wi.heap.size wi (wi.alloc (.cells #[.int .i64 A,.int .i64 E] 3)):=(Below.refl _ _).alloc (Nat.le_refl _) _
     have H6:=Lib.hid (HKY.out _ (HB2I.out.trans (b6.mono HB2I.out.size)) _ [A,E] 2 (zi3 (heap_alloc_new wi _)) rfl (by decide))
     rw [HG.out] at H6
     have HL9:=Lib.hid (show GA.length + GE.length ≤ 1000000 by omega)
     obtain ⟨ng,hng⟩:∃ z,G.length = z:=⟨_,rfl⟩
     have HNG:=Shut.mk hng
     obtain ⟨na,hna⟩:∃ z,GA.length = z:=⟨_,rfl⟩
     have HNA:=Shut.mk hna
     obtain ⟨ne,hne⟩:∃ z,GE.length = z:=⟨_,rfl⟩
     have HNE:=Shut.mk hne
     have hg1':ng ≤ 1000:=hng ▸ hg1
     have HGL:=Lib.hid (show (GA ++ GE).length ≤ 100000 by rw [List.length_append];omega)
     have HRL:=Lib.hid (show (z0v (GA ++ GE)).length = ng by rw [← HKN.out];exact hng)
     have HKG:=Lib.hid (show G = z0v (GA ++ GE) from HKN.out)
     obtain ⟨GR,hGR⟩:∃ z,z0v (GA ++ GE) = z:=⟨_,rfl⟩
     have HGR:=Shut.mk hGR
     rw [hGR] at HRL HKG
     clear hng hna hne hg1 hg2 hg3 hGR HKN
     go_wp2_with (first
      | (refine H6.out.mono ?_;rintro e w6 ⟨v6,rfl,ho6,hb6⟩;obtain ⟨a6,c6,rfl⟩:=ho6.form;have HO6:=Lib.hid (z1g ho6);have HB6:=Lib.hid (HB2I.out.trans ((b6.trans (hb6.mono b6.size)).mono HB2I.out.size));clear ho6 hb6 H6 b6;have b7:Below w6.heap.size w6 (w6.alloc (.cells #[.int .i64 A] 3)):=(Below.refl _ _).alloc (Nat.le_refl _) _;have H7:=Lib.hid (HKY.out _ (HB6.out.trans (b7.mono HB6.out.size)) _ [A] 1 (zaf (heap_alloc_new w6 _)) rfl (by decide));rw [HGA.out] at H7;rw [HNG.out])
      | (refine H7.out.mono ?_;rintro e w7 ⟨v7,rfl,ho7,hb7⟩;have HB67:=Lib.hid (b7.trans (hb7.mono b7.size));have HO7:=Lib.hid (ho7.mono b7.size);have HB7:=Lib.hid (HB6.out.trans (HB67.out.mono HB6.out.size));clear ho7 hb7 H7 b7;have b8:Below w7.heap.size w7 (w7.alloc (.cells #[.int .i64 E] 3)):=(Below.refl _ _).alloc (Nat.le_refl _) _;have H8:=Lib.hid (HKY.out _ (HB7.out.trans (b8.mono HB7.out.size)) _ [E] 1 (zaf (heap_alloc_new w7 _)) rfl (by decide));rw [HGE.out] at H8))
     go_wp2_with fail
     refine H8.out.mono ?_
     rintro e w8 ⟨v8,rfl,ho8,hb8⟩
     obtain ⟨a8,c8,rfl⟩:=ho8.form
     have HB78:=Lib.hid (b8.trans (hb8.mono b8.size))
     have HO8:=Lib.hid (z1g ho8)
     have HC8:=Lib.hid (OwnS.cap ho8).2
     obtain ⟨a7,c7,hv7⟩:=HO7.out.form
     rw [HNA.out] at hv7
     subst hv7
     have HO78:=Lib.hid (HO7.out.below HB78.out)
     have HB68:=Lib.hid (HB67.out.trans (HB78.out.mono HB67.out.size))
     clear ho8 hb8 H8 b8
     rw [HNE.out]
     go_wp2_with (refine z69 (by rfl) _ _ rfl w6.heap.size (.slice a7 na c7) GA GE a8 ne c8 HNE.out.symm rfl HO78.out rfl HO8.out HC8.out HL9.out HB68.out.size ?_)
     intro v9 w9 ho9 hg9
     obtain ⟨a9,c9,hv9⟩:=ho9.out.form
     have HB69:=Lib.hid (HB68.out.grown hg9.out HB68.out.size (fun g hg=>(World.ownsRow.lt HO78.out g hg).1))
     obtain ⟨n9,hn9⟩:∃ z,(GA ++ GE).length = z:=⟨_,rfl⟩
     rw [hn9] at hv9
     subst hv9
     have H10:=Lib.hid (z71 a9 (GA ++ GE) n9 c9 w9 (z1g (by rw [hn9];exact ho9.out)) hn9 (by rw [← hn9];exact HGL.out))
     rw [HGR.out] at H10
     clear ho9 hg9 hn9
     go_wp2_with (first
      | (refine H10.out.mono ?_;rintro e w10 ⟨v10,rfl,ho10,hb10⟩;obtain ⟨a10,c10,rfl⟩:=ho10.form;have HB610:=Lib.hid (HB69.out.trans (hb10.mono HB69.out.size));have H11:=Lib.hid (z9j HRL.out a6 a10 c6 c10 w10 ((HKG.out ▸ HO6.out).below HB610.out) (z1g ho10) (by omega));clear ho10 hb10;rw [HRL.out])
      | (refine H11.out.mono ?_;rintro e w11 ⟨rfl,hb11⟩;have HBE:=Lib.hid (HB6.out.trans ((HB610.out.trans (hb11.mono HB610.out.size)).mono HB6.out.size));clear hb11))
     go_ret
     exact ⟨rfl,HB2.out.trans (HBE.out.mono HB2.out.size)⟩
  ·have g2:decide ((100:Int) < (key.length:Int)) = true:=decide_eq_true (by omega)
   go_wp2_with fail
   go_ret
   exact ⟨rfl,HB1.out⟩
end lineParts
end Go.Proofs.YtnbldbbbibpobaaGreatDoor
namespace Go.Proofs.YtnbldbbbibpobaaGreatDoor.lineParts
open Go.ChangeShapes Go.WideShapes Go.ChangeAt Go.RowKit
open Go.ChangeMaps (open_string shut_string)
set_option linter.unusedVariables false
theorem z64 (os:Os):laidMet Tryz.prog Rows.linePartsRow.laid ((z2a os).forCall (fun _ _=>0) ⟨#[],#[.slice none 0 0,.string ByteArray.empty,.int .i64 0,.int .i64 0],[]⟩).memory :=
 laidMet_of_run' 8 (by kernel_rfl) (by kernel_rfl)
theorem reads (os:Os) {H:Type} (enc:TypeId × Value → H):∃ x,DataW.whole enc Tryz.prog ((z2a os).forCall (fun _ _=>0) ⟨#[],#[.slice none 0 0,.string ByteArray.empty,.int .i64 0,.int .i64 0],[]⟩).memory Tryz.f8.params.toList Rows.linePartsSpec.vars false (#[.slice none 0 0,.string ByteArray.empty,.int .i64 0,.int .i64 0]:Array Value).toList 8 = some x :=
 ⟨([.nil,.lit (.string []),.lit (.int .i64 0),.lit (.int .i64 0)],[],[]),by kernel_rfl⟩
theorem lifted (os:Os) (started:os.Started) (H:Type) (enc:TypeId × Value → H) (F:Stop.Interp) :
 ReturnsInHanded {} Tryz.checked os 8 .any ((OpenSpec.ofChange Rows.linePartsSpec).preRow enc Tryz.prog Tryz.f8 Rows.linePartsRow.domain false Rows.linePartsRow.laid) (((OpenSpec.ofChange Rows.linePartsSpec).at F).post enc Tryz.prog Tryz.f8 false true false false):=by
 obtain ⟨x,hx⟩:=reads os enc
 refine returnsInHanded_of_row (C:=Tryz.checked) (s:=OpenSpec.ofChange Rows.linePartsSpec) zdu started (by kernel_rfl) Tryz.func8
  (witness_row_at (enc:=enc) (C:=Tryz.checked) false (z2a os) #[.slice none 0 0,.string ByteArray.empty,.int .i64 0,.int .i64 0] rfl (by kernel_rfl) (by kernel_rfl) (by kernel_rfl)
   (OpenSpec.preRow_of_cond 8 hx rfl (fun k hk=>by cases hk) (by kernel_rfl) (z64 os))) ?_
 intro W base args ds gs before hval0 hW hcnd _ hsz0 hL _ _
 have hk:KAt W:=zit hL
 have hsz:(DataW.weightsEach Tryz.prog (Tryz.f8.params.toList ++ (OpenSpec.ofChange Rows.linePartsSpec).bare.plain.varTypes Tryz.prog) (ds ++ gs)).all (· ≤ reachBytes) = true:=hsz0
 have hval:∀ (j:Nat) t v,Tryz.f8.params[j]? = some t → args[j]? = some v → Value.okWide Tryz.prog W .any base t v:=hval0
 have hW':=hW
 obtain ⟨p,q,hA0,hV,rfl,hfz,hnd⟩:=hW
 have hA:DataW.TrodAll enc Tryz.prog W 0 (fun _=>true) true Tryz.f8.params.toList args.toList ds p:=hA0
 rw [Tryz.params8] at hA hval hsz
 obtain ⟨v0,vs0,d0,ds0,p0,q0,hargs,rfl,rfl,h0,r0⟩:=trodAll_cons hA
 obtain ⟨v1,vs1,d1,ds1,p1,q1,rfl,rfl,rfl,h1,r1⟩:=trodAll_cons r0
 obtain ⟨v2,vs2,d2,ds2,p2,q2,rfl,rfl,rfl,h2,r2⟩:=trodAll_cons r1
 obtain ⟨v3,vs3,d3,ds3,p3,q3,rfl,rfl,rfl,h3,r3⟩:=trodAll_cons r2
 obtain ⟨rfl,rfl,rfl⟩:=trodAll_nil r3
 obtain rfl:args = #[v0,v1,v2,v3]:=by cases args;simp_all
 obtain ⟨rfl,rfl⟩:=trodVars_none hV
 have k0:=h0
 have lt0:∀ x ∈ p0,x.block < W.heap.size:=by obtain ⟨m,hm⟩:=k0;exact DataW.trod_lt m _ _ _ hm
 have z0:∀ n ∈ DataW.weights Tryz.prog 22 d0,n ≤ 140737488351232:=fun n hn=>of_decide_eq_true (List.all_eq_true.1 hsz n (DataW.weights_mem_each (j:=0) (t:=22) rfl rfl n hn))
 obtain ⟨ao0,l0,c0,rfl,s0,n0,t0⟩:=z7k (hval 0 22 v0 rfl rfl) h0 z0
 obtain ⟨a1,rfl,rfl,rfl,w1⟩:=open_string Tryz.underlying9 (hval 1 9 v1 rfl rfl) h1
 have z1:a1.data.toList.length ≤ 140737488351232:=sized_string hsz (j:=1) (t:=9) rfl rfl
 obtain ⟨a2,rfl,rfl,rfl,w2⟩:=open_int Tryz.underlying3 (hval 2 3 v2 rfl rfl) h2
 obtain ⟨a3,rfl,rfl,rfl,w3⟩:=open_int Tryz.underlying3 (hval 3 3 v3 rfl rfl) h3
 clear hA0 hval0
 refine (walk W hk ao0 l0 c0 s0 n0 t0 a1.data.toList z1 a2 w2 a3 w3).mono fun e W' ⟨he,bel⟩=>?_
 subst he
 exact ⟨_,rfl,_,_,_,[],_,[],hW',trodAll_mk1 (shut_bool Tryz.underlying4 _),(trodAll_cons_mk (Below.trod z4z (by kernel_rfl) (of_decide_eq_true (by kernel_rfl)) k0 bel lt0) (trodAll_cons_mk (shut_string Tryz.underlying9 w1) (trodAll_cons_mk (shut_int Tryz.underlying3 w2) (trodAll_cons_mk (shut_int Tryz.underlying3 w3) trodAll_mk0)))),rfl,bel.frame _,fun h=>by cases h⟩
theorem said:Rows.LinePartsSaid :=
 OpenClaim.holds_of_cond 8 Tryz.f8 rfl rfl rfl rfl rfl rfl rfl ⟨rfl,rfl,rfl,rfl,rfl⟩ rfl rfl rfl rfl rfl (by kernel_rfl) Tryz.func8 (by kernel_rfl)
  (of_decide_eq_true (by kernel_rfl)) (by unfold Func.isWrapper;first | (rw [if_pos (by decide +kernel)];kernel_rfl) | (rw [if_neg (by decide +kernel)];exact ⟨rfl,rfl⟩))
  (fun os started H enc _ F=>by rw [OpenClaim.pre_eq_preRow];exact lifted os started H enc F)
theorem plain (f : FuncId) (fn : Func) (hf : Tryz.pinned.checked.prog.funcNamed "tribunal/tribunallaw11.LineParts" = some f) (hfn : Tryz.pinned.checked.prog.funcs[f]? = some fn) :
 true = Tryz.pinned.checked.prog.looks [] ∧ ∀ (j:Nat) t,fn.params[j]? = some t → Tryz.pinned.checked.prog.wantsStandIn t = false:=by
 obtain rfl : f = 8 := Option.some.inj ((show Tryz.prog.funcNamed "tribunal/tribunallaw11.LineParts" = some 8 by kernel_rfl).symm.trans hf) |>.symm
 obtain rfl:fn = Tryz.f8:=(Option.some.inj (Tryz.func8.symm.trans hfn)).symm
 refine ⟨by kernel_rfl,fun j t ht=>?_⟩
 have hall:Tryz.f8.params.toList.all (fun t=>!Tryz.prog.wantsStandIn t) = true:=by kernel_rfl
 have hm:t ∈ Tryz.f8.params.toList:=Array.mem_toList_iff.2 (Array.mem_of_getElem? ht)
 have h0:=List.all_eq_true.1 hall t hm
 have h1:Tryz.prog.wantsStandIn t = false:=by simpa using h0
 exact h1
theorem proved:Rows.LinePartsCardSaid :=
 Claim7.holds_tied_plain_at .later [] _ _ _ _ said (fun _ h=>by cases h) (by kernel_rfl) (fun _ h=>by cases h) lineParts_row_tie rfl ⟨rfl,rfl⟩ (by kernel_rfl) rfl plain (by kernel_rfl)
#print axioms proved
end Go.Proofs.YtnbldbbbibpobaaGreatDoor.lineParts
