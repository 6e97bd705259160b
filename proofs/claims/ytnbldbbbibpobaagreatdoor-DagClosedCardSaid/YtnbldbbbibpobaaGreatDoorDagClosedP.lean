/-
  The law DagClosed: for every input it answers true, and its arguments read as they did. Condition: the round constants' table lies as the program's text lays it (the card ties it).
-/
import Derived.ChangeSlices
import Derived.Deep.MidRow
import Derived.Deep.Slices
import Derived.Great.BuildSlice
import Derived.Laws.DeepStrings4
import Derived.OpenShut
import Derived.Test.YtnbldbbbibpobaaGreatDoorJ01
import Derived.Test.YtnbldbbbibpobaaGreatDoorJ02
import Derived.Test.YtnbldbbbibpobaaGreatDoorJ03
import Derived.Test.YtnbldbbbibpobaaGreatDoorJ04
import Derived.Test.YtnbldbbbibpobaaGreatDoorJ05
import Derived.Test.YtnbldbbbibpobaaGreatDoorJ06
import Derived.Test.YtnbldbbbibpobaaGreatDoorJ07
import Derived.Test.YtnbldbbbibpobaaGreatDoorJ08
import Derived.Test.YtnbldbbbibpobaaGreatDoorJ09
import Derived.Test.YtnbldbbbibpobaaGreatDoorJ10
import Derived.Test.YtnbldbbbibpobaaGreatDoorJ11
import Derived.Test.YtnbldbbbibpobaaGreatDoorJ12
import Derived.Test.YtnbldbbbibpobaaGreatDoorJ13
import Derived.Test.YtnbldbbbibpobaaGreatDoorJ14
import Derived.Test.YtnbldbbbibpobaaGreatDoorJ15
import Derived.Test.YtnbldbbbibpobaaGreatDoorJ16
import Derived.Test.YtnbldbbbibpobaaGreatDoorJ17
import Derived.Test.YtnbldbbbibpobaaGreatDoorJ18
import Derived.Test.YtnbldbbbibpobaaGreatDoorJ19
import Derived.Test.YtnbldbbbibpobaaGreatDoorJ20
import Derived.Test.YtnbldbbbibpobaaGreatDoorJ21
import Derived.Test.YtnbldbbbibpobaaGreatDoorJ22
set_option maxRecDepth 100000
set_option maxHeartbeats 20000000
namespace Go.Proofs.YtnbldbbbibpobaaGreatDoor
open Go.RowKit Go.ChangeShapes Go.WideShapes
theorem zga {L:List (List Nat)} {k:Nat} (h:k < L.length):L.take (k + 1) = L.take k ++ [L.getD k []]:=by
 rw [List.take_succ_eq_append_getElem h,List.getD_eq_getElem?_getD,List.getElem?_eq_getElem h]
 rfl
end Go.Proofs.YtnbldbbbibpobaaGreatDoor
namespace Go.Proofs.YtnbldbbbibpobaaGreatDoor
open Go.RowKit
theorem zQa {P:Program} {ops:Array Oper} {Q:Exit → Act → World → Prop} {F:(Nat → Value) → Act} {Inv:(Nat → Bool) → (Nat → Value) → World → Prop} {o:Oper} {i:Nat} (j:Nat) (b:Bool) (hg:o.guard = some (j,b))
 (hy:∀ V,V j = .bool b → yielded ops (F V).tmps j = some b) (hv:∀ s V w,(∀ e ∈ o.after,Region.binds .any e = true → s e.on = true) → Inv s V w → V j = .bool b)
 (h:∀ s V w,(∀ e ∈ o.after,Region.binds .any e = true → s e.on = true) → s i = false → Inv s V w → ∀ K:Act → World → Prop,(∀ v w',Inv (fun j=>s j || j == i) (upd V i v) w' → K ((F V).put o.dst v) w') → OpWp P o (F V) w K Q):FreeStep P ops Q F Inv o i:=⟨fun s V w hr hu hI K hK=>by
 have hw:Region.wanted o (yielded ops (F V).tmps) = true:=by simp [Region.wanted,hg,hy V (hv s V w hr hI)]
 rw [if_pos hw]
 exact (h s V w hr hu hI K hK).out⟩
open Go.ChangeShapes Go.WideShapes Go.Deep
def IntsIn (ao:Option Addr) (L:List Int) (W:World):Prop:=∀ i,i < L.length → ∃ a,ao = some a ∧ W.cell? (a.add i) = some (.int .i64 (L.getD i 0))
theorem z4g {H:Type} {enc:TypeId × Value → H} {W:World} {v:Value} {d:DataW H} {p:List MemPlace} {base:Nat} (hv:Value.okWide Tryz.prog W .any base 23 v)
 (h:DataW.Trod enc Tryz.prog W 0 (fun _=>true) true 23 v d p) (hwt:∀ n ∈ DataW.weights Tryz.prog 23 d,n ≤ 140737488351232) :
 ∃ (ao:Option Addr) (L:List Int) (cap:Nat),v = .slice ao L.length cap ∧ IntsIn ao L W ∧ (∀ z ∈ L,I64 z) ∧ L.length ≤ 140737488351232:=by
 obtain ⟨a0,len0,cap0,rfl⟩:=okWide_slice Tryz.underlying23 hv
 obtain ⟨fuel,hf⟩:=h
 rcases ChangeShapes.open_ints Tryz.underlying23 Tryz.underlying3 (by kernel_rfl) hf with ⟨hcs,_⟩ | ⟨a,len,cap,zs,hcs,_,hl,_,hz,hx,hc,hw⟩
 ·simp [Value.cells] at hcs
  obtain ⟨rfl,rfl,rfl⟩:=hcs
  exact ⟨none,[],0,rfl,(fun i hi=>by cases hi),(fun z hz=>by cases hz),by decide⟩
 ·simp [Value.cells] at hcs
  obtain ⟨rfl,rfl,rfl⟩:=hcs
  simp only [if_true] at hz
  have hd:d = .slice (ChangeShapes.lits .i64 (zs.take len0)) (ChangeShapes.lits .i64 (zs.drop len0)):=congrArg Prod.fst hx
  subst hd
  simp only [DataW.weights,Tryz.underlying23] at hwt
  have hwn:=hwt _ (List.mem_cons_self ..)
  have hb8:Tryz.prog.bytesOf 3 = 8:=by kernel_rfl
  rw [hb8] at hwn
  simp only [ChangeShapes.lits,List.length_map,List.length_take,List.length_drop] at hwn
  have hlen:(zs.take len0).length = len0:=by rw [List.length_take];omega
  refine ⟨some a,zs.take len0,cap0,by rw [hlen],fun i hi=>⟨a,rfl,?_⟩,fun z hz2=>?_,by rw [hlen];omega⟩
  ·rw [hlen] at hi
   rw [hc i (by omega),List.getD_eq_getElem?_getD,List.getD_eq_getElem?_getD,List.getElem?_take_of_lt hi]
  ·have:=hw z (List.mem_of_mem_take hz2)
   simp only [Lit.wf,Bool.and_eq_true,decide_eq_true_eq] at this
   exact ⟨this.1,this.2⟩
end Go.Proofs.YtnbldbbbibpobaaGreatDoor
namespace Go.Proofs.YtnbldbbbibpobaaGreatDoor
open Go.RowKit
theorem zeg {ops:List OpN} {o:OpN} {p:List Nat} (hp:p ∈ ops.map z0a):z1d (ops ++ [o]) p = z1d ops p:=by
 have hl:(ops.map z0a).idxOf p < ops.length:=by
  have:=List.idxOf_lt_length_iff.2 hp
  rwa [List.length_map] at this
 unfold z1d
 rw [List.map_append,List.idxOf_append,if_pos hp,List.getElem?_append_left hl]
theorem zdq {ops:List OpN} {o:OpN}:∀ (L:List (List Nat)) (m:Int),(∀ p ∈ L,p ∈ ops.map z0a) → L.foldl (fun n p=>if n < z1d (ops ++ [o]) p then z1d (ops ++ [o]) p else n) m = L.foldl (fun n p=>if n < z1d ops p then z1d ops p else n) m
 | [],_,_=>rfl
 | p :: L, m, h => by
   rw [List.foldl_cons,List.foldl_cons,zeg (h p (List.mem_cons_self ..))]
   exact zdq L _ (fun q hq=>h q (List.mem_cons_of_mem _ hq))
theorem zax {ops:List OpN} {o x:OpN} (h:∀ p ∈ x.preds,p ∈ ops.map z0a):z1h (ops ++ [o]) x = z1h ops x:=by
 unfold z1h z4a
 rw [zdq _ _ h]
theorem Deep.new:Deep DagN.new:=⟨(fun o ho=>by cases ho),(fun o ho=>by cases ho)⟩
theorem Deep.push {s:DagN} (h:Deep s) {o:OpN} (hw:z1f s.names o = true) (hd:o.depth = z1h s.ops o) (W:List OpN):Deep ⟨s.ops ++ [o],W⟩:=by
 have hc:=wholeN_iff.1 hw
 refine ⟨fun x hx=>?_,fun x hx p hp=>?_⟩
 ·rcases List.mem_append.1 hx with hx | hx
  ·show x.depth = z1h (s.ops ++ [o]) x
   rw [zax (h.closed x hx)]
   exact h.deep x hx
  ·obtain rfl:=List.mem_singleton.1 hx
   show x.depth = z1h (s.ops ++ [x]) x
   rw [zax hc]
   exact hd
 ·show p ∈ (s.ops ++ [o]).map z0a
  rw [List.map_append]
  refine List.mem_append_left _ ?_
  rcases List.mem_append.1 hx with hx | hx
  ·exact h.closed x hx p hp
  ·obtain rfl:=List.mem_singleton.1 hx
   exact hc p hp
theorem Deep.settle:∀ (f:Nat) (s:DagN),Deep s → Deep (z0t f s).2
 | 0,s,h=>h
 | f + 1, s, h => by
   unfold z0t
   split
   ·exact h
   ·rename_i i hb
    obtain ⟨o,ho,hw,_⟩:=z3u _ _ hb
    rw [ho]
    dsimp only
    split
    ·rename_i hd
     exact Deep.settle f _ (h.push hw hd _)
    ·exact Deep.settle f _ ⟨h.deep,h.closed⟩
theorem Deep.take {s:DagN} (h:Deep s) (o:OpN):Deep (z1l s o).2.2:=by
 unfold z1l
 split
 ·exact h
 ·split
  ·exact h
  ·split
   ·exact ⟨h.deep,h.closed⟩
   ·rename_i hw
    split
    ·exact h
    ·rename_i hd
     exact Deep.settle _ _ (h.push (by simpa using hw) (Classical.not_not.1 hd) _)
theorem depth_of {s:DagN} (hn:s.names.Nodup) {x:OpN} (hx:x ∈ s.ops):z1d s.ops (z0a x) = x.depth:=by
 obtain ⟨i,hi,rfl⟩:=List.getElem_of_mem hx
 have hl:i < s.names.length:=by rw [DagN.names,List.length_map];exact hi
 have e:(s.ops.map z0a).idxOf (z0a s.ops[i]) = i:=by
  have h1:(s.ops.map z0a)[i]'hl = z0a s.ops[i]:=List.getElem_map ..
  rw [← h1]
  exact hn.idxOf_getElem i hl
 unfold z1d
 rw [e,List.getElem?_eq_getElem hi]
 rfl
theorem zic (ops:List OpN) (L:List (List Nat)) (p:List Nat):z4a ops (L ++ [p]) = max (z4a ops L) (z1d ops p):=by
 unfold z4a
 rw [List.foldl_append,List.foldl_cons,List.foldl_nil]
 split <;> omega
theorem zh5 (a:Int) {n:Nat} (h:0 < n) (hn:n ≤ 1000000000):∃ q:Nat,q < n ∧ wrap64 ((IntKind.u64.wrap a).tmod (n:Int)) = (q:Int):=by
 have e:IntKind.u64.wrap a = a % 18446744073709551616:=by simp [IntKind.wrap,IntKind.bits,IntKind.signed]
 have h0:0 ≤ IntKind.u64.wrap a:=by rw [e];omega
 generalize IntKind.u64.wrap a = u at h0
 rw [Int.tmod_eq_emod_of_nonneg h0]
 have h1:0 ≤ u % (n:Int):=Int.emod_nonneg _ (by omega)
 have h2:u % (n:Int) < (n:Int):=Int.emod_lt_of_pos _ (by omega)
 generalize u % (n:Int) = r at h1 h2
 refine ⟨r.toNat,by omega,?_⟩
 unfold wrap64
 omega
theorem ze0 {bo:Option Addr} {r:List Int} {W:World} (h:IntsIn bo r W) (h0:0 < r.length):∃ b o,bo = some ⟨b,o,none⟩ ∧ b < W.heap.size ∧ ∀ i,i < r.length → W.cell? ⟨b,o + i,none⟩ = some (.int .i64 (r.getD i 0)):=by
 obtain ⟨a,ha,hc⟩:=h 0 h0
 obtain ⟨b,o,spot⟩:=a
 have hspot:spot = none:=by simpa [Addr.add] using World.cell?_spot hc
 subst hspot
 refine ⟨b,o,ha,?_,fun i hi=>?_⟩
 ·have:=z8c hc
  simpa [Addr.add] using this
 ·obtain ⟨a',ha',hc'⟩:=h i hi
  rw [ha] at ha'
  cases ha'
  have e:(⟨b,o,none⟩:Addr).add i = ⟨b,o + i,none⟩:=Addr.add_lit ..
  rw [← e]
  exact hc'
open Go.BigFrame
theorem ref_in (ao:Option Addr) (cap m:Nat) (L:List (List Nat)) (n:List Nat) (w:World) (hat:IAt ao L w) (hL:Ids L) (hme:L.length = m) (hn:n.length = 32) (hnl:∀ y ∈ n,y < 256) (hm:m ≤ 1000000) :
 Calls Tryz.prog 27 #[.slice ao m cap,.agg (z06 .u8 n).toArray] w fun e w'=>e = .returned (.bool (decide (n ∈ L))) ∧ Below w.heap.size w w':=by
 have HM:=Shut.mk hme
 have HL:=Lib.hid hL
 have b1:Below w.heap.size w (w.alloc (.cells (z06 .u8 n).toArray 25)):=(Below.refl _ _).alloc (Nat.le_refl _) _
 have x1:Blk w.heap.size 25 .u8 n (w.alloc (.cells (z06 .u8 n).toArray 25)):=heap_alloc_new w _
 have HB:=Lib.hid b1
 have HX:=Lib.hid x1
 have HAT:=Lib.hid (hat.below b1)
 have HN:=Lib.hid hn
 have HNL:=Lib.hid hnl
 have HSN:=Lib.hid (show (Tryz.prog.info? 25).map (·.size) = some n.length by rw [hn];exact Tryz.sizeI)
 clear hL hat hme b1 x1 hn hnl
 go_enter Tryz.func27,Tryz.ntmps27
 go_upto_region 1 with (fail)
 obtain ⟨w1,hw1⟩:∃ x,x = w.alloc (.cells (z06 .u8 n).toArray 25):=⟨_,rfl⟩
 rw [← hw1] at HB HX HAT ⊢
 clear hw1
 go_wp2_with fail
 go_loopw [9] (fun i wr=>∃ k:Nat,k ≤ m ∧ i = .int .i64 k ∧ (∀ j,j < k → L.getD j [] ≠ n) ∧ Below w1.heap.size w1 wr) (fun i _=>m - (intOf i).toNat)
 case atStart=>exact ⟨0,Nat.zero_le _,rfl,fun j hj=>by omega,Below.refl _ _⟩
 case round =>
  obtain ⟨k,hk,rfl,hj,hbw⟩:=hrel
  have HJ:=Lib.hid hj
  have HBW:=Lib.hid hbw
  have HXW:=Lib.hid (HX.out.below hbw)
  have HATW:=Lib.hid (HAT.out.below hbw)
  clear hj hbw
  by_cases hlt:k < m
  ·obtain ⟨b,ob,rfl,hbl⟩:=HATW.out.some (by rw [HM.out];omega)
   have g1:=HATW.out.get (i:=k) (by rw [HM.out];omega)
   have i1:=Ids.getD HL.out (i:=k) (by rw [HM.out];omega)
   obtain ⟨x,hx⟩:∃ x,L.getD k [] = x:=⟨_,rfl⟩
   rw [hx] at g1 i1
   have HXE:=Shut.mk hx
   have HG1:=Lib.hid g1
   have HS1:=Lib.hid (show (Tryz.prog.info? 25).map (·.size) = some x.length by rw [i1.1];exact Tryz.sizeI)
   have HL2:=Lib.hid (show (List.replicate 32 0).length = x.length by rw [i1.1];rfl)
   have HEQ:=Lib.hid (fun w'=>z2b x n i1.1 HN.out i1.2 HNL.out w')
   have HXL:=Lib.hid i1.1
   have hxw:=HXW.out.lt
   have hgw:w.heap.size ≠ wr.heap.size:=by omega
   clear hx g1 i1 hbl hxw
   go_wp2_with (first
    | (refine z0b rfl 25 _ rfl b (ob + k * 32) x _ rfl HG1.out Tryz.underlying25 rfl HS1.out ?_)
    | (refine z04 rfl 25 _ _ rfl rfl wr.heap.size .u8 (List.replicate 32 0) x 25 rfl rfl (heap_alloc_new wr _) HS1.out HL2.out ?_))
   intro w5 hc' hb'
   have HY:=Lib.hid hc'.out
   have HX5:=Lib.hid ((HXW.out.alloc _).but hb'.out hgw)
   have HB5:=Lib.hid (show Below w1.heap.size w1 w5 from But.toBelow (HBW.out.alloc HBW.out.size _) hb'.out HBW.out.size (Nat.le_trans HBW.out.size (by rw [World.size_alloc];exact Nat.le_succ _)))
   clear hc' hb' HL2 hgw
   have heq:=HEQ.out
   have hs1:=HS1.out
   obtain ⟨z,hz⟩:∃ z,(x == n) = z:=⟨_,rfl⟩
   rw [hz] at heq
   have HZ:=Shut.mk hz
   clear hz HEQ
   cases z with
   | true =>
     have HR:=Shut.mk (show decide (n ∈ L) = true from decide_eq_true (by rw [show n = L.getD k [] by rw [HXE.out];exact (by have:=HZ.out;simpa using this:x = n).symm,List.getD_eq_getElem?_getD,List.getElem?_eq_getElem (by rw [HM.out];exact hlt)];exact List.getElem_mem _))
     go_wp2_with (first
      | (refine z03 rfl 25 (.tmp 6) rfl wr.heap.size .u8 _ 25 _ rfl HY.out Tryz.underlying25 rfl HS1.out ?_)
      | (refine z03 rfl 25 (.tmp 3) rfl w.heap.size .u8 _ 25 _ rfl HX5.out Tryz.underlying25 rfl HSN.out ?_))
     go_ret
     exact ⟨by rw [HR.out];rfl,HB.out.trans (HB5.out.mono HB.out.size)⟩
   | false =>
     have HNE:=Lib.hid (show x ≠ n by have:=HZ.out;simpa using this)
     go_wp2_with (first
      | (refine z03 rfl 25 (.tmp 6) rfl wr.heap.size .u8 _ 25 _ rfl HY.out Tryz.underlying25 rfl HS1.out ?_)
      | (refine z03 rfl 25 (.tmp 3) rfl w.heap.size .u8 _ 25 _ rfl HX5.out Tryz.underlying25 rfl HSN.out ?_))
     refine ⟨⟨k + 1,by omega,by go_num,fun q hq=>?_,HB5.out⟩,by simp [intOf];omega⟩
     by_cases hqj:q = k
     ·subst hqj
      rw [HXE.out]
      exact HNE.out
     ·exact HJ.out q (by omega)
  ·obtain rfl:k = m:=by omega
   have HR:=Shut.mk (show decide (n ∈ L) = false from decide_eq_false (ze3 (fun j hj=>HJ.out j (by rw [← HM.out];exact hj))).2)
   go_wp2_with fail
   go_ret
   exact ⟨by rw [HR.out];rfl,HB.out.trans (HBW.out.mono HB.out.size)⟩
def ClosAt (B:Bs) (w2:World) (k:Nat) (wr:World):Prop :=
 ∃ X T s hs M,SetAt X B T s hs M wr ∧ DInv s hs M [] [] ∧ Tame s ∧ Deep s ∧ s.ops.length + s.wait.length ≤ k ∧ (∀ b,X b → w2.heap.size ≤ b) ∧ (∀ b,wr.heap.size ≤ b → X b) ∧ Below w2.heap.size w2 wr
theorem ClosAt.bel {B:Bs} {w2 wr:World} {k:Nat} (h:ClosAt B w2 k wr):Below w2.heap.size w2 wr:=by
 obtain ⟨_,_,_,_,_,_,_,_,_,_,_,_,h⟩:=h
 exact h
theorem ClosAt.new {B:Bs} {w2 w3:World} (h:SetAt (fun b=>w2.heap.size ≤ b) B ⟨[],[],[]⟩ DagN.new [] [] w3) (hb:Below w2.heap.size w2 w3):ClosAt B w2 0 w3 :=
 ⟨_,_,_,_,_,h,DInv.new,z4b,Deep.new,Nat.le_refl _,fun _ h=>h,fun _ h=>Nat.le_trans hb.size h,hb⟩
theorem zel {B:Bs} {w2 wr:World} {k:Nat} {x:OpN} {pa:Option Addr} {pc:Nat} (h:ClosAt B w2 k wr) (hx:x.Fit) (hpa:IAt pa x.preds wr) (hk:KAt wr) (hkn:k ≤ 999) :
 Calls Tryz.prog 13 #[.pointer (some ⟨B.gs,0,none⟩),.agg (opV x pa pc)] wr fun e w'=>(∃ v c,e = .returned (.tuple #[v,.int .i64 c])) ∧ ClosAt B w2 (k + 1) w':=by
 obtain ⟨X,T,s,hs,M,h1,h2,h3,h4,h5,h6,h7,h8⟩:=h
 refine (z6a X B T s hs M x pa pc wr h1 h7 h2 h3 hx hpa hk (by omega)).mono ?_
 rintro e w' ⟨v,X',T',hs',M',rfl,_,g1,g2,g3,g4,_,g5,_,g6⟩
 refine ⟨⟨v,_,rfl⟩,X',T',_,hs',M',g1,g2,g3,h4.take x,?_,fun b hb=>h6 b (g5 b hb),g6,?_⟩
 ·have:=(z2k h3.shallow x).2
  omega
 ·exact Only.toBelow h8 g4.only (fun b hb=>h6 b (SetO.x h1 hb).1) h8.size
theorem zao {P:Program} {o:Oper} {a:Act} {w:World} {K:Act → World → Prop} {Q:Exit → Act → World → Prop} (c x y:Operand) (ho:o.op = .pick c x y) (hc:a.eval c = .bool false) (v:Value) (hx:a.eval y = v) (h:K (a.put o.dst v) w):OpWp P o a w K Q:=by
 refine ⟨?_⟩
 unfold Oper.wp execOp
 simp only [ho,hc,hx,asBool,Sem.run_bind,Sem.run_pure,Result.andThen_ok,if_false,Bool.false_eq_true]
 exact h
theorem zi2 (g:Nat) (w:World):(Instr.fieldAt 38 (.pointer (some ⟨g,0,none⟩)) 2).run Tryz.prog w = .ok (.pointer (some ⟨g,36,none⟩)) w:=by go_simp
namespace dagClosed
theorem walk (W:World) (hk:KAt W) (ao:Option Addr) (l:List MakeN) (c:Nat) (hs:MksAt ao l W) (hn:∀ x ∈ l,x.In) (ht:l.length ≤ 140737488351232)
 (bo:Option Addr) (r:List Int) (rc:Nat) (hr:IntsIn bo r W) (_hz:∀ z ∈ r,I64 z) (hl:r.length ≤ 140737488351232) :
 Calls Tryz.prog 4 #[.slice ao l.length c,.slice bo r.length rc] W fun e W'=>e = .returned (.bool true) ∧ Below W.heap.size W W':=by
 have HK:=Lib.hid hk
 have HS:=Lib.hid hs
 have HN:=Lib.hid hn
 have HT:=Lib.hid ht
 have HR:=Lib.hid hr
 obtain ⟨nr,hnr⟩:∃ i,r.length = i:=⟨_,rfl⟩
 rw [hnr] at hl ⊢
 have HNR:=Shut.mk hnr
 obtain ⟨nl,hnl⟩:∃ i,l.length = i:=⟨_,rfl⟩
 have HMD:=Lib.hid (fun w1 (b:Below W.heap.size W w1)=>zb2 W ao l c w1 HS.out HN.out HT.out b)
 rw [hnl] at HMD ⊢
 clear hk hs hn ht hr hnr hnl
 go_enter Tryz.func4,Tryz.ntmps4
 go_wp2_with fail
 refine (zeq W HK.out).mono ?_
 rintro e w1 ⟨rfl,hb1⟩
 have HB1:=Lib.hid hb1
 clear hb1
 go_wp2_with fail
 refine (HMD.out w1 HB1.out).mono ?_
 rintro e w2 ⟨v2,L,rfl,ho2,hf2,hl2,hb2⟩
 obtain ⟨oa,oc,rfl⟩:=ho2.form
 have HO2:=Lib.hid ho2
 have HF2:=Lib.hid hf2
 have HB2:=Lib.hid (HB1.out.trans (hb2.mono HB1.out.size))
 obtain ⟨N,hN⟩:∃ i,L.length = i:=⟨_,rfl⟩
 rw [hN] at hl2 ⊢
 have HNL:=Shut.mk hN
 clear ho2 hf2 hb2 hN HMD
 by_cases h60:nr ≤ 60
 ·have q1:decide ((60:Int) < (nr:Int)) = false:=decide_eq_false (by omega)
  by_cases h0:N = 0
  ·have q2:((N:Int) == 0) = true:=by simp [h0]
   go_wp2_with fail
   go_ret
   exact ⟨rfl,HB2.out⟩
  ·have q2:((N:Int) == 0) = false:=by simpa using h0
   go_wp2_with fail
   refine (za1 (fun b=>w2.heap.size ≤ b) w2 (fun b h=>h)).mono ?_
   rintro e w3 ⟨B,rfl,hs3,hb3⟩
   have HC:=Lib.hid (ClosAt.new hs3 hb3)
   clear hs3 hb3 q1 q2
   go_wp2_with fail
   go_loopw [33] (fun i wr=>∃ k:Nat,k ≤ nr ∧ i = .int .i64 k ∧ ClosAt B w2 k wr) (fun i _=>nr - (intOf i).toNat)
   case atStart=>exact ⟨0,Nat.zero_le _,rfl,HC.out⟩
   case round =>
    clear HC
    obtain ⟨k,hkn,rfl,hc⟩:=hrel
    have HC:=Lib.hid hc
    have HBW:=Lib.hid (HB2.out.trans (hc.bel.mono HB2.out.size))
    clear hc
    by_cases hlt:k < nr
    ·obtain ⟨bb,ob,rfl,hbb,hcell⟩:=ze0 HR.out (by rw [HNR.out];omega)
     have c1:wr.cell? ⟨bb,ob + k,none⟩ = some (.int .i64 (r.getD k 0)):=(HBW.out.cell (p:=⟨bb,ob + k,none⟩) hbb).trans (hcell k (by rw [HNR.out];exact hlt))
     obtain ⟨z,hz⟩:∃ z,r.getD k 0 = z:=⟨_,rfl⟩
     rw [hz] at c1
     obtain ⟨q,hqN,hqe⟩:=zh5 z (n:=N) (by omega) (by omega)
     obtain ⟨y,hy⟩:∃ y,L[q]? = some y:=⟨_,List.getElem?_eq_getElem (by rw [HNL.out];exact hqN)⟩
     have HY:=Lib.hid (HF2.out y (List.mem_of_getElem? hy))
     obtain ⟨bL,oL,rfl,hbL,pa,pc,hrow,hia,_⟩:=HO2.out.at.get hy
     have HRW:=Lib.hid (z0g hrow HC.out.bel hbL)
     have HTK:=Lib.hid (zel (pc:=pc) HC.out HY.out (hia.below HC.out.bel) (HK.out.below HBW.out) (by omega))
     have HSL:=Lib.hid (show (Tryz.prog.info? 38).map (·.size) = some (opL y pa pc).length by rw [z2i HY.out.d.ref.1];exact Tryz.sizeO)
     have hqi:(q:Int) < (N:Int):=by omega
     clear hz hy hbL hrow hia hcell hbb
     go_wp2_with (refine wpList_load_mid rfl 38 _ rfl bL (oL + q * 38) rfl (opL y pa pc) _ HRW.out Tryz.underlying38 rfl HSL.out ?_)
     refine HTK.out.mono ?_
     rintro e w5 ⟨⟨v,cc,rfl⟩,hc5⟩
     have HC5:=Lib.hid hc5
     clear hc5
     go_wp2_with fail
     exact ⟨⟨k + 1,by omega,by go_num,HC5.out⟩,by simp [intOf];omega⟩
    ·obtain rfl:k = nr:=by omega
     obtain ⟨X,T,s,hs,M,h1,h2,h3,h4,_,h6,h7,h8⟩:=HC.out
     have HST:=Lib.hid (fun w' (b:Below wr.heap.size wr w')=>h1.below b)
     have HDI:=Lib.hid h2
     have HTM:=Lib.hid h3
     have HDP:=Lib.hid h4
     have HNMS:=Lib.hid (z7r h1 (by have:=h3.many;omega))
     have HIN2:=Lib.hid (show Ids (z0e s.names) from z15 z12)
     have HNP:=Lib.hid (fun x (hx:x ∈ z0e s.names)=>(z1c s.names).mem_iff.1 hx)
     have hnl:(z0e s.names).length ≤ 1000:=by rw [z1x,DagN.names,List.length_map];have:=h3.many;omega
     obtain ⟨LN,hLN⟩:∃ z,z0e s.names = z:=⟨_,rfl⟩
     rw [hLN] at HNMS HIN2 HNP hnl
     clear h1 h2 h3 h4 h6 h7 h8 hLN
     go_wp2_with fail
     refine HNMS.out.mono ?_
     rintro e w5 ⟨v5,rfl,ho5,hb5⟩
     obtain ⟨a5,c5,rfl⟩:=ho5.form
     have HA5:=Lib.hid (ho5.at HIN2.out)
     have HB5:=Lib.hid hb5
     obtain ⟨m,hm⟩:∃ i,LN.length = i:=⟨_,rfl⟩
     rw [hm] at hnl ⊢
     have HM:=Shut.mk hm
     clear ho5 hb5 hm HNMS
     go_wp2_with fail
     go_loopw [53] (fun i wx=>∃ k:Nat,k ≤ m ∧ i = .int .i64 k ∧ Below w5.heap.size w5 wx) (fun i _=>m - (intOf i).toNat)
     case atStart=>exact ⟨0,Nat.zero_le _,rfl,Below.refl _ _⟩
     case round =>
      obtain ⟨wx,rfl⟩:∃ z,z = wr:=⟨_,rfl⟩
      obtain ⟨k2,hk2,rfl,hbx⟩:=hrel
      have HBX:=Lib.hid hbx
      have HBR:=Lib.hid (HB5.out.trans (hbx.mono HB5.out.size))
      have HAX:=Lib.hid (HA5.out.below hbx)
      clear hbx
      by_cases hlt2:k2 < m
      ·obtain ⟨b,ob2,rfl,hbl⟩:=HAX.out.some (by rw [HM.out];omega)
       have g1:=HAX.out.get (i:=k2) (by rw [HM.out];omega)
       have i1:=Ids.getD HIN2.out (i:=k2) (by rw [HM.out];omega)
       have hmem:LN.getD k2 [] ∈ LN:=by
        rw [List.getD_eq_getElem?_getD,List.getElem?_eq_getElem (by rw [HM.out];exact hlt2)]
        exact List.getElem_mem _
       obtain ⟨x,hx⟩:∃ x,LN.getD k2 [] = x:=⟨_,rfl⟩
       rw [hx] at g1 i1 hmem
       have HG1:=Lib.hid g1
       have HXI:=Lib.hid (show IdOk x from i1)
       have HIS:=Lib.hid (HNP.out x hmem)
       have HS1:=Lib.hid (show (Tryz.prog.info? 25).map (·.size) = some x.length by rw [i1.1];exact Tryz.sizeI)
       have HL2:=Lib.hid (show (List.replicate 32 0).length = x.length by rw [i1.1];rfl)
       clear hx g1 i1 hbl hmem
       go_wp2_with (first
        | (refine z0b rfl 25 _ rfl b (ob2 + k2 * 32) x _ rfl HG1.out Tryz.underlying25 rfl HS1.out ?_)
        | (refine z04 rfl 25 _ _ rfl rfl wx.heap.size .u8 (List.replicate 32 0) x 25 rfl rfl (heap_alloc_new wx _) HS1.out HL2.out ?_))
       intro w6 hc' hb'
       have hby:Below wx.heap.size wx w6:=But.toBelow ((Below.refl _ _).alloc (Nat.le_refl _) _) hb'.out (Nat.le_refl _) (by rw [World.size_alloc];exact Nat.le_succ _)
       have HB6:=Lib.hid (HBR.out.trans (hby.mono HBR.out.size))
       have HB6x:=Lib.hid (HBX.out.trans (hby.mono HBX.out.size))
       have HX6:=Lib.hid hc'.out
       obtain ⟨g10,hg10⟩:∃ g,wx.heap.size = g:=⟨_,rfl⟩
       rw [hg10] at HX6 ⊢
       clear hc' hb' hby hg10 HG1
       have HGT:=Lib.hid (z81 X B T s hs M x w6 (HST.out w6 HB6.out) HXI.out HTM.out.ops)
       go_wp2_with (refine z03 rfl 25 (.tmp 10) rfl g10 .u8 x 25 _ rfl HX6.out Tryz.underlying25 rfl HS1.out ?_)
       refine HGT.out.mono ?_
       rintro e w7 ⟨⟨o,pa,pc,ho,hor⟩,hb7⟩
       obtain ⟨ho1,ho2,rfl⟩:o ∈ s.ops ∧ z0a o = x ∧ e = .returned (.tuple #[.agg (opV o pa pc),.int .i64 0]):=by
        rcases hor with h | ⟨h,_⟩
        ·exact h
        ·exact absurd HIS.out h
       have HOF:=Lib.hid (HTM.out.ops o ho1)
       have HOM:=Lib.hid ho1
       have HON:=Shut.mk ho2
       have HB7:=Lib.hid (HB6.out.trans (hb7.mono HB6.out.size))
       have HB7x:=Lib.hid (HB6x.out.trans (hb7.mono HB6x.out.size))
       have HX7:=Lib.hid (HX6.out.below hb7)
       have HIO:=Lib.hid (ho.at HOF.out.preds)
       have HSV:=Lib.hid (show (Tryz.prog.info? 38).map (·.size) = some (opV o pa pc).size by rw [z07 HOF.out.d.ref.1];exact Tryz.sizeO)
       have HSZ:=Lib.hid (show (opV z05 none 0).size = (opV o pa pc).size by rw [z07 HOF.out.d.ref.1];rfl)
       have HZO:=Lib.hid (show (Tryz.prog.info? 38).bind (·.zero) = some (.agg (opL z05 none 0).toArray) by kernel_rfl)
       clear hor hb7 ho ho1 ho2 HGT HX6
       go_wp2_with (first
        | (refine z0j rfl 38 rfl (opL z05 none 0) HZO.out ?_)
        | (refine z01 rfl 38 _ _ rfl rfl w7.heap.size (opV z05 none 0) (opV o pa pc) 38 rfl rfl (heap_alloc_new w7 _) HSV.out HSZ.out (z0z o pa pc) ?_))
       intro w8 hc8 hb8
       have hb78:Below w7.heap.size w7 w8:=But.toBelow ((Below.refl _ w7).alloc (Nat.le_refl _) _) hb8.out (Nat.le_refl _) (by rw [World.size_alloc];exact Nat.le_succ _)
       have HB8:=Lib.hid (HB7.out.trans (hb78.mono HB7.out.size))
       have HB8x:=Lib.hid (HB7x.out.trans (hb78.mono HB7x.out.size))
       have HX8:=Lib.hid (HX7.out.below hb78)
       have HO8:=Lib.hid hc8.out
       have HI8:=Lib.hid (HIO.out.below hb78)
       obtain ⟨g11,hg11⟩:∃ g,w7.heap.size = g:=⟨_,rfl⟩
       rw [hg11] at HO8 ⊢
       clear hc8 hb8 hb78 hg11 HX7 HIO
       have hnp:=HOF.out.many
       have HCL:=Lib.hid (fun p (hp:p ∈ o.preds)=>HDI.out.closed o HOM.out p hp)
       have HPI:=Lib.hid (show Ids o.preds from HOF.out.preds)
       have hdd:=HDP.out.deep o HOM.out
       have hdr:=z5m HTM.out.shallow (by omega) o.preds
       have hfr:∀ j,0 ≤ z4a s.ops (o.preds.take j) ∧ z4a s.ops (o.preds.take j) ≤ s.ops.length:=fun j=>z5m HTM.out.shallow (by omega) _
       have hsm:=HTM.out.many
       obtain ⟨G,hG⟩:∃ G:Nat → Int,G = fun j=>z4a s.ops (o.preds.take j):=⟨_,rfl⟩
       have HG0:=Shut.mk (show G 0 = 0 by rw [hG];rfl)
       have HGN:=Lib.hid (fun j (hj:j < o.preds.length)=>show G (j + 1) = max (G j) (z1d s.ops (o.preds.getD j [])) by rw [hG];show z4a s.ops (o.preds.take (j + 1)) = _;rw [zga hj,zic])
       have HGR:=Lib.hid (fun j=>show 0 ≤ G j ∧ G j ≤ 1000 by rw [hG];have:=hfr j;refine ⟨this.1,?_⟩;show z4a s.ops (o.preds.take j) ≤ 1000;omega)
       have HGE:=Lib.hid (show o.depth = G o.preds.length + 1 by rw [hG,hdd];show _ = z4a s.ops (o.preds.take o.preds.length) + 1;rw [List.take_length];rfl)
       obtain ⟨PP,hPP⟩:∃ P,o.preds = P:=⟨_,rfl⟩
       have HPE:=Shut.mk hPP
       rw [hPP] at HCL HPI HGN HGE HI8 hnp
       obtain ⟨np,hnp'⟩:∃ i,PP.length = i:=⟨_,rfl⟩
       have HPN:=Shut.mk hnp'
       rw [hnp'] at hnp
       have c37:=(z0k HOF.out.d.ref.1 HO8.out).2.2.2
       rw [hPP,hnp'] at c37
       clear hdd hdr hfr hsm hG hPP hnp'
       go_wp2_with fail
       go_loopw [13,66] (fun dv i wy=>∃ j:Nat,j ≤ np ∧ i = .int .i64 j ∧ dv = .int .i64 (G j) ∧ Below w8.heap.size w8 wy) (fun _ i _=>np - (intOf i).toNat)
       case atStart=>exact ⟨0,Nat.zero_le _,rfl,by rw [HG0.out],Below.refl _ _⟩
       case round =>
        clear c37
        obtain ⟨wy,rfl⟩:∃ z,z = wr:=⟨_,rfl⟩
        obtain ⟨j,hj,rfl,rfl,hby⟩:=hrel
        have HBY:=Lib.hid hby
        have HBY8:=Lib.hid (HB8.out.trans (hby.mono HB8.out.size))
        have HIY:=Lib.hid (HI8.out.below hby)
        clear hby
        by_cases hlt3:j < np
        ·obtain ⟨bp,op2,rfl,hbp⟩:=HIY.out.some (by rw [HPN.out];omega)
         have g2:=HIY.out.get (i:=j) (by rw [HPN.out];omega)
         have i2:=Ids.getD HPI.out (i:=j) (by rw [HPN.out];omega)
         have hmem:PP.getD j [] ∈ PP:=by
          rw [List.getD_eq_getElem?_getD,List.getElem?_eq_getElem (by rw [HPN.out];exact hlt3)]
          exact List.getElem_mem _
         have hgn:=HGN.out j (by rw [HPN.out];exact hlt3)
         obtain ⟨p,hp⟩:∃ p,PP.getD j [] = p:=⟨_,rfl⟩
         rw [hp] at g2 i2 hmem hgn
         have HG2:=Lib.hid g2
         have HPO:=Lib.hid (show IdOk p from i2)
         have HPS:=Lib.hid (HCL.out p hmem)
         have HGJ:=Shut.mk hgn
         have HS2:=Lib.hid (show (Tryz.prog.info? 25).map (·.size) = some p.length by rw [i2.1];exact Tryz.sizeI)
         have HL3:=Lib.hid (show (List.replicate 32 0).length = p.length by rw [i2.1];rfl)
         clear hp g2 i2 hbp hmem hgn
         go_wp2_with (first
          | (refine z0b rfl 25 _ rfl bp (op2 + j * 32) p _ rfl HG2.out Tryz.underlying25 rfl HS2.out ?_)
          | (refine z04 rfl 25 _ _ rfl rfl wy.heap.size .u8 (List.replicate 32 0) p 25 rfl rfl (heap_alloc_new wy _) HS2.out HL3.out ?_))
         intro w9 hc9 hb9
         have hby9:Below wy.heap.size wy w9:=But.toBelow ((Below.refl _ _).alloc (Nat.le_refl _) _) hb9.out (Nat.le_refl _) (by rw [World.size_alloc];exact Nat.le_succ _)
         have HB9:=Lib.hid (HBY.out.trans (hby9.mono HBY.out.size))
         have HB98:=Lib.hid (HBY8.out.trans (hby9.mono HBY8.out.size))
         have HP9:=Lib.hid hc9.out
         obtain ⟨g15,hg15⟩:∃ g,wy.heap.size = g:=⟨_,rfl⟩
         rw [hg15] at HP9 ⊢
         clear hc9 hb9 hby9 hg15 HG2
         have HGT:=Lib.hid (z81 X B T s hs M p w9 (HST.out w9 HB98.out) HPO.out HTM.out.ops)
         go_wp2_with (refine z03 rfl 25 (.tmp 15) rfl g15 .u8 p 25 _ rfl HP9.out Tryz.underlying25 rfl HS2.out ?_)
         refine HGT.out.mono ?_
         rintro e w10 ⟨⟨y,qa,qc,_,hor⟩,hb10⟩
         obtain ⟨hy1,hy2,rfl⟩:y ∈ s.ops ∧ z0a y = p ∧ e = .returned (.tuple #[.agg (opV y qa qc),.int .i64 0]):=by
          rcases hor with h | ⟨h,_⟩
          ·exact h
          ·exact absurd HPS.out h
         have HYF:=Lib.hid (HTM.out.ops y hy1)
         have HYD:=Shut.mk (show z1d s.ops p = y.depth by rw [← hy2];exact depth_of HDI.out.nodupN hy1)
         have HB10:=Lib.hid (HB9.out.trans (hb10.mono HB9.out.size))
         have HSV2:=Lib.hid (show (Tryz.prog.info? 38).map (·.size) = some (opV y qa qc).size by rw [z07 HYF.out.d.ref.1];exact Tryz.sizeO)
         have HSZ2:=Lib.hid (show (opV z05 none 0).size = (opV y qa qc).size by rw [z07 HYF.out.d.ref.1];rfl)
         clear hor hb10 hy1 hy2 HGT HP9
         go_wp2_with (first
          | (refine z0j rfl 38 rfl (opL z05 none 0) HZO.out ?_)
          | (refine z01 rfl 38 _ _ rfl rfl w10.heap.size (opV z05 none 0) (opV y qa qc) 38 rfl rfl (heap_alloc_new w10 _) HSV2.out HSZ2.out (z0z y qa qc) ?_))
         intro w11 hc11 hb11
         have HB11:=Lib.hid (HB10.out.trans ((show Below w10.heap.size w10 w11 from But.toBelow ((Below.refl _ w10).alloc (Nat.le_refl _) _) hb11.out (Nat.le_refl _) (by rw [World.size_alloc];exact Nat.le_succ _)).mono HB10.out.size))
         obtain ⟨_,_,c36,_⟩:=z0k HYF.out.d.ref.1 hc11.out
         clear hc11 hb11
         go_wp2_with fail
         exact ⟨⟨j + 1,by omega,by go_num,by rw [HGJ.out,HYD.out],HB11.out⟩,by simp [intOf];omega⟩
        ·obtain rfl:j = np:=by omega
         have HO11:=Lib.hid (HO8.out.below HBY.out)
         have HX10:=Lib.hid (HX8.out.below HBY.out)
         obtain ⟨wl,hwl⟩:∃ z,z = wy:=⟨_,rfl⟩
         rw [← hwl] at HO11 HX10 HBY HBY8 HIY ⊢
         clear hwl
         obtain ⟨Fn,hFn⟩:∃ i,G j = i:=⟨_,rfl⟩
         have hgr:=HGR.out j
         have hge:=HGE.out
         rw [HPN.out] at hge
         rw [hFn] at hgr hge ⊢
         obtain ⟨De,hDe⟩:∃ i,o.depth = i:=⟨_,rfl⟩
         have HC36:=Lib.hid (fun w' (b:Below wl.heap.size wl w')=>show w'.cell? ⟨g11,36,none⟩ = some (.int .i64 De) from by rw [← hDe];exact (z0k HOF.out.d.ref.1 (HO11.out.below b)).2.2.1)
         rw [hDe] at hge
         have HAD:=Lib.hid (show ∀ w,(binOp .add 3 (.int .i64 Fn) (.int .i64 1)).run Tryz.prog w = .ok (.int .i64 De) w from fun w=>by
          have e:IntKind.i64.wrap (Fn + 1) = De:=by
           simp [IntKind.wrap,IntKind.bits,IntKind.signed]
           omega
          rw [← e]
          go_simp)
         have HQ0:=Lib.hid (show ∀ w,(binOp .neq 40 (.int .i64 0) (.int .i64 0)).run Tryz.prog w = .ok (.bool false) w from fun w=>by go_simp)
         have HQ1:=Lib.hid (show ∀ w,(binOp .neq 3 (.int .i64 De) (.int .i64 De)).run Tryz.prog w = .ok (.bool false) w from fun w=>by go_simp)
         have HQG:=Lib.hid (show ∀ w,(eqGuard .neq 25 (.tmp 94) (.tmp 95) (.agg (z06 .u8 x).toArray) (.agg (z06 .u8 x).toArray)).run Tryz.prog w = .ok () w from fun w=>by rfl)
         have HQ2:=Lib.hid (show ∀ w,(binOp .neq 25 (.agg (z06 .u8 x).toArray) (.agg (z06 .u8 x).toArray)).run Tryz.prog w = .ok (.bool false) w from fun w=>by
          go_simp
          rw [z2b x x HXI.out.1 HXI.out.1 HXI.out.2 HXI.out.2]
          simp)
         have HNM:=Lib.hid (fun w' (b:Below wl.heap.size wl w')=>show Calls Tryz.prog 26 #[.agg (opV o pa pc)] w' fun e w''=>e = .returned (.agg (z06 .u8 x).toArray) ∧ Below w'.heap.size w' w'' from HON.out ▸ z4o o pa pc w' HOF.out (by rw [HPE.out];exact HIY.out.below b))
         have HWT:=Lib.hid (fun w' (b:Below wl.heap.size wl w')=>z71 (HST.out w' (HBY8.out.trans (b.mono HBY8.out.size))) (by have:=HTM.out.many;omega))
         have HWI:=Lib.hid (show Ids (z0e s.waits) from z15 z12)
         have hwl:(z0e s.waits).length ≤ 1000:=by rw [z1x,DagN.waits,List.length_map];have:=HTM.out.many;omega
         have hnw:decide (x ∈ z0e s.waits) = false:=decide_eq_false (fun e=>HDI.out.apart HIS.out ((z1c s.waits).mem_iff.1 e))
         obtain ⟨WL,hWL⟩:∃ z,z0e s.waits = z:=⟨_,rfl⟩
         rw [hWL] at HWT HWI hwl hnw
         have HIN2:=Lib.hid (fun w' ai ci (hi:IAt ai WL w')=>show Calls Tryz.prog 27 #[.slice ai WL.length ci,.agg (z06 .u8 x).toArray] w' fun e w''=>e = .returned (.bool false) ∧ Below w'.heap.size w' w'' from hnw ▸ ref_in ai ci WL.length WL x w' hi HWI.out rfl HXI.out.1 HXI.out.2 (by omega))
         clear hFn hgr hge hDe hwl hnw hWL
         go_upto_region 25 with (fail)
         refine z0f 20 (fun q V w'=>Val q V 0 (.int .i64 0) ∧ Val q V 1 (.bool false) ∧ Val q V 2 (.bool false) ∧ Val q V 3 (.pointer (some ⟨g11,36,none⟩)) ∧ Val q V 4 (.int .i64 De) ∧ Val q V 5 (.int .i64 Fn) ∧ Val q V 6 (.int .i64 De) ∧ Val q V 7 (.bool false) ∧ Val q V 8 (.bool false) ∧ Val q V 9 (.bool false) ∧ Val q V 10 (.agg (opV o pa pc)) ∧ Val q V 11 (.agg (z06 .u8 x).toArray) ∧ Val q V 12 (.agg (z06 .u8 x).toArray) ∧ Val q V 13 (.bool false) ∧ Val q V 14 (.bool false) ∧ Val q V 15 (.bool false) ∧ Val q V 16 (.pointer (some ⟨B.gs,0,none⟩)) ∧ Val q V 18 (.agg (z06 .u8 x).toArray) ∧ Val q V 19 (.bool false) ∧ Below wl.heap.size wl w' ∧ Is q V 17 (NameR wl.heap.size WL (fun ai ci=>.slice ai WL.length ci)) w') (fun | 0=>u83 | 1=>u84 | 2=>u85 | 3=>u86 | 4=>u87 | 5=>u88 | 6=>u89 | 7=>u90 | 8=>u91 | 9=>u92 | 10=>u93 | 11=>u94 | 12=>u95 | 13=>u96 | 14=>u97 | 15=>u98 | 16=>u99 | 17=>u100 | 18=>u101 | 19=>u102 | _=>undef) (by kernel_rfl) (by kernel_rfl) (by kernel_rfl) (by simp only [zC,zD,z0i,Act.put,zS,zA,zB]) ⟨Val.none,Val.none,Val.none,Val.none,Val.none,Val.none,Val.none,Val.none,Val.none,Val.none,Val.none,Val.none,Val.none,Val.none,Val.none,Val.none,Val.none,Val.none,Val.none,(Below.refl _ _).drew,Is.none⟩ ?_ ?_
         ·simp only [zC,zD,z0i,Nat.zero_add,Nat.reduceAdd,Act.put,zS,zA,zB]
          refine zQc ?_ (zQc ?_ (zQc ?_ (zQc ?_ (zQc ?_ (zQc ?_ (zQc ?_ (zQc ?_ (zQc ?_ (zQc ?_ (zQc ?_ (zQc ?_ (zQc ?_ (zQc ?_ (zQc ?_ (zQc ?_ (zQc ?_ (zQc ?_ (zQc ?_ (zQc ?_ (zQn))))))))))))))))))))
          ·refine zQf rfl ?_
           rintro q V wq hr hu ⟨h0,h1,h2,h3,h4,h5,h6,h7,h8,h9,h10,h11,h12,h13,h14,h15,h16,h18,h19,hb,his17⟩ K hK
           exact z0h (.tmp 12) rfl _ rfl (hK _ _ ⟨.same,h1.nd,h2.nd,h3.nd,h4.nd,h5.nd,h6.nd,h7.nd,h8.nd,h9.nd,h10.nd,h11.nd,h12.nd,h13.nd,h14.nd,h15.nd,h16.nd,h18.nd,h19.nd,hb,his17.ne (by decide) (fun _ h=>h)⟩)
          ·refine zQf rfl ?_
           rintro q V wq hr hu ⟨h0,h1,h2,h3,h4,h5,h6,h7,h8,h9,h10,h11,h12,h13,h14,h15,h16,h18,h19,hb,his17⟩ K hK
           exact z8s .neq 40 40 (.tmp 83) _ rfl _ _ _ (h0 (hr { on:=0,ground:=.data } (by simp) rfl)) rfl (fun w=>rfl) HQ0.out (hK _ _ ⟨h0.nd,.same,h2.nd,h3.nd,h4.nd,h5.nd,h6.nd,h7.nd,h8.nd,h9.nd,h10.nd,h11.nd,h12.nd,h13.nd,h14.nd,h15.nd,h16.nd,h18.nd,h19.nd,hb,his17.ne (by decide) (fun _ h=>h)⟩)
          ·refine zQf rfl ?_
           rintro q V wq hr hu ⟨h0,h1,h2,h3,h4,h5,h6,h7,h8,h9,h10,h11,h12,h13,h14,h15,h16,h18,h19,hb,his17⟩ K hK
           exact z0h (.tmp 84) rfl _ (h1 (hr { on:=1,ground:=.data } (by simp) rfl)) (hK _ _ ⟨h0.nd,h1.nd,.same,h3.nd,h4.nd,h5.nd,h6.nd,h7.nd,h8.nd,h9.nd,h10.nd,h11.nd,h12.nd,h13.nd,h14.nd,h15.nd,h16.nd,h18.nd,h19.nd,hb,his17.ne (by decide) (fun _ h=>h)⟩)
          ·refine zQa 2 false rfl (fun V hV=>by show (match some (V 2) with | some (.bool b)=>some b | _=>none) = some false;rw [hV]) (fun q V wq hr hI=>by obtain ⟨h0,h1,h2,h3,h4,h5,h6,h7,h8,h9,h10,h11,h12,h13,h14,h15,h16,h18,h19,hb,his17⟩:=hI;exact h2 (hr { on:=2,ground:=.guard } (by simp) rfl)) ?_
           rintro q V wq hr hu ⟨h0,h1,h2,h3,h4,h5,h6,h7,h8,h9,h10,h11,h12,h13,h14,h15,h16,h18,h19,hb,his17⟩ K hK
           exact z0l 38 (.tmp 11) 2 rfl _ _ rfl (zi2 g11) (hK _ _ ⟨h0.nd,h1.nd,h2.nd,.same,h4.nd,h5.nd,h6.nd,h7.nd,h8.nd,h9.nd,h10.nd,h11.nd,h12.nd,h13.nd,h14.nd,h15.nd,h16.nd,h18.nd,h19.nd,hb,his17.ne (by decide) (fun _ h=>h)⟩)
          ·refine zQa 2 false rfl (fun V hV=>by show (match some (V 2) with | some (.bool b)=>some b | _=>none) = some false;rw [hV]) (fun q V wq hr hI=>by obtain ⟨h0,h1,h2,h3,h4,h5,h6,h7,h8,h9,h10,h11,h12,h13,h14,h15,h16,h18,h19,hb,his17⟩:=hI;exact h2 (hr { on:=2,ground:=.guard } (by simp) rfl)) ?_
           rintro q V wq hr hu ⟨h0,h1,h2,h3,h4,h5,h6,h7,h8,h9,h10,h11,h12,h13,h14,h15,h16,h18,h19,hb,his17⟩ K hK
           exact z0o 3 (.tmp 86) rfl _ _ (h3 (hr { on:=3,ground:=.data } (by simp) rfl)) (HC36.out wq hb) Tryz.isAgg3 (hK _ _ ⟨h0.nd,h1.nd,h2.nd,h3.nd,.same,h5.nd,h6.nd,h7.nd,h8.nd,h9.nd,h10.nd,h11.nd,h12.nd,h13.nd,h14.nd,h15.nd,h16.nd,h18.nd,h19.nd,hb,his17.ne (by decide) (fun _ h=>h)⟩)
          ·refine zQa 2 false rfl (fun V hV=>by show (match some (V 2) with | some (.bool b)=>some b | _=>none) = some false;rw [hV]) (fun q V wq hr hI=>by obtain ⟨h0,h1,h2,h3,h4,h5,h6,h7,h8,h9,h10,h11,h12,h13,h14,h15,h16,h18,h19,hb,his17⟩:=hI;exact h2 (hr { on:=2,ground:=.guard } (by simp) rfl)) ?_
           rintro q V wq hr hu ⟨h0,h1,h2,h3,h4,h5,h6,h7,h8,h9,h10,h11,h12,h13,h14,h15,h16,h18,h19,hb,his17⟩ K hK
           exact z0h (.tmp 13) rfl _ rfl (hK _ _ ⟨h0.nd,h1.nd,h2.nd,h3.nd,h4.nd,.same,h6.nd,h7.nd,h8.nd,h9.nd,h10.nd,h11.nd,h12.nd,h13.nd,h14.nd,h15.nd,h16.nd,h18.nd,h19.nd,hb,his17.ne (by decide) (fun _ h=>h)⟩)
          ·refine zQa 2 false rfl (fun V hV=>by show (match some (V 2) with | some (.bool b)=>some b | _=>none) = some false;rw [hV]) (fun q V wq hr hI=>by obtain ⟨h0,h1,h2,h3,h4,h5,h6,h7,h8,h9,h10,h11,h12,h13,h14,h15,h16,h18,h19,hb,his17⟩:=hI;exact h2 (hr { on:=2,ground:=.guard } (by simp) rfl)) ?_
           rintro q V wq hr hu ⟨h0,h1,h2,h3,h4,h5,h6,h7,h8,h9,h10,h11,h12,h13,h14,h15,h16,h18,h19,hb,his17⟩ K hK
           exact z8s .add 3 3 (.tmp 88) _ rfl _ _ _ (h5 (hr { on:=5,ground:=.data } (by simp) rfl)) rfl (fun w=>rfl) HAD.out (hK _ _ ⟨h0.nd,h1.nd,h2.nd,h3.nd,h4.nd,h5.nd,.same,h7.nd,h8.nd,h9.nd,h10.nd,h11.nd,h12.nd,h13.nd,h14.nd,h15.nd,h16.nd,h18.nd,h19.nd,hb,his17.ne (by decide) (fun _ h=>h)⟩)
          ·refine zQa 2 false rfl (fun V hV=>by show (match some (V 2) with | some (.bool b)=>some b | _=>none) = some false;rw [hV]) (fun q V wq hr hI=>by obtain ⟨h0,h1,h2,h3,h4,h5,h6,h7,h8,h9,h10,h11,h12,h13,h14,h15,h16,h18,h19,hb,his17⟩:=hI;exact h2 (hr { on:=2,ground:=.guard } (by simp) rfl)) ?_
           rintro q V wq hr hu ⟨h0,h1,h2,h3,h4,h5,h6,h7,h8,h9,h10,h11,h12,h13,h14,h15,h16,h18,h19,hb,his17⟩ K hK
           exact z8s .neq 3 3 (.tmp 87) (.tmp 89) rfl _ _ _ (h4 (hr { on:=4,ground:=.data } (by simp) rfl)) (h6 (hr { on:=6,ground:=.data } (by simp) rfl)) (fun w=>rfl) HQ1.out (hK _ _ ⟨h0.nd,h1.nd,h2.nd,h3.nd,h4.nd,h5.nd,h6.nd,.same,h8.nd,h9.nd,h10.nd,h11.nd,h12.nd,h13.nd,h14.nd,h15.nd,h16.nd,h18.nd,h19.nd,hb,his17.ne (by decide) (fun _ h=>h)⟩)
          ·refine zQf rfl ?_
           rintro q V wq hr hu ⟨h0,h1,h2,h3,h4,h5,h6,h7,h8,h9,h10,h11,h12,h13,h14,h15,h16,h18,h19,hb,his17⟩ K hK
           exact zao (.tmp 85) _ (.tmp 90) rfl (h2 (hr { on:=2,ground:=.data } (by simp) rfl)) _ (h7 (hr { on:=7,ground:=.data } (by simp) rfl)) (hK _ _ ⟨h0.nd,h1.nd,h2.nd,h3.nd,h4.nd,h5.nd,h6.nd,h7.nd,.same,h9.nd,h10.nd,h11.nd,h12.nd,h13.nd,h14.nd,h15.nd,h16.nd,h18.nd,h19.nd,hb,his17.ne (by decide) (fun _ h=>h)⟩)
          ·refine zQf rfl ?_
           rintro q V wq hr hu ⟨h0,h1,h2,h3,h4,h5,h6,h7,h8,h9,h10,h11,h12,h13,h14,h15,h16,h18,h19,hb,his17⟩ K hK
           exact z0h (.tmp 91) rfl _ (h8 (hr { on:=8,ground:=.data } (by simp) rfl)) (hK _ _ ⟨h0.nd,h1.nd,h2.nd,h3.nd,h4.nd,h5.nd,h6.nd,h7.nd,h8.nd,.same,h10.nd,h11.nd,h12.nd,h13.nd,h14.nd,h15.nd,h16.nd,h18.nd,h19.nd,hb,his17.ne (by decide) (fun _ h=>h)⟩)
          ·refine zQa 9 false rfl (fun V hV=>by show (match some (V 9) with | some (.bool b)=>some b | _=>none) = some false;rw [hV]) (fun q V wq hr hI=>by obtain ⟨h0,h1,h2,h3,h4,h5,h6,h7,h8,h9,h10,h11,h12,h13,h14,h15,h16,h18,h19,hb,his17⟩:=hI;exact h9 (hr { on:=9,ground:=.guard } (by simp) rfl)) ?_
           rintro q V wq hr hu ⟨h0,h1,h2,h3,h4,h5,h6,h7,h8,h9,h10,h11,h12,h13,h14,h15,h16,h18,h19,hb,his17⟩ K hK
           exact z1o 38 (.tmp 11) rfl g11 (opV o pa pc) 38 _ rfl (HO11.out.below hb) Tryz.underlying38 rfl HSV.out (hK _ _ ⟨h0.nd,h1.nd,h2.nd,h3.nd,h4.nd,h5.nd,h6.nd,h7.nd,h8.nd,h9.nd,.same,h11.nd,h12.nd,h13.nd,h14.nd,h15.nd,h16.nd,h18.nd,h19.nd,hb,his17.ne (by decide) (fun _ h=>h)⟩)
          ·refine zQa 9 false rfl (fun V hV=>by show (match some (V 9) with | some (.bool b)=>some b | _=>none) = some false;rw [hV]) (fun q V wq hr hI=>by obtain ⟨h0,h1,h2,h3,h4,h5,h6,h7,h8,h9,h10,h11,h12,h13,h14,h15,h16,h18,h19,hb,his17⟩:=hI;exact h9 (hr { on:=9,ground:=.guard } (by simp) rfl)) ?_
           rintro q V wq hr hu ⟨h0,h1,h2,h3,h4,h5,h6,h7,h8,h9,h10,h11,h12,h13,h14,h15,h16,h18,h19,hb,his17⟩ K hK
           refine z4u Tryz.func26 rfl rfl rfl [.agg (opV o pa pc)] (z4i (h10 (hr { on:=10,ground:=.data } (by simp) rfl)) rfl) (HNM.out wq hb) ?_
           rintro e w' ⟨rfl,hb'⟩
           exact ⟨_,rfl,(hK _ _ ⟨h0.nd,h1.nd,h2.nd,h3.nd,h4.nd,h5.nd,h6.nd,h7.nd,h8.nd,h9.nd,h10.nd,.same,h12.nd,h13.nd,h14.nd,h15.nd,h16.nd,h18.nd,h19.nd,hb.trans (hb'.mono hb.size),his17.ne (by decide) (fun _ h=>h.below hb')⟩)⟩
          ·refine zQa 9 false rfl (fun V hV=>by show (match some (V 9) with | some (.bool b)=>some b | _=>none) = some false;rw [hV]) (fun q V wq hr hI=>by obtain ⟨h0,h1,h2,h3,h4,h5,h6,h7,h8,h9,h10,h11,h12,h13,h14,h15,h16,h18,h19,hb,his17⟩:=hI;exact h9 (hr { on:=9,ground:=.guard } (by simp) rfl)) ?_
           rintro q V wq hr hu ⟨h0,h1,h2,h3,h4,h5,h6,h7,h8,h9,h10,h11,h12,h13,h14,h15,h16,h18,h19,hb,his17⟩ K hK
           exact z16 25 (.tmp 10) rfl g10 .u8 x 25 _ rfl (HX10.out.below hb) Tryz.underlying25 rfl HS1.out (hK _ _ ⟨h0.nd,h1.nd,h2.nd,h3.nd,h4.nd,h5.nd,h6.nd,h7.nd,h8.nd,h9.nd,h10.nd,h11.nd,.same,h13.nd,h14.nd,h15.nd,h16.nd,h18.nd,h19.nd,hb,his17.ne (by decide) (fun _ h=>h)⟩)
          ·refine zQa 9 false rfl (fun V hV=>by show (match some (V 9) with | some (.bool b)=>some b | _=>none) = some false;rw [hV]) (fun q V wq hr hI=>by obtain ⟨h0,h1,h2,h3,h4,h5,h6,h7,h8,h9,h10,h11,h12,h13,h14,h15,h16,h18,h19,hb,his17⟩:=hI;exact h9 (hr { on:=9,ground:=.guard } (by simp) rfl)) ?_
           rintro q V wq hr hu ⟨h0,h1,h2,h3,h4,h5,h6,h7,h8,h9,h10,h11,h12,h13,h14,h15,h16,h18,h19,hb,his17⟩ K hK
           exact z8s .neq 25 25 (.tmp 94) (.tmp 95) rfl _ _ _ (h11 (hr { on:=11,ground:=.data } (by simp) rfl)) (h12 (hr { on:=12,ground:=.data } (by simp) rfl)) HQG.out HQ2.out (hK _ _ ⟨h0.nd,h1.nd,h2.nd,h3.nd,h4.nd,h5.nd,h6.nd,h7.nd,h8.nd,h9.nd,h10.nd,h11.nd,h12.nd,.same,h14.nd,h15.nd,h16.nd,h18.nd,h19.nd,hb,his17.ne (by decide) (fun _ h=>h)⟩)
          ·refine zQf rfl ?_
           rintro q V wq hr hu ⟨h0,h1,h2,h3,h4,h5,h6,h7,h8,h9,h10,h11,h12,h13,h14,h15,h16,h18,h19,hb,his17⟩ K hK
           exact zao (.tmp 92) _ (.tmp 96) rfl (h9 (hr { on:=9,ground:=.data } (by simp) rfl)) _ (h13 (hr { on:=13,ground:=.data } (by simp) rfl)) (hK _ _ ⟨h0.nd,h1.nd,h2.nd,h3.nd,h4.nd,h5.nd,h6.nd,h7.nd,h8.nd,h9.nd,h10.nd,h11.nd,h12.nd,h13.nd,.same,h15.nd,h16.nd,h18.nd,h19.nd,hb,his17.ne (by decide) (fun _ h=>h)⟩)
          ·refine zQf rfl ?_
           rintro q V wq hr hu ⟨h0,h1,h2,h3,h4,h5,h6,h7,h8,h9,h10,h11,h12,h13,h14,h15,h16,h18,h19,hb,his17⟩ K hK
           exact z0h (.tmp 97) rfl _ (h14 (hr { on:=14,ground:=.data } (by simp) rfl)) (hK _ _ ⟨h0.nd,h1.nd,h2.nd,h3.nd,h4.nd,h5.nd,h6.nd,h7.nd,h8.nd,h9.nd,h10.nd,h11.nd,h12.nd,h13.nd,h14.nd,.same,h16.nd,h18.nd,h19.nd,hb,his17.ne (by decide) (fun _ h=>h)⟩)
          ·refine zQa 15 false rfl (fun V hV=>by show (match some (V 15) with | some (.bool b)=>some b | _=>none) = some false;rw [hV]) (fun q V wq hr hI=>by obtain ⟨h0,h1,h2,h3,h4,h5,h6,h7,h8,h9,h10,h11,h12,h13,h14,h15,h16,h18,h19,hb,his17⟩:=hI;exact h15 (hr { on:=15,ground:=.guard } (by simp) rfl)) ?_
           rintro q V wq hr hu ⟨h0,h1,h2,h3,h4,h5,h6,h7,h8,h9,h10,h11,h12,h13,h14,h15,h16,h18,h19,hb,his17⟩ K hK
           exact z0h (.tmp 6) rfl _ rfl (hK _ _ ⟨h0.nd,h1.nd,h2.nd,h3.nd,h4.nd,h5.nd,h6.nd,h7.nd,h8.nd,h9.nd,h10.nd,h11.nd,h12.nd,h13.nd,h14.nd,h15.nd,.same,h18.nd,h19.nd,hb,his17.ne (by decide) (fun _ h=>h)⟩)
          ·refine zQa 15 false rfl (fun V hV=>by show (match some (V 15) with | some (.bool b)=>some b | _=>none) = some false;rw [hV]) (fun q V wq hr hI=>by obtain ⟨h0,h1,h2,h3,h4,h5,h6,h7,h8,h9,h10,h11,h12,h13,h14,h15,h16,h18,h19,hb,his17⟩:=hI;exact h15 (hr { on:=15,ground:=.guard } (by simp) rfl)) ?_
           rintro q V wq hr hu ⟨h0,h1,h2,h3,h4,h5,h6,h7,h8,h9,h10,h11,h12,h13,h14,h15,h16,h18,h19,hb,his17⟩ K hK
           refine z4u Tryz.func24 rfl rfl rfl [.pointer (some ⟨B.gs,0,none⟩)] (z4i (h16 (hr { on:=16,ground:=.data } (by simp) rfl)) rfl) (HWT.out wq hb) ?_
           rintro e w' ⟨v,rfl,ho,hb'⟩
           obtain ⟨aj,cj,rfl⟩:=ho.form
           exact ⟨_,rfl,(hK _ _ ⟨h0.nd,h1.nd,h2.nd,h3.nd,h4.nd,h5.nd,h6.nd,h7.nd,h8.nd,h9.nd,h10.nd,h11.nd,h12.nd,h13.nd,h14.nd,h15.nd,h16.nd,h18.nd,h19.nd,hb.trans (hb'.mono hb.size),Is.same ⟨aj,cj,rfl,ho.at HWI.out,fun a ha=>Nat.le_trans hb.size (World.ownsRow.lt ho a.block (by subst ha;rfl)).1⟩⟩)⟩
          ·refine zQa 15 false rfl (fun V hV=>by show (match some (V 15) with | some (.bool b)=>some b | _=>none) = some false;rw [hV]) (fun q V wq hr hI=>by obtain ⟨h0,h1,h2,h3,h4,h5,h6,h7,h8,h9,h10,h11,h12,h13,h14,h15,h16,h18,h19,hb,his17⟩:=hI;exact h15 (hr { on:=15,ground:=.guard } (by simp) rfl)) ?_
           rintro q V wq hr hu ⟨h0,h1,h2,h3,h4,h5,h6,h7,h8,h9,h10,h11,h12,h13,h14,h15,h16,h18,h19,hb,his17⟩ K hK
           exact z16 25 (.tmp 10) rfl g10 .u8 x 25 _ rfl (HX10.out.below hb) Tryz.underlying25 rfl HS1.out (hK _ _ ⟨h0.nd,h1.nd,h2.nd,h3.nd,h4.nd,h5.nd,h6.nd,h7.nd,h8.nd,h9.nd,h10.nd,h11.nd,h12.nd,h13.nd,h14.nd,h15.nd,h16.nd,.same,h19.nd,hb,his17.ne (by decide) (fun _ h=>h)⟩)
          ·refine zQa 15 false rfl (fun V hV=>by show (match some (V 15) with | some (.bool b)=>some b | _=>none) = some false;rw [hV]) (fun q V wq hr hI=>by obtain ⟨h0,h1,h2,h3,h4,h5,h6,h7,h8,h9,h10,h11,h12,h13,h14,h15,h16,h18,h19,hb,his17⟩:=hI;exact h15 (hr { on:=15,ground:=.guard } (by simp) rfl)) ?_
           rintro q V wq hr hu ⟨h0,h1,h2,h3,h4,h5,h6,h7,h8,h9,h10,h11,h12,h13,h14,h15,h16,h18,h19,hb,his17⟩ K hK
           obtain ⟨ai,ci,e17,hi17,_⟩:=his17 (hr { on:=17,ground:=.data } (by simp) rfl)
           refine z4u Tryz.func27 rfl rfl rfl [.slice ai WL.length ci,.agg (z06 .u8 x).toArray] (z4i e17 (z4i (h18 (hr { on:=18,ground:=.data } (by simp) rfl)) rfl)) (HIN2.out wq ai ci hi17) ?_
           rintro e w' ⟨rfl,hb'⟩
           exact ⟨_,rfl,(hK _ _ ⟨h0.nd,h1.nd,h2.nd,h3.nd,h4.nd,h5.nd,h6.nd,h7.nd,h8.nd,h9.nd,h10.nd,h11.nd,h12.nd,h13.nd,h14.nd,h15.nd,h16.nd,h18.nd,.same,hb.trans (hb'.mono hb.size),his17.ne (by decide) (fun _ h=>h.below hb')⟩)⟩
         rintro q V wq hall ⟨h0,h1,h2,h3,h4,h5,h6,h7,h8,h9,h10,h11,h12,h13,h14,h15,h16,h18,h19,hb,his17⟩
         have v0:=h0 (hall 0 (by decide))
         have v1:=h1 (hall 1 (by decide))
         have v2:=h2 (hall 2 (by decide))
         have v3:=h3 (hall 3 (by decide))
         have v4:=h4 (hall 4 (by decide))
         have v5:=h5 (hall 5 (by decide))
         have v6:=h6 (hall 6 (by decide))
         have v7:=h7 (hall 7 (by decide))
         have v8:=h8 (hall 8 (by decide))
         have v9:=h9 (hall 9 (by decide))
         have v10:=h10 (hall 10 (by decide))
         have v11:=h11 (hall 11 (by decide))
         have v12:=h12 (hall 12 (by decide))
         have v13:=h13 (hall 13 (by decide))
         have v14:=h14 (hall 14 (by decide))
         have v15:=h15 (hall 15 (by decide))
         have v16:=h16 (hall 16 (by decide))
         obtain ⟨u17,v17⟩:∃ v,V 17 = v:=⟨_,rfl⟩
         have v18:=h18 (hall 18 (by decide))
         have v19:=h19 (hall 19 (by decide))
         simp only [zC,zD,zE,zF,z0i,Nat.zero_add,Nat.reduceAdd,v0,v1,v2,v3,v4,v5,v6,v7,v8,v9,v10,v11,v12,v13,v14,v15,v16,v17,v18,v19,Act.put,zS,zA,zB]
         clear h0 h1 h2 h3 h4 h5 h6 h7 h8 h9 h10 h11 h12 h13 h14 h15 h16 h18 h19 v0 v1 v2 v3 v4 v5 v6 v7 v8 v9 v10 v11 v12 v13 v14 v15 v16 v17 v18 v19 hall
         have HBL:=Lib.hid (HB8x.out.trans ((HBY.out.trans (hb.mono HBY.out.size)).mono HB8x.out.size))
         clear hb his17
         go_wp2_with fail
         exact ⟨⟨k2 + 1,by omega,by go_num,HBL.out⟩,by simp [intOf];omega⟩
      ·obtain rfl:k2 = m:=by omega
       go_wp2_with fail
       go_ret
       exact ⟨rfl,HBW.out.trans (HBR.out.mono HBW.out.size)⟩
 ·have q1:decide ((60:Int) < (nr:Int)) = true:=decide_eq_true (by omega)
  go_wp2_with fail
  go_ret
  exact ⟨rfl,HB2.out⟩
end dagClosed
end Go.Proofs.YtnbldbbbibpobaaGreatDoor
namespace Go.Proofs.YtnbldbbbibpobaaGreatDoor.dagClosed
open Go.ChangeShapes Go.WideShapes Go.ChangeAt Go.RowKit
open Go.ChangeMaps (open_string shut_string)
set_option linter.unusedVariables false
theorem z7n (os:Os):laidMet Tryz.prog Rows.dagClosedRow.laid ((z2p os).forCall (fun _ _=>0) ⟨#[],#[.slice none 0 0,.slice none 0 0],[]⟩).memory :=
 laidMet_of_run' 8 (by kernel_rfl) (by kernel_rfl)
theorem reads (os:Os) {H:Type} (enc:TypeId × Value → H):∃ x,DataW.whole enc Tryz.prog ((z2p os).forCall (fun _ _=>0) ⟨#[],#[.slice none 0 0,.slice none 0 0],[]⟩).memory Tryz.f4.params.toList Rows.dagClosedSpec.vars false (#[.slice none 0 0,.slice none 0 0]:Array Value).toList 8 = some x :=
 ⟨([.nil,.nil],[],[]),by kernel_rfl⟩
theorem lifted (os:Os) (started:os.Started) (H:Type) (enc:TypeId × Value → H) (F:Stop.Interp) :
 ReturnsInHanded {} Tryz.checked os 4 .any ((OpenSpec.ofChange Rows.dagClosedSpec).preRow enc Tryz.prog Tryz.f4 Rows.dagClosedRow.domain false Rows.dagClosedRow.laid) (((OpenSpec.ofChange Rows.dagClosedSpec).at F).post enc Tryz.prog Tryz.f4 false true false false):=by
 obtain ⟨x,hx⟩:=reads os enc
 refine returnsInHanded_of_row (C:=Tryz.checked) (s:=OpenSpec.ofChange Rows.dagClosedSpec) zev started (by kernel_rfl) Tryz.func4
  (witness_row_at (enc:=enc) (C:=Tryz.checked) false (z2p os) #[.slice none 0 0,.slice none 0 0] rfl (by kernel_rfl) (by kernel_rfl) (by kernel_rfl)
   (OpenSpec.preRow_of_cond 8 hx rfl (fun k hk=>by cases hk) (by kernel_rfl) (z7n os))) ?_
 intro W base args ds gs before hval0 hW hcnd _ hsz0 hL _ _
 have hk:KAt W:=zi5 hL
 have hsz:(DataW.weightsEach Tryz.prog (Tryz.f4.params.toList ++ (OpenSpec.ofChange Rows.dagClosedSpec).bare.plain.varTypes Tryz.prog) (ds ++ gs)).all (· ≤ reachBytes) = true:=hsz0
 have hval:∀ (j:Nat) t v,Tryz.f4.params[j]? = some t → args[j]? = some v → Value.okWide Tryz.prog W .any base t v:=hval0
 have hW':=hW
 obtain ⟨p,q,hA0,hV,rfl,hfz,hnd⟩:=hW
 have hA:DataW.TrodAll enc Tryz.prog W 0 (fun _=>true) true Tryz.f4.params.toList args.toList ds p:=hA0
 rw [Tryz.params4] at hA hval hsz
 obtain ⟨v0,vs0,d0,ds0,p0,q0,hargs,rfl,rfl,h0,r0⟩:=trodAll_cons hA
 obtain ⟨v1,vs1,d1,ds1,p1,q1,rfl,rfl,rfl,h1,r1⟩:=trodAll_cons r0
 obtain ⟨rfl,rfl,rfl⟩:=trodAll_nil r1
 obtain rfl:args = #[v0,v1]:=by cases args;simp_all
 obtain ⟨rfl,rfl⟩:=trodVars_none hV
 have k0:=h0
 have lt0:∀ x ∈ p0,x.block < W.heap.size:=by obtain ⟨m,hm⟩:=k0;exact DataW.trod_lt m _ _ _ hm
 have z0:∀ n ∈ DataW.weights Tryz.prog 22 d0,n ≤ 140737488351232:=fun n hn=>of_decide_eq_true (List.all_eq_true.1 hsz n (DataW.weights_mem_each (j:=0) (t:=22) rfl rfl n hn))
 obtain ⟨ao0,l0,c0,rfl,s0,n0,t0⟩:=z8a (hval 0 22 v0 rfl rfl) h0 z0
 have k1:=h1
 have lt1:∀ x ∈ p1,x.block < W.heap.size:=by obtain ⟨m,hm⟩:=k1;exact DataW.trod_lt m _ _ _ hm
 have z1:∀ n ∈ DataW.weights Tryz.prog 23 d1,n ≤ 140737488351232:=fun n hn=>of_decide_eq_true (List.all_eq_true.1 hsz n (DataW.weights_mem_each (j:=1) (t:=23) rfl rfl n hn))
 obtain ⟨ao1,l1,c1,rfl,s1,n1,t1⟩:=z4g (hval 1 23 v1 rfl rfl) h1 z1
 clear hA0 hval0
 refine (walk W hk ao0 l0 c0 s0 n0 t0 ao1 l1 c1 s1 n1 t1).mono fun e W' ⟨he,bel⟩=>?_
 subst he
 exact ⟨_,rfl,_,_,_,[],_,[],hW',trodAll_mk1 (shut_bool Tryz.underlying4 _),(trodAll_cons_mk (Below.trod z2g (by kernel_rfl) (of_decide_eq_true (by kernel_rfl)) k0 bel lt0) (trodAll_cons_mk (Below.trod z2g (by kernel_rfl) (of_decide_eq_true (by kernel_rfl)) k1 bel lt1) trodAll_mk0)),rfl,bel.frame _,fun h=>by cases h⟩
theorem said:Rows.DagClosedSaid :=
 OpenClaim.holds_of_cond 4 Tryz.f4 rfl rfl rfl rfl rfl rfl rfl ⟨rfl,rfl,rfl,rfl,rfl⟩ rfl rfl rfl rfl rfl (by kernel_rfl) Tryz.func4 (by kernel_rfl)
  (of_decide_eq_true (by kernel_rfl)) (by unfold Func.isWrapper;first | (rw [if_pos (by decide +kernel)];kernel_rfl) | (rw [if_neg (by decide +kernel)];exact ⟨rfl,rfl⟩))
  (fun os started H enc _ F=>by rw [OpenClaim.pre_eq_preRow];exact lifted os started H enc F)
theorem zbs (f : FuncId) (fn : Func) (hf : Tryz.pinned.checked.prog.funcNamed "tribunal/tribunallaw10.DagClosed" = some f) (hfn : Tryz.pinned.checked.prog.funcs[f]? = some fn) :
 true = Tryz.pinned.checked.prog.looks [] ∧ ∀ (j:Nat) t,fn.params[j]? = some t → Tryz.pinned.checked.prog.wantsStandIn t = false:=by
 obtain rfl : f = 4 := Option.some.inj ((show Tryz.prog.funcNamed "tribunal/tribunallaw10.DagClosed" = some 4 by kernel_rfl).symm.trans hf) |>.symm
 obtain rfl:fn = Tryz.f4:=(Option.some.inj (Tryz.func4.symm.trans hfn)).symm
 refine ⟨by kernel_rfl,fun j t ht=>?_⟩
 have hall:Tryz.f4.params.toList.all (fun t=>!Tryz.prog.wantsStandIn t) = true:=by kernel_rfl
 have hm:t ∈ Tryz.f4.params.toList:=Array.mem_toList_iff.2 (Array.mem_of_getElem? ht)
 have h0:=List.all_eq_true.1 hall t hm
 have h1:Tryz.prog.wantsStandIn t = false:=by simpa using h0
 exact h1
theorem proved:Rows.DagClosedCardSaid :=
 Claim7.holds_tied_plain_at .later [] _ _ _ _ said (fun _ h=>by cases h) (by kernel_rfl) (fun _ h=>by cases h) dagClosed_row_tie rfl ⟨rfl,rfl⟩ (by kernel_rfl) rfl zbs (by kernel_rfl)
#print axioms proved
end Go.Proofs.YtnbldbbbibpobaaGreatDoor.dagClosed
