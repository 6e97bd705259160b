/-
  Joined: Makes (layer 10) that came in: how operations are to be made.; Each depth is right, whatever was taken; an index out of any number.; All that is there, or waits, is good; sets of kinds.; Layer 11 as plain mathematics: the row of what is there, those of a key and of kinds, the keys of kinds.; What the laws of layer 12 ask first, as mathematics: an Add and a Drop of one value, neither behind the other.; The developers' GoodDraft.; pack.Num: the number's bytes.; A builder of the call's own; pack.List.; The developers' DraftText.
-/
import Derived.ChangeSlices
import Derived.Deep.OwnRows
import Derived.Laws.IdiomStrings
import Derived.Lib.AppendStr
import Derived.Lib.Builder
import Derived.Lib.UnsafeStr
import Derived.Lib.Walk
import Derived.Shelf.Small.Bits
import Derived.Shelf.Strconv.Itoa0
import Derived.Shelf.Strings.Builder1
import Derived.Shelf.Strings.BuilderF
import Derived.Shelf.Strings.BuilderK
import Derived.Test.YtjomgkiphecljaaGreatDoorProg
import Derived.Test.YtjomgkiphecljaaGreatDoorJ01
import Derived.Test.YtjomgkiphecljaaGreatDoorJ02
import Derived.Test.YtjomgkiphecljaaGreatDoorJ04
set_option maxRecDepth 100000
set_option maxHeartbeats 4000000
namespace Go.Proofs.YtjomgkiphecljaaGreatDoor
open Go.RowKit Go.ChangeShapes Go.WideShapes Go.Deep
structure MakeN where
 kind:Int
 author:Int
 d:DraftN
 pos:Int
 other:Int
 deep:Int
 op:OpN
def z5d (m:MakeN) (pa:Option Addr) (pc:Nat):List Value:=[.int .i64 m.kind,.int .i64 m.author] ++ z1b m.d ++ [.int .i64 m.pos,.int .i64 m.other,.int .i64 m.deep] ++ opL m.op pa pc
def I64 (i:Int):Prop:=-9223372036854775808 ≤ i ∧ i ≤ 9223372036854775807
structure MakeN.In (m:MakeN):Prop where
 kind:I64 m.kind
 author:I64 m.author
 d:m.d.In
 pos:I64 m.pos
 other:I64 m.other
 deep:I64 m.deep
 op:m.op.In
theorem zea {m:MakeN} (h:m.In) (pa:Option Addr) (pc:Nat):(z5d m pa pc).length = 78:=by
 simp [z5d,z0r h.d.ref.1,z14 h.op.d.ref.1]
def MksAt (ao:Option Addr) (L:List MakeN) (W:World):Prop :=
 L = [] ∨ ∃ b o,ao = some ⟨b,o,none⟩ ∧ b < W.heap.size ∧ ∀ (i:Nat) (y:MakeN),L[i]? = some y → ∃ pa pc,W.rangeAt b (o + i * 78) (z5d y pa pc) ∧ IAt pa y.op.preds W
theorem zgz (cs:List Value) (h:cs.length = 78):cs = (cs.drop 0).take 1 ++ ((cs.drop 1).take 1 ++ ((cs.drop 2).take 35 ++ ((cs.drop 37).take 1 ++ ((cs.drop 38).take 1 ++ ((cs.drop 39).take 1 ++ (cs.drop 40).take 38))))):=by
 have e (a b:Nat):(cs.drop a).take b ++ cs.drop (a + b) = cs.drop a:=by
  rw [← List.drop_drop,List.take_append_drop]
 have hlast:(cs.drop 40).take 38 = cs.drop 40:=List.take_of_length_le (by rw [List.length_drop];omega)
 rw [hlast,e 39 1,e 38 1,e 37 1,e 2 35,e 1 1,e 0 1]
 rfl
theorem zav {H:Type} {enc:TypeId × Value → H} {W:World} {n:Nat} {cs:List Value} {x:DataW H × List MemPlace}
 (h:DataW.trod enc Tryz.prog W 0 (fun _=>true) true n 72 cs = some x) (hwt:∀ n ∈ DataW.weights Tryz.prog 72 x.1,n ≤ 140737488351232) :
 ∃ (m:MakeN) (pa:Option Addr) (pc:Nat),cs = z5d m pa pc ∧ m.In ∧ IAt pa m.op.preds W:=by
 obtain ⟨xs,m,_,hx,hcl,hxl,hf⟩:=DataW.trod_struct Tryz.underlying72 h
 have hci:Tryz.prog.cellsOf 3 = 1:=by kernel_rfl
 have hcd:Tryz.prog.cellsOf 47 = 35:=by kernel_rfl
 have hco:Tryz.prog.cellsOf 49 = 38:=by kernel_rfl
 have hcm:Tryz.prog.cellsOf 72 = 78:=by kernel_rfl
 rw [hcm] at hcl
 match xs,hxl with
 | [x0,x1,x2,x3,x4,x5,x6],_ =>
 have t0:DataW.trod enc Tryz.prog W 0 (fun _=>true) true m 3 ((cs.drop 0).take (Tryz.prog.cellsOf 3)) = some x0:=hf 0 _ rfl
 have t1:DataW.trod enc Tryz.prog W 0 (fun _=>true) true m 3 ((cs.drop 1).take (Tryz.prog.cellsOf 3)) = some x1:=hf 1 _ rfl
 have t2:DataW.trod enc Tryz.prog W 0 (fun _=>true) true m 47 ((cs.drop 2).take (Tryz.prog.cellsOf 47)) = some x2:=hf 2 _ rfl
 have t3:DataW.trod enc Tryz.prog W 0 (fun _=>true) true m 3 ((cs.drop 37).take (Tryz.prog.cellsOf 3)) = some x3:=hf 3 _ rfl
 have t4:DataW.trod enc Tryz.prog W 0 (fun _=>true) true m 3 ((cs.drop 38).take (Tryz.prog.cellsOf 3)) = some x4:=hf 4 _ rfl
 have t5:DataW.trod enc Tryz.prog W 0 (fun _=>true) true m 3 ((cs.drop 39).take (Tryz.prog.cellsOf 3)) = some x5:=hf 5 _ rfl
 have t6:DataW.trod enc Tryz.prog W 0 (fun _=>true) true m 49 ((cs.drop 40).take (Tryz.prog.cellsOf 49)) = some x6:=hf 6 _ rfl
 rw [hci] at t0 t1 t3 t4 t5
 rw [hcd] at t2
 rw [hco] at t6
 have hx1:x.1 = .agg [x0.1,x1.1,x2.1,x3.1,x4.1,x5.1,x6.1]:=congrArg Prod.fst hx
 rw [hx1] at hwt
 simp only [DataW.weights,Tryz.underlying72] at hwt
 obtain ⟨k,e0,_,w0⟩:=DataW.trod_int Tryz.underlying3 t0
 obtain ⟨a,e1,_,w1⟩:=DataW.trod_int Tryz.underlying3 t1
 obtain ⟨d,e2,hd⟩:=z5t t2 (fun q hq=>hwt q (by
  simp only [List.map_cons,List.map_nil,DataW.weightsEach,List.mem_append]
  exact .inr (.inr (.inl hq))))
 obtain ⟨p,e3,_,w3⟩:=DataW.trod_int Tryz.underlying3 t3
 obtain ⟨r,e4,_,w4⟩:=DataW.trod_int Tryz.underlying3 t4
 obtain ⟨s,e5,_,w5⟩:=DataW.trod_int Tryz.underlying3 t5
 obtain ⟨y,pa,pc,e6,hy,hia⟩:=zdd t6 (fun q hq=>hwt q (by
  simp only [List.map_cons,List.map_nil,DataW.weightsEach,List.mem_append]
  exact .inr (.inr (.inr (.inr (.inr (.inr (.inl hq))))))))
 simp only [Lit.wf,Bool.and_eq_true,decide_eq_true_eq] at w0 w1 w3 w4 w5
 refine ⟨⟨k,a,d,p,r,s,y⟩,pa,pc,?_,⟨⟨w0.1,w0.2⟩,⟨w1.1,w1.2⟩,hd,⟨w3.1,w3.2⟩,⟨w4.1,w4.2⟩,⟨w5.1,w5.2⟩,hy⟩,hia⟩
 rw [zgz cs hcl,e0,e1,e2,e3,e4,e5,e6]
 simp [z5d]
theorem zbs {H:Type} {enc:TypeId × Value → H} {W:World} {v:Value} {d:DataW H} {p:List MemPlace} {base:Nat} (hv:Value.okWide Tryz.prog W .any base 22 v)
 (h:DataW.Trod enc Tryz.prog W 0 (fun _=>true) true 22 v d p) (hwt:∀ n ∈ DataW.weights Tryz.prog 22 d,n ≤ 140737488351232) :
 ∃ (ao:Option Addr) (L:List MakeN) (cap:Nat),v = .slice ao L.length cap ∧ MksAt ao L W ∧ (∀ x ∈ L,x.In) ∧ L.length ≤ 140737488351232:=by
 obtain ⟨a0,len0,cap0,rfl⟩:=okWide_slice Tryz.underlying22 hv
 obtain ⟨fuel,hf⟩:=h
 have hc4:Tryz.prog.cellsOf 72 = 78:=by kernel_rfl
 rcases Deep.open_slice Tryz.underlying22 hf with ⟨hcs,_⟩ | ⟨x,len,cap,m,n,D,Pl,hcs,_,hl,hm,hmm,hx,hi⟩
 ·simp [Value.cells] at hcs
  obtain ⟨rfl,rfl,rfl⟩:=hcs
  exact ⟨none,[],0,rfl,.inl rfl,(fun x hx=>by cases hx),by decide⟩
 ·simp [Value.cells] at hcs
  obtain ⟨rfl,rfl,rfl⟩:=hcs
  simp only [if_true] at hmm
  subst hmm
  rw [hc4] at hi
  have hd:d = .slice ((List.range len0).map D) ((List.range (m - len0)).map fun j=>D (len0 + j)):=congrArg Prod.fst hx
  subst hd
  simp only [DataW.weights,Tryz.underlying22] at hwt
  have hwn:=hwt _ (List.mem_cons_self ..)
  have hb48:Tryz.prog.bytesOf 72 = 224:=by kernel_rfl
  rw [hb48] at hwn
  simp only [List.length_map,List.length_range] at hwn
  have hE:∀ i,i < len0 → ∃ (y:MakeN) (pa:Option Addr) (pc:Nat),(y.In ∧ IAt pa y.op.preds W) ∧ ∀ j u,(z5d y pa pc)[j]? = some u → W.cell? ((x.add (i * 78)).add j) = some u:=by
   intro i him
   obtain ⟨cs',hc,htr⟩:=hi i (by omega)
   obtain ⟨_,hcl,hat⟩:=World.cells?_some hc
   obtain ⟨y,pa,pc,rfl,hok,hia⟩:=zav htr (fun q hq=>hwt q (List.mem_cons_of_mem _ (List.mem_append_left _ (z5z _ (D i) (List.mem_map.2 ⟨i,List.mem_range.2 him,rfl⟩) q hq))))
   refine ⟨y,pa,pc,⟨hok,hia⟩,fun j u hj=>?_⟩
   have hj4:j < 78:=by
    have:=(List.getElem?_eq_some_iff.1 hj).1
    rw [zea hok] at this
    exact this
   rw [hat j hj4]
   exact hj
  let F:Nat → MakeN:=fun i=>if h:i < len0 then (hE i h).choose else ⟨0,0,zdm,0,0,0,z04⟩
  have hF:∀ i,i < len0 → ∃ (pa:Option Addr) (pc:Nat),((F i).In ∧ IAt pa (F i).op.preds W) ∧ ∀ j u,(z5d (F i) pa pc)[j]? = some u → W.cell? ((x.add (i * 78)).add j) = some u:=by
   intro i him
   simp only [F,dif_pos him]
   exact (hE i him).choose_spec
  have hlen:((List.range len0).map F).length = len0:=by simp
  refine ⟨some x,(List.range len0).map F,m,by rw [hlen],?_,?_,by rw [hlen];omega⟩
  ·by_cases h0:len0 = 0
   ·subst h0;exact .inl rfl
   ·obtain ⟨pa0,pc0,h00,h01⟩:=hF 0 (by omega)
    have h1:=h01 0 _ rfl
    obtain ⟨b,o,spot⟩:=x
    have hspot:spot = none:=by simpa [Addr.add] using World.cell?_spot h1
    subst hspot
    refine .inr ⟨b,o,rfl,?_,fun i y hy=>?_⟩
    ·have:=z48 h1
     simpa [Addr.add] using this
    ·have hi3:i < len0:=by have:=(List.getElem?_eq_some_iff.1 hy).1;simpa using this
     simp only [List.getElem?_map,List.getElem?_range hi3,Option.map_some,Option.some.injEq] at hy
     subst hy
     obtain ⟨pa,pc,g1,g2⟩:=hF i hi3
     refine ⟨pa,pc,fun j u hj=>?_,g1.2⟩
     have:=g2 j u hj
     rw [Addr.add_mid,Addr.add_mid] at this
     exact this
  ·intro z hz
   obtain ⟨i,hi2,rfl⟩:=List.mem_map.1 hz
   obtain ⟨_,_,g1,_⟩:=hF i (List.mem_range.1 hi2)
   exact g1.1
def IntsIn (ao:Option Addr) (L:List Int) (W:World):Prop:=∀ i,i < L.length → ∃ a,ao = some a ∧ W.cell? (a.add i) = some (.int .i64 (L.getD i 0))
end Go.Proofs.YtjomgkiphecljaaGreatDoor
namespace Go.Proofs.YtjomgkiphecljaaGreatDoor
open Go.RowKit
structure Deep (s:DagN):Prop where
 deep:∀ o ∈ s.ops,o.depth = z1h s.ops o
 closed:∀ o ∈ s.ops,∀ p ∈ o.preds,p ∈ s.names
theorem zh1 {ops:List OpN} {o:OpN} {p:List Nat} (hp:p ∈ ops.map z02):z1m (ops ++ [o]) p = z1m ops p:=by
 have hl:(ops.map z02).idxOf p < ops.length:=by
  have:=List.idxOf_lt_length_iff.2 hp
  rwa [List.length_map] at this
 unfold z1m
 rw [List.map_append,List.idxOf_append,if_pos hp,List.getElem?_append_left hl]
theorem zdy {ops:List OpN} {o:OpN}:∀ (L:List (List Nat)) (m:Int),(∀ p ∈ L,p ∈ ops.map z02) → L.foldl (fun n p=>if n < z1m (ops ++ [o]) p then z1m (ops ++ [o]) p else n) m = L.foldl (fun n p=>if n < z1m ops p then z1m ops p else n) m
 | [],_,_=>rfl
 | p :: L, m, h => by
   rw [List.foldl_cons,List.foldl_cons,zh1 (h p (List.mem_cons_self ..))]
   exact zdy L _ (fun q hq=>h q (List.mem_cons_of_mem _ hq))
theorem zc7 {ops:List OpN} {o x:OpN} (h:∀ p ∈ x.preds,p ∈ ops.map z02):z1h (ops ++ [o]) x = z1h ops x:=by
 unfold z1h z6u
 rw [zdy _ _ h]
theorem Deep.new:Deep DagN.new:=⟨(fun o ho=>by cases ho),(fun o ho=>by cases ho)⟩
theorem Deep.push {s:DagN} (h:Deep s) {o:OpN} (hw:z1e s.names o = true) (hd:o.depth = z1h s.ops o) (W:List OpN):Deep ⟨s.ops ++ [o],W⟩:=by
 have hc:=wholeN_iff.1 hw
 refine ⟨fun x hx=>?_,fun x hx p hp=>?_⟩
 ·rcases List.mem_append.1 hx with hx | hx
  ·show x.depth = z1h (s.ops ++ [o]) x
   rw [zc7 (h.closed x hx)]
   exact h.deep x hx
  ·obtain rfl:=List.mem_singleton.1 hx
   show x.depth = z1h (s.ops ++ [x]) x
   rw [zc7 hc]
   exact hd
 ·show p ∈ (s.ops ++ [o]).map z02
  rw [List.map_append]
  refine List.mem_append_left _ ?_
  rcases List.mem_append.1 hx with hx | hx
  ·exact h.closed x hx p hp
  ·obtain rfl:=List.mem_singleton.1 hx
   exact hc p hp
theorem Deep.settle:∀ (f:Nat) (s:DagN),Deep s → Deep (z0q f s).2
 | 0,s,h=>h
 | f + 1, s, h => by
   unfold z0q
   split
   ·exact h
   ·rename_i i hb
    obtain ⟨o,ho,hw,_⟩:=z4l _ _ hb
    rw [ho]
    dsimp only
    split
    ·rename_i hd
     exact Deep.settle f _ (h.push hw hd _)
    ·exact Deep.settle f _ ⟨h.deep,h.closed⟩
theorem Deep.take {s:DagN} (h:Deep s) (o:OpN):Deep (z2i s o).2.2:=by
 unfold z2i
 split
 ·exact h
 ·split
  ·exact h
  ·split
   ·exact ⟨h.deep,h.closed⟩
   ·rename_i hw
    split
    ·exact h
    ·rename_i hd
     exact Deep.settle _ _ (h.push (by simpa using hw) (Classical.not_not.1 hd) _)
theorem zkb {bo:Option Addr} {r:List Int} {W:World} (h:IntsIn bo r W) (h0:0 < r.length):∃ b o,bo = some ⟨b,o,none⟩ ∧ b < W.heap.size ∧ ∀ i,i < r.length → W.cell? ⟨b,o + i,none⟩ = some (.int .i64 (r.getD i 0)):=by
 obtain ⟨a,ha,hc⟩:=h 0 h0
 obtain ⟨b,o,spot⟩:=a
 have hspot:spot = none:=by simpa [Addr.add] using World.cell?_spot hc
 subst hspot
 refine ⟨b,o,ha,?_,fun i hi=>?_⟩
 ·have:=z48 hc
  simpa [Addr.add] using this
 ·obtain ⟨a',ha',hc'⟩:=h i hi
  rw [ha] at ha'
  cases ha'
  have e:(⟨b,o,none⟩:Addr).add i = ⟨b,o + i,none⟩:=Addr.add_lit ..
  rw [← e]
  exact hc'
open Go.BigFrame
def Goods (s:DagN):Prop:=(∀ x ∈ s.ops,GoodO x) ∧ ∀ x ∈ s.wait,GoodO x
theorem Goods.new:Goods DagN.new:=⟨(fun o ho=>by cases ho),(fun o ho=>by cases ho)⟩
theorem Goods.settle:∀ (f:Nat) (s:DagN),Goods s → Goods (z0q f s).2
 | 0,_,h=>h
 | f + 1, s, h => by
   unfold z0q
   split
   ·exact h
   ·rename_i i hb
    split
    ·exact h
    ·rename_i o ho
     have hw:∀ x ∈ s.wait.eraseIdx i,GoodO x:=fun x hx=>h.2 x ((List.eraseIdx_sublist _ _).subset hx)
     split
     ·refine Goods.settle f _ ⟨fun x hx=>?_,hw⟩
      rcases List.mem_append.1 hx with hx | hx
      ·exact h.1 x hx
      ·obtain rfl:=List.mem_singleton.1 hx
       exact h.2 x (List.mem_of_getElem? ho)
     ·exact Goods.settle f _ ⟨h.1,hw⟩
theorem Goods.take {s:DagN} (h:Goods s) (o:OpN):Goods (z2i s o).2.2:=by
 unfold z2i
 split
 ·exact h
 ·rename_i hg
  have hg:=Classical.not_not.1 hg
  split
  ·exact h
  ·split
   ·refine ⟨h.1,fun x hx=>?_⟩
    rcases List.mem_append.1 hx with hx | hx
    ·exact h.2 x hx
    ·obtain rfl:=List.mem_singleton.1 hx
     exact hg
   ·split
    ·exact h
    ·refine Goods.settle _ _ ⟨fun x hx=>?_,h.2⟩
     rcases List.mem_append.1 hx with hx | hx
     ·exact h.1 x hx
     ·obtain rfl:=List.mem_singleton.1 hx
      exact hg
theorem Goods.kind {s:DagN} (h:Goods s) {x:OpN} (hx:x ∈ s.ops):1 ≤ x.d.kind ∧ x.d.kind ≤ 5:=by
 obtain ⟨_,_,_,_,hd,_⟩:=h.1 x hx
 exact ⟨hd.1,hd.2.1⟩
def z10 (L:List Int):Array Value:=#[.bool false,.bool (decide ((1:Int) ∈ L)),.bool (decide ((2:Int) ∈ L)),.bool (decide ((3:Int) ∈ L)),.bool (decide ((4:Int) ∈ L)),.bool (decide ((5:Int) ∈ L))]
theorem zjn:z10 [] = #[.bool false,.bool false,.bool false,.bool false,.bool false,.bool false]:=by simp [z10]
theorem z8o {L:List Int} {z:Int} (h:1 ≤ z ∧ z ≤ 5):(z10 L)[z.toNat]? = some (.bool (decide (z ∈ L))):=by
 have hz:z = 1 ∨ z = 2 ∨ z = 3 ∨ z = 4 ∨ z = 5:=by omega
 rcases hz with rfl | rfl | rfl | rfl | rfl <;> rfl
theorem zj3 {L:List Int} {z:Int} (h:¬ (1 ≤ z ∧ z ≤ 5)):z10 (L ++ [z]) = z10 L:=by
 have h1:(1:Int) ≠ z:=by omega
 have h2:(2:Int) ≠ z:=by omega
 have h3:(3:Int) ≠ z:=by omega
 have h4:(4:Int) ≠ z:=by omega
 have h5:(5:Int) ≠ z:=by omega
 simp only [z10,List.mem_append,List.mem_singleton,h1,h2,h3,h4,h5,or_false]
theorem zld {L:List Int} {z:Int} (h:1 ≤ z ∧ z ≤ 5):(z10 L).setIfInBounds z.toNat (.bool true) = z10 (L ++ [z]):=by
 have hz:z = 1 ∨ z = 2 ∨ z = 3 ∨ z = 4 ∨ z = 5:=by omega
 rcases hz with rfl | rfl | rfl | rfl | rfl <;> simp [z10]
theorem zjo {L:List Int} {k:Nat} (h:k < L.length):L.take (k + 1) = L.take k ++ [L.getD k 0]:=by
 rw [List.take_succ_eq_append_getElem h,List.getD_eq_getElem?_getD,List.getElem?_eq_getElem h]
 rfl
theorem IntsIn.below {ao:Option Addr} {L:List Int} {w w':World} (h:IntsIn ao L w) (b:Below w.heap.size w w'):IntsIn ao L w':=fun i hi=>by
 obtain ⟨a,ha,hc⟩:=h i hi
 have hlt:(a.add i).block < w.heap.size:=z48 hc
 exact ⟨a,ha,(b.cell hlt).trans hc⟩
end Go.Proofs.YtjomgkiphecljaaGreatDoor
namespace Go.Proofs.YtjomgkiphecljaaGreatDoor
open Go.RowKit
def z7l (a b:OpN):Bool:=decide (a.depth < b.depth) || (decide (a.depth = b.depth) && decide (z1o (z02 a) (z02 b) = -1))
theorem befN_iff {a b:OpN}:z7l a b = true ↔ a.depth < b.depth ∨ a.depth = b.depth ∧ z1o (z02 a) (z02 b) = -1:=by
 simp [z7l]
theorem zas {a b:OpN} (h:z7l a b = true) (k:z7l b a = true):False:=by
 rcases befN_iff.1 h with h1 | ⟨h1,h2⟩ <;> rcases befN_iff.1 k with k1 | ⟨k1,k2⟩
 ·omega
 ·omega
 ·omega
 ·exact z4h h2 k2
theorem z8k {a b c:OpN} (h:z7l a b = true) (k:z7l b c = true):z7l a c = true:=by
 rw [befN_iff] at h k ⊢
 rcases h with h1 | ⟨h1,h2⟩ <;> rcases k with k1 | ⟨k1,k2⟩
 ·exact .inl (by omega)
 ·exact .inl (by omega)
 ·exact .inl (by omega)
 ·exact .inr ⟨by omega,z2e h2 k2⟩
theorem zid (a:OpN):z7l a a = false:=Bool.eq_false_iff.2 fun h=>zas h h
theorem z8d {a b:OpN} (hl:(z02 a).length = (z02 b).length) (hne:z02 a ≠ z02 b):z7l a b = true ∨ z7l b a = true:=by
 rw [befN_iff,befN_iff]
 rcases Int.lt_trichotomy a.depth b.depth with h | h | h
 ·exact .inl (.inl h)
 ·rcases z33 hl hne with e | e
  ·exact .inl (.inr ⟨h,e⟩)
  ·exact .inr (.inr ⟨h.symm,e⟩)
 ·exact .inr (.inl h)
def Rows (L:List OpN):Prop:=L.Pairwise fun a b=>z7l a b = true
theorem rows_eq {L M:List OpN} (h:Rows L) (k:Rows M) (hp:L.Perm M):L = M :=
 List.Perm.eq_of_pairwise (fun _ _ _ _ h1 h2=>(zas h1 h2).elim) h k hp
def z32 (L:List OpN):Nat → Nat
 | 0=>0
 | i + 1=>if z7l (L.getD i z04) (L.getD (z32 L i) z04) then i else z32 L i
theorem z8t (L:List OpN):∀ i,z32 L i ≤ i
 | 0=>Nat.le_refl _
 | i + 1 => by
   rw [z32]
   split
   ·omega
   ·have:=z8t L i
    omega
theorem z8e (L:List OpN) {i:Nat} (h:0 < i):z32 L i < i:=by
 obtain ⟨k,rfl⟩:∃ k,i = k + 1:=⟨i - 1,by omega⟩
 rw [z32]
 split
 ·omega
 ·have:=z8t L k
  omega
theorem zb8 (L:List OpN) (hd:(L.map z02).Nodup) (hl:∀ o ∈ L,(z02 o).length = 32):∀ i,i ≤ L.length → ∀ j,j < i → j ≠ z32 L i → z7l (L.getD (z32 L i) z04) (L.getD j z04) = true
 | 0,_,_,h,_=>by omega
 | i + 1, hi, j, hj, hne => by
   have ih:=zb8 L hd hl i (by omega)
   have hat:∀ a,a < L.length → L.getD a z04 ∈ L:=fun a ha=>by
    rw [List.getD_eq_getElem?_getD,List.getElem?_eq_getElem ha]
    exact List.getElem_mem ha
   have htot:∀ a b,a < L.length → b < L.length → a ≠ b → z7l (L.getD a z04) (L.getD b z04) = true ∨ z7l (L.getD b z04) (L.getD a z04) = true:=fun a b ha hb hab=>by
    refine z8d (by rw [hl _ (hat a ha),hl _ (hat b hb)]) fun e=>hab ?_
    have h1:(L.map z02)[a]? = (L.map z02)[b]?:=by
     rw [List.getElem?_map,List.getElem?_map,List.getElem?_eq_getElem ha,List.getElem?_eq_getElem hb]
     rw [List.getD_eq_getElem?_getD,List.getD_eq_getElem?_getD,List.getElem?_eq_getElem ha,List.getElem?_eq_getElem hb] at e
     exact congrArg some e
    exact (List.getElem?_inj (by rw [List.length_map];exact ha) hd).1 h1
   have hle:=z8t L i
   rw [z32] at hne ⊢
   split at hne
   ·rename_i hb
    rw [if_pos hb]
    by_cases h0:i = 0
    ·omega
    ·have hlt:=z8e L (i:=i) (by omega)
     by_cases hjl:j = z32 L i
     ·rw [hjl];exact hb
     ·exact z8k hb (ih j (by omega) hjl)
   ·rename_i hb
    rw [if_neg hb]
    by_cases hji:j = i
    ·subst hji
     exact (htot _ _ (by omega) (by omega) (fun e=>hne e.symm)).resolve_right (by
      intro e
      exact hb e)
    ·exact ih j (by omega) hne
def rowF:Nat → List OpN → List OpN
 | 0,_=>[]
 | f + 1,L=>if L = [] then [] else L.getD (z32 L L.length) z04 :: rowF f (L.eraseIdx (z32 L L.length))
def z47 (L:List OpN):List OpN:=rowF L.length L
theorem zc9:∀ {L:List OpN} {k:Nat},k < L.length → (L.getD k z04 :: L.eraseIdx k).Perm L
 | [],_,h=>absurd h (Nat.not_lt_zero _)
 | _ :: _,0,_=>List.Perm.refl _
 | x :: L, k + 1, h => by
   rw [List.getD_cons_succ,List.eraseIdx_cons_succ]
   exact (List.Perm.swap _ _ _).trans ((zc9 (L:=L) (k:=k) (Nat.lt_of_succ_lt_succ h)).cons x)
theorem zap:∀ (f:Nat) (L:List OpN),L.length = f → (rowF f L).Perm L
 | 0, L, h => by
   rw [List.length_eq_zero_iff.1 h]
   exact List.Perm.refl _
 | f + 1, L, h => by
   have hne:L ≠ []:=fun e=>by rw [e] at h;cases h
   have hlt:=z8e L (i:=L.length) (by omega)
   rw [rowF,if_neg hne]
   exact ((zap f _ (by rw [List.length_eraseIdx_of_lt hlt];omega)).cons _).trans (zc9 hlt)
theorem z24 (L:List OpN):(z47 L).Perm L:=zap _ L rfl
theorem zf0:∀ (f:Nat) (L:List OpN),L.length = f → (L.map z02).Nodup → (∀ o ∈ L,(z02 o).length = 32) → Rows (rowF f L)
 | 0,_,_,_,_=>List.Pairwise.nil
 | f + 1, L, h, hd, hl => by
   have hne:L ≠ []:=fun e=>by rw [e] at h;cases h
   have hlt:=z8e L (i:=L.length) (by omega)
   have hlen:(L.eraseIdx (z32 L L.length)).length = f:=by rw [List.length_eraseIdx_of_lt hlt];omega
   rw [rowF,if_neg hne]
   refine List.pairwise_cons.2 ⟨fun o ho=>?_,zf0 f _ hlen ?_ fun o ho=>hl o (List.mem_of_mem_eraseIdx ho)⟩
   ·have ho':=((zap f _ hlen).mem_iff).1 ho
    obtain ⟨j,hj,hjl,rfl⟩:=(List.mem_eraseIdx_iff_getElem).1 ho'
    have:=zb8 L hd hl L.length (Nat.le_refl _) j hj hjl
    rw [List.getD_eq_getElem?_getD (i:=j),List.getElem?_eq_getElem hj] at this
    exact this
   ·exact ((List.eraseIdx_sublist L _).map z02).nodup hd
theorem z80 {L:List OpN} (hd:(L.map z02).Nodup) (hl:∀ o ∈ L,(z02 o).length = 32):Rows (z47 L):=zf0 _ L rfl hd hl
theorem zlp {L M:List OpN} (h:Rows L) (hp:L.Perm M) (hd:(M.map z02).Nodup) (hl:∀ o ∈ M,(z02 o).length = 32):L = z47 M :=
 rows_eq h (z80 hd hl) (hp.trans (z24 M).symm)
theorem row_same {L M:List OpN} (hp:L.Perm M) (hd:(M.map z02).Nodup) (hl:∀ o ∈ M,(z02 o).length = 32):z47 L = z47 M :=
 zlp (z80 ((hp.map z02).nodup_iff.2 hd) fun o ho=>hl o (hp.mem_iff.1 ho)) ((z24 L).trans hp) hd hl
def ofN (L:List OpN) (key:List UInt8) (ks:List Int):List OpN:=(z47 L).filter fun o=>decide (o.d.key = key ∧ o.d.kind ∈ ks)
theorem zeh:∀ a:List UInt8,Op.bytesLess a a = false
 | []=>rfl
 | x :: a => by
   rw [Op.bytesLess,zeh a]
   simp
theorem zby:∀ {a b:List UInt8},Op.bytesLess a b = true → Op.bytesLess b a = true → False
 | [],[],h,_=>by cases h
 | [],_ :: _,_,k=>by cases k
 | _ :: _,[],h,_=>by cases h
 | x :: a, y :: b, h, k => by
   rw [Op.bytesLess] at h k
   simp only [Bool.or_eq_true,decide_eq_true_eq,Bool.and_eq_true,beq_iff_eq] at h k
   rcases h with h | ⟨h1,h2⟩ <;> rcases k with k | ⟨k1,k2⟩
   ·exact absurd (UInt8.lt_trans h k) (UInt8.lt_irrefl _)
   ·subst k1;exact absurd h (UInt8.lt_irrefl _)
   ·subst h1;exact absurd k (UInt8.lt_irrefl _)
   ·exact zby h2 k2
theorem z7a:∀ {a b c:List UInt8},Op.bytesLess a b = true → Op.bytesLess b c = true → Op.bytesLess a c = true
 | [],[],_,h,_=>by cases h
 | _ :: _,[],_,h,_=>by cases h
 | [],_ :: _,[],_,k=>by cases k
 | _ :: _,_ :: _,[],_,k=>by cases k
 | [],_ :: _,_ :: _,_,_=>rfl
 | x :: a, y :: b, z :: c, h, k => by
   rw [Op.bytesLess] at h k ⊢
   simp only [Bool.or_eq_true,decide_eq_true_eq,Bool.and_eq_true,beq_iff_eq] at h k ⊢
   rcases h with h | ⟨rfl,h2⟩ <;> rcases k with k | ⟨rfl,k2⟩
   ·exact .inl (UInt8.lt_trans h k)
   ·exact .inl h
   ·exact .inl k
   ·exact .inr ⟨rfl,z7a h2 k2⟩
theorem z7h:∀ {a b:List UInt8},a ≠ b → Op.bytesLess a b = true ∨ Op.bytesLess b a = true
 | [],[],h=>absurd rfl h
 | [],_ :: _,_=>.inl rfl
 | _ :: _,[],_=>.inr rfl
 | x :: a, y :: b, h => by
   rw [Op.bytesLess,Op.bytesLess]
   simp only [Bool.or_eq_true,decide_eq_true_eq,Bool.and_eq_true,beq_iff_eq]
   by_cases hxy:x = y
   ·subst hxy
    rcases z7h (a:=a) (b:=b) (fun e=>h (by rw [e])) with e | e
    ·exact .inl (.inr ⟨rfl,e⟩)
    ·exact .inr (.inr ⟨rfl,e⟩)
   ·rcases UInt8.lt_or_lt_of_ne hxy with e | e
    ·exact .inl (.inl e)
    ·exact .inr (.inl e)
def Ups (L:List (List UInt8)):Prop:=L.Pairwise fun a b=>Op.bytesLess a b = true
theorem Ups.nodup {L:List (List UInt8)} (h:Ups L):L.Nodup:=h.imp fun {a b} hab e=>by
 rw [e,zeh] at hab
 cases hab
theorem ups_eq {L M:List (List UInt8)} (h:Ups L) (k:Ups M) (hm:∀ x,x ∈ L ↔ x ∈ M):L = M :=
 List.Perm.eq_of_pairwise (fun _ _ _ _ h1 h2=>(zby h1 h2).elim) h k ((List.perm_ext_iff_of_nodup h.nodup k.nodup).2 hm)
def zga (n:List UInt8):List (List UInt8) → List (List UInt8)
 | []=>[n]
 | x :: r=>if Op.bytesLess x n = true then x :: zga n r else if x = n then x :: r else n :: x :: r
def z1a (L:List (List UInt8)):List (List UInt8):=L.foldl (fun out n=>zga n out) []
theorem insT_mem {n x:List UInt8}:∀ {L:List (List UInt8)},x ∈ zga n L ↔ x = n ∨ x ∈ L
 | []=>by simp [zga]
 | y :: r => by
   rw [zga]
   split
   ·rw [List.mem_cons,insT_mem,List.mem_cons]
    exact ⟨fun h=>h.elim (fun e=>.inr (.inl e)) (fun e=>e.elim .inl (fun e=>.inr (.inr e))),fun h=>h.elim (fun e=>.inr (.inl e)) (fun e=>e.elim .inl (fun e=>.inr (.inr e)))⟩
   ·split
    ·rename_i _ e
     subst e
     exact ⟨.inr,fun h=>h.elim (fun e=>List.mem_cons.2 (.inl e)) id⟩
    ·rw [List.mem_cons]
theorem zib {n:List UInt8}:∀ {L:List (List UInt8)},Ups L → Ups (zga n L)
 | [],_=>List.pairwise_singleton _ _
 | x :: r, h => by
   obtain ⟨h1,h2⟩:=List.pairwise_cons.1 h
   rw [zga]
   split
   ·rename_i hx
    refine List.pairwise_cons.2 ⟨fun y hy=>?_,zib h2⟩
    rcases insT_mem.1 hy with rfl | hy
    ·exact hx
    ·exact h1 y hy
   ·rename_i hx
    split
    ·exact h
    ·rename_i hne
     have hnx:=(z7h hne).resolve_left hx
     refine List.pairwise_cons.2 ⟨fun y hy=>?_,h⟩
     rcases List.mem_cons.1 hy with rfl | hy
     ·exact hnx
     ·exact z7a hnx (h1 y hy)
theorem zdv:∀ {L out:List (List UInt8)},Ups out → Ups (L.foldl (fun out n=>zga n out) out)
 | [],_,h=>h
 | _ :: L,_,h=>zdv (L:=L) (zib h)
theorem zfl {x:List UInt8}:∀ {L out:List (List UInt8)},x ∈ L.foldl (fun out n=>zga n out) out ↔ x ∈ out ∨ x ∈ L
 | [],_=>by simp
 | n :: L, out => by
   rw [List.foldl_cons,zfl (L:=L),insT_mem,List.mem_cons]
   exact ⟨fun h=>h.elim (fun e=>e.elim (fun e=>.inr (.inl e)) .inl) (fun e=>.inr (.inr e)),fun h=>h.elim (fun e=>.inl (.inr e)) (fun e=>e.elim (fun e=>.inl (.inl e)) .inr)⟩
theorem z7g (L:List (List UInt8)):Ups (z1a L):=zdv List.Pairwise.nil
theorem risingT_mem {x:List UInt8} {L:List (List UInt8)}:x ∈ z1a L ↔ x ∈ L:=by
 rw [z1a,zfl]
 simp
theorem zec (L:List (List UInt8)) (n:List UInt8):z1a (L ++ [n]) = zga n (z1a L):=by
 rw [z1a,List.foldl_append]
 rfl
theorem zc6 {L M:List (List UInt8)} (h:Ups L) (hm:∀ x,x ∈ L ↔ x ∈ M):L = z1a M:=ups_eq h (z7g M) fun x=>(hm x).trans risingT_mem.symm
def wA:DraftN:=⟨1,[107],[120],zeroI⟩
def wD:DraftN:=⟨2,[107],[120],zeroI⟩
def aV:OpN:=⟨wA,0,1,[]⟩
def dV:OpN:=⟨wD,0,1,[]⟩
theorem vw_take1:z2i DagN.new aV = ([z02 aV],0,⟨[aV],[]⟩):=by kernel_rfl
theorem vw_take2:z2i ⟨[aV],[]⟩ dV = ([z02 dV],0,⟨[aV,dV],[]⟩):=by kernel_rfl
theorem vw_names:(z02 aV == z02 dV) = false:=by kernel_rfl
theorem aV_fit:aV.Fit:=⟨⟨zeroI_ok,by decide,by decide,by decide,by decide⟩,by decide,by decide,by decide,by decide,(fun p hp=>by cases hp),by decide⟩
theorem dV_fit:dV.Fit:=⟨⟨zeroI_ok,by decide,by decide,by decide,by decide⟩,by decide,by decide,by decide,by decide,(fun p hp=>by cases hp),by decide⟩
theorem vw_nodup:(DagN.mk [aV,dV] []).names.Nodup:=by
 show [z02 aV,z02 dV].Nodup
 have h:z02 aV ≠ z02 dV:=by
  have:=vw_names
  simpa using this
 simp [h]
open Go.BigFrame
def z9k (d:DraftN):Bool:=if d.kind = 1 ∨ d.kind = 2 ∨ d.kind = 3 then (d.ref == zeroI) else if d.kind = 4 then true else if d.kind = 5 then !(d.ref == zeroI) && d.val == [] else false
theorem zlj (d:DraftN):GoodD d ↔ 1 ≤ d.key.length ∧ d.key.length ≤ 16 ∧ d.val.length ≤ 64 ∧ z9k d = true:=by
 unfold GoodD z9k
 constructor
 ·rintro ⟨h1,h2,h3,h4,h5,h6,h7⟩
  refine ⟨h3,h4,h5,?_⟩
  split
  ·rw [h6 (by omega)];simp
  ·split
   ·rfl
   ·split
    ·obtain ⟨a,b⟩:=h7 (by omega)
     simp [a,b]
    ·omega
 ·rintro ⟨h3,h4,h5,h⟩
  split at h
  ·exact ⟨by omega,by omega,h3,h4,h5,fun _=>by simpa using h,fun h=>by omega⟩
  ·split at h
   ·exact ⟨by omega,by omega,h3,h4,h5,fun h=>by omega,fun h=>by omega⟩
   ·split at h
    ·simp at h
     exact ⟨by omega,by omega,h3,h4,h5,fun h=>by omega,fun _=>h⟩
    ·cases h
theorem zfx (d:DraftN) (hr:IdOk d.ref) (w:World) :
 Calls Tryz.prog 77 #[.agg (z0p d)] w fun e w'=>e = .returned (.bool (z9k d)) ∧ Below w.heap.size w w':=by
 have hx:Cells w.heap.size 47 (z0p d) (w.alloc (.cells (z0p d) 47)):=heap_alloc_new w _
 have hb:Below w.heap.size w (w.alloc (.cells (z0p d) 47)):=(Below.refl _ _).alloc (Nat.le_refl _) _
 obtain ⟨c0,c1,c2,c3⟩:=z4c hx
 have HC3:=Lib.hid c3
 have HB:=Lib.hid hb
 have heq:=fun w'=>z59 d.ref zeroI hr.1 zeroI_ok.1 hr.2 zeroI_ok.2 w'
 have HI:=Lib.hid (show (Tryz.prog.info? 45).map (·.size) = some d.ref.length by rw [hr.1];exact Tryz.sizeI)
 obtain ⟨k,hkd⟩:∃ k,d.kind = k:=⟨_,rfl⟩
 obtain ⟨z,hz2⟩:∃ z,(d.ref == zeroI) = z:=⟨_,rfl⟩
 have HG:=Shut.mk (show z9k d = if k = 1 ∨ k = 2 ∨ k = 3 then z else if k = 4 then true else if k = 5 then !z && d.val == [] else false by rw [z9k,hkd,hz2])
 rw [hkd] at c0
 rw [hz2,zeu] at heq
 clear hx hb c3 hz2
 by_cases h1:k = 1
 ·subst h1
  have hgd:z9k d = z:=HG.out
  rw [hgd]
  clear hgd
  go_enter Tryz.func77,Tryz.ntmps77
  cases z <;> go_wp2_with (refine z0a rfl 45 _ rfl w.heap.size 3 d.ref _ rfl HC3.out Tryz.underlying45 rfl HI.out ?_)
  all_goals
   go_ret
   exact ⟨rfl,HB.out⟩
 by_cases h2:k = 2
 ·subst h2
  have hgd:z9k d = z:=HG.out
  rw [hgd]
  clear hgd
  go_enter Tryz.func77,Tryz.ntmps77
  cases z <;> go_wp2_with (refine z0a rfl 45 _ rfl w.heap.size 3 d.ref _ rfl HC3.out Tryz.underlying45 rfl HI.out ?_)
  all_goals
   go_ret
   exact ⟨rfl,HB.out⟩
 by_cases h3:k = 3
 ·subst h3
  have hgd:z9k d = z:=HG.out
  rw [hgd]
  clear hgd
  go_enter Tryz.func77,Tryz.ntmps77
  cases z <;> go_wp2_with (refine z0a rfl 45 _ rfl w.heap.size 3 d.ref _ rfl HC3.out Tryz.underlying45 rfl HI.out ?_)
  all_goals
   go_ret
   exact ⟨rfl,HB.out⟩
 by_cases h4:k = 4
 ·subst h4
  have hgd:z9k d = true:=HG.out
  rw [hgd]
  clear hgd
  go_enter Tryz.func77,Tryz.ntmps77
  cases z <;> go_wp2_with (refine z0a rfl 45 _ rfl w.heap.size 3 d.ref _ rfl HC3.out Tryz.underlying45 rfl HI.out ?_)
  all_goals
   go_ret
   exact ⟨rfl,HB.out⟩
 by_cases h5:k = 5
 ·subst h5
  have hgd:z9k d = (!z && d.val == []):=HG.out
  rw [hgd]
  clear hgd
  go_enter Tryz.func77,Tryz.ntmps77
  cases z <;> go_wp2_with (refine z0a rfl 45 _ rfl w.heap.size 3 d.ref _ rfl HC3.out Tryz.underlying45 rfl HI.out ?_)
  all_goals
   go_ret
   exact ⟨rfl,HB.out⟩
 have t1:(k == 1) = false:=by simp [h1]
 have t2:(k == 2) = false:=by simp [h2]
 have t3:(k == 3) = false:=by simp [h3]
 have t4:(k == 4) = false:=by simp [h4]
 have t5:(k == 5) = false:=by simp [h5]
 have hgd:z9k d = false:=by rw [HG.out,if_neg (by omega),if_neg h4,if_neg h5]
 rw [hgd]
 clear hgd
 go_enter Tryz.func77,Tryz.ntmps77
 cases z <;> go_wp2_with (refine z0a rfl 45 _ rfl w.heap.size 3 d.ref _ rfl HC3.out Tryz.underlying45 rfl HI.out ?_)
 all_goals
  go_ret
  exact ⟨rfl,HB.out⟩
theorem zct (d:DraftN) (hr:IdOk d.ref) (hk:d.key.length ≤ 140737488351232) (hv:d.val.length ≤ 140737488351232) (w:World) :
 Calls Tryz.prog 54 #[.agg (z0p d)] w fun e w'=>e = .returned (.bool (decide (GoodD d))) ∧ Below w.heap.size w w':=by
 have hx:Cells w.heap.size 47 (z0p d) (w.alloc (.cells (z0p d) 47)):=heap_alloc_new w _
 have hb:Below w.heap.size w (w.alloc (.cells (z0p d) 47)):=(Below.refl _ _).alloc (Nat.le_refl _) _
 obtain ⟨c0,c1,c2,c3⟩:=z4c hx
 have HX:=Lib.hid hx
 have HB:=Lib.hid hb
 have HSD:=Lib.hid (show (Tryz.prog.info? 47).map (·.size) = some (z0p d).size by rw [zb7 hr.1];exact Tryz.sizeD)
 have HF:=Lib.hid (fun w'=>zfx d hr w')
 obtain ⟨f,hf⟩:∃ f,z9k d = f:=⟨_,rfl⟩
 obtain ⟨kl,hkl⟩:∃ n,d.key.length = n:=⟨_,rfl⟩
 obtain ⟨vl,hvl⟩:∃ n,d.val.length = n:=⟨_,rfl⟩
 have hke:(d.key == []) = decide (kl = 0):=by rw [za0,← hkl];simp [List.length_eq_zero_iff]
 have HG:=Shut.mk (show decide (GoodD d) = decide (1 ≤ kl ∧ kl ≤ 16 ∧ vl ≤ 64 ∧ f = true) from decide_eq_decide.2 (by rw [zlj,hkl,hvl,hf]))
 rw [hf] at HF
 clear hx hb c0 c3 hf
 by_cases h1:kl = 0
 ·have e1:(d.key == []) = true:=by rw [hke];exact decide_eq_true h1
  have HR:=Shut.mk (HG.out.trans (decide_eq_false (by omega)))
  clear hke
  go_enter Tryz.func54,Tryz.ntmps54
  go_wp2_with fail
  go_ret
  exact ⟨by rw [HR.out];rfl,HB.out⟩
 have e1:(d.key == []) = false:=by rw [hke];exact decide_eq_false h1
 clear hke
 by_cases h2:16 < kl
 ·have HR:=Shut.mk (HG.out.trans (decide_eq_false (by omega)))
  have h2b:decide ((kl:Int) ≤ 16) = false:=decide_eq_false (by omega)
  go_enter Tryz.func54,Tryz.ntmps54
  go_wp2_with fail
  go_ret
  exact ⟨by rw [HR.out];rfl,HB.out⟩
 have h2b:decide ((kl:Int) ≤ 16) = true:=decide_eq_true (by omega)
 by_cases h3:64 < vl
 ·have HR:=Shut.mk (HG.out.trans (decide_eq_false (by omega)))
  have h3b:decide ((vl:Int) ≤ 64) = false:=decide_eq_false (by omega)
  go_enter Tryz.func54,Tryz.ntmps54
  go_wp2_with fail
  go_ret
  exact ⟨by rw [HR.out];rfl,HB.out⟩
 have h3b:decide ((vl:Int) ≤ 64) = true:=decide_eq_true (by omega)
 have HR:=Shut.mk (show decide (GoodD d) = f by rw [HG.out];cases f with | true=>exact decide_eq_true ⟨by omega,by omega,by omega,rfl⟩ | false=>exact decide_eq_false (fun h=>by cases h.2.2.2))
 go_enter Tryz.func54,Tryz.ntmps54
 go_wp2_with (refine z0m (by rfl) 47 _ rfl w.heap.size (z0p d) 47 _ rfl HX.out Tryz.underlying47 rfl HSD.out ?_)
 refine (HF.out _).mono ?_
 rintro e w1 ⟨rfl,hb⟩
 have HB1:=Lib.hid (HB.out.trans (hb.mono HB.out.size))
 clear hb
 go_wp2_with fail
 go_ret
 exact ⟨by rw [HR.out];rfl,HB1.out⟩
end Go.Proofs.YtjomgkiphecljaaGreatDoor
namespace Go.Proofs
open Go.Shelf Go.RowKit
def Tryz.lays125_ren:Go.Shelf.Ren:=⟨fun | 125=>73 | 128=>103 | 129=>104 | n=>n,fun | 46=>75 | 3=>3 | 51=>151 | 53=>121 | 4=>4 | 5=>5 | 9=>9 | n=>n,fun | n=>n⟩
theorem Tryz.lays125:Go.Proofs.Lays.n125 Tryz.prog Tryz.lays125_ren:={
 mixed:=by kernel_rfl
 f125:=Tryz.func73.trans (congrArg some (by kernel_rfl))
 f128:=Tryz.func103.trans (congrArg some (by kernel_rfl))
 f129:=Tryz.func104.trans (congrArg some (by kernel_rfl))
 t3:=Tryz.underlying3
 a3:=Tryz.isAgg3
 z3:=Tryz.sizeOf3
 v3:=Tryz.zeroValue3
 t4:=Tryz.underlying4
 a4:=Tryz.isAgg4
 z4:=Tryz.sizeOf4
 v4:=Tryz.zeroValue4
 t5:=Tryz.underlying5
 a5:=Tryz.isAgg5
 z5:=Tryz.sizeOf5
 v5:=Tryz.zeroValue5
 t9:=Tryz.underlying9
 a9:=Tryz.isAgg9
 z9:=Tryz.sizeOf9
 v9:=Tryz.zeroValue9
 t46:=Tryz.underlying75
 a46:=Tryz.isAgg75
 z46:=Tryz.sizeOf75
 v46:=Tryz.zeroValue75
 t51:=Tryz.underlying151
 a51:=Tryz.isAgg151
 z51:=Tryz.sizeOf151
 v51:=Tryz.zeroValue151
 t53:=Tryz.underlying121
 a53:=Tryz.isAgg121
 z53:=Tryz.sizeOf121
 v53:=Tryz.zeroValue121 }
theorem Tryz.bits_Len (x:Int) (w:World) (h0:0 ≤ x) (h1:x ≤ 18446744073709551615) :
 Calls Tryz.prog 73 #[.int .u64 x] w fun e w'=>e = .returned (.int .i64 (Lib.bitLen x.toNat)) ∧ w' = w:=Any.bits_Len Tryz.lays125 x w h0 h1
end Go.Proofs
namespace Go.Proofs.YtjomgkiphecljaaGreatDoor
open Go.RowKit
theorem Tryz.infoByte:(Tryz.prog.info? 5).map (fun i=>(i.zero,i.size,i.bytes)) = some (some (.int .u8 0),1,1):=by kernel_rfl
def z93 (n L k j:Nat):Value:=if j = 0 then .int .u8 L else if L - k < j then .int .u8 ((n:Int) / 2 ^ (8 * (L - j)) % 256) else .int .u8 0
theorem zmd {n L:Nat} (hL:(dig n).length = L) (h8:L ≤ 8) (j:Nat) (hj:j < (z2n n).length):z93 n L L j = .int .u8 ((z2n n)[j].toNat:Int):=by
 unfold z93
 cases j with
 | zero =>
   rw [if_pos rfl]
   have:(z2n n)[0].toNat = L:=by simp only [z2n,List.getElem_cons_zero,hL];simp;omega
   rw [this]
 | succ j =>
   have hj2:j < (dig n).length:=by rw [z5k] at hj;omega
   rw [if_neg (by omega),if_pos (by omega)]
   have e:(z2n n)[j + 1].toNat = n / 256 ^ (L - (j + 1)) % 256:=by
    simp only [z2n,List.getElem_cons_succ]
    rw [dig_get n j hj2,hL,show L - 1 - j = L - (j + 1) by omega]
   rw [e,show (256:Nat) = 2 ^ 8 by decide,← Nat.pow_mul]
   simp
theorem zgs {n L k:Nat} (hk:k < L) (i:Nat) :
 (fun j=>if j = L - k then Value.int .u8 ((n:Int) / 2 ^ (8 * k) % 256) else z93 n L k j) i = z93 n L (k + 1) i:=by
 unfold z93
 by_cases e:i = L - k
 ·subst e
  rw [if_neg (by omega),if_pos (by omega),show L - (L - k) = k by omega]
  simp
 ·simp only [e,if_false]
  by_cases e0:i = 0
  ·simp [e0]
  ·simp only [e0,if_false]
   by_cases e1:L - k < i
   ·rw [if_pos e1,if_pos (by omega)]
   ·rw [if_neg e1,if_neg (by omega)]
theorem zgm (n:Nat) (w:World) (hn:n < 9223372036854775808) :
 Calls Tryz.prog 81 #[.int .i64 n] w fun e w'=>e = .returned (.string ⟨(z2n n).toArray⟩) ∧ Below w.heap.size w w':=by
 have b1:=zl7 hn
 have b2:((Lib.bitLen n:Int) + 7) / 8 = ((dig n).length:Int):=by have:=zje hn;omega
 have h8:=z6j hn
 have hD:=Lib.hid (rfl:dig n = dig n)
 generalize hL:(dig n).length = L at b2 h8
 have HL:=Lib.hid hL
 clear hL hD
 have hmk:=run_make_row' (P:=Tryz.prog) 136 5 (.int .u8 0) 1 Tryz.underlying136 Tryz.infoByte rfl .i64 .i64 (1 + L) (by omega) (by omega)
 simp only [Int.natCast_add,Int.natCast_one] at hmk
 have hrow:=World.rowIs_made w (.int .u8 0) (1 + L) 5
 have hrow2:=hrow.set 0 (.int .u8 (L:Int))
 have c0:=hrow.cell (i:=0) (by omega)
 have f0:=hrow.frozen 0
 have HR:=Lib.hid hrow2
 clear hrow hrow2
 go_enter Tryz.func81,Tryz.ntmps81
 go_wp2_with (go_at_call 73;refine (Tryz.bits_Len _ _ (by omega) (by omega)).mono ?_;rintro e w' ⟨rfl,rfl⟩)
 rw [b2]
 have B2:=Lib.hid b2
 clear b2 c0 f0 HR hmk
 go_loopw [21] (fun i wr=>∃ k:Nat,k ≤ L ∧ i = .int .i64 k ∧ wr.rowIs w'.heap.size 5 (1 + L) (z93 n L k) ∧ Below w'.heap.size w' wr) (fun i _=>L - (intOf i).toNat)
 case atStart =>
  refine ⟨0,Nat.zero_le _,rfl,?_,(Below.refl _ _).alloc (Nat.le_refl _) _⟩
  have h:=World.rowIs_alloc w' ((madeCells #[Value.int IntKind.u8 0] (1 + L)).setIfInBounds 0 (Value.int IntKind.u8 ↑L)) 5 (z93 n L 0) (by
   intro i hi
   simp only [Array.size_setIfInBounds,size_madeCells] at hi
   rw [Array.getElem?_setIfInBounds]
   unfold z93
   by_cases e:i = 0
   ·subst e;simp [size_madeCells]
   ·rw [if_neg (by omega),if_neg e,if_neg (by omega)]
    simp [madeCells,hi,Nat.mod_one])
  simpa [size_madeCells] using h
 case round =>
  obtain ⟨k,hk,rfl,hrow,hbel⟩:=hrel
  by_cases hlt:k < L
  ·have c0:=hrow.cell (i:=L - k) (by omega)
   have f0:=hrow.frozen (L - k)
   have HR:=Lib.hid hrow
   have HB:=Lib.hid hbel
   clear hrow hbel
   go_wp2
   refine ⟨⟨k + 1,by omega,by go_num,?_,HB.out.setCell (by simp) _⟩,by simp [intOf];omega⟩
   exact (HR.out.set (L - k) _).congr (fun i _=>zgs hlt i)
  ·have hkL:k = L:=by omega
   subst hkL
   have hconv:(convert 136 9 (.slice (some ⟨w'.heap.size,0,none⟩) (1 + k) (1 + k))).run Tryz.prog wr = .ok (.string ⟨(z2n n).toArray⟩) wr:=by
    have hlen:(z2n n).length = 1 + k:=by rw [z5k,HL.out]
    rw [← hlen]
    refine run_convert_bytes_back wr _ _ 5 ⟨w'.heap.size,0,none⟩ _ (z2n n) Tryz.underlying136 Tryz.underlying5 Tryz.underlying9 ?_
    intro j hj
    have:=hrow.cell (i:=j) (by omega)
    rw [zmd HL.out h8 j hj] at this
    rw [show Addr.add ⟨w'.heap.size,0,none⟩ j = ⟨w'.heap.size,j,none⟩ by simp only [Addr.add];split <;> simp_all]
    exact this
   have HB:=Lib.hid hbel
   clear hrow hbel
   go_wp2
   go_ret
   exact ⟨rfl,HB.out⟩
theorem num_neg (n:Int) (w:World) (hn:n < 0) (hlo:-9223372036854775808 ≤ n) :
 Calls Tryz.prog 81 #[.int .i64 n] w fun e w'=>e = .returned (.string ⟨#[0]⟩) ∧ Below w.heap.size w w':=by
 have b0:Lib.bitLen 0 = 0:=by decide
 have hmax:max n 0 = 0:=by omega
 have hmk:∀ w:World,(Instr.makeSlice 136 (.int .i64 1) (.int .i64 1)).run Tryz.prog w = .ok (.slice (some ⟨w.heap.size,0,none⟩) 1 1) (w.alloc (.cells #[.int .u8 0] 5)):=fun w=>by kernel_rfl
 have hconv:(convert 136 9 (.slice (some ⟨w.heap.size,0,none⟩) 1 1)).run Tryz.prog (w.alloc (.cells #[.int .u8 0] 5)) = .ok (.string ⟨#[0]⟩) (w.alloc (.cells #[.int .u8 0] 5)):=by
  refine run_convert_bytes_back _ _ _ 5 ⟨w.heap.size,0,none⟩ _ [0] Tryz.underlying136 Tryz.underlying5 Tryz.underlying9 ?_
  intro j hj
  have:j = 0:=by simpa using hj
  subst this
  simp [Addr.add]
 go_enter Tryz.func81,Tryz.ntmps81
 go_wp2_with (go_at_call 73;refine (Tryz.bits_Len _ _ (by omega) (by omega)).mono ?_;rintro e w' ⟨rfl,rfl⟩)
 refine wp_loop_rounds 1 ?_
 rw [rounds_succ]
 go_wp2
 go_ret
 exact ⟨rfl,(Below.refl _ _).alloc (Nat.le_refl _) _⟩
theorem zgj (n:Int) (w:World) (hlo:-9223372036854775808 ≤ n) (hhi:n ≤ 9223372036854775807) :
 Calls Tryz.prog 81 #[.int .i64 n] w fun e w'=>e = .returned (.string ⟨(z2n n.toNat).toArray⟩) ∧ Below w.heap.size w w':=by
 by_cases h:n < 0
 ·have e:z2n n.toNat = [0]:=by rw [show n.toNat = 0 by omega];simp [z2n,z6r]
  rw [e]
  exact num_neg n w h hlo
 ·obtain ⟨m,rfl⟩:∃ m:Nat,n = m:=⟨n.toNat,by omega⟩
  exact zgm m w (by omega)
end Go.Proofs.YtjomgkiphecljaaGreatDoor
namespace Go.Proofs
open Go.Shelf Go.RowKit
def Tryz.lays169_ren:Go.Shelf.Ren:=⟨fun | 169=>112 | n=>n,fun | 70=>162 | 9=>9 | 0=>0 | 72=>164 | 37=>136 | 127=>199 | 3=>3 | 5=>5 | n=>n,fun | n=>n⟩
theorem Tryz.lays169:Go.Proofs.Lays.n169 Tryz.prog Tryz.lays169_ren:={
 mixed:=by kernel_rfl
 f169:=Tryz.func112.trans (congrArg some (by kernel_rfl))
 t0:=Tryz.underlying0
 a0:=Tryz.isAgg0
 z0:=Tryz.sizeOf0
 v0:=Tryz.zeroValue0
 t3:=Tryz.underlying3
 a3:=Tryz.isAgg3
 z3:=Tryz.sizeOf3
 v3:=Tryz.zeroValue3
 t9:=Tryz.underlying9
 a9:=Tryz.isAgg9
 z9:=Tryz.sizeOf9
 v9:=Tryz.zeroValue9
 t37:=Tryz.underlying136
 a37:=Tryz.isAgg136
 z37:=Tryz.sizeOf136
 v37:=Tryz.zeroValue136
 t70:=Tryz.underlying162
 a70:=Tryz.isAgg162
 z70:=Tryz.sizeOf162
 v70:=Tryz.zeroValue162
 t72:=Tryz.underlying164
 a72:=Tryz.isAgg164
 z72:=Tryz.sizeOf164
 v72:=Tryz.zeroValue164
 t127:=Tryz.underlying199
 a127:=Tryz.isAgg199
 z127:=Tryz.sizeOf199
 v127:=Tryz.zeroValue199 }
theorem Tryz.Builder_Extra_169:Builder.Extra Tryz.prog Tryz.lays169_ren:={
 sizeBuilder:=by kernel_rfl
 liesBuilder:=by kernel_rfl
 t5:=Tryz.underlying5
 a5:=Tryz.isAgg5
 z5:=Tryz.sizeOf5
 v5:=Tryz.zeroValue5
 infoByte:=by kernel_rfl
 cellsByte:=by kernel_rfl
 sizeByte:=by kernel_rfl
 neB5:=by decide }
theorem Tryz.Builder_String_any (B b:Nat) (l:List UInt8) (w:World) (h:Lib.IsBuilder 164 5 B b (Lib.byteCells l) w) (hBw:B ≤ w.heap.size) :
 Calls Tryz.prog 112 #[.pointer (some ⟨b,0,none⟩)] w fun e w'=>e = .returned (.string ⟨l.toArray⟩) ∧ Below B w w':=Any.Builder_String_any Tryz.lays169 Tryz.Builder_Extra_169 B b l w h hBw
end Go.Proofs
namespace Go.Proofs.YtjomgkiphecljaaGreatDoor
open Go.RowKit
theorem z7y {T e:TypeId} {B b:Nat} {bs:List Value} {w w':World} (h:Lib.IsBuilder T e B b bs w) (k:Below w.heap.size w w'):Lib.IsBuilder T e B b bs w':=by
 have one:∀ p,Lib.BuilderAt T e B b p bs w → Lib.BuilderAt T e B b p bs w':=by
  intro p hp
  have hlt:=hp.lt
  obtain ⟨hB,v,hb,hown,hne⟩:=hp
  refine ⟨hB,v,(k.block b hlt).trans hb,?_,hne⟩
  exact hown.kept (row:=none) ⟨k.os,k.tape,k.output,k.size,fun i hi _=>k.block i hi⟩ (by
   rcases h:v.ownBlock with _ | g
   ·exact Or.inl rfl
   ·exact Or.inr (by simp))
 rcases h with h | h
 ·exact Or.inl (one _ h)
 ·exact Or.inr (one _ h)
theorem zbf (b:Nat) (w:World) (h0:w.cell? ⟨b,0,none⟩ = some (.pointer (some ⟨b,0,none⟩))) :
 Calls Tryz.prog 138 #[.pointer (some ⟨b,0,none⟩)] w fun e w'=>e = .returned (.tuple #[]) ∧ w' = w:=by
 obtain ⟨j,hj,_⟩:=Option.map_eq_some_iff.1 Tryz.Builder_Extra_169.sizeBuilder
 go_enter Tryz.func138,Tryz.ntmps138
 go_wp2
 rw [Lib.run_neq_ptr_same w _ Tryz.underlying162 hj]
 go_wp2
 go_end0
 exact ⟨rfl,rfl⟩
theorem zb6 (b:Nat) (w:World) (h0:w.cell? ⟨b,0,none⟩ = some (.pointer none)) (hsh:w.shape? b = some (164,2)) (hfz:w.frozen? ⟨b,0,none⟩ = false) :
 Calls Tryz.prog 138 #[.pointer (some ⟨b,0,none⟩)] w fun e w'=>e = .returned (.tuple #[]) ∧ w' = w.setCell ⟨b,0,none⟩ (.pointer (some ⟨b,0,none⟩)):=by
 obtain ⟨j,hj,hjs⟩:=Option.map_eq_some_iff.1 Tryz.Builder_Extra_169.sizeBuilder
 go_enter Tryz.func138,Tryz.ntmps138
 go_wp2
 rw [Lib.run_to_unsafe w ⟨b,0,none⟩ Tryz.underlying162 Tryz.underlying207 hj (by rw [hjs];decide) hsh (Nat.zero_lt_succ 1)]
 simp only [Result.andThen]
 rw [Oper.upon_value]
 go_wp2
 rw [run_callFunc_extern Tryz.func147 (by kernel_rfl) (by kernel_rfl) (by kernel_rfl) (e:=Extern.AbiNoEscape.same) (by kernel_rfl)]
 rw [Lib.run_noEscape]
 simp only [Result.andThen]
 rw [Oper.upon_value]
 go_wp2
 rw [Lib.run_from_unsafe w ⟨b,0,none⟩ Tryz.underlying207 Tryz.underlying162 hj hsh Tryz.Builder_Extra_169.liesBuilder]
 simp only [Result.andThen]
 rw [Oper.upon_value]
 go_wp2
 go_end0
 exact ⟨rfl,rfl⟩
theorem zdj (B b:Nat) (bs:List Value) (w:World) (h:Lib.IsBuilder 164 5 B b bs w) :
 Calls Tryz.prog 138 #[.pointer (some ⟨b,0,none⟩)] w fun e w'=>e = .returned (.tuple #[]) ∧ (Lib.BuilderAt 164 5 B b (.pointer (some ⟨b,0,none⟩)) bs w' ∧ Below B w w'):=by
 rcases h with h | h
 ·refine (zb6 b w h.cell0 h.shape h.frozen0).mono ?_
  rintro e w' ⟨rfl,rfl⟩
  exact ⟨rfl,h.used _,(Below.refl B w).setCell (p:=⟨b,0,none⟩) h.1 _⟩
 ·refine (zbf b w h.cell0).mono ?_
  rintro e w' ⟨rfl,rfl⟩
  exact ⟨rfl,h,Below.refl B _⟩
theorem z4j (B b:Nat) (bs:List Value) (s:ByteArray) (w:World) (h:Lib.IsBuilder 164 5 B b bs w) (hlen:bs.length + s.size ≤ 140737488355328) (hBw:B ≤ w.heap.size) :
 Calls Tryz.prog 111 #[.pointer (some ⟨b,0,none⟩),.string s] w fun e w'=>e = .returned (.tuple #[.int .i64 s.size,.nilIface]) ∧ (Lib.IsBuilder 164 5 B b (bs ++ Lib.strCells s) w' ∧ Below B w w'):=by
 obtain ⟨i0,hi,hz0,hz1,hz2⟩:=info_parts Tryz.Builder_Extra_169.infoByte
 have hi:Tryz.prog.info? 5 = some i0:=hi
 go_enter Tryz.func111,Tryz.ntmps111
 go_wp2_with (go_at_call 138;refine (zdj B b bs _ h).mono ?_)
 rintro e w1 ⟨rfl,h1,hb1⟩
 obtain ⟨hB,v,hbk,hown,hne⟩:=h1
 have c0:w1.cell? ⟨b,0,none⟩ = some (.pointer (some ⟨b,0,none⟩)):=by rw [Lib.cell_of_heap hbk];rfl
 have c1:w1.cell? ⟨b,1,none⟩ = some v:=by rw [Lib.cell_of_heap hbk];rfl
 go_wp2_with (at_builtin;refine Lib.wpList_append_own_string _ rfl _ _ 136 9 rfl B 5 i0 Tryz.underlying136 Tryz.underlying9 hi hz0 hz1 hz2 _ _ _ rfl hown s rfl ?c3 ?c4 ?c5 ?_)
 case c3=>unfold maxLen;omega
 case c4=>omega
 case c5=>have:=hb1.size;omega
 intro v' w2 hown' hgrow _
 have hlt:b < w1.heap.size:=lt_of_block hbk
 have hb2:w2.heap[b]? = some (.cells #[.pointer (some ⟨b,0,none⟩),v] 164 (0,0)):=by
  rw [hgrow.block b hlt (fun e=>hne e.symm)]
  exact hbk
 have d0:w2.cell? ⟨b,0,none⟩ = some (.pointer (some ⟨b,0,none⟩)):=by rw [Lib.cell_of_heap hb2];rfl
 have d1:w2.cell? ⟨b,1,none⟩ = some v:=by rw [Lib.cell_of_heap hb2];rfl
 have f1:w2.frozen? ⟨b,1,none⟩ = false:=Lib.frozen_of_heap hb2 1
 obtain ⟨ao,n',cap,rfl⟩:∃ ao n' cap,v' = .slice ao n' cap:=by
  rcases hown'.2 with ⟨hv,_⟩ | ⟨g,cap,cur,hv,_⟩
  ·exact ⟨_,_,_,hv⟩
  ·exact ⟨_,_,_,hv⟩
 go_wp2
 go_ret2
 refine ⟨rfl,Or.inr ?_,?_⟩
 ·exact Lib.BuilderAt.put (T:=164) (e:=5) hB hb2 (bs':=bs ++ Lib.strCells s) (by simpa [Lib.strCells_length] using hown') (by decide)
 ·exact (hb1.grown hgrow (by have:=hb1.size;omega) (fun k hk=>(hown.lt k hk).1)).setCell (p:=⟨b,1,none⟩) hB _
theorem z57 (l:List UInt8):Lib.strCells ⟨l.toArray⟩ = Lib.byteCells l:=by simp [Lib.strCells,Lib.byteCells]
theorem zd5 (ao:Option Addr) (cap:Nat) (l:List (List UInt8)) (w:World) (h:StrsAt ao l w) (hl:l.length ≤ 9223372036854775807) (hlen:(z2q l).length ≤ 140737488355328) :
 Calls Tryz.prog 80 #[.slice ao l.length cap] w fun e w'=>e = .returned (.string ⟨(z2q l).toArray⟩) ∧ Below w.heap.size w w':=by
 have hfresh:=Lib.fresh_isBuilder 164 5 w
 have HF:=Lib.hid hfresh
 have HS:=Lib.hid h
 clear hfresh h
 go_enter Tryz.func80,Tryz.ntmps80
 go_wp2_with fail
 refine (zgm l.length _ (by omega)).mono ?_
 rintro e w1 ⟨rfl,hb1⟩
 have hA:=(Below.refl w.heap.size w).alloc (Nat.le_refl _) (.cells #[Value.pointer none,Value.slice none 0 0] 164)
 have HI1:=Lib.hid (z7y HF.out hb1)
 have HB1:=Lib.hid (hA.trans (hb1.mono (by simp)))
 have hsz1:=hb1.size
 simp at hsz1
 have hlb:=z3j l
 have HL:=Lib.hid hlb
 clear hb1 HF hA
 go_wp2_with fail
 have hnum:=HL.out
 refine (z4j w.heap.size w.heap.size [] _ _ HI1.out (by show _ + (List.toArray _).size ≤ _;simp;omega) (by omega)).mono ?_
 rintro e w2 ⟨rfl,hI2,hb2⟩
 rw [z57,List.nil_append] at hI2
 have HI2:=Lib.hid hI2
 have HB2:=Lib.hid (HB1.out.trans hb2)
 clear hI2 hb2 HI1 HB1 hsz1 hnum
 go_wp2_with fail
 go_loopw [12] (fun i wr=>∃ q:Nat,q ≤ l.length ∧ i = .int .i64 q ∧ Lib.IsBuilder 164 5 w.heap.size w.heap.size (Lib.byteCells (z2n l.length ++ z1p (l.take q))) wr ∧ Below w.heap.size w wr) (fun i _=>l.length - (intOf i).toNat)
 case atStart=>exact ⟨0,Nat.zero_le _,rfl,by simpa [z1p] using HI2.out,HB2.out⟩
 case round =>
  obtain ⟨q,hq,rfl,hI,hbel⟩:=hrel
  by_cases hlt:q < l.length
  ·have hparts:=z97 l q hlt
   have htl:=z4z l[q]
   have hpos:=numB_pos l[q].length
   have hlist:=HL.out
   have HP:=Lib.hid hparts
   have HT:=Lib.hid htl
   have hcell:∃ b o,ao = some ⟨b,o,none⟩ ∧ wr.cell? ⟨b,o + q,none⟩ = some (.string ⟨l[q].toArray⟩):=by
    rcases HS.out.below hbel with h | ⟨b,o,ha,hb,hc⟩
    ·subst h;simp at hlt
    ·exact ⟨b,o,ha,hc q hlt⟩
   obtain ⟨cb,co,hao,hc⟩:=hcell
   have hlq:l[q].length ≤ 140737488355328:=by omega
   have hsum:(z2n l.length).length + (z1p (l.take q)).length + (z2n l[q].length).length + l[q].length ≤ 140737488355328:=by omega
   have HI:=Lib.hid hI
   have HB:=Lib.hid hbel
   subst hao
   clear hI hbel hparts htl hlist
   go_wp2_with fail
   refine (zgm l[q].length _ (by omega)).mono ?_
   rintro e w3 ⟨rfl,hb3⟩
   have HI3:=Lib.hid (z7y HI.out hb3)
   have hsz3:=HB.out.size
   have HB3:=Lib.hid (HB.out.trans (hb3.mono hsz3))
   clear hb3 HI HB hc
   go_wp2_with fail
   refine (z4j w.heap.size w.heap.size _ _ _ HI3.out (by show _ + (List.toArray _).size ≤ _;rw [Lib.byteCells_length];simp;omega) HB3.out.size).mono ?_
   rintro e w4 ⟨rfl,hI4,hb4⟩
   rw [z57,← Lib.byteCells_append] at hI4
   have HI4:=Lib.hid hI4
   have HB4:=Lib.hid (HB3.out.trans hb4)
   clear hb4 hI4 HI3 HB3 hsz3
   go_wp2_with fail
   refine (z4j w.heap.size w.heap.size _ _ _ HI4.out (by show _ + (List.toArray _).size ≤ _;rw [Lib.byteCells_length];simp;omega) HB4.out.size).mono ?_
   rintro e w5 ⟨rfl,hI5,hb5⟩
   rw [z57,← Lib.byteCells_append] at hI5
   have HI5:=Lib.hid (show Lib.IsBuilder 164 5 w.heap.size w.heap.size (Lib.byteCells (z2n l.length ++ z1p (l.take (q + 1)))) w5 by rw [z5w l q hlt];simpa [List.append_assoc] using hI5)
   have HB5:=Lib.hid (HB4.out.trans hb5)
   clear hb5 hI5 HI4 HB4
   go_wp2_with fail
   refine ⟨⟨q + 1,by omega,by go_num,HI5.out,HB5.out⟩,by simp [intOf];omega⟩
  ·obtain rfl:q = l.length:=by omega
   rw [List.take_length] at hI
   have HI:=Lib.hid hI
   have HB:=Lib.hid hbel
   clear hI hbel
   go_wp2_with fail
   refine (Tryz.Builder_String_any w.heap.size w.heap.size _ _ HI.out HB.out.size).mono ?_
   rintro e w3 ⟨rfl,hb3⟩
   have HB3:=Lib.hid (HB.out.trans hb3)
   clear hb3 HI HB
   go_wp2_with fail
   go_ret
   exact ⟨rfl,HB3.out⟩
open Go.BigFrame
theorem z9u (w:World) (p q r s:List UInt8):StrsAt (some ⟨w.heap.size,0,none⟩) [p,q,r,s] (w.alloc (.cells #[.string ⟨p.toArray⟩,.string ⟨q.toArray⟩,.string ⟨r.toArray⟩,.string ⟨s.toArray⟩] 9)):=by
 refine z1r (B:=w.heap.size) (c:=4) ?_
 exact World.ownsRow_lit (base:=w.heap.size) (e:=9) (size:=1) w #[.string ⟨p.toArray⟩,.string ⟨q.toArray⟩,.string ⟨r.toArray⟩,.string ⟨s.toArray⟩] 4 (Nat.le_refl _) (by unfold maxLen;omega) rfl
theorem zia {P:Program} {src dst e:TypeId} (hs:P.underlying src = some (.slice e)) (he:P.underlying e = some (.int .u8)) (hd:P.underlying dst = some .string) {g o c n:Nat} {l:List Nat} {w:World} (hn:n = l.length) (hl:∀ x ∈ l,x < 256) (h:w.rangeAt g o (z05 .u8 l)) :
 (convert src dst (.slice (some ⟨g,o,none⟩) n c)).run P w = .ok (.string ⟨(txt l).toArray⟩) w:=by
 subst hn
 have h2:=run_convert_bytes_back (P:=P) w src dst e ⟨g,o,none⟩ c (txt l) hs he hd (fun j hj=>by
  rw [z2m] at hj
  rw [Addr.add_mid,h j _ (by rw [z05,List.getElem?_map,List.getElem?_eq_getElem hj];rfl)]
  have h1:=hl _ (List.getElem_mem hj)
  simp only [txt,List.getElem_map]
  rw [show (UInt8.ofNat l[j]).toNat = l[j] by simp;omega])
 rw [z2m] at h2
 exact h2
theorem zbu {d:DraftN} (h:d.Fit):(z3s d).length ≤ 1200:=zfn (by have:=h.high;omega) h.key h.val h.ref.1
theorem zd9 (d:DraftN) (hd:d.Fit) (w:World) :
 Calls Tryz.prog 83 #[.agg (z0p d)] w fun e w'=>e = .returned (.string ⟨(z3s d).toArray⟩) ∧ Below w.heap.size w w':=by
 have hx:Cells w.heap.size 47 (z0p d) (w.alloc (.cells (z0p d) 47)):=heap_alloc_new w _
 have hb:Below w.heap.size w (w.alloc (.cells (z0p d) 47)):=(Below.refl _ _).alloc (Nat.le_refl _) _
 have HX:=Lib.hid hx
 have HB:=Lib.hid hb
 have HD:=Lib.hid hd
 have HLEN:=Lib.hid (zbu hd)
 clear hx hb hd
 go_enter Tryz.func83,Tryz.ntmps83
 go_upto_region 1 with (fail)
 obtain ⟨w1,hw1⟩:∃ x,x = w.alloc (.cells (z0p d) 47):=⟨_,rfl⟩
 rw [← hw1] at HX HB ⊢
 clear hw1
 obtain ⟨c0,c1,c2,c3⟩:=z4c HX.out
 have hg:=HX.out.lt
 obtain ⟨k,hk⟩:∃ k,d.kind = k:=⟨_,rfl⟩
 have HK:=Shut.mk hk
 rw [hk] at c0
 have HC0:=Lib.hid (fun (w':World) (q:Below w1.heap.size w1 w')=>(q.cell (p:=⟨w.heap.size,0,none⟩) hg).trans c0)
 have HC1:=Lib.hid (fun (w':World) (q:Below w1.heap.size w1 w')=>(q.cell (p:=⟨w.heap.size,1,none⟩) hg).trans c1)
 have HC2:=Lib.hid (fun (w':World) (q:Below w1.heap.size w1 w')=>(q.cell (p:=⟨w.heap.size,2,none⟩) hg).trans c2)
 have HC3:=Lib.hid (fun (w':World) (q:Below w1.heap.size w1 w')=>zia (P:=Tryz.prog) (src:=136) (dst:=9) (c:=32) Tryz.underlying136 Tryz.underlying5 Tryz.underlying9 HD.out.ref.1.symm HD.out.ref.2 (z0c c3 q hg))
 have HN:=Lib.hid (fun w'=>zgj k w' (by have:=HD.out.low;rw [hk] at this;exact this) (by have:=HD.out.high;rw [hk] at this;exact this))
 clear c0 c1 c2 c3 hg hk
 refine z09 (fun w'=>Below w1.heap.size w1 w') 10 (by kernel_rfl) (by kernel_rfl) (Below.refl _ _).drew ?_
 simp only [zC,zD,zE,zF]
 repeat (first
  | (go_big_quiet_want;refine z03 3 _ rfl ⟨w.heap.size,0,none⟩ _ rfl HC0.out Tryz.isAgg3 ?_;go_big_quiet_on;simp only [Act.put,zS,zA,zB])
  | (go_big_quiet_want;refine z03 9 _ rfl ⟨w.heap.size,1,none⟩ _ rfl HC1.out Tryz.isAgg9 ?_;go_big_quiet_on;simp only [Act.put,zS,zA,zB])
  | (go_big_quiet_want;refine z03 9 _ rfl ⟨w.heap.size,2,none⟩ _ rfl HC2.out Tryz.isAgg9 ?_;go_big_quiet_on;simp only [Act.put,zS,zA,zB])
  | (go_big_quiet_want;refine zbx 136 9 _ rfl (.slice (some ⟨w.heap.size,3,none⟩) 32 32) _ rfl HC3.out ?_;go_big_quiet_on;simp only [Act.put,zS,zA,zB])
  | go_big_quiet_step ((intro hs';first
   | (go_at_call 81;exact (HN.out _).mono fun e w' h=>⟨h.1,hs'.trans (h.2.mono hs'.size)⟩)
   | rfl)))
 refine wpQuiet_nil ?_
 intro w2 hs2
 have HB2:=Lib.hid (HB.out.trans (hs2.mono HB.out.size))
 clear hs2 HX HB HC0 HC1 HC2 HC3 HN
 go_wp2_with fail
 refine (zd5 (some ⟨w2.heap.size,0,none⟩) 4 [z2n k.toNat,d.key,d.val,txt d.ref] _ (z9u w2 _ _ _ _) (by simp) (by have:=HLEN.out;rw [z3s,HK.out] at this;omega)).mono ?_
 rintro e w3 ⟨rfl,hb⟩
 have HB3:=Lib.hid (HB2.out.trans (((Below.refl _ w2).alloc (Nat.le_refl _) _).trans (hb.mono (by simp)) |>.mono HB2.out.size))
 clear hb HB2
 go_wp2_with fail
 go_ret
 exact ⟨by rw [z3s,HK.out];rfl,HB3.out⟩
end Go.Proofs.YtjomgkiphecljaaGreatDoor
