/-
  Joined: Makes (layer 10) that came in: how operations are to be made.; Each depth is right, whatever was taken; an index out of any number.; All that is there, or waits, is good; sets of kinds.; Contracts of the library laid at this program, in plain words.; Maps keyed by names of thirty-two bytes: a map's block as the list of its entries, in the order in which they came.; A range over a map kept by names: the names come, each once, in whatever order.; Names appended: a slice that need not be anybody's row, onto a row of one's own; one name onto a full slice.
-/
import Derived.ChangeSlices
import Derived.DeepKeys5
import Derived.Laws.AppendOwnNone
import Derived.Lib.Hide
import Derived.Maps.Keyed
import Derived.Maps.Range
import Derived.RangeFuncSeq
import Derived.Shelf.SlSortCmp.NoneTotal
import Derived.Shelf.SlSortCmp.WholeK
import Derived.Test.YtnbldbbbibpobaaGreatDoorProg
import Derived.Test.YtnbldbbbibpobaaGreatDoorJ03
import Derived.Test.YtnbldbbbibpobaaGreatDoorJ04
set_option maxRecDepth 100000
namespace Go.Proofs.YtnbldbbbibpobaaGreatDoor
open Go.RowKit Go.ChangeShapes Go.WideShapes Go.Deep
structure MakeN where
 kind:Int
 author:Int
 d:DraftN
 pos:Int
 other:Int
 deep:Int
 op:OpN
def z5w (m:MakeN) (pa:Option Addr) (pc:Nat):List Value:=[.int .i64 m.kind,.int .i64 m.author] ++ z1h m.d ++ [.int .i64 m.pos,.int .i64 m.other,.int .i64 m.deep] ++ opL m.op pa pc
def I64 (i:Int):Prop:=-9223372036854775808 ≤ i ∧ i ≤ 9223372036854775807
structure MakeN.In (m:MakeN):Prop where
 kind:I64 m.kind
 author:I64 m.author
 d:m.d.In
 pos:I64 m.pos
 other:I64 m.other
 deep:I64 m.deep
 op:m.op.In
theorem zf7 {m:MakeN} (h:m.In) (pa:Option Addr) (pc:Nat):(z5w m pa pc).length = 78:=by
 simp [z5w,z0u h.d.ref.1,z16 h.op.d.ref.1]
def MksAt (ao:Option Addr) (L:List MakeN) (W:World):Prop :=
 L = [] ∨ ∃ b o,ao = some ⟨b,o,none⟩ ∧ b < W.heap.size ∧ ∀ (i:Nat) (y:MakeN),L[i]? = some y → ∃ pa pc,W.rangeAt b (o + i * 78) (z5w y pa pc) ∧ IAt pa y.op.preds W
theorem zhe (cs:List Value) (h:cs.length = 78):cs = (cs.drop 0).take 1 ++ ((cs.drop 1).take 1 ++ ((cs.drop 2).take 35 ++ ((cs.drop 37).take 1 ++ ((cs.drop 38).take 1 ++ ((cs.drop 39).take 1 ++ (cs.drop 40).take 38))))):=by
 have e (a b:Nat):(cs.drop a).take b ++ cs.drop (a + b) = cs.drop a:=by
  rw [← List.drop_drop,List.take_append_drop]
 have hlast:(cs.drop 40).take 38 = cs.drop 40:=List.take_of_length_le (by rw [List.length_drop];omega)
 rw [hlast,e 39 1,e 38 1,e 37 1,e 2 35,e 1 1,e 0 1]
 rfl
theorem zb5 {H:Type} {enc:TypeId × Value → H} {W:World} {n:Nat} {cs:List Value} {x:DataW H × List MemPlace}
 (h:DataW.trod enc Tryz.prog W 0 (fun _=>true) true n 74 cs = some x) (hwt:∀ n ∈ DataW.weights Tryz.prog 74 x.1,n ≤ 140737488351232) :
 ∃ (m:MakeN) (pa:Option Addr) (pc:Nat),cs = z5w m pa pc ∧ m.In ∧ IAt pa m.op.preds W:=by
 obtain ⟨xs,m,_,hx,hcl,hxl,hf⟩:=DataW.trod_struct Tryz.underlying74 h
 have hci:Tryz.prog.cellsOf 3 = 1:=by kernel_rfl
 have hcd:Tryz.prog.cellsOf 27 = 35:=by kernel_rfl
 have hco:Tryz.prog.cellsOf 38 = 38:=by kernel_rfl
 have hcm:Tryz.prog.cellsOf 74 = 78:=by kernel_rfl
 rw [hcm] at hcl
 match xs,hxl with
 | [x0,x1,x2,x3,x4,x5,x6],_ =>
 have t0:DataW.trod enc Tryz.prog W 0 (fun _=>true) true m 3 ((cs.drop 0).take (Tryz.prog.cellsOf 3)) = some x0:=hf 0 _ rfl
 have t1:DataW.trod enc Tryz.prog W 0 (fun _=>true) true m 3 ((cs.drop 1).take (Tryz.prog.cellsOf 3)) = some x1:=hf 1 _ rfl
 have t2:DataW.trod enc Tryz.prog W 0 (fun _=>true) true m 27 ((cs.drop 2).take (Tryz.prog.cellsOf 27)) = some x2:=hf 2 _ rfl
 have t3:DataW.trod enc Tryz.prog W 0 (fun _=>true) true m 3 ((cs.drop 37).take (Tryz.prog.cellsOf 3)) = some x3:=hf 3 _ rfl
 have t4:DataW.trod enc Tryz.prog W 0 (fun _=>true) true m 3 ((cs.drop 38).take (Tryz.prog.cellsOf 3)) = some x4:=hf 4 _ rfl
 have t5:DataW.trod enc Tryz.prog W 0 (fun _=>true) true m 3 ((cs.drop 39).take (Tryz.prog.cellsOf 3)) = some x5:=hf 5 _ rfl
 have t6:DataW.trod enc Tryz.prog W 0 (fun _=>true) true m 38 ((cs.drop 40).take (Tryz.prog.cellsOf 38)) = some x6:=hf 6 _ rfl
 rw [hci] at t0 t1 t3 t4 t5
 rw [hcd] at t2
 rw [hco] at t6
 have hx1:x.1 = .agg [x0.1,x1.1,x2.1,x3.1,x4.1,x5.1,x6.1]:=congrArg Prod.fst hx
 rw [hx1] at hwt
 simp only [DataW.weights,Tryz.underlying74] at hwt
 obtain ⟨k,e0,_,w0⟩:=DataW.trod_int Tryz.underlying3 t0
 obtain ⟨a,e1,_,w1⟩:=DataW.trod_int Tryz.underlying3 t1
 obtain ⟨d,e2,hd⟩:=z6f t2 (fun q hq=>hwt q (by
  simp only [List.map_cons,List.map_nil,DataW.weightsEach,List.mem_append]
  exact .inr (.inr (.inl hq))))
 obtain ⟨p,e3,_,w3⟩:=DataW.trod_int Tryz.underlying3 t3
 obtain ⟨r,e4,_,w4⟩:=DataW.trod_int Tryz.underlying3 t4
 obtain ⟨s,e5,_,w5⟩:=DataW.trod_int Tryz.underlying3 t5
 obtain ⟨y,pa,pc,e6,hy,hia⟩:=ze2 t6 (fun q hq=>hwt q (by
  simp only [List.map_cons,List.map_nil,DataW.weightsEach,List.mem_append]
  exact .inr (.inr (.inr (.inr (.inr (.inr (.inl hq))))))))
 simp only [Lit.wf,Bool.and_eq_true,decide_eq_true_eq] at w0 w1 w3 w4 w5
 refine ⟨⟨k,a,d,p,r,s,y⟩,pa,pc,?_,⟨⟨w0.1,w0.2⟩,⟨w1.1,w1.2⟩,hd,⟨w3.1,w3.2⟩,⟨w4.1,w4.2⟩,⟨w5.1,w5.2⟩,hy⟩,hia⟩
 rw [zhe cs hcl,e0,e1,e2,e3,e4,e5,e6]
 simp [z5w]
theorem z7k {H:Type} {enc:TypeId × Value → H} {W:World} {v:Value} {d:DataW H} {p:List MemPlace} {base:Nat} (hv:Value.okWide Tryz.prog W .any base 22 v)
 (h:DataW.Trod enc Tryz.prog W 0 (fun _=>true) true 22 v d p) (hwt:∀ n ∈ DataW.weights Tryz.prog 22 d,n ≤ 140737488351232) :
 ∃ (ao:Option Addr) (L:List MakeN) (cap:Nat),v = .slice ao L.length cap ∧ MksAt ao L W ∧ (∀ x ∈ L,x.In) ∧ L.length ≤ 140737488351232:=by
 obtain ⟨a0,len0,cap0,rfl⟩:=okWide_slice Tryz.underlying22 hv
 obtain ⟨fuel,hf⟩:=h
 have hc4:Tryz.prog.cellsOf 74 = 78:=by kernel_rfl
 rcases Deep.open_slice Tryz.underlying22 hf with ⟨hcs,_⟩ | ⟨x,len,cap,m,n,D,Pl,hcs,_,hl,hm,hmm,hx,hi⟩
 ·simp [Value.cells] at hcs
  obtain ⟨rfl,rfl,rfl⟩:=hcs
  exact ⟨none,[],0,rfl,.inl rfl,(fun x hx=>by cases hx),by decide⟩
 ·simp [Value.cells] at hcs
  obtain ⟨rfl,rfl,rfl⟩:=hcs
  simp only [if_true] at hmm
  subst hmm
  rw [hc4] at hi
  have hd:d = .slice ((List.range len0).map D) ((List.range (m - len0)).map fun j=>D (len0 + j)):=congrArg Prod.fst hx
  subst hd
  simp only [DataW.weights,Tryz.underlying22] at hwt
  have hwn:=hwt _ (List.mem_cons_self ..)
  have hb48:Tryz.prog.bytesOf 74 = 224:=by kernel_rfl
  rw [hb48] at hwn
  simp only [List.length_map,List.length_range] at hwn
  have hE:∀ i,i < len0 → ∃ (y:MakeN) (pa:Option Addr) (pc:Nat),(y.In ∧ IAt pa y.op.preds W) ∧ ∀ j u,(z5w y pa pc)[j]? = some u → W.cell? ((x.add (i * 78)).add j) = some u:=by
   intro i him
   obtain ⟨cs',hc,htr⟩:=hi i (by omega)
   obtain ⟨_,hcl,hat⟩:=World.cells?_some hc
   obtain ⟨y,pa,pc,rfl,hok,hia⟩:=zb5 htr (fun q hq=>hwt q (List.mem_cons_of_mem _ (List.mem_append_left _ (z6d _ (D i) (List.mem_map.2 ⟨i,List.mem_range.2 him,rfl⟩) q hq))))
   refine ⟨y,pa,pc,⟨hok,hia⟩,fun j u hj=>?_⟩
   have hj4:j < 78:=by
    have:=(List.getElem?_eq_some_iff.1 hj).1
    rw [zf7 hok] at this
    exact this
   rw [hat j hj4]
   exact hj
  let F:Nat → MakeN:=fun i=>if h:i < len0 then (hE i h).choose else ⟨0,0,zea,0,0,0,z05⟩
  have hF:∀ i,i < len0 → ∃ (pa:Option Addr) (pc:Nat),((F i).In ∧ IAt pa (F i).op.preds W) ∧ ∀ j u,(z5w (F i) pa pc)[j]? = some u → W.cell? ((x.add (i * 78)).add j) = some u:=by
   intro i him
   simp only [F,dif_pos him]
   exact (hE i him).choose_spec
  have hlen:((List.range len0).map F).length = len0:=by simp
  refine ⟨some x,(List.range len0).map F,m,by rw [hlen],?_,?_,by rw [hlen];omega⟩
  ·by_cases h0:len0 = 0
   ·subst h0;exact .inl rfl
   ·obtain ⟨pa0,pc0,h00,h01⟩:=hF 0 (by omega)
    have h1:=h01 0 _ rfl
    obtain ⟨b,o,spot⟩:=x
    have hspot:spot = none:=by simpa [Addr.add] using World.cell?_spot h1
    subst hspot
    refine .inr ⟨b,o,rfl,?_,fun i y hy=>?_⟩
    ·have:=z3r h1
     simpa [Addr.add] using this
    ·have hi3:i < len0:=by have:=(List.getElem?_eq_some_iff.1 hy).1;simpa using this
     simp only [List.getElem?_map,List.getElem?_range hi3,Option.map_some,Option.some.injEq] at hy
     subst hy
     obtain ⟨pa,pc,g1,g2⟩:=hF i hi3
     refine ⟨pa,pc,fun j u hj=>?_,g1.2⟩
     have:=g2 j u hj
     rw [Addr.add_mid,Addr.add_mid] at this
     exact this
  ·intro z hz
   obtain ⟨i,hi2,rfl⟩:=List.mem_map.1 hz
   obtain ⟨_,_,g1,_⟩:=hF i (List.mem_range.1 hi2)
   exact g1.1
def IntsIn (ao:Option Addr) (L:List Int) (W:World):Prop:=∀ i,i < L.length → ∃ a,ao = some a ∧ W.cell? (a.add i) = some (.int .i64 (L.getD i 0))
end Go.Proofs.YtnbldbbbibpobaaGreatDoor
namespace Go.Proofs.YtnbldbbbibpobaaGreatDoor
open Go.RowKit
structure Deep (s:DagN):Prop where
 deep:∀ o ∈ s.ops,o.depth = z1p s.ops o
 closed:∀ o ∈ s.ops,∀ p ∈ o.preds,p ∈ s.names
theorem zhh {ops:List OpN} {o:OpN} {p:List Nat} (hp:p ∈ ops.map z00):z0z (ops ++ [o]) p = z0z ops p:=by
 have hl:(ops.map z00).idxOf p < ops.length:=by
  have:=List.idxOf_lt_length_iff.2 hp
  rwa [List.length_map] at this
 unfold z0z
 rw [List.map_append,List.idxOf_append,if_pos hp,List.getElem?_append_left hl]
theorem zeg {ops:List OpN} {o:OpN}:∀ (L:List (List Nat)) (m:Int),(∀ p ∈ L,p ∈ ops.map z00) → L.foldl (fun n p=>if n < z0z (ops ++ [o]) p then z0z (ops ++ [o]) p else n) m = L.foldl (fun n p=>if n < z0z ops p then z0z ops p else n) m
 | [],_,_=>rfl
 | p :: L, m, h => by
   rw [List.foldl_cons,List.foldl_cons,zhh (h p (List.mem_cons_self ..))]
   exact zeg L _ (fun q hq=>h q (List.mem_cons_of_mem _ hq))
theorem zcq {ops:List OpN} {o x:OpN} (h:∀ p ∈ x.preds,p ∈ ops.map z00):z1p (ops ++ [o]) x = z1p ops x:=by
 unfold z1p z6i
 rw [zeg _ _ h]
theorem Deep.new:Deep DagN.new:=⟨(fun o ho=>by cases ho),(fun o ho=>by cases ho)⟩
theorem Deep.push {s:DagN} (h:Deep s) {o:OpN} (hw:z1l s.names o = true) (hd:o.depth = z1p s.ops o) (W:List OpN):Deep ⟨s.ops ++ [o],W⟩:=by
 have hc:=wholeN_iff.1 hw
 refine ⟨fun x hx=>?_,fun x hx p hp=>?_⟩
 ·rcases List.mem_append.1 hx with hx | hx
  ·show x.depth = z1p (s.ops ++ [o]) x
   rw [zcq (h.closed x hx)]
   exact h.deep x hx
  ·obtain rfl:=List.mem_singleton.1 hx
   show x.depth = z1p (s.ops ++ [x]) x
   rw [zcq hc]
   exact hd
 ·show p ∈ (s.ops ++ [o]).map z00
  rw [List.map_append]
  refine List.mem_append_left _ ?_
  rcases List.mem_append.1 hx with hx | hx
  ·exact h.closed x hx p hp
  ·obtain rfl:=List.mem_singleton.1 hx
   exact hc p hp
theorem Deep.settle:∀ (f:Nat) (s:DagN),Deep s → Deep (z0s f s).2
 | 0,s,h=>h
 | f + 1, s, h => by
   unfold z0s
   split
   ·exact h
   ·rename_i i hb
    obtain ⟨o,ho,hw,_⟩:=z56 _ _ hb
    rw [ho]
    dsimp only
    split
    ·rename_i hd
     exact Deep.settle f _ (h.push hw hd _)
    ·exact Deep.settle f _ ⟨h.deep,h.closed⟩
theorem Deep.take {s:DagN} (h:Deep s) (o:OpN):Deep (z2u s o).2.2:=by
 unfold z2u
 split
 ·exact h
 ·split
  ·exact h
  ·split
   ·exact ⟨h.deep,h.closed⟩
   ·rename_i hw
    split
    ·exact h
    ·rename_i hd
     exact Deep.settle _ _ (h.push (by simpa using hw) (Classical.not_not.1 hd) _)
theorem zlg {bo:Option Addr} {r:List Int} {W:World} (h:IntsIn bo r W) (h0:0 < r.length):∃ b o,bo = some ⟨b,o,none⟩ ∧ b < W.heap.size ∧ ∀ i,i < r.length → W.cell? ⟨b,o + i,none⟩ = some (.int .i64 (r.getD i 0)):=by
 obtain ⟨a,ha,hc⟩:=h 0 h0
 obtain ⟨b,o,spot⟩:=a
 have hspot:spot = none:=by simpa [Addr.add] using World.cell?_spot hc
 subst hspot
 refine ⟨b,o,ha,?_,fun i hi=>?_⟩
 ·have:=z3r hc
  simpa [Addr.add] using this
 ·obtain ⟨a',ha',hc'⟩:=h i hi
  rw [ha] at ha'
  cases ha'
  have e:(⟨b,o,none⟩:Addr).add i = ⟨b,o + i,none⟩:=Addr.add_lit ..
  rw [← e]
  exact hc'
open Go.BigFrame
def Goods (s:DagN):Prop:=(∀ x ∈ s.ops,GoodO x) ∧ ∀ x ∈ s.wait,GoodO x
theorem Goods.new:Goods DagN.new:=⟨(fun o ho=>by cases ho),(fun o ho=>by cases ho)⟩
theorem Goods.settle:∀ (f:Nat) (s:DagN),Goods s → Goods (z0s f s).2
 | 0,_,h=>h
 | f + 1, s, h => by
   unfold z0s
   split
   ·exact h
   ·rename_i i hb
    split
    ·exact h
    ·rename_i o ho
     have hw:∀ x ∈ s.wait.eraseIdx i,GoodO x:=fun x hx=>h.2 x ((List.eraseIdx_sublist _ _).subset hx)
     split
     ·refine Goods.settle f _ ⟨fun x hx=>?_,hw⟩
      rcases List.mem_append.1 hx with hx | hx
      ·exact h.1 x hx
      ·obtain rfl:=List.mem_singleton.1 hx
       exact h.2 x (List.mem_of_getElem? ho)
     ·exact Goods.settle f _ ⟨h.1,hw⟩
theorem Goods.take {s:DagN} (h:Goods s) (o:OpN):Goods (z2u s o).2.2:=by
 unfold z2u
 split
 ·exact h
 ·rename_i hg
  have hg:=Classical.not_not.1 hg
  split
  ·exact h
  ·split
   ·refine ⟨h.1,fun x hx=>?_⟩
    rcases List.mem_append.1 hx with hx | hx
    ·exact h.2 x hx
    ·obtain rfl:=List.mem_singleton.1 hx
     exact hg
   ·split
    ·exact h
    ·refine Goods.settle _ _ ⟨fun x hx=>?_,h.2⟩
     rcases List.mem_append.1 hx with hx | hx
     ·exact h.1 x hx
     ·obtain rfl:=List.mem_singleton.1 hx
      exact hg
theorem Goods.kind {s:DagN} (h:Goods s) {x:OpN} (hx:x ∈ s.ops):1 ≤ x.d.kind ∧ x.d.kind ≤ 5:=by
 obtain ⟨_,_,_,_,hd,_⟩:=h.1 x hx
 exact ⟨hd.1,hd.2.1⟩
def z18 (L:List Int):Array Value:=#[.bool false,.bool (decide ((1:Int) ∈ L)),.bool (decide ((2:Int) ∈ L)),.bool (decide ((3:Int) ∈ L)),.bool (decide ((4:Int) ∈ L)),.bool (decide ((5:Int) ∈ L))]
theorem zix:z18 [] = #[.bool false,.bool false,.bool false,.bool false,.bool false,.bool false]:=by simp [z18]
theorem z7l {L:List Int} {z:Int} (h:1 ≤ z ∧ z ≤ 5):(z18 L)[z.toNat]? = some (.bool (decide (z ∈ L))):=by
 have hz:z = 1 ∨ z = 2 ∨ z = 3 ∨ z = 4 ∨ z = 5:=by omega
 rcases hz with rfl | rfl | rfl | rfl | rfl <;> rfl
theorem zj6 {L:List Int} {z:Int} (h:¬ (1 ≤ z ∧ z ≤ 5)):z18 (L ++ [z]) = z18 L:=by
 have h1:(1:Int) ≠ z:=by omega
 have h2:(2:Int) ≠ z:=by omega
 have h3:(3:Int) ≠ z:=by omega
 have h4:(4:Int) ≠ z:=by omega
 have h5:(5:Int) ≠ z:=by omega
 simp only [z18,List.mem_append,List.mem_singleton,h1,h2,h3,h4,h5,or_false]
theorem zlq {L:List Int} {z:Int} (h:1 ≤ z ∧ z ≤ 5):(z18 L).setIfInBounds z.toNat (.bool true) = z18 (L ++ [z]):=by
 have hz:z = 1 ∨ z = 2 ∨ z = 3 ∨ z = 4 ∨ z = 5:=by omega
 rcases hz with rfl | rfl | rfl | rfl | rfl <;> simp [z18]
theorem zjd {L:List Int} {k:Nat} (h:k < L.length):L.take (k + 1) = L.take k ++ [L.getD k 0]:=by
 rw [List.take_succ_eq_append_getElem h,List.getD_eq_getElem?_getD,List.getElem?_eq_getElem h]
 rfl
theorem IntsIn.below {ao:Option Addr} {L:List Int} {w w':World} (h:IntsIn ao L w) (b:Below w.heap.size w w'):IntsIn ao L w':=fun i hi=>by
 obtain ⟨a,ha,hc⟩:=h i hi
 have hlt:(a.add i).block < w.heap.size:=z3r hc
 exact ⟨a,ha,(b.cell hlt).trans hc⟩
end Go.Proofs.YtnbldbbbibpobaaGreatDoor
namespace Go.Proofs.YtnbldbbbibpobaaGreatDoor
open Go.Shelf
def Tryz.sortPl_ren:Go.Shelf.Ren:=⟨fun | 6=>91 | 15=>94 | 14=>111 | 28=>123 | 29=>124 | 20=>135 | 21=>136 | 22=>137 | 23=>138 | 24=>139 | 25=>140 | 26=>141 | 27=>142 | 46=>161 | 47=>145 | 48=>146 | 49=>162 | 50=>163 | 57=>170 | n=>n,fun | 22=>96 | 24=>99 | 25=>125 | 3=>3 | 39=>39 | 0=>0 | 53=>143 | 55=>142 | 4=>4 | 46=>151 | 45=>150 | 50=>156 | 5=>5 | 9=>9 | 66=>187 | 70=>191 | 76=>206 | 77=>207 | n=>n,fun | n=>n⟩
theorem Tryz.sortPl:Go.Proofs.SlLaysF0.n6 Tryz.prog Tryz.sortPl_ren:={
 mixed:=by kernel_rfl
 f6:=⟨Tryz.f91.name,by decide,Tryz.func91.trans (congrArg some (by kernel_rfl))⟩
 f14:=⟨Tryz.f111.name,by decide,Tryz.func111.trans (congrArg some (by kernel_rfl))⟩
 f15:=Tryz.func94.trans (congrArg some (by kernel_rfl))
 f20:=⟨Tryz.f135.name,by decide,Tryz.func135.trans (congrArg some (by kernel_rfl))⟩
 f21:=⟨Tryz.f136.name,by decide,Tryz.func136.trans (congrArg some (by kernel_rfl))⟩
 f22:=⟨Tryz.f137.name,by decide,Tryz.func137.trans (congrArg some (by kernel_rfl))⟩
 f23:=⟨Tryz.f138.name,by decide,Tryz.func138.trans (congrArg some (by kernel_rfl))⟩
 f24:=⟨Tryz.f139.name,by decide,Tryz.func139.trans (congrArg some (by kernel_rfl))⟩
 f25:=⟨Tryz.f140.name,by decide,Tryz.func140.trans (congrArg some (by kernel_rfl))⟩
 f26:=⟨Tryz.f141.name,by decide,Tryz.func141.trans (congrArg some (by kernel_rfl))⟩
 f27:=⟨Tryz.f142.name,by decide,Tryz.func142.trans (congrArg some (by kernel_rfl))⟩
 f28:=Tryz.func123.trans (congrArg some (by kernel_rfl))
 f29:=Tryz.func124.trans (congrArg some (by kernel_rfl))
 f46:=⟨Tryz.f161.name,by decide,Tryz.func161.trans (congrArg some (by kernel_rfl))⟩
 f47:=Tryz.func145.trans (congrArg some (by kernel_rfl))
 f48:=Tryz.func146.trans (congrArg some (by kernel_rfl))
 f49:=⟨Tryz.f162.name,by decide,Tryz.func162.trans (congrArg some (by kernel_rfl))⟩
 f50:=⟨Tryz.f163.name,by decide,Tryz.func163.trans (congrArg some (by kernel_rfl))⟩
 f57:=⟨Tryz.f170.name,by decide,Tryz.func170.trans (congrArg some (by kernel_rfl))⟩
 t0:=Tryz.underlying0
 a0:=Tryz.isAgg0
 z0:=Tryz.sizeOf0
 v0:=Tryz.zeroValue0
 t3:=Tryz.underlying3
 a3:=Tryz.isAgg3
 z3:=Tryz.sizeOf3
 v3:=Tryz.zeroValue3
 t4:=Tryz.underlying4
 a4:=Tryz.isAgg4
 z4:=Tryz.sizeOf4
 v4:=Tryz.zeroValue4
 t5:=Tryz.underlying5
 a5:=Tryz.isAgg5
 z5:=Tryz.sizeOf5
 v5:=Tryz.zeroValue5
 t9:=Tryz.underlying9
 a9:=Tryz.isAgg9
 z9:=Tryz.sizeOf9
 v9:=Tryz.zeroValue9
 t22:=Tryz.underlying96
 a22:=Tryz.isAgg96
 z22:=Tryz.sizeOf96
 v22:=Tryz.zeroValue96
 t25:=Tryz.underlying125
 a25:=Tryz.isAgg125
 z25:=Tryz.sizeOf125
 v25:=Tryz.zeroValue125
 t39:=Tryz.underlying39
 a39:=Tryz.isAgg39
 z39:=Tryz.sizeOf39
 v39:=Tryz.zeroValue39
 t45:=Tryz.underlying150
 a45:=Tryz.isAgg150
 z45:=Tryz.sizeOf150
 v45:=Tryz.zeroValue150
 t46:=Tryz.underlying151
 a46:=Tryz.isAgg151
 z46:=Tryz.sizeOf151
 v46:=Tryz.zeroValue151
 t50:=Tryz.underlying156
 a50:=Tryz.isAgg156
 z50:=Tryz.sizeOf156
 v50:=Tryz.zeroValue156
 t53:=Tryz.underlying143
 a53:=Tryz.isAgg143
 z53:=Tryz.sizeOf143
 v53:=Tryz.zeroValue143
 t55:=Tryz.underlying142
 a55:=Tryz.isAgg142
 z55:=Tryz.sizeOf142
 v55:=Tryz.zeroValue142
 t66:=Tryz.underlying187
 a66:=Tryz.isAgg187
 z66:=Tryz.sizeOf187
 v66:=Tryz.zeroValue187
 t70:=Tryz.underlying191
 a70:=Tryz.isAgg191
 z70:=Tryz.sizeOf191
 v70:=Tryz.zeroValue191
 t76:=Tryz.underlying206
 a76:=Tryz.isAgg206
 z76:=Tryz.sizeOf206
 v76:=Tryz.zeroValue206
 t77:=Tryz.underlying207
 a77:=Tryz.isAgg207
 z77:=Tryz.sizeOf207
 v77:=Tryz.zeroValue207 }
end Go.Proofs.YtnbldbbbibpobaaGreatDoor
namespace Go.Proofs.YtnbldbbbibpobaaGreatDoor
open Go.RowKit Go.MapKept
def idV (n:List Nat):Value:=.agg (z07 .u8 n).toArray
theorem zgz {a b:List Nat} (h:idV a = idV b):a = b:=by
 have h1:z07 .u8 a = z07 .u8 b:=by
  have:=congrArg (fun v:Value=>v.cells.toList) h
  simpa [idV,Value.cells] using this
 have h2:∀ a b:List Nat,z07 .u8 a = z07 .u8 b → a = b:=by
  intro a
  induction a with
  | nil => intro b hb; cases b with
    | nil=>rfl
    | cons y b=>simp [z07] at hb
  | cons x a ih => intro b hb; cases b with
    | nil=>simp [z07] at hb
    | cons y b =>
      simp only [z07,List.map_cons,List.cons.injEq,Value.int.injEq,true_and] at hb
      rw [show x = y by omega,ih b hb.2]
 exact h2 a b h1
structure MapN (b:Nat) (L:List (List Nat × Value)) (w:World):Prop where
 ex:∃ es clock,w.heap[b]? = some (.map es clock) ∧ Stamped es clock ∧ es.toList.map (fun e=>(e.key,e.val)) = L.map (fun p=>(idV p.1,p.2))
 ok:∀ p ∈ L,IdOk p.1
 nodup:(L.map (·.1)).Nodup
theorem MapN.lt {b:Nat} {L:List (List Nat × Value)} {w:World} (h:MapN b L w):b < w.heap.size:=by
 obtain ⟨es,clock,h1,_⟩:=h.ex
 exact (Array.getElem?_eq_some_iff.1 h1).1
theorem MapN.only {O:Nat → Prop} {b:Nat} {L:List (List Nat × Value)} {w w':World} (h:MapN b L w) (k:Only O w w') (hb:¬ O b):MapN b L w':=by
 have hl:=h.lt
 obtain ⟨es,clock,h1,h2,h3⟩:=h.ex
 exact ⟨⟨es,clock,(k.block b hl hb).trans h1,h2,h3⟩,h.ok,h.nodup⟩
theorem MapN.below {b:Nat} {L:List (List Nat × Value)} {w w':World} (h:MapN b L w) (k:Below w.heap.size w w'):MapN b L w':=h.only (Only.of (O:=fun _=>False) k) id
theorem MapN.notCells {b:Nat} {L:List (List Nat × Value)} {w:World} (h:MapN b L w) {t:TypeId} {cs:Array Value} (hc:Cells b t cs w):False:=by
 obtain ⟨es,clock,h1,_⟩:=h.ex
 have hc':w.heap[b]? = some (.cells cs t (0,0)):=hc
 rw [h1] at hc'
 cases hc'
theorem MapN.notRow {b B n m:Nat} {e:TypeId} {v:Value} {cs:List Value} {L:List (List Nat × Value)} {w:World} (h:MapN b L w) (hr:w.ownsRow B e n v m cs):v.ownBlock ≠ some b:=by
 obtain ⟨es,clock,h1,_⟩:=h.ex
 intro hg
 rcases hr.2 with ⟨h0,_⟩ | ⟨g,cap,cur,h0,_,hh,_⟩
 ·rw [h0] at hg
  cases hg
 ·rw [h0] at hg
  obtain rfl:g = b:=by injection hg
  rw [h1] at hh
  cases hh
def World.putMap (w:World) (b:Nat) (o:Obj):World:={ w with heap:=w.heap.setIfInBounds b o }
theorem z33 (w:World) (b:Nat) (o:Obj):Only (fun x=>x = b) w (World.putMap w b o) :=
 ⟨rfl,rfl,rfl,by simp [World.putMap],fun i hi hn=>by
  show (w.heap.setIfInBounds b o)[i]? = w.heap[i]?
  rw [Array.getElem?_setIfInBounds_ne (Ne.symm hn)]⟩
section
variable {P:Program} {w:World} {T K E u:TypeId}
structure IdKey (P:Program) (K:TypeId):Prop where
 law:Maps.Keyed P K
 reads:∀ n,IdOk n → ∃ l,keyOf P K (idV n) = some l
theorem IdKey.of (hl:laidOutB P = true) (u:TypeId) (hK:P.underlying K = some (.array 32 u)) (hu:P.underlying u = some (.int .u8)) (hrow:decide (K < P.types.size) = true) (hk:P.keyTypeAt 2 K = true) (hk2:P.keyType K = true) (hone:P.cellsOf u = 1) (hc:P.cellsOf K = 32):IdKey P K:=by
 refine ⟨Maps.Keyed.of_law (deep_law_laid hl (m:=2) (by omega) (of_decide_eq_true hrow) hk (by rw [hK])),fun n hn=>?_⟩
 unfold keyOf
 rw [hK]
 have hsz2:(z07 .u8 n).toArray.size = 32:=by rw [List.size_toArray,z0y,hn.1]
 simp only [hk2,idV,Value.formed,hK,hc,hsz2,beq_self_eq_true,Bool.and_self,if_true,Option.map_eq_some_iff]
 suffices h:∃ ls,P.keyLits (P.types.size + 1) K (Value.agg (z07 .u8 n).toArray).cells.toList = some ls by
  obtain ⟨ls,h⟩:=h
  exact ⟨_,ls,h,rfl⟩
 obtain ⟨d,hd⟩:∃ d,P.types.size = d + 1:=⟨P.types.size - 1,(Nat.succ_pred_eq_of_pos (Nat.lt_of_le_of_lt (Nat.zero_le _) (of_decide_eq_true hrow))).symm⟩
 rw [hd]
 unfold Program.keyLits
 simp only [hK,Value.cells,hc,hone,z0y,hn.1,if_true,Option.map_eq_some_iff]
 have each:∀ is:List Nat,(∀ i ∈ is,i < 32) → ∃ ls,(is.mapM fun i=>P.keyLits (d + 1) u (((z07 .u8 n).drop (i * 1)).take 1)) = some ls:=by
  intro is
  induction is with
  | nil=>exact fun _=>⟨[],rfl⟩
  | cons i is ih =>
    intro hi
    obtain ⟨ls,hls⟩:=ih (fun j hj=>hi j (List.mem_cons_of_mem _ hj))
    have hil:=hi i (by simp)
    have hx:((z07 .u8 n).drop (i * 1)).take 1 = [.int .u8 (n[i]'(by have:=hn.1;omega):Int)]:=by
     rw [Nat.mul_one,List.drop_eq_getElem_cons (by rw [z0y];have:=hn.1;omega),List.take_succ_cons,List.take_zero]
     simp [z07]
    have hwf:(Lit.int .u8 (n[i]'(by have:=hn.1;omega):Int)).wf = true:=by
     have:=hn.2 _ (List.getElem_mem (show i < n.length by have:=hn.1;omega))
     simp [Lit.wf,IntKind.min,IntKind.max,IntKind.bits,IntKind.signed]
     omega
    refine ⟨[.int .u8 (n[i]'(by have:=hn.1;omega):Int)] :: ls,?_⟩
    rw [List.mapM_cons,hls,hx]
    unfold Program.keyLits
    simp only [hu,hwf,and_self,if_true]
    rfl
 obtain ⟨ls,hls⟩:=each (List.range 32) (fun i hi=>List.mem_range.1 hi)
 exact ⟨_,ls,hls,rfl⟩
theorem MapN.find (hk:IdKey P K) {b:Nat} {L:List (List Nat × Value)} (h:MapN b L w) {es:Array MapEntry} (hes:es.toList.map (fun e=>(e.key,e.val)) = L.map (fun p=>(idV p.1,p.2))) {n:List Nat} (hn:IdOk n) :
 ((Instr.findKey K (idV n) es.toList).run P w = .ok none w ∧ (∀ e ∈ es.toList,e.key ≠ idV n) ∧ n ∉ L.map (·.1)) ∨
 ∃ j e v,(Instr.findKey K (idV n) es.toList).run P w = .ok (some (j,v)) w ∧ es.toList[j]? = some e ∧ e.key = idV n ∧ e.val = v ∧ L[j]? = some (n,v):=by
 obtain ⟨lx,hlx⟩:=hk.reads n hn
 have hlen:es.toList.length = L.length:=by
  have:=congrArg List.length hes
  simpa using this
 have get:∀ j (hj:j < L.length),(es.toList[j]'(by omega)).key = idV (L[j]).1 ∧ (es.toList[j]'(by omega)).val = (L[j]).2:=fun j hj=>by
  have h1:=congrArg (fun l=>l[j]?) hes
  simp only [List.getElem?_map,List.getElem?_eq_getElem hj,List.getElem?_eq_getElem (show j < es.toList.length by omega),Option.map_some,Option.some.injEq,Prod.mk.injEq] at h1
  exact h1
 have hall:∀ e ∈ es.toList,∃ l,keyOf P K e.key = some l:=fun e he=>by
  obtain ⟨j,hj,rfl⟩:=List.getElem_of_mem he
  rw [(get j (by omega)).1]
  exact hk.reads _ (h.ok _ (List.getElem_mem _))
 rcases hk.law.find w hlx es.toList hall with ⟨h1,h2⟩ | ⟨j,e,h1,h2,h3⟩
 ·refine .inl ⟨h1,h2,fun hm=>?_⟩
  obtain ⟨p,hp,rfl⟩:=List.mem_map.1 hm
  obtain ⟨j,hj,rfl⟩:=List.getElem_of_mem hp
  exact h2 _ (List.getElem_mem (show j < es.toList.length by omega)) (get j hj).1
 ·obtain ⟨hj,he⟩:=List.getElem?_eq_some_iff.1 h2
  obtain ⟨g1,g2⟩:=get j (by omega)
  rw [he] at g1 g2
  refine .inr ⟨j,e,e.val,h1,h2,h3,rfl,?_⟩
  rw [List.getElem?_eq_getElem (by omega),g2]
  have:=zgz (g1.symm.trans h3)
  rw [← this]
theorem MapN.lookup (hk:IdKey P K) (hT:P.underlying T = some (.map K E)) {z:Value} (hz:(zeroValue E).run P w = .ok z w) (c:Bool) {b:Nat} {L:List (List Nat × Value)} (h:MapN b L w) {n:List Nat} (hn:IdOk n) :
 (Instr.lookup T (.map (some b)) (idV n) c).run P w = .ok (if c then .tuple #[atE L z n,.bool (decide (n ∈ L.map (·.1)))] else atE L z n) w:=by
 obtain ⟨es,clock,hb,hs,hes⟩:=h.ex
 obtain ⟨lx,hlx⟩:=hk.reads n hn
 rcases h.find hk hes hn with ⟨h1,h2,h3⟩ | ⟨j,e,v,h1,h2,h3,h4,h5⟩
 ·rw [atE,z21 h3,decide_eq_false h3]
  simp [Instr.lookup,run_underlying hT,MapKept.run_getObj_map hb,hk.law.check w _ hlx,h1,hz,Result.andThen]
 ·rw [atE,z3e h.nodup h5,decide_eq_true (List.mem_map.2 ⟨(n,v),List.mem_of_getElem? h5,rfl⟩)]
  simp [Instr.lookup,run_underlying hT,MapKept.run_getObj_map hb,hk.law.check w _ hlx,h1,Result.andThen]
theorem MapN.update (hk:IdKey P K) (hT:P.underlying T = some (.map K E)) {b:Nat} {L:List (List Nat × Value)} (h:MapN b L w) {n:List Nat} (hn:IdOk n) (v:Value) :
 ∃ w',(Instr.mapUpdate T (.map (some b)) (idV n) v).run P w = .ok () w' ∧ MapN b (z3c L n v) w' ∧ Only (fun x=>x = b) w w':=by
 obtain ⟨es,clock,hb,hs,hes⟩:=h.ex
 obtain ⟨lx,hlx⟩:=hk.reads n hn
 rcases h.find hk hes hn with ⟨h1,h2,h3⟩ | ⟨j,e,x,h1,h2,h3,h4,h5⟩
 ·refine ⟨World.putMap w b (.map (es.push ⟨idV n,v,clock⟩) (clock + 1)),?_,⟨⟨_,_,(heap_set hb).1,stamped_push hs h2,?_⟩,?_,?_⟩,z33 _ _ _⟩
  ·simp [Instr.mapUpdate,run_underlying hT,MapKept.run_getObj_map hb,hk.law.check w _ hlx,h1,MapKept.run_setObj_map _ hb,Result.andThen,World.putMap]
  ·rw [z1u h3,Array.toList_push,List.map_append,List.map_append,hes]
   rfl
  ·rw [z1u h3]
   intro p hp
   rcases List.mem_append.1 hp with hp | hp
   ·exact h.ok p hp
   ·obtain rfl:=List.mem_singleton.1 hp
    exact hn
  ·rw [z1u h3,List.map_append]
   refine List.nodup_append.2 ⟨h.nodup,by simp,fun a ha c hc=>?_⟩
   obtain rfl:c = n:=by simpa using hc
   rintro rfl
   exact h3 ha
 ·have hm:n ∈ L.map (·.1):=List.mem_map.2 ⟨(n,x),List.mem_of_getElem? h5,rfl⟩
  have hj:es[j]? = some e:=by simpa using h2
  have hkeyf:∀ e',es[j]? = some e' → ({ e' with key:=idV n,val:=v }:MapEntry).key = e'.key:=fun e' he'=>by rw [hj] at he';cases he';exact h3.symm
  refine ⟨World.putMap w b (.map (es.modify j fun e'=>{ e' with key:=idV n,val:=v }) clock),?_,⟨⟨_,_,(heap_set hb).1,stamped_modify hs _ _ (fun _ _=>rfl) (fun e' _ he'=>hkeyf e' he'),?_⟩,?_,?_⟩,z33 _ _ _⟩
  ·simp [Instr.mapUpdate,run_underlying hT,MapKept.run_getObj_map hb,hk.law.check w _ hlx,h1,hj,h3,hk.law.stays w hlx,MapKept.run_setObj_map _ hb,Result.andThen,World.putMap]
  ·have hlist:(es.modify j (fun e'=>{ e' with key:=idV n,val:=v })).toList = es.toList.set j { e with key:=idV n,val:=v }:=by rw [Array.toList_modify,ChangeMaps.modify_eq_set _ _ _ _ h2]
   rw [z9o h.nodup v h5,hlist,List.map_set,List.map_set,hes]
  ·intro p hp
   have:p.1 ∈ (z3c L n v).map (·.1):=List.mem_map.2 ⟨p,hp,rfl⟩
   rw [zbb hm] at this
   obtain ⟨q,hq,hqp⟩:=List.mem_map.1 this
   rw [← hqp]
   exact h.ok q hq
  ·rw [zbb hm]
   exact h.nodup
theorem MapN.delete (hk:IdKey P K) (hT:P.underlying T = some (.map K E)) {b:Nat} {L:List (List Nat × Value)} (h:MapN b L w) {n:List Nat} (hn:IdOk n) (ty:TypeId) :
 ∃ w',(Builtin.delete_ #[T,K] ty #[.map (some b),idV n]).run P w = .ok (.tuple #[]) w' ∧ MapN b (z5b L n) w' ∧ Only (fun x=>x = b) w w':=by
 obtain ⟨es,clock,hb,hs,hes⟩:=h.ex
 obtain ⟨lx,hlx⟩:=hk.reads n hn
 rcases h.find hk hes hn with ⟨h1,h2,h3⟩ | ⟨j,e,x,h1,h2,h3,h4,h5⟩
 ·refine ⟨World.putMap w b (.map es clock),?_,⟨⟨_,_,(heap_set hb).1,hs,by rw [z4j h3];exact hes⟩,by rw [z4j h3];exact h.ok,by rw [z4j h3];exact h.nodup⟩,z33 _ _ _⟩
  simp [Builtin.delete_,run_underlying hT,MapKept.run_getObj_map hb,hk.law.check w _ hlx,h1,MapKept.run_setObj_map _ hb,Result.andThen,World.putMap]
 ·have hjl:j < es.size:=by simpa using (List.getElem?_eq_some_iff.1 h2).1
  have hsub:(es.eraseIdxIfInBounds j).toList = es.toList.eraseIdx j:=by
   unfold Array.eraseIdxIfInBounds
   rw [dif_pos hjl]
   simp
  have hd:=z92 h.nodup h5
  refine ⟨World.putMap w b (.map (es.eraseIdxIfInBounds j) clock),?_,⟨⟨_,_,(heap_set hb).1,stamped_erase hs _,?_⟩,?_,?_⟩,z33 _ _ _⟩
  ·simp [Builtin.delete_,run_underlying hT,MapKept.run_getObj_map hb,hk.law.check w _ hlx,h1,MapKept.run_setObj_map _ hb,Result.andThen,World.putMap]
  ·rw [hd,hsub,ChangeMaps.map_eraseIdx,ChangeMaps.map_eraseIdx,hes]
  ·intro p hp
   exact h.ok p (List.mem_filter.1 hp).1
  ·exact (List.Sublist.map _ List.filter_sublist).nodup h.nodup
theorem z8f (w:World):MapN w.heap.size [] (w.alloc (.map #[] 0)) :=
 ⟨⟨#[],0,(heap_alloc w _).1,stamped_empty 0,rfl⟩,fun p hp=>(by cases hp),List.nodup_nil⟩
end
section
variable {P:Program} {w w':World} {T K E:TypeId} {b:Nat} {L:List (List Nat × Value)} {n:List Nat}
def zhu (L:List (List Nat × Value)) (z:Value) (n:List Nat):List (List Nat × Value):=if n ∈ L.map (·.1) then L else L ++ [(n,z)]
theorem put_ent (z:Value) (v:Value) (hd:(L.map (·.1)).Nodup):z3c (zhu L z n) n v = z3c L n v:=by
 by_cases hn:n ∈ L.map (·.1)
 ·rw [zhu,if_pos hn]
 ·rw [zhu,if_neg hn]
  have hg:(L ++ [(n,z)])[L.length]? = some (n,z):=by rw [List.getElem?_append_right (Nat.le_refl _),Nat.sub_self];rfl
  have hd2:((L ++ [(n,z)]).map (·.1)).Nodup:=by
   rw [← z1u hn]
   exact z7n hd _ _
  rw [z9o hd2 v hg,z1u hn,List.set_append_right _ _ (Nat.le_refl _),Nat.sub_self]
  rfl
structure MapE (b:Nat) (L:List (List Nat × Value)) (n:List Nat) (born:Int) (w:World):Prop where
 map:MapN b L w
 stamp:∃ (es:Array MapEntry) (clock j:Nat) (e:MapEntry),w.heap[b]? = some (.map es clock) ∧ es.toList[j]? = some e ∧ e.key = idV n ∧ (e.born:Int) = born
theorem MapE.only {O:Nat → Prop} {born:Int} (h:MapE b L n born w) (k:Only O w w') (hb:¬ O b):MapE b L n born w':=by
 obtain ⟨es,clock,j,e,h1,h2⟩:=h.stamp
 exact ⟨h.map.only k hb,es,clock,j,e,(k.block b h.map.lt hb).trans h1,h2⟩
theorem MapN.entry (hk:IdKey P K) (hT:P.underlying T = some (.map K E)) {z:Value} (hz:(zeroValue E).run P w = .ok z w) (h:MapN b L w) (hn:IdOk n) :
 ∃ w' born, (Instr.mapEntry T (.map (some b)) (idV n)).run P w = .ok (.tuple #[atE L z n, .int .i64 born]) w' ∧ MapE b (zhu L z n) n born w' ∧ Only (fun x => x = b) w w' ∧
   ∀ es clock,w.heap[b]? = some (.map es clock) → (∀ e ∈ es.toList,e.key = idV n → (e.born:Int) = born) ∧ ((∀ e ∈ es.toList,e.key ≠ idV n) → born = (clock:Int)):=by
 obtain ⟨es,clock,hb,hs,hes⟩:=h.ex
 obtain ⟨lx,hlx⟩:=hk.reads n hn
 rcases h.find hk hes hn with ⟨h1,h2,h3⟩ | ⟨j,e,x,h1,h2,h3,h4,h5⟩
 ·have hup:=(heap_set (o':=.map (es.push ⟨idV n,z,clock⟩) (clock + 1)) hb).1
  refine ⟨World.putMap w b (.map (es.push ⟨idV n,z,clock⟩) (clock + 1)),clock,?_,⟨⟨⟨_,_,hup,stamped_push hs h2,?_⟩,?_,?_⟩,_,_,es.size,⟨idV n,z,clock⟩,hup,?_,rfl,rfl⟩,z33 _ _ _,fun es' clock' hb'=>?_⟩
  ·rw [atE,z21 h3]
   simp [Instr.mapEntry,run_underlying hT,MapKept.run_getObj_map hb,hk.law.check w _ hlx,h1,hz,MapKept.run_setObj_map _ hb,Result.andThen,World.putMap,goInt]
  ·rw [zhu,if_neg h3,Array.toList_push,List.map_append,List.map_append,hes]
   rfl
  ·rw [zhu,if_neg h3]
   intro p hp
   rcases List.mem_append.1 hp with hp | hp
   ·exact h.ok p hp
   ·obtain rfl:=List.mem_singleton.1 hp
    exact hn
  ·rw [zhu,if_neg h3,← z1u h3]
   exact z7n h.nodup _ _
  ·rw [Array.toList_push,List.getElem?_append_right (by simp)]
   simp
  ·rw [hb] at hb'
   injection hb' with hb'
   injection hb' with he hc
   subst he hc
   exact ⟨fun e he hk=>absurd hk (h2 e he),fun _=>rfl⟩
 ·have hm:n ∈ L.map (·.1):=List.mem_map.2 ⟨(n,x),List.mem_of_getElem? h5,rfl⟩
  have hj:es[j]? = some e:=by simpa using h2
  have hkeyf:∀ e',es[j]? = some e' → ({ e' with key:=idV n }:MapEntry).key = e'.key:=fun e' he'=>by rw [hj] at he';cases he';exact h3.symm
  have hup:=(heap_set (o':=.map (es.modify j fun e'=>{ e' with key:=idV n }) clock) hb).1
  have hlist:(es.modify j (fun e'=>{ e' with key:=idV n })).toList = es.toList.set j { e with key:=idV n }:=by rw [Array.toList_modify,ChangeMaps.modify_eq_set _ _ _ _ h2]
  have hsame:({ e with key:=idV n }:MapEntry) = e:=by rw [← h3]
  have hjl:=(List.getElem?_eq_some_iff.1 h2).1
  have hset:es.toList.set j e = es.toList:=by
   refine List.ext_getElem? fun i=>?_
   by_cases hij:j = i
   ·subst hij
    rw [List.getElem?_set_self hjl,h2]
   ·rw [List.getElem?_set_ne hij]
  rw [hsame,hset] at hlist
  refine ⟨World.putMap w b (.map (es.modify j fun e'=>{ e' with key:=idV n }) clock),e.born,?_,⟨⟨⟨_,_,hup,stamped_modify hs _ _ (fun _ _=>rfl) (fun e' _ he'=>hkeyf e' he'),?_⟩,?_,?_⟩,_,_,j,e,hup,?_,h3,rfl⟩,z33 _ _ _,fun es' clock' hb'=>?_⟩
  ·rw [atE,z3e h.nodup h5]
   simp [Instr.mapEntry,run_underlying hT,MapKept.run_getObj_map hb,hk.law.check w _ hlx,h1,hj,h3,hk.law.stays w hlx,MapKept.run_setObj_map _ hb,Result.andThen,World.putMap,goInt]
  ·rw [zhu,if_pos hm,hlist,hes]
  ·rw [zhu,if_pos hm];exact h.ok
  ·rw [zhu,if_pos hm];exact h.nodup
  ·rw [hlist];exact h2
  ·rw [hb] at hb'
   injection hb' with hb'
   injection hb' with he hc
   subst he hc
   refine ⟨fun e' he hk=>?_,fun hall=>absurd h3 (hall e (List.mem_of_getElem? h2))⟩
   obtain ⟨i,hi,rfl⟩:=List.getElem_of_mem he
   have hb1:(es.toList.map (·.key))[i]? = (es.toList.map (·.key))[j]?:=by
    rw [List.getElem?_map,List.getElem?_map,h2,List.getElem?_eq_getElem hi,Option.map_some,Option.map_some,hk,h3]
   have:=(List.getElem?_inj (by rw [List.length_map];exact hi) hs.2.2).1 hb1
   subst this
   rw [List.getElem?_eq_getElem hi] at h2
   rw [Option.some.inj h2]
theorem MapN.entryAt (hk:IdKey P K) (hT:P.underlying T = some (.map K E)) {z:Value} (hz:∀ w,(zeroValue E).run P w = .ok z w) (h:MapN b L w) (hn:IdOk n) :
 ∃ born,∀ w2,w2.heap[b]? = w.heap[b]? → ∃ w',(Instr.mapEntry T (.map (some b)) (idV n)).run P w2 = .ok (.tuple #[atE L z n,.int .i64 born]) w' ∧ MapE b (zhu L z n) n born w' ∧ Only (fun x=>x = b) w2 w':=by
 obtain ⟨_,born,_,_,_,h4⟩:=h.entry hk hT (hz w) hn
 refine ⟨born,fun w2 h2=>?_⟩
 obtain ⟨es,clock,hb,hs,hes⟩:=h.ex
 have hb2:=h2.trans hb
 have hm2:MapN b L w2:=⟨⟨es,clock,hb2,hs,hes⟩,h.ok,h.nodup⟩
 obtain ⟨w',born2,g1,g2,g3,g4⟩:=hm2.entry hk hT (hz w2) hn
 obtain ⟨p1,p2⟩:=h4 es clock hb
 obtain ⟨q1,q2⟩:=g4 es clock hb2
 have he:born2 = born:=by
  by_cases hex:∃ e ∈ es.toList,e.key = idV n
  ·obtain ⟨e,he,hk⟩:=hex
   rw [← p1 e he hk,← q1 e he hk]
  ·have hall:∀ e ∈ es.toList,e.key ≠ idV n:=fun e he hk=>hex ⟨e,he,hk⟩
   rw [p2 hall,q2 hall]
 subst he
 exact ⟨w',g1,g2,g3⟩
theorem MapE.store {born:Int} (h:MapE b L n born w) (hn:IdOk n) (v:Value) :
 ∃ w',(Instr.entryStore T (.map (some b)) (.int .i64 born) v).run P w = .ok () w' ∧ MapN b (z3c L n v) w' ∧ Only (fun x=>x = b) w w':=by
 obtain ⟨es,clock,hb,hs,hes⟩:=h.map.ex
 obtain ⟨es',clock',j,e,hb',h2,h3,h4⟩:=h.stamp
 rw [hb] at hb'
 injection hb' with hb'
 injection hb' with he hc
 subst he hc
 have hjl:=(List.getElem?_eq_some_iff.1 h2).1
 have hlen:es.toList.length = L.length:=by
  have:=congrArg List.length hes
  simpa using this
 have hget:(idV (L[j]'(by omega)).1,(L[j]'(by omega)).2) = (e.key,e.val):=by
  have h1:=congrArg (fun l=>l[j]?) hes
  simp only [List.getElem?_map,h2,List.getElem?_eq_getElem (show j < L.length by omega),Option.map_some,Option.some.injEq] at h1
  exact h1.symm
 have hL:L[j]? = some (n,e.val):=by
  rw [List.getElem?_eq_getElem (by omega)]
  have g1:(L[j]'(by omega)).1 = n:=zgz ((congrArg Prod.fst hget).trans h3)
  have g2:(L[j]'(by omega)).2 = e.val:=congrArg Prod.snd hget
  rw [← g1,← g2]
 have hj:es[j]? = some e:=by simpa using h2
 have hfind:es.findIdx? (fun e'=>(e'.born:Int) == born) = some j:=by
  rw [show es = es.toList.toArray from rfl,List.findIdx?_toArray]
  refine List.findIdx?_eq_some_iff_getElem.2 ⟨hjl,?_,fun i hi=>?_⟩
  ·have:es.toList[j] = e:=by rw [List.getElem?_eq_getElem hjl] at h2;exact Option.some.inj h2
   rw [this,h4]
   simp
  ·have hne:(es.toList[i]'(by omega)).born ≠ e.born:=by
    intro he
    have hb1:(es.toList.map (·.born))[i]? = (es.toList.map (·.born))[j]?:=by
     rw [List.getElem?_map,List.getElem?_map,h2,List.getElem?_eq_getElem (by omega),Option.map_some,Option.map_some,he]
    have:=(List.getElem?_inj (by rw [List.length_map];omega) hs.2.1).1 hb1
    omega
   rw [← h4]
   simpa using fun q=>hne (by exact_mod_cast q)
 refine ⟨World.putMap w b (.map (es.modify j fun e'=>{ e' with val:=v }) clock),?_,⟨⟨_,_,(heap_set hb).1,stamped_modify hs _ _ (fun _ _=>rfl) (fun _ _ _=>rfl),?_⟩,?_,z7n h.map.nodup _ _⟩,z33 _ _ _⟩
 ·simp [Instr.entryStore,MapKept.run_getObj_map hb,asInt,asIntOf,hfind,MapKept.run_setObj_map _ hb,Result.andThen,World.putMap]
 ·have hlist:(es.modify j (fun e'=>{ e' with val:=v })).toList = es.toList.set j { e with val:=v }:=by rw [Array.toList_modify,ChangeMaps.modify_eq_set _ _ _ _ h2]
  rw [z9o h.map.nodup v hL,hlist,List.map_set,List.map_set,hes]
  show (List.map _ L).set j (e.key,v) = (List.map _ L).set j (idV n,v)
  rw [h3]
 ·intro p hp
  rw [z9o h.map.nodup v hL] at hp
  rcases List.mem_or_eq_of_mem_set hp with hp | rfl
  ·exact h.map.ok p hp
  ·exact hn
end
section
variable {P:Program} {w:World} {T K E:TypeId} {ops:Array Oper} {rest:List Oper} {o:Oper} {a:Act} {Q:Exit → Act → World → Prop}
theorem z2x (hg:o.guard = none) (m x y:Operand) (T K E:TypeId) (ho:o.op = .mapUpdate T m x y) (hk:IdKey P K) (hT:P.underlying T = some (.map K E)) (b:Nat) (L:List (List Nat × Value)) (h:MapN b L w) (n:List Nat) (hn:IdOk n) (v:Value)
 (hm:a.eval m = .map (some b)) (hx:a.eval x = idV n) (hy:a.eval y = v) (hK:∀ w',Hid (MapN b (z3c L n v) w') → Hid (Only (fun x=>x = b) w w') → wpList P ops Q rest (a.put o.dst undef) w'):wpList P ops Q (o :: rest) a w:=by
 refine wpList_plain hg fun K' hK'=>?_
 obtain ⟨w',h1,h2,h3⟩:=h.update hk hT hn v
 unfold Oper.wp execOp
 simp only [ho,hm,hx,hy,h1,Sem.run_bind,Sem.run_pure,Result.andThen_ok]
 exact hK' _ _ (hK w' h2 h3)
theorem z4d (hg:o.guard = none) (m x:Operand) (T K E:TypeId) (ho:o.op = .call { callee:=.builtin .delete,args:=#[m,x],argTypes:=#[T,K] }) (hk:IdKey P K) (hT:P.underlying T = some (.map K E)) (b:Nat) (L:List (List Nat × Value)) (h:MapN b L w) (n:List Nat) (hn:IdOk n)
 (hm:a.eval m = .map (some b)) (hx:a.eval x = idV n) (hK:∀ w',Hid (MapN b (z5b L n) w') → Hid (Only (fun x=>x = b) w w') → wpList P ops Q rest (a.put o.dst (.tuple #[])) w'):wpList P ops Q (o :: rest) a w:=by
 refine wpList_plain hg fun K' hK'=>?_
 obtain ⟨w',h1,h2,h3⟩:=h.delete hk hT hn o.type
 unfold Oper.wp execOp
 simp only [ho,hm,hx,resolve,invoke,builtin,Sem.run_bind,Sem.run_pure,Result.andThen_ok,List.map_toArray,List.map_cons,List.map_nil,h1]
 exact hK' _ _ (hK w' h2 h3)
theorem z7o (hg:o.guard = none) (m x y:Operand) (T:TypeId) (ho:o.op = .entryStore T m x y) (b:Nat) (L:List (List Nat × Value)) (n:List Nat) (born:Int) (h:MapE b L n born w) (hn:IdOk n) (v:Value)
 (hm:a.eval m = .map (some b)) (hx:a.eval x = .int .i64 born) (hy:a.eval y = v) (hK:∀ w',Hid (MapN b (z3c L n v) w') → Hid (Only (fun x=>x = b) w w') → wpList P ops Q rest (a.put o.dst undef) w'):wpList P ops Q (o :: rest) a w:=by
 refine wpList_plain hg fun K' hK'=>?_
 obtain ⟨w',h1,h2,h3⟩:=h.store (P:=P) (T:=T) hn v
 unfold Oper.wp execOp
 simp only [ho,hm,hx,hy,h1,Sem.run_bind,Sem.run_pure,Result.andThen_ok]
 exact hK' _ _ (hK w' h2 h3)
end
end Go.Proofs.YtnbldbbbibpobaaGreatDoor
namespace Go.Proofs.YtnbldbbbibpobaaGreatDoor
open Go.RowKit
open Go.ChangeMaps (setBlock)
structure IterN (b r:Nat) (L:List (List Nat × Value)) (S:List (List Nat)) (w:World):Prop where
 ex:∃ es clock since seen c0,w.heap[b]? = some (.map es clock) ∧ Go.MapKept.Stamped es clock ∧ es.toList.map (fun e=>(e.key,e.val)) = L.map (fun p=>(idV p.1,p.2)) ∧ w.heap[r]? = some (.mapIter (some b) since seen c0) ∧
  (∀ x ∈ es.toList,x.born < since) ∧ since ≤ c0 ∧ since ≤ clock ∧ ∀ x ∈ es.toList,∀ n,x.key = idV n → (seen.contains x.born = true ↔ n ∈ S)
 ok:∀ p ∈ L,IdOk p.1
 nodup:(L.map (·.1)).Nodup
 sn:S.Nodup
 sub:∀ n ∈ S,n ∈ L.map (·.1)
theorem IterN.ne {b r:Nat} {L:List (List Nat × Value)} {S:List (List Nat)} {w:World} (h:IterN b r L S w):r ≠ b:=by
 obtain ⟨es,clock,since,seen,c0,hb,_,_,hr,_⟩:=h.ex
 intro e
 rw [e,hb] at hr
 cases hr
theorem IterN.walk {b r:Nat} {L:List (List Nat × Value)} {S:List (List Nat)} {w:World} (h:IterN b r L S w):∃ o:Obj,w.heap[r]? = some o ∧ o.isWalk = true:=by
 obtain ⟨es,clock,since,seen,c0,hb,_,_,hr,_⟩:=h.ex
 exact ⟨_,hr,rfl⟩
theorem IterN.kept {b r:Nat} {L:List (List Nat × Value)} {S:List (List Nat)} {w w':World} (h:IterN b r L S w) (k:KeepsWalks w w'):IterN b r L S w':=by
 obtain ⟨es,clock,since,seen,c0,hb,h2,h3,hr,rest⟩:=h.ex
 exact ⟨⟨es,clock,since,seen,c0,k.same b _ hb rfl,h2,h3,k.same r _ hr rfl,rest⟩,h.ok,h.nodup,h.sn,h.sub⟩
theorem IterN.left_eq {b r:Nat} {L:List (List Nat × Value)} {S:List (List Nat)} {w w':World} (h:IterN b r L S w) (k:KeepsWalks w w'):w'.rangeLeft b r = w.rangeLeft b r:=by
 obtain ⟨es,clock,since,seen,c0,hb,h2,h3,hr,rest⟩:=h.ex
 simp only [World.rangeLeft,hb,hr,k.same b _ hb rfl,k.same r _ hr rfl]
theorem zi8:∀ {S T:List (List Nat)},S.Nodup → (∀ n ∈ S,n ∈ T) → S.length ≤ T.length
 | [],T,_,_=>Nat.zero_le _
 | x :: S, T, hn, hs => by
   have h1:=List.nodup_cons.1 hn
   have hx:=hs x (by simp)
   have h2:=zi8 (T:=T.erase x) h1.2 (fun n hn'=>(List.mem_erase_of_ne (fun e=>h1.1 (by rw [← e];exact hn'))).2 (hs n (by simp [hn'])))
   rw [List.length_erase_of_mem hx] at h2
   have:=List.length_pos_of_mem hx
   simp only [List.length_cons]
   omega
theorem IterN.count {b r:Nat} {L:List (List Nat × Value)} {S:List (List Nat)} {w:World} (h:IterN b r L S w):S.length ≤ L.length:=by
 have h1:=zi8 h.sn h.sub
 rwa [List.length_map] at h1
section
variable {P:Program} {w:World} {T:TypeId} {b r:Nat} {L:List (List Nat × Value)} {S:List (List Nat)}
theorem MapN.range {t k e:TypeId} (h:MapN b L w) (ht:P.underlying t = some (.map k e)) :
 ∃ w',(Instr.range t (.map (some b))).run P w = .ok (.pointer (some ⟨w.heap.size,0,none⟩)) w' ∧ IterN b w.heap.size L [] w' ∧ w.grownBy w' none ∧ Below w.heap.size w w' ∧ w'.heap.size = w.heap.size + 1:=by
 have hlt:=h.lt
 obtain ⟨es,clock,hb,hs,he⟩:=h.ex
 refine ⟨_,run_range_map w t k e b es clock ht hb,⟨⟨es,clock,clock,#[],clock,((MapKept.heap_alloc w _).2 b hlt).trans hb,hs,he,(MapKept.heap_alloc w _).1,hs.1,Nat.le_refl _,Nat.le_refl _,fun x _ n _=>?_⟩,h.ok,h.nodup,List.nodup_nil,fun n hn=>by cases hn⟩,
  World.grownBy_alloc w _ none,(Below.refl _ _).alloc (Nat.le_refl _) _,by simp⟩
 simp
theorem IterN.key {es:Array MapEntry} (hes:es.toList.map (fun e=>(e.key,e.val)) = L.map (fun p=>(idV p.1,p.2))) {e:MapEntry} (he:e ∈ es.toList):∃ n v,(n,v) ∈ L ∧ e.key = idV n ∧ e.val = v:=by
 have h1:(e.key,e.val) ∈ L.map (fun p=>(idV p.1,p.2)):=hes ▸ List.mem_map.2 ⟨e,he,rfl⟩
 obtain ⟨p,hp,h2⟩:=List.mem_map.1 h1
 injection h2 with h3 h4
 exact ⟨p.1,p.2,hp,h3.symm,h4.symm⟩
theorem IterN.entry {es:Array MapEntry} (hes:es.toList.map (fun e=>(e.key,e.val)) = L.map (fun p=>(idV p.1,p.2))) {n:List Nat} (hn:n ∈ L.map (·.1)):∃ e ∈ es.toList,e.key = idV n:=by
 obtain ⟨p,hp,rfl⟩:=List.mem_map.1 hn
 have h1:(idV p.1,p.2) ∈ es.toList.map (fun e=>(e.key,e.val)):=hes ▸ List.mem_map.2 ⟨p,hp,rfl⟩
 obtain ⟨e,he,h2⟩:=List.mem_map.1 h1
 injection h2 with h3 h4
 exact ⟨e,he,h3⟩
theorem IterN.next (h:IterN b r L S w) (ty:TypeId) :
 (S.Perm (L.map (·.1)) ∧ (Instr.next (.pointer (some ⟨r,0,none⟩)) false ty).run P w = .ok (.tuple #[.bool false]) w) ∨
 ∃ n v w', (n, v) ∈ L ∧ n ∉ S ∧ (Instr.next (.pointer (some ⟨r, 0, none⟩)) false ty).run P w = .ok (.tuple #[.bool true, idV n, v]) w' ∧ IterN b r L (S ++ [n]) w' ∧ w'.rangeLeft b r < w.rangeLeft b r ∧ w.grownBy w' (some r) ∧ w'.heap.size = w.heap.size ∧
   (Instr.entry (.pointer (some ⟨r,0,none⟩))).run P w' = .ok (.tuple #[idV n,v]) w':=by
 have hne:=h.ne
 obtain ⟨es,clock,since,seen,c0,hb,hst,hes,hr,hold,hsc,hsk,hseen⟩:=h.ex
 have hst2:=(Go.MapKept.stamped_iff es clock).1 hst
 rcases run_next_at (P:=P) w ty r b since c0 seen es clock hr hb hold hsc with ⟨h0,hrun⟩ | ⟨e,he,w1,hal,hrun⟩
 ·refine .inl ⟨?_,hrun⟩
  refine (List.perm_ext_iff_of_nodup h.sn h.nodup).2 fun n=>⟨h.sub n,fun hn=>?_⟩
  obtain ⟨e,he,hk⟩:=IterN.entry hes hn
  exact (hseen e he n hk).1 (all_seen es seen h0 e he)
 ·obtain ⟨hem,hesn⟩:=mem_left he
  obtain ⟨n,v,hnv,hkey,hval⟩:=IterN.key hes hem
  have hn:n ∉ S:=fun hS=>by
   rw [(hseen e hem n hkey).2 hS] at hesn
   cases hesn
  have hr1:w1.heap[r]? = some (.mapIter (some b) since seen c0):=by rcases hal with rfl | rfl <;> exact hr
  have hb1:w1.heap[b]? = some (.map es clock):=by rcases hal with rfl | rfl <;> exact hb
  have hset:=Go.MapKept.heap_set (o':=.mapIter (some b) since (seen.push e.born) clock) hr1
  have hb':(setBlock w1 r (.mapIter (some b) since (seen.push e.born) clock)).heap[b]? = some (.map es clock):=(hset.2 b (fun e1=>hne e1.symm)).trans hb1
  refine .inr ⟨n,v,_,hnv,hn,hkey ▸ hval ▸ hrun,⟨⟨es,clock,since,seen.push e.born,clock,hb',hst,hes,hset.1,hold,hsk,hsk,fun x hx m hm=>?_⟩,h.ok,h.nodup,?_,?_⟩,?_,?_,?_,?_⟩
  ·rw [contains_push,List.mem_append,List.mem_singleton,Bool.or_eq_true,hseen x hx m hm,beq_iff_eq]
   constructor
   ·rintro (h1 | h1)
    ·exact .inl h1
    ·right
     have:=born_inj hst2.2.1 hx hem h1
     subst this
     exact zgz (hm.symm.trans hkey)
   ·rintro (h1 | h1)
    ·exact .inl h1
    ·right
     subst h1
     by_cases hxe:x = e
     ·rw [hxe]
     ·exact absurd (hm.trans hkey.symm) (fun hk=>hxe (entry_eq_of_key hst2.2.2 hx hem hk))
  ·exact List.nodup_append.2 ⟨h.sn,by simp,fun a ha c hc e=>hn (by rw [List.mem_singleton.1 hc] at e;exact e ▸ ha)⟩
  ·intro m hm
   rcases List.mem_append.1 hm with h1 | h1
   ·exact h.sub m h1
   ·rw [List.mem_singleton.1 h1]
    exact List.mem_map.2 ⟨_,hnv,rfl⟩
  ·have hr':(setBlock w1 r (.mapIter (some b) since (seen.push e.born) clock)).heap[r]? = some (.mapIter (some b) since (seen.push e.born) clock):=hset.1
   simp only [World.rangeLeft,hb,hr,hb',hr']
   exact left_shrinks es seen e he
  ·rcases hal with rfl | rfl <;> exact ⟨rfl,rfl,rfl,by simp [setBlock],fun i _ hi=>hset.2 i (fun e1=>hi (by rw [e1]))⟩
  ·rcases hal with rfl | rfl <;> simp [setBlock]
  ·rw [← hkey,← hval]
   exact run_entry_at _ r b since seen es clock e hset.1 hb' hem hst2.2.1
theorem z7b {ops:Array Oper} {rest:List Oper} {o:Oper} {a:Act} {Q:Exit → Act → World → Prop} (hg:o.guard = none) (m:Operand) (t:TypeId) (hop:o.op = Op.range t m) (k e:TypeId) (ht:P.underlying t = some (.map k e))
 (hm:a.eval m = .map (some b)) (h:MapN b L w)
 (hK:∀ w',Hid (IterN b w.heap.size L [] w') → Hid (w.grownBy w' none) → Hid (Below w.heap.size w w') → wpList P ops Q rest (a.put o.dst (.pointer (some ⟨w.heap.size,0,none⟩))) w') :
 wpList P ops Q (o :: rest) a w:=by
 refine wpList_plain hg fun K' hK'=>?_
 obtain ⟨w',hrun,r1,r2,r3,_⟩:=h.range ht
 unfold Oper.wp
 simp [execOp,hop,hm,hrun,Result.andThen]
 exact hK' _ _ (hK w' (Lib.hid r1) (Lib.hid r2) (Lib.hid r3))
theorem z7r {ops:Array Oper} {rest:List Oper} {o:Oper} {a:Act} {Q:Exit → Act → World → Prop} (hg:o.guard = none) (it:Operand) (hop:o.op = Op.next it false)
 (hit:a.eval it = .pointer (some ⟨r,0,none⟩)) (h:IterN b r L S w)
 (hDone:Hid (S.Perm (L.map (·.1))) → wpList P ops Q rest (a.put o.dst (.tuple #[.bool false])) w)
 (hMore:∀ n v w',Hid ((n,v) ∈ L) → Hid (n ∉ S) → Hid (IterN b r L (S ++ [n]) w') → Hid (w'.rangeLeft b r < w.rangeLeft b r) → Hid (w.grownBy w' (some r)) → (Instr.entry (.pointer (some ⟨r,0,none⟩))).run P w' = .ok (.tuple #[.agg (z07 .u8 n).toArray,v]) w' →
  wpList P ops Q rest (a.put o.dst (.tuple #[.bool true,.agg (z07 .u8 n).toArray,v])) w') :
 wpList P ops Q (o :: rest) a w:=by
 refine wpList_plain hg fun K' hK'=>?_
 unfold Oper.wp
 rcases h.next (P:=P) o.type with ⟨h0,hrun⟩ | ⟨n,v,w',h1,h2,hrun,h3,h4,h5,_,h6⟩
 ·simp [execOp,hop,hit,hrun,Result.andThen]
  exact hK' _ _ (hDone (Lib.hid h0))
 ·simp [execOp,hop,hit,hrun,Result.andThen]
  exact hK' _ _ (hMore n v w' (Lib.hid h1) (Lib.hid h2) (Lib.hid h3) (Lib.hid h4) (Lib.hid h5) h6)
end
end Go.Proofs.YtnbldbbbibpobaaGreatDoor
namespace Go.Proofs.YtnbldbbbibpobaaGreatDoor
open Go.RowKit
theorem z6s {ad:Addr} {L:List (List Nat)} {w:World} (h:IAt (some ad) L w) (hL:Ids L):∀ j u,(z1o L)[j]? = some u → w.cell? (ad.add j) = some u:=by
 intro j u hj
 rcases h with rfl | ⟨b,o,h1,h2,h3⟩
 ·cases hj
 ·cases h1
  have hlt:=(List.getElem?_eq_some_iff.1 hj).1
  rw [z1a hL] at hlt
  obtain ⟨q,m,rfl,hm⟩:∃ q m,j = 32 * q + m ∧ m < 32:=⟨j / 32,j % 32,by omega,Nat.mod_lt _ (by decide)⟩
  rw [z6y hL (by omega) hm] at hj
  rw [Addr.add_mid,← Nat.add_assoc]
  exact h3 q (by omega) m u hj
theorem z0w {P:Program} {w:World} {ops:Array Oper} {rest:List Oper} {o:Oper} {a:Act} {Q:Exit → Act → World → Prop} (hgd:o.guard = none) (s x:Operand) (t e:TypeId)
 (ho:o.op = .call { callee:=.builtin .append,args:=#[s,x],argTypes:=#[t,t] })
 (B:Nat) (z:Value) (hzs:z.cells.size = 32) (ht:P.underlying t = some (.slice e)) (hinfo:(P.info? e).map (fun i=>(i.zero,i.size,i.bytes)) = some (some z,32,32))
 (v:Value) (L M:List (List Nat)) (hM:Ids M) (ao:Option Addr) (n c:Nat) (hn:n = M.length) (hs:a.eval s = v) (hown:OwnI B e v L w) (hx:a.eval x = .slice ao n c) (hsrc:IAt ao M w) (hnil:ao = none → c = 0)
 (h63:L.length + M.length ≤ 1000000) (hB:B ≤ w.heap.size)
 (h:∀ v' w',Hid (OwnI B e v' (L ++ M) w') → Hid (w.grownBy w' v.ownBlock) → Hid (v'.ownBlock = v.ownBlock ∨ v'.ownBlock = some w.heap.size) → wpList P ops Q rest (a.put o.dst v') w'):wpList P ops Q (o :: rest) a w:=by
 obtain ⟨i,hi,hz0,hz1,hz2⟩:=info_parts hinfo
 cases ao with
 | none =>
   obtain rfl:=hnil rfl
   have hm:M = []:=by
    rcases hsrc with h | ⟨b,o',h,_⟩
    ·exact h
    ·cases h
   subst hm
   subst hn
   refine wpList_append_own_none hgd s x _ ho B e i 32 ht hi v L.length (z1o L) hs hown hx (h _ _ ?_ ⟨rfl,rfl,rfl,Nat.le_refl _,fun _ _ _=>rfl⟩ (.inl rfl))
   rw [List.append_nil]
   exact hown
 | some ad =>
   subst hn
   refine wpList_append_own_at w hgd s x _ ho B e i z 32 32 ht hi hz0 hz1 hz2 hzs (by decide) v L.length (z1o L) hs hown ad M.length c (z1o M) hx (z1a hM) (z6s hsrc hM) (zbs M) (by unfold maxLen;omega) (by omega) hB ?_
   intro v' w' h2 hg _ h3
   refine h v' w' ?_ hg h3
   show w'.ownsRow B e 32 v' (L ++ M).length (z1o (L ++ M))
   rw [List.length_append,z2h]
   exact h2
theorem z5c {P:Program} {w:World} {ops:Array Oper} {rest:List Oper} {o:Oper} {a:Act} {Q:Exit → Act → World → Prop} (hgd:o.guard = none) (s x:Operand) (t e:TypeId)
 (ho:o.op = .call { callee:=.builtin .append,args:=#[s,x],argTypes:=#[t,t] })
 (z:Value) (hzs:z.cells.size = 32) (ht:P.underlying t = some (.slice e)) (hinfo:(P.info? e).map (fun i=>(i.zero,i.size,i.bytes)) = some (some z,32,32))
 (L M:List (List Nat)) (hL:Ids L) (hM:Ids M) (ao:Option Addr) (k:Nat) (hk:k = L.length) (ad:Addr) (n c:Nat) (hn:n = M.length) (h0:0 < n) (hs:a.eval s = .slice ao k k) (hsrc:IAt ao L w) (hx:a.eval x = .slice (some ad) n c) (hnews:IAt (some ad) M w)
 (h63:L.length + M.length ≤ 1000000)
 (h:∀ v' w',Hid (OwnI w.heap.size e v' (L ++ M) w') → Hid (Below w.heap.size w w') → wpList P ops Q rest (a.put o.dst v') w'):wpList P ops Q (o :: rest) a w:=by
 obtain ⟨i,hi,hz0,hz1,hz2⟩:=info_parts hinfo
 subst hk hn
 cases ao with
 | none =>
   have hl:L = []:=by
    rcases hsrc with h | ⟨b,o',h,_⟩
    ·exact h
    ·cases h
   subst hl
   refine z0w hgd s x t e ho w.heap.size z hzs ht hinfo (.slice none 0 0) [] M hM (some ad) M.length c rfl hs (World.ownsRow_nil _ _ _ _) hx hnews (fun h=>by cases h) h63 (Nat.le_refl _) ?_
   intro v' w' h1 h2 _
   exact h v' w' h1 ((Below.refl _ _).grown h2.out (Nat.le_refl _) (fun g hg=>by cases hg))
 | some b =>
   have hr:=run_append_grow (P:=P) w t o.type e i z ht hi hz0 b L.length L.length (z1o L) (by rw [z1a hL,hz1]) (z6s hsrc hL) ad M.length c (z1o M) (by rw [z1a hM,hz1]) (z6s hnews hM) (by omega) (by omega) (growslice_fits (by omega) (by rw [hz2];omega))
   have hge:=grownCap_ge w (L.length + M.length) L.length e
   have hcm:=grownCap_le_maxLen w (L.length + M.length) L.length e (by unfold maxLen;omega)
   refine wpList_plain hgd fun K hK=>?_
   unfold Oper.wp execOp
   simp only [ho,resolve,invoke,builtin,Sem.run_bind,Sem.run_pure,Result.andThen_ok,List.map_toArray,List.map_cons,List.map_nil,hs,hx,hr]
   refine hK _ _ (h _ _ ⟨?_,.inr ⟨w.heap.size,_,_,?_,Nat.le_refl _,heap_alloc_new w.drew _,?_,hcm,?_,?_⟩⟩ ((z0q (Below.refl _ w) 1).alloc (Nat.le_refl _) _))
   ·rw [z2h,List.length_append,z1a hL,z1a hM,List.length_append]
    omega
   ·rw [List.length_append]
   ·rw [List.length_append]
    exact hge
   ·simp only [Array.size_append,List.size_toArray,size_zeroCells,hzs,z1a hL,z1a hM]
    omega
   ·simp only [Array.toList_append]
    rw [z2h,List.length_append,List.take_append_of_le_length (by rw [List.length_append,z1a hL,z1a hM];omega),List.take_of_length_le (by rw [List.length_append,z1a hL,z1a hM];omega)]
end Go.Proofs.YtnbldbbbibpobaaGreatDoor
