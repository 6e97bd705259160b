/-
  Joined: Rows of operations whose names lie off certain blocks (X: what may yet turn): read, pushed, appended.; Names appended: a slice that need not be anybody's row, onto a row of one's own; one name onto a full slice.; The document's set of operations, as it lies in memory.; The document's set while it is turned: one of its four rows is another now.; The document's Compare, Good.; In a region whose order is open: an operation by its law for a list; operations that make memory one behind the other (a chain) among others that do not.
-/
import Derived.Laws.AppendOwnNone
import Derived.Test.YtnbldbbbibpobaaGreatDoorJ01
import Derived.Test.YtnbldbbbibpobaaGreatDoorJ02
import Derived.Test.YtnbldbbbibpobaaGreatDoorJ03
import Derived.Test.YtnbldbbbibpobaaGreatDoorJ04
set_option maxRecDepth 100000
set_option maxHeartbeats 2000000
namespace Go.Proofs.YtnbldbbbibpobaaGreatDoor
open Go.RowKit Go.BigFrame
def OffX (X:Nat → Prop) (pa:Option Addr) (L:List (List Nat)):Prop:=∀ a,pa = some a → L ≠ [] → ¬ X a.block
theorem OffX.mono {X Y:Nat → Prop} {pa:Option Addr} {L:List (List Nat)} (h:OffX X pa L) (k:∀ b,Y b → X b):OffX Y pa L:=fun a ha h0 hy=>h a ha h0 (k _ hy)
theorem OffX.fresh {X:Nat → Prop} {pa:Option Addr} {L:List (List Nat)} {w:World} (h:OffX X pa L) (hi:IAt pa L w):OffX (fun b=>X b ∨ w.heap.size ≤ b) pa L:=fun a ha h0 hy=>by
 rcases hy with hy | hy
 ·exact h a ha h0 hy
 ·have:=hi.lt h0 ha
  omega
theorem IAt.only {O:Nat → Prop} {pa:Option Addr} {L:List (List Nat)} {w w':World} (h:IAt pa L w) (k:Only O w w') (hO:OffX O pa L):IAt pa L w':=by
 rcases h with h | ⟨b,o,rfl,h2,h3⟩
 ·exact .inl h
 ·by_cases h0:L = []
  ·exact .inl h0
  ·exact .inr ⟨b,o,rfl,Nat.lt_of_lt_of_le h2 k.size,fun i hi j v hv=>(World.cell?_of_block (a:=⟨b,o + 32 * i + j,none⟩) (k.block b h2 (hO _ rfl h0))).trans (h3 i hi j v hv)⟩
def OpX (X:Nat → Prop) (b o:Nat) (x:OpN) (w:World):Prop:=∃ pa pc,w.rangeAt b o (opL x pa pc) ∧ IAt pa x.preds w ∧ OffX X pa x.preds
def OpsX (X:Nat → Prop) (ao:Option Addr) (L:List OpN) (w:World):Prop :=
 L = [] ∨ ∃ b o,ao = some ⟨b,o,none⟩ ∧ b < w.heap.size ∧ ∀ (i:Nat) (x:OpN),L[i]? = some x → OpX X b (o + i * 38) x w
theorem OpsX.below {X:Nat → Prop} {ao:Option Addr} {L:List OpN} {w w':World} (h:OpsX X ao L w) (hb:Below w.heap.size w w'):OpsX X ao L w':=by
 rcases h with h | ⟨b,o,h1,h2,h3⟩
 ·exact .inl h
 ·refine .inr ⟨b,o,h1,Nat.lt_of_lt_of_le h2 hb.size,fun i x hx=>?_⟩
  obtain ⟨pa,pc,q1,q2,q3⟩:=h3 i x hx
  exact ⟨pa,pc,z0g q1 hb h2,q2.below hb,q3⟩
theorem OpsX.get {X:Nat → Prop} {ao:Option Addr} {L:List OpN} {w:World} (h:OpsX X ao L w) {i:Nat} {x:OpN} (hx:L[i]? = some x):∃ b o,ao = some ⟨b,o,none⟩ ∧ b < w.heap.size ∧ OpX X b (o + i * 38) x w:=by
 rcases h with rfl | ⟨b,o,h1,h2,h3⟩
 ·cases hx
 ·exact ⟨b,o,h1,h2,h3 i x hx⟩
theorem OpsX.cells {X:Nat → Prop} {ad:Addr} {L:List OpN} {w:World} (h:OpsX X (some ad) L w) (hd:∀ x ∈ L,x.d.ref.length = 32) :
 ∃ C:List (List Value),Wide 38 C ∧ C.length = L.length ∧ (∀ j u,C.flatten[j]? = some u → w.cell? (ad.add j) = some u) ∧ ∀ (i:Nat) (x:OpN),L[i]? = some x → ∃ pa pc,C[i]? = some (opL x pa pc) ∧ IAt pa x.preds w ∧ OffX X pa x.preds:=by
 rcases h with rfl | ⟨b,o,h1,h2,h3⟩
 ·exact ⟨[],Wide.nil _,rfl,fun j u hu=>(by cases hu),fun i x hx=>(by cases hx)⟩
 ·cases h1
  have hE:∀ i,i < L.length → ∃ p:Option Addr × Nat,w.rangeAt b (o + i * 38) (opL (L.getD i z05) p.1 p.2) ∧ IAt p.1 (L.getD i z05).preds w ∧ OffX X p.1 (L.getD i z05).preds:=fun i hi=>by
   obtain ⟨pa,pc,hq⟩:=h3 i (L.getD i z05) (by rw [List.getD_eq_getElem?_getD,List.getElem?_eq_getElem hi];rfl)
   exact ⟨(pa,pc),hq⟩
  let F:Nat → List Value:=fun i=>if h:i < L.length then opL (L.getD i z05) (hE i h).choose.1 (hE i h).choose.2 else []
  have hF:∀ i (h:i < L.length),F i = opL (L.getD i z05) (hE i h).choose.1 (hE i h).choose.2:=fun i h=>by simp only [F,dif_pos h]
  have hW:Wide 38 ((List.range L.length).map F):=fun x hx=>by
   obtain ⟨i,hi,rfl⟩:=List.mem_map.1 hx
   have hi:=List.mem_range.1 hi
   rw [hF i hi]
   exact z2i (hd _ (by rw [List.getD_eq_getElem?_getD,List.getElem?_eq_getElem hi];exact List.getElem_mem hi))
  refine ⟨(List.range L.length).map F,hW,by simp,fun j u hu=>?_,fun i x hx=>?_⟩
  ·have hj:=(List.getElem?_eq_some_iff.1 hu).1
   rw [zbt hW,List.length_map,List.length_range] at hj
   obtain ⟨i,m,rfl,hm,hi⟩:=block_of (K:=38) (q:=j) (n:=L.length) (by decide)
   have hi:=hi hj
   rw [zfe hW (by simpa using hi) hm,List.getD_eq_getElem?_getD,List.getElem?_map,List.getElem?_range hi,Option.map_some,Option.getD_some,hF i hi] at hu
   have:=(hE i hi).choose_spec.1 m u hu
   rw [Addr.add_mid,show o + (38 * i + m) = o + i * 38 + m by omega]
   exact this
  ·have hi:=(List.getElem?_eq_some_iff.1 hx).1
   have hxi:L.getD i z05 = x:=by rw [List.getD_eq_getElem?_getD,hx];rfl
   have hsp:=(hE i hi).choose_spec
   have hFi:=hF i hi
   obtain ⟨p,hp⟩:∃ p,(hE i hi).choose = p:=⟨_,rfl⟩
   rw [hp] at hsp hFi
   rw [hxi] at hsp hFi
   exact ⟨p.1,p.2,by rw [List.getElem?_map,List.getElem?_range hi,Option.map_some,hFi],hsp.2.1,hsp.2.2⟩
def OwnX (X:Nat → Prop) (B:Nat) (e:TypeId) (v:Value) (L:List OpN) (w:World):Prop :=
 ∃ C:List (List Value),w.ownsRow B e 38 v L.length C.flatten ∧ Wide 38 C ∧ C.length = L.length ∧ ∀ (i:Nat) (x:OpN),L[i]? = some x → ∃ pa pc,C[i]? = some (opL x pa pc) ∧ IAt pa x.preds w ∧ OffX X pa x.preds
theorem OwnX.nil (X:Nat → Prop) (B:Nat) (e:TypeId) (w:World):OwnX X B e (.slice none 0 0) [] w:=⟨[],World.ownsRow_nil _ _ _ _,Wide.nil _,rfl,fun i x hx=>by cases hx⟩
theorem OwnX.lit (X:Nat → Prop) (e:TypeId) (w:World):OwnX X w.heap.size e (.slice (some ⟨w.heap.size,0,none⟩) 0 0) [] (w.alloc (.cells #[] e)) :=
 ⟨[],World.ownsRow_lit w #[] 0 (Nat.le_refl _) (by unfold maxLen;omega) rfl,Wide.nil _,rfl,fun i x hx=>by cases hx⟩
theorem OwnX.form {X:Nat → Prop} {B:Nat} {e:TypeId} {v:Value} {L:List OpN} {w:World} (h:OwnX X B e v L w):∃ ao cap,v = .slice ao L.length cap:=by
 obtain ⟨C,h,_⟩:=h
 rcases h.2 with ⟨hv,h0⟩ | ⟨g,cap,cur,hv,_⟩
 ·exact ⟨none,0,by rw [hv,h0]⟩
 ·exact ⟨some ⟨g,0,none⟩,cap,hv⟩
theorem OwnX.lt {X:Nat → Prop} {B:Nat} {e:TypeId} {v:Value} {L:List OpN} {w:World} (h:OwnX X B e v L w) {g:Nat} (hg:v.ownBlock = some g):B ≤ g ∧ g < w.heap.size:=by
 obtain ⟨C,h1,_⟩:=h
 exact World.ownsRow.lt h1 g hg
theorem OwnX.mono {X Y:Nat → Prop} {B B':Nat} {e:TypeId} {v:Value} {L:List OpN} {w:World} (h:OwnX X B e v L w) (k:∀ b,Y b → X b) (hB:B' ≤ B):OwnX Y B' e v L w:=by
 obtain ⟨C,h1,h2,h3,h4⟩:=h
 refine ⟨C,⟨h1.1,?_⟩,h2,h3,fun i x hx=>?_⟩
 ·rcases h1.2 with h0 | ⟨g,cap,cur,hv,hg,r⟩
  ·exact Or.inl h0
  ·exact Or.inr ⟨g,cap,cur,hv,Nat.le_trans hB hg,r⟩
 ·obtain ⟨pa,pc,q1,q2,q3⟩:=h4 i x hx
  exact ⟨pa,pc,q1,q2,q3.mono k⟩
theorem OwnX.below {X:Nat → Prop} {B:Nat} {e:TypeId} {v:Value} {L:List OpN} {w w':World} (h:OwnX X B e v L w) (k:Below w.heap.size w w'):OwnX X B e v L w':=by
 obtain ⟨C,h1,h2,h3,h4⟩:=h
 refine ⟨C,World.ownsRow.kept (row:=none) h1 ⟨k.os,k.tape,k.output,k.size,fun i hi _=>k.block i hi⟩ (Classical.em _),h2,h3,fun i x hx=>?_⟩
 obtain ⟨pa,pc,q1,q2,q3⟩:=h4 i x hx
 exact ⟨pa,pc,q1,q2.below k,q3⟩
theorem OwnX.only {X O:Nat → Prop} {B:Nat} {e:TypeId} {v:Value} {L:List OpN} {w w':World} (h:OwnX X B e v L w) (k:Only O w w') (hO:∀ b,O b → X b) (hv:∀ g,v.ownBlock = some g → ¬ O g):OwnX X B e v L w':=by
 obtain ⟨C,h1,h2,h3,h4⟩:=h
 refine ⟨C,⟨h1.1,?_⟩,h2,h3,fun i x hx=>?_⟩
 ·rcases h1.2 with h0 | ⟨g,cap,cur,he,hB,hg,r⟩
  ·exact .inl h0
  ·exact .inr ⟨g,cap,cur,he,hB,(k.block g (lt_of_block hg) (hv g (by rw [he];rfl))).trans hg,r⟩
 ·obtain ⟨pa,pc,q1,q2,q3⟩:=h4 i x hx
  exact ⟨pa,pc,q1,q2.only k (q3.mono hO),q3⟩
theorem OwnX.at {X:Nat → Prop} {B:Nat} {e:TypeId} {ao:Option Addr} {n c:Nat} {L:List OpN} {w:World} (h:OwnX X B e (.slice ao n c) L w):OpsX X ao L w:=by
 obtain ⟨C,h1,h2,h3,h4⟩:=h
 by_cases h0:L = []
 ·exact .inl h0
 ·rcases h1.2 with ⟨hv,hz⟩ | ⟨g,cap,cur,hv,hB,hcell,_⟩
  ·exact absurd (List.length_eq_zero_iff.1 hz) h0
  ·obtain rfl:ao = some ⟨g,0,none⟩:=by injection hv
   refine .inr ⟨g,0,rfl,lt_of_block hcell,fun i x hx=>?_⟩
   obtain ⟨pa,pc,q1,q2,q3⟩:=h4 i x hx
   refine ⟨pa,pc,fun j v hj=>?_,q2,q3⟩
   have hi:i < C.length:=(List.getElem?_eq_some_iff.1 q1).1
   have hcd:C.getD i [] = opL x pa pc:=by rw [List.getD_eq_getElem?_getD,q1];rfl
   have hj38:j < 38:=by
    have h5:=(List.getElem?_eq_some_iff.1 hj).1
    have h6:=h2.getD hi
    rw [hcd] at h6
    omega
   have hc:=World.ownsRow.cells h1 (g:=g) rfl (38 * i + j) v
   rw [zfe h2 hi hj38,hcd,Addr.add_lit,Nat.zero_add] at hc
   rw [Nat.zero_add,Nat.mul_comm]
   exact hc hj
theorem z1g {P:Program} {w:World} {ops:Array Oper} {rest:List Oper} {o:Oper} {a:Act} {Q:Exit → Act → World → Prop} (hgd:o.guard = none) (s x:Operand) (t e:TypeId)
 (ho:o.op = .call { callee:=.builtin .append,args:=#[s,x],argTypes:=#[t,t] })
 (B bytes:Nat) (z:Value) (hzs:z.cells.size = 38) (hby:bytes ≤ 1024) (ht:P.underlying t = some (.slice e)) (hinfo:(P.info? e).map (fun i=>(i.zero,i.size,i.bytes)) = some (some z,38,bytes))
 (X:Nat → Prop) (v:Value) (L M:List OpN) (hM:∀ x ∈ M,x.d.ref.length = 32) (ad:Addr) (n c:Nat) (hn:n = M.length) (hs:a.eval s = v) (hown:OwnX X B e v L w) (hX:∀ g,v.ownBlock = some g → X g) (hx:a.eval x = .slice (some ad) n c)
 (hsrc:OpsX X (some ad) M w) (h63:L.length + M.length ≤ 1000000) (hB:B ≤ w.heap.size)
 (h:∀ v' w',Hid (OwnX (fun b=>X b ∨ w.heap.size ≤ b) B e v' (L ++ M) w') → Hid (w.grownBy w' v.ownBlock) → Hid (v'.ownBlock = v.ownBlock ∨ v'.ownBlock = some w.heap.size) → wpList P ops Q rest (a.put o.dst v') w'):wpList P ops Q (o :: rest) a w:=by
 obtain ⟨i,hi,hz0,hz1,hz2⟩:=info_parts hinfo
 obtain ⟨C,h1,h2,h3,h4⟩:=hown
 obtain ⟨D,d1,d2,d3,d4⟩:=hsrc.cells hM
 subst hn
 refine wpList_append_own_at w hgd s x _ ho B e i z 38 bytes ht hi hz0 hz1 hz2 hzs (by decide) v L.length C.flatten hs h1 ad M.length c D.flatten hx (by rw [zbt d1,d2]) d3 (fun u hu=>?_) (by unfold maxLen;omega)
  (Nat.le_trans (Nat.mul_le_mul (show L.length + M.length ≤ 1000000 by omega) hby) (by decide)) hB ?_
 ·obtain ⟨r,hr,hur⟩:=List.mem_flatten.1 hu
  obtain ⟨q,hq,rfl⟩:=List.getElem_of_mem hr
  obtain ⟨pa,pc,e1,_⟩:=d4 q (M[q]'(by omega)) (List.getElem?_eq_getElem _)
  rw [List.getElem?_eq_getElem hq] at e1
  rw [Option.some.inj e1] at hur
  exact zdy _ _ _ u hur
 ·intro v' w' q1 q2 _ q3
  refine h v' w' ⟨C ++ D,?_,?_,by rw [List.length_append,List.length_append,h3,d2],fun j y hj=>?_⟩ q2 q3
  ·rw [List.length_append,List.flatten_append]
   exact q1
  ·intro y hy
   exact (List.mem_append.1 hy).elim (h2 y) (d1 y)
  ·have hoff:∀ (pa:Option Addr) (K:List (List Nat)),IAt pa K w → OffX X pa K → IAt pa K w' ∧ OffX (fun b=>X b ∨ w.heap.size ≤ b) pa K:=fun pa K hk hx=>by
    refine ⟨hk.grown q2 (fun a ha h0 e=>hx a ha h0 (hX a.block e)),hx.fresh hk⟩
   by_cases hjl:j < L.length
   ·rw [List.getElem?_append_left hjl] at hj
    obtain ⟨pa,pc,r1,r2,r3⟩:=h4 j y hj
    exact ⟨pa,pc,by rw [List.getElem?_append_left (by omega)];exact r1,hoff pa _ r2 r3⟩
   ·rw [List.getElem?_append_right (by omega)] at hj
    obtain ⟨pa,pc,r1,r2,r3⟩:=d4 _ y hj
    exact ⟨pa,pc,by rw [List.getElem?_append_right (by omega),h3];exact r1,hoff pa _ r2 r3⟩
end Go.Proofs.YtnbldbbbibpobaaGreatDoor
namespace Go.Proofs.YtnbldbbbibpobaaGreatDoor
open Go.RowKit
theorem z62 {ad:Addr} {L:List (List Nat)} {w:World} (h:IAt (some ad) L w) (hL:Ids L):∀ j u,(z1w L)[j]? = some u → w.cell? (ad.add j) = some u:=by
 intro j u hj
 rcases h with rfl | ⟨b,o,h1,h2,h3⟩
 ·cases hj
 ·cases h1
  have hlt:=(List.getElem?_eq_some_iff.1 hj).1
  rw [z14 hL] at hlt
  obtain ⟨q,m,rfl,hm⟩:∃ q m,j = 32 * q + m ∧ m < 32:=⟨j / 32,j % 32,by omega,Nat.mod_lt _ (by decide)⟩
  rw [z3x hL (by omega) hm] at hj
  rw [Addr.add_mid,← Nat.add_assoc]
  exact h3 q (by omega) m u hj
theorem z0u {P:Program} {w:World} {ops:Array Oper} {rest:List Oper} {o:Oper} {a:Act} {Q:Exit → Act → World → Prop} (hgd:o.guard = none) (s x:Operand) (t e:TypeId)
 (ho:o.op = .call { callee:=.builtin .append,args:=#[s,x],argTypes:=#[t,t] })
 (B:Nat) (z:Value) (hzs:z.cells.size = 32) (ht:P.underlying t = some (.slice e)) (hinfo:(P.info? e).map (fun i=>(i.zero,i.size,i.bytes)) = some (some z,32,32))
 (v:Value) (L M:List (List Nat)) (hM:Ids M) (ao:Option Addr) (n c:Nat) (hn:n = M.length) (hs:a.eval s = v) (hown:OwnI B e v L w) (hx:a.eval x = .slice ao n c) (hsrc:IAt ao M w) (hnil:ao = none → c = 0)
 (h63:L.length + M.length ≤ 1000000) (hB:B ≤ w.heap.size)
 (h:∀ v' w',Hid (OwnI B e v' (L ++ M) w') → Hid (w.grownBy w' v.ownBlock) → Hid (v'.ownBlock = v.ownBlock ∨ v'.ownBlock = some w.heap.size) → wpList P ops Q rest (a.put o.dst v') w'):wpList P ops Q (o :: rest) a w:=by
 obtain ⟨i,hi,hz0,hz1,hz2⟩:=info_parts hinfo
 cases ao with
 | none =>
   obtain rfl:=hnil rfl
   have hm:M = []:=by
    rcases hsrc with h | ⟨b,o',h,_⟩
    ·exact h
    ·cases h
   subst hm
   subst hn
   refine wpList_append_own_none hgd s x _ ho B e i 32 ht hi v L.length (z1w L) hs hown hx (h _ _ ?_ ⟨rfl,rfl,rfl,Nat.le_refl _,fun _ _ _=>rfl⟩ (.inl rfl))
   rw [List.append_nil]
   exact hown
 | some ad =>
   subst hn
   refine wpList_append_own_at w hgd s x _ ho B e i z 32 32 ht hi hz0 hz1 hz2 hzs (by decide) v L.length (z1w L) hs hown ad M.length c (z1w M) hx (z14 hM) (z62 hsrc hM) (z9w M) (by unfold maxLen;omega) (by omega) hB ?_
   intro v' w' h2 hg _ h3
   refine h v' w' ?_ hg h3
   show w'.ownsRow B e 32 v' (L ++ M).length (z1w (L ++ M))
   rw [List.length_append,z2j]
   exact h2
theorem z4c {P:Program} {w:World} {ops:Array Oper} {rest:List Oper} {o:Oper} {a:Act} {Q:Exit → Act → World → Prop} (hgd:o.guard = none) (s x:Operand) (t e:TypeId)
 (ho:o.op = .call { callee:=.builtin .append,args:=#[s,x],argTypes:=#[t,t] })
 (z:Value) (hzs:z.cells.size = 32) (ht:P.underlying t = some (.slice e)) (hinfo:(P.info? e).map (fun i=>(i.zero,i.size,i.bytes)) = some (some z,32,32))
 (L M:List (List Nat)) (hL:Ids L) (hM:Ids M) (ao:Option Addr) (k:Nat) (hk:k = L.length) (ad:Addr) (n c:Nat) (hn:n = M.length) (h0:0 < n) (hs:a.eval s = .slice ao k k) (hsrc:IAt ao L w) (hx:a.eval x = .slice (some ad) n c) (hnews:IAt (some ad) M w)
 (h63:L.length + M.length ≤ 1000000)
 (h:∀ v' w',Hid (OwnI w.heap.size e v' (L ++ M) w') → Hid (Below w.heap.size w w') → wpList P ops Q rest (a.put o.dst v') w'):wpList P ops Q (o :: rest) a w:=by
 obtain ⟨i,hi,hz0,hz1,hz2⟩:=info_parts hinfo
 subst hk hn
 cases ao with
 | none =>
   have hl:L = []:=by
    rcases hsrc with h | ⟨b,o',h,_⟩
    ·exact h
    ·cases h
   subst hl
   refine z0u hgd s x t e ho w.heap.size z hzs ht hinfo (.slice none 0 0) [] M hM (some ad) M.length c rfl hs (World.ownsRow_nil _ _ _ _) hx hnews (fun h=>by cases h) h63 (Nat.le_refl _) ?_
   intro v' w' h1 h2 _
   exact h v' w' h1 ((Below.refl _ _).grown h2.out (Nat.le_refl _) (fun g hg=>by cases hg))
 | some b =>
   have hr:=run_append_grow (P:=P) w t o.type e i z ht hi hz0 b L.length L.length (z1w L) (by rw [z14 hL,hz1]) (z62 hsrc hL) ad M.length c (z1w M) (by rw [z14 hM,hz1]) (z62 hnews hM) (by omega) (by omega) (growslice_fits (by omega) (by rw [hz2];omega))
   have hge:=grownCap_ge w (L.length + M.length) L.length e
   have hcm:=grownCap_le_maxLen w (L.length + M.length) L.length e (by unfold maxLen;omega)
   refine wpList_plain hgd fun K hK=>?_
   unfold Oper.wp execOp
   simp only [ho,resolve,invoke,builtin,Sem.run_bind,Sem.run_pure,Result.andThen_ok,List.map_toArray,List.map_cons,List.map_nil,hs,hx,hr]
   refine hK _ _ (h _ _ ⟨?_,.inr ⟨w.heap.size,_,_,?_,Nat.le_refl _,heap_alloc_new w.drew _,?_,hcm,?_,?_⟩⟩ ((z11 (Below.refl _ w) 1).alloc (Nat.le_refl _) _))
   ·rw [z2j,List.length_append,z14 hL,z14 hM,List.length_append]
    omega
   ·rw [List.length_append]
   ·rw [List.length_append]
    exact hge
   ·simp only [Array.size_append,List.size_toArray,size_zeroCells,hzs,z14 hL,z14 hM]
    omega
   ·simp only [Array.toList_append]
    rw [z2j,List.length_append,List.take_append_of_le_length (by rw [List.length_append,z14 hL,z14 hM];omega),List.take_of_length_le (by rw [List.length_append,z14 hL,z14 hM];omega)]
open Go.BigFrame
def RefX (gs:Nat) (vo vw vn vq:Value):Nat → Prop:=fun b=>b = gs ∨ vo.ownBlock = some b ∨ vw.ownBlock = some b ∨ vn.ownBlock = some b ∨ vq.ownBlock = some b
structure RefAt (X:Nat → Prop) (gs:Nat) (vo vw vn vq:Value) (s:DagN) (w:World):Prop where
 cells:Cells gs 36 #[vo,vw,vn,vq] w
 ops:OwnX X 0 38 vo s.ops w
 wait:OwnX X 0 38 vw s.wait w
 names:OwnI 0 25 vn s.names w
 waits:OwnI 0 25 vq s.waits w
 mine:∀ b,RefX gs vo vw vn vq b → X b
 apart:∀ b,vo.ownBlock = some b → vw.ownBlock ≠ some b
 apartN:∀ b,vn.ownBlock = some b → vq.ownBlock ≠ some b
theorem z12 {L:List OpN}:Ids (L.map z0a):=fun x hx=>by
 obtain ⟨o,_,rfl⟩:=List.mem_map.1 hx
 exact ⟨z1u o,z2o o⟩
theorem RefAt.below {X:Nat → Prop} {gs:Nat} {vo vw vn vq:Value} {s:DagN} {w w':World} (h:RefAt X gs vo vw vn vq s w) (k:Below w.heap.size w w'):RefAt X gs vo vw vn vq s w' :=
 ⟨h.cells.below k,h.ops.below k,h.wait.below k,h.names.below k,h.waits.below k,h.mine,h.apart,h.apartN⟩
theorem RefAt.cell {X:Nat → Prop} {gs:Nat} {vo vw vn vq:Value} {s:DagN} {w:World} (h:RefAt X gs vo vw vn vq s w):w.cell? ⟨gs,0,none⟩ = some vo ∧ w.cell? ⟨gs,1,none⟩ = some vw ∧ w.cell? ⟨gs,2,none⟩ = some vn ∧ w.cell? ⟨gs,3,none⟩ = some vq :=
 ⟨by rw [h.cells.at];rfl,by rw [h.cells.at];rfl,by rw [h.cells.at];rfl,by rw [h.cells.at];rfl⟩
theorem z9y (X:Nat → Prop) (w:World) (hX:X w.heap.size):RefAt X w.heap.size (.slice none 0 0) (.slice none 0 0) (.slice none 0 0) (.slice none 0 0) DagN.new (w.alloc (.cells #[.slice none 0 0,.slice none 0 0,.slice none 0 0,.slice none 0 0] 36)) :=
 ⟨heap_alloc_new w _,OwnX.nil _ _ _ _,OwnX.nil _ _ _ _,OwnI.nil _ _ _,OwnI.nil _ _ _,(fun b hb=>by
  rcases hb with rfl | hb | hb | hb | hb
  ·exact hX
  all_goals cases hb),(fun b hb=>by cases hb),(fun b hb=>by cases hb)⟩
theorem z0x {B g n m:Nat} {e u:TypeId} {v:Value} {cs:List Value} {ds:Array Value} {w:World} (h:w.ownsRow B e n v m cs) (hc:Cells g u ds w) (hne:e ≠ u):v.ownBlock ≠ some g:=by
 intro hk
 rcases h.2 with ⟨h1,_⟩ | ⟨g',cap,cur,h1,_,h3,_⟩
 ·rw [h1] at hk
  cases hk
 ·rw [h1] at hk
  obtain rfl:g' = g:=by injection hk
  have h4:w.heap[g']? = some (.cells ds u (0,0)):=hc
  rw [h3] at h4
  injection h4 with h4
  injection h4 with _ h5
  exact hne h5
theorem z67 {B B' n n' m m':Nat} {e u:TypeId} {v v':Value} {cs ds:List Value} {w:World} (h:w.ownsRow B e n v m cs) (k:w.ownsRow B' u n' v' m' ds) (hne:e ≠ u) {g:Nat} (hg:v.ownBlock = some g):v'.ownBlock ≠ some g:=by
 rcases h.2 with ⟨h1,_⟩ | ⟨g1,cap,cur,h1,_,h3,_⟩
 ·rw [h1] at hg
  cases hg
 ·rw [h1] at hg
  obtain rfl:g1 = g:=by injection hg
  exact z0x k (show Cells g1 e cur w from h3) (Ne.symm hne)
structure RefL (X:Nat → Prop) (gs:Nat) (vo vw vn vq:Value) (A W:List OpN) (N Q:List (List Nat)) (w:World):Prop where
 cells:Cells gs 36 #[vo,vw,vn,vq] w
 ops:OwnX X 0 38 vo A w
 wait:OwnX X 0 38 vw W w
 names:OwnI 0 25 vn N w
 waits:OwnI 0 25 vq Q w
 mine:∀ b,RefX gs vo vw vn vq b → X b
 apart:∀ b,vo.ownBlock = some b → vw.ownBlock ≠ some b
 apartN:∀ b,vn.ownBlock = some b → vq.ownBlock ≠ some b
section
variable {X:Nat → Prop} {gs:Nat} {vo vw vn vq v:Value} {A W M:List OpN} {N Q K:List (List Nat)} {s:DagN} {w w':World}
theorem RefAt.l (h:RefAt X gs vo vw vn vq s w):RefL X gs vo vw vn vq s.ops s.wait s.names s.waits w:=⟨h.cells,h.ops,h.wait,h.names,h.waits,h.mine,h.apart,h.apartN⟩
theorem RefL.at (h:RefL X gs vo vw vn vq A W (A.map z0a) (W.map z0a) w):RefAt X gs vo vw vn vq ⟨A,W⟩ w:=⟨h.cells,h.ops,h.wait,h.names,h.waits,h.mine,h.apart,h.apartN⟩
theorem RefL.below (h:RefL X gs vo vw vn vq A W N Q w) (k:Below w.heap.size w w'):RefL X gs vo vw vn vq A W N Q w' :=
 ⟨h.cells.below k,h.ops.below k,h.wait.below k,h.names.below k,h.waits.below k,h.mine,h.apart,h.apartN⟩
theorem RefL.lt (h:RefL X gs vo vw vn vq A W N Q w) {b:Nat} (hb:RefX gs vo vw vn vq b):b < w.heap.size:=by
 rcases hb with rfl | hb | hb | hb | hb
 ·exact h.cells.lt
 ·exact (h.ops.lt hb).2
 ·exact (h.wait.lt hb).2
 ·exact (World.ownsRow.lt h.names b hb).2
 ·exact (World.ownsRow.lt h.waits b hb).2
theorem RefL.struct (h:RefL X gs vo vw vn vq A W N Q w):vo.ownBlock ≠ some gs ∧ vw.ownBlock ≠ some gs ∧ vn.ownBlock ≠ some gs ∧ vq.ownBlock ≠ some gs:=by
 obtain ⟨_,h1,_⟩:=h.ops
 obtain ⟨_,h2,_⟩:=h.wait
 exact ⟨z0x h1 h.cells (by decide),z0x h2 h.cells (by decide),z0x h.names h.cells (by decide),z0x h.waits h.cells (by decide)⟩
theorem RefL.cross (h:RefL X gs vo vw vn vq A W N Q w) {b:Nat}:(vo.ownBlock = some b → vn.ownBlock ≠ some b ∧ vq.ownBlock ≠ some b) ∧ (vw.ownBlock = some b → vn.ownBlock ≠ some b ∧ vq.ownBlock ≠ some b):=by
 obtain ⟨_,h1,_⟩:=h.ops
 obtain ⟨_,h2,_⟩:=h.wait
 exact ⟨fun hb=>⟨z67 h1 h.names (by decide) hb,z67 h1 h.waits (by decide) hb⟩,fun hb=>⟨z67 h2 h.names (by decide) hb,z67 h2 h.waits (by decide) hb⟩⟩
def Moved (v u:Value) (w:World):Prop:=∀ b,v.ownBlock = some b → u.ownBlock = some b ∨ w.heap.size ≤ b
theorem OwnI.only {O:Nat → Prop} {B:Nat} {e:TypeId} {v:Value} {L:List (List Nat)} {w w':World} (h:OwnI B e v L w) (k:Only O w w') (hv:∀ g,v.ownBlock = some g → ¬ O g):OwnI B e v L w':=by
 refine ⟨h.1,?_⟩
 rcases h.2 with h0 | ⟨g,cap,cur,he,hB,hg,r⟩
 ·exact .inl h0
 ·exact .inr ⟨g,cap,cur,he,hB,(k.block g (lt_of_block hg) (hv g (by rw [he];rfl))).trans hg,r⟩
theorem z75 {u:Value} {gs j:Nat} (k:Only (fun b=>u.ownBlock = some b) w w'):Only (fun b=>u.ownBlock = some b ∨ b = gs) w (w'.setCell ⟨gs,j,none⟩ v) :=
 (show Only (fun b=>u.ownBlock = some b ∨ b = gs) w w' from ⟨k.os,k.tape,k.output,k.size,fun i hi hn=>k.block i hi (fun e=>hn (.inl e))⟩).setCell _ _ (.inl (.inr rfl))
theorem z85 {gs j:Nat}:Only (fun b=>b = gs) w (w.setCell ⟨gs,j,none⟩ v):=(Only.refl _ _).setCell _ _ (.inl rfl)
theorem RefL.putOps (h:RefL X gs vo vw vn vq A W N Q w) (hX:∀ b,w.heap.size ≤ b → X b) (k:Only (fun b=>vo.ownBlock = some b) w w') (hv:OwnX X 0 38 v M w') (hm:Moved v vo w) :
 RefL X gs v vw vn vq M W N Q (w'.setCell ⟨gs,0,none⟩ v) ∧ Turn (RefX gs vo vw vn vq) (RefX gs v vw vn vq) w (w'.setCell ⟨gs,0,none⟩ v):=by
 obtain ⟨g1,g2,g3,g4⟩:=h.struct
 have hcs:=h.cells.only k (fun e=>g1 e)
 have k2:=z75 (v:=v) (gs:=gs) (j:=0) k
 have hPX:∀ b,(vo.ownBlock = some b ∨ b = gs) → X b:=fun b hb=>hb.elim (fun e=>h.mine b (.inr (.inl e))) (fun e=>h.mine b (.inl e))
 have hvg:v.ownBlock ≠ some gs:=by obtain ⟨_,h1,_⟩:=hv;exact z0x h1 hcs (by decide)
 refine ⟨⟨hcs.set 0 v,hv.only z85 (fun b hb=>h.mine b (.inl hb)) (fun g hg e=>hvg (e ▸ hg)),h.wait.only k2 hPX (fun g hg e=>e.elim (fun e=>h.apart g e hg) (fun e=>g2 (e ▸ hg))),h.names.only k2 (fun g hg e=>e.elim (fun e=>(h.cross.1 e).1 hg) (fun e=>g3 (e ▸ hg))),h.waits.only k2 (fun g hg e=>e.elim (fun e=>(h.cross.1 e).2 hg) (fun e=>g4 (e ▸ hg))),?_,?_,h.apartN⟩,⟨?_,?_⟩⟩
 ·rintro b (hb | hb | hb)
  ·exact h.mine b (.inl hb)
  ·exact (hm b hb).elim (fun e=>h.mine b (.inr (.inl e))) (hX b)
  ·exact h.mine b (.inr (.inr hb))
 ·intro b hb he
  rcases hm b hb with e | e
  ·exact h.apart b e he
  ·have:=(h.wait.lt he).2
   omega
 ·exact ⟨k2.os,k2.tape,k2.output,k2.size,fun i hi hn=>k2.block i hi (fun e=>hn (e.elim (fun e=>.inr (.inl e)) .inl))⟩
 ·rintro b (hb | hb | hb)
  ·exact .inl (.inl hb)
  ·exact (hm b hb).elim (fun e=>.inl (.inr (.inl e))) .inr
  ·exact .inl (.inr (.inr hb))
theorem RefL.putWait (h:RefL X gs vo vw vn vq A W N Q w) (hX:∀ b,w.heap.size ≤ b → X b) (k:Only (fun b=>vw.ownBlock = some b) w w') (hv:OwnX X 0 38 v M w') (hm:Moved v vw w) :
 RefL X gs vo v vn vq A M N Q (w'.setCell ⟨gs,1,none⟩ v) ∧ Turn (RefX gs vo vw vn vq) (RefX gs vo v vn vq) w (w'.setCell ⟨gs,1,none⟩ v):=by
 obtain ⟨g1,g2,g3,g4⟩:=h.struct
 have hcs:=h.cells.only k (fun e=>g2 e)
 have k2:=z75 (v:=v) (gs:=gs) (j:=1) k
 have hPX:∀ b,(vw.ownBlock = some b ∨ b = gs) → X b:=fun b hb=>hb.elim (fun e=>h.mine b (.inr (.inr (.inl e)))) (fun e=>h.mine b (.inl e))
 have hvg:v.ownBlock ≠ some gs:=by obtain ⟨_,h1,_⟩:=hv;exact z0x h1 hcs (by decide)
 refine ⟨⟨hcs.set 1 v,h.ops.only k2 hPX (fun g hg e=>e.elim (fun e=>h.apart g hg e) (fun e=>g1 (e ▸ hg))),hv.only z85 (fun b hb=>h.mine b (.inl hb)) (fun g hg e=>hvg (e ▸ hg)),h.names.only k2 (fun g hg e=>e.elim (fun e=>(h.cross.2 e).1 hg) (fun e=>g3 (e ▸ hg))),h.waits.only k2 (fun g hg e=>e.elim (fun e=>(h.cross.2 e).2 hg) (fun e=>g4 (e ▸ hg))),?_,?_,h.apartN⟩,⟨?_,?_⟩⟩
 ·rintro b (hb | hb | hb | hb)
  ·exact h.mine b (.inl hb)
  ·exact h.mine b (.inr (.inl hb))
  ·exact (hm b hb).elim (fun e=>h.mine b (.inr (.inr (.inl e)))) (hX b)
  ·exact h.mine b (.inr (.inr (.inr hb)))
 ·intro b hb he
  rcases hm b he with e | e
  ·exact h.apart b hb e
  ·have:=(h.ops.lt hb).2
   omega
 ·exact ⟨k2.os,k2.tape,k2.output,k2.size,fun i hi hn=>k2.block i hi (fun e=>hn (e.elim (fun e=>.inr (.inr (.inl e))) .inl))⟩
 ·rintro b (hb | hb | hb | hb)
  ·exact .inl (.inl hb)
  ·exact .inl (.inr (.inl hb))
  ·exact (hm b hb).elim (fun e=>.inl (.inr (.inr (.inl e)))) .inr
  ·exact .inl (.inr (.inr (.inr hb)))
theorem RefL.putNames (h:RefL X gs vo vw vn vq A W N Q w) (hX:∀ b,w.heap.size ≤ b → X b) (k:Only (fun b=>vn.ownBlock = some b) w w') (hv:OwnI 0 25 v K w') (hm:Moved v vn w) :
 RefL X gs vo vw v vq A W K Q (w'.setCell ⟨gs,2,none⟩ v) ∧ Turn (RefX gs vo vw vn vq) (RefX gs vo vw v vq) w (w'.setCell ⟨gs,2,none⟩ v):=by
 obtain ⟨g1,g2,g3,g4⟩:=h.struct
 have hcs:=h.cells.only k (fun e=>g3 e)
 have k2:=z75 (v:=v) (gs:=gs) (j:=2) k
 have hPX:∀ b,(vn.ownBlock = some b ∨ b = gs) → X b:=fun b hb=>hb.elim (fun e=>h.mine b (.inr (.inr (.inr (.inl e))))) (fun e=>h.mine b (.inl e))
 have hvg:v.ownBlock ≠ some gs:=z0x hv hcs (by decide)
 refine ⟨⟨hcs.set 2 v,h.ops.only k2 hPX (fun g hg e=>e.elim (fun e=>(h.cross.1 hg).1 e) (fun e=>g1 (e ▸ hg))),h.wait.only k2 hPX (fun g hg e=>e.elim (fun e=>(h.cross.2 hg).1 e) (fun e=>g2 (e ▸ hg))),hv.only z85 (fun g hg e=>hvg (e ▸ hg)),h.waits.only k2 (fun g hg e=>e.elim (fun e=>h.apartN g e hg) (fun e=>g4 (e ▸ hg))),?_,h.apart,?_⟩,⟨?_,?_⟩⟩
 ·rintro b (hb | hb | hb | hb | hb)
  ·exact h.mine b (.inl hb)
  ·exact h.mine b (.inr (.inl hb))
  ·exact h.mine b (.inr (.inr (.inl hb)))
  ·exact (hm b hb).elim (fun e=>h.mine b (.inr (.inr (.inr (.inl e))))) (hX b)
  ·exact h.mine b (.inr (.inr (.inr (.inr hb))))
 ·intro b hb he
  rcases hm b hb with e | e
  ·exact h.apartN b e he
  ·have:=(World.ownsRow.lt h.waits b he).2
   omega
 ·exact ⟨k2.os,k2.tape,k2.output,k2.size,fun i hi hn=>k2.block i hi (fun e=>hn (e.elim (fun e=>.inr (.inr (.inr (.inl e)))) .inl))⟩
 ·rintro b (hb | hb | hb | hb | hb)
  ·exact .inl (.inl hb)
  ·exact .inl (.inr (.inl hb))
  ·exact .inl (.inr (.inr (.inl hb)))
  ·exact (hm b hb).elim (fun e=>.inl (.inr (.inr (.inr (.inl e))))) .inr
  ·exact .inl (.inr (.inr (.inr (.inr hb))))
theorem RefL.putWaits (h:RefL X gs vo vw vn vq A W N Q w) (hX:∀ b,w.heap.size ≤ b → X b) (k:Only (fun b=>vq.ownBlock = some b) w w') (hv:OwnI 0 25 v K w') (hm:Moved v vq w) :
 RefL X gs vo vw vn v A W N K (w'.setCell ⟨gs,3,none⟩ v) ∧ Turn (RefX gs vo vw vn vq) (RefX gs vo vw vn v) w (w'.setCell ⟨gs,3,none⟩ v):=by
 obtain ⟨g1,g2,g3,g4⟩:=h.struct
 have hcs:=h.cells.only k (fun e=>g4 e)
 have k2:=z75 (v:=v) (gs:=gs) (j:=3) k
 have hPX:∀ b,(vq.ownBlock = some b ∨ b = gs) → X b:=fun b hb=>hb.elim (fun e=>h.mine b (.inr (.inr (.inr (.inr e))))) (fun e=>h.mine b (.inl e))
 have hvg:v.ownBlock ≠ some gs:=z0x hv hcs (by decide)
 refine ⟨⟨hcs.set 3 v,h.ops.only k2 hPX (fun g hg e=>e.elim (fun e=>(h.cross.1 hg).2 e) (fun e=>g1 (e ▸ hg))),h.wait.only k2 hPX (fun g hg e=>e.elim (fun e=>(h.cross.2 hg).2 e) (fun e=>g2 (e ▸ hg))),h.names.only k2 (fun g hg e=>e.elim (fun e=>h.apartN g hg e) (fun e=>g3 (e ▸ hg))),hv.only z85 (fun g hg e=>hvg (e ▸ hg)),?_,h.apart,?_⟩,⟨?_,?_⟩⟩
 ·rintro b (hb | hb | hb | hb | hb)
  ·exact h.mine b (.inl hb)
  ·exact h.mine b (.inr (.inl hb))
  ·exact h.mine b (.inr (.inr (.inl hb)))
  ·exact h.mine b (.inr (.inr (.inr (.inl hb))))
  ·exact (hm b hb).elim (fun e=>h.mine b (.inr (.inr (.inr (.inr e))))) (hX b)
 ·intro b hb he
  rcases hm b he with e | e
  ·exact h.apartN b hb e
  ·have:=(World.ownsRow.lt h.names b hb).2
   omega
 ·exact ⟨k2.os,k2.tape,k2.output,k2.size,fun i hi hn=>k2.block i hi (fun e=>hn (e.elim (fun e=>.inr (.inr (.inr (.inr e)))) .inl))⟩
 ·rintro b (hb | hb | hb | hb | hb)
  ·exact .inl (.inl hb)
  ·exact .inl (.inr (.inl hb))
  ·exact .inl (.inr (.inr (.inl hb)))
  ·exact .inl (.inr (.inr (.inr (.inl hb))))
  ·exact (hm b hb).elim (fun e=>.inl (.inr (.inr (.inr (.inr e))))) .inr
def Loc (O:Nat → Prop) (g:Nat) (w:World):Prop:=g < w.heap.size ∧ ¬ O g
theorem Loc.turn {O O':Nat → Prop} {g:Nat} {w w':World} (h:Loc O g w) (k:Turn O O' w w'):Loc O' g w' :=
 ⟨Nat.lt_of_lt_of_le h.1 k.only.size,fun e=>by
  rcases k.own g e with e | e
  ·exact h.2 e
  ·have:=h.1
   omega⟩
end
theorem zi9 {a b:List Nat} {i:Nat} (ha:i < a.length) (hb:i < b.length):z1s (a.drop i) (b.drop i) = if a[i] < b[i] then -1 else if b[i] < a[i] then 1 else z1s (a.drop (i + 1)) (b.drop (i + 1)):=by
 rw [List.drop_eq_getElem_cons ha,List.drop_eq_getElem_cons hb,z1s]
theorem cmpN_end {a b:List Nat} {i:Nat} (ha:a.length ≤ i):z1s (a.drop i) (b.drop i) = 0:=by
 rw [List.drop_eq_nil_of_le ha,z1s]
 intro x y z t h
 cases h
theorem zcx {g:Nat} {t:TypeId} {l:List Nat} {w:World} (h:Cells g t (z06 .u8 l).toArray w) {i:Nat} (hi:i < l.length):w.cell? ⟨g,i,none⟩ = some (.int .u8 (l[i]:Int)):=by
 rw [h.at,List.getElem?_toArray,z06,List.getElem?_map,List.getElem?_eq_getElem hi]
 rfl
theorem z6p (a b:List Nat) (ha:IdOk a) (hb:IdOk b) (w:World) :
 Calls Tryz.prog 53 #[.agg (z06 .u8 a).toArray,.agg (z06 .u8 b).toArray] w fun e w'=>e = .returned (.int .i64 (z1s a b)) ∧ Below w.heap.size w w':=by
 have b1:Below w.heap.size w (w.alloc (.cells (z06 .u8 a).toArray 25)):=(Below.refl _ _).alloc (Nat.le_refl _) _
 have x1:Cells w.heap.size 25 (z06 .u8 a).toArray (w.alloc (.cells (z06 .u8 a).toArray 25)):=heap_alloc_new w _
 have s1:(w.alloc (.cells (z06 .u8 a).toArray 25)).heap.size = w.heap.size + 1:=World.size_alloc _ _
 have b2:Below (w.alloc (.cells (z06 .u8 a).toArray 25)).heap.size (w.alloc (.cells (z06 .u8 a).toArray 25)) ((w.alloc (.cells (z06 .u8 a).toArray 25)).alloc (.cells (z06 .u8 b).toArray 25)):=(Below.refl _ _).alloc (Nat.le_refl _) _
 have x2:Cells (w.alloc (.cells (z06 .u8 a).toArray 25)).heap.size 25 (z06 .u8 b).toArray ((w.alloc (.cells (z06 .u8 a).toArray 25)).alloc (.cells (z06 .u8 b).toArray 25)):=heap_alloc_new _ _
 rw [s1] at x2
 have HX1:=Lib.hid (x1.below b2)
 have HX2:=Lib.hid x2
 have HB:=Lib.hid (b1.trans (b2.mono b1.size))
 have HA:=Lib.hid ha
 have HBB:=Lib.hid hb
 clear b1 x1 s1 b2 x2 ha hb
 go_enter Tryz.func53,Tryz.ntmps53
 go_upto_region 1 with (fail)
 obtain ⟨w2,hw2⟩:∃ x,x = ((w.alloc (.cells (z06 .u8 a).toArray 25)).alloc (.cells (z06 .u8 b).toArray 25)):=⟨_,rfl⟩
 rw [← hw2] at HX1 HX2 HB ⊢
 clear hw2
 go_wp2_with fail
 go_loopw [6] (fun i wr=>∃ k:Nat,k ≤ 32 ∧ i = .int .i64 k ∧ z1s (a.drop k) (b.drop k) = z1s a b ∧ Cells w.heap.size 25 (z06 .u8 a).toArray wr ∧ Cells (w.heap.size + 1) 25 (z06 .u8 b).toArray wr ∧ Below w.heap.size w wr) (fun i _=>32 - (intOf i).toNat)
 case atStart=>exact ⟨0,by omega,rfl,rfl,HX1.out,HX2.out,HB.out⟩
 case round =>
  obtain ⟨k,hk,rfl,hc,h1,h2,hb⟩:=hrel
  have HY1:=Lib.hid h1
  have HY2:=Lib.hid h2
  have HY:=Lib.hid hb
  have HC:=Shut.mk hc
  by_cases hlt:k < 32
  ·have hka:k < a.length:=by rw [HA.out.1];exact hlt
   have hkb:k < b.length:=by rw [HBB.out.1];exact hlt
   have c1:=zcx h1 hka
   have c2:=zcx h2 hkb
   have HS:=Shut.mk (zi9 hka hkb)
   have hxa:=HA.out.2 _ (List.getElem_mem hka)
   have hxb:=HBB.out.2 _ (List.getElem_mem hkb)
   obtain ⟨x,hx⟩:∃ x,a[k] = x:=⟨_,rfl⟩
   obtain ⟨y,hy⟩:∃ y,b[k] = y:=⟨_,rfl⟩
   rw [hx] at c1 HS hxa
   rw [hy] at c2 HS hxb
   clear hx hy hka hkb h1 h2 hb hc HX1 HX2 HB
   by_cases hxy:x < y
   ·have hxyi:(x:Int) < (y:Int):=by omega
    go_upto_region 4 with (fail)
    go_quiet (fail)
    go_wp2_with fail
    go_ret
    exact ⟨by rw [← HC.out,HS.out,if_pos hxy];rfl,z11 HY.out _⟩
   ·by_cases hyx:y < x
    ·have hyxi:(y:Int) < (x:Int):=by omega
     go_upto_region 4 with (fail)
     go_quiet (fail)
     obtain ⟨w3,hw3⟩:∃ x,x = wr.drewN nq:=⟨_,rfl⟩
     have c13:w3.cell? ⟨w.heap.size,k,none⟩ = some (.int .u8 (x:Int)):=by rw [hw3];exact c1
     have c23:w3.cell? ⟨w.heap.size + 1,k,none⟩ = some (.int .u8 (y:Int)):=by rw [hw3];exact c2
     have HZ:=Lib.hid (show Below w.heap.size w w3 by rw [hw3];exact z11 HY.out _)
     have HZ1:=Lib.hid (show Cells w.heap.size 25 (z06 .u8 a).toArray w3 by rw [hw3];exact HY1.out)
     have HZ2:=Lib.hid (show Cells (w.heap.size + 1) 25 (z06 .u8 b).toArray w3 by rw [hw3];exact HY2.out)
     rw [← hw3]
     clear hw3 c1 c2
     go_upto_region 6 with (fail)
     go_quiet (fail)
     go_wp2_with fail
     go_ret
     exact ⟨by rw [← HC.out,HS.out,if_neg hxy,if_pos hyx];rfl,z11 HZ.out _⟩
    ·have hxyi:¬ (x:Int) < (y:Int):=by omega
     have hyxi:¬ (y:Int) < (x:Int):=by omega
     go_upto_region 4 with (fail)
     go_quiet (fail)
     obtain ⟨w3,hw3⟩:∃ x,x = wr.drewN nq:=⟨_,rfl⟩
     have c13:w3.cell? ⟨w.heap.size,k,none⟩ = some (.int .u8 (x:Int)):=by rw [hw3];exact c1
     have c23:w3.cell? ⟨w.heap.size + 1,k,none⟩ = some (.int .u8 (y:Int)):=by rw [hw3];exact c2
     have HZ:=Lib.hid (show Below w.heap.size w w3 by rw [hw3];exact z11 HY.out _)
     have HZ1:=Lib.hid (show Cells w.heap.size 25 (z06 .u8 a).toArray w3 by rw [hw3];exact HY1.out)
     have HZ2:=Lib.hid (show Cells (w.heap.size + 1) 25 (z06 .u8 b).toArray w3 by rw [hw3];exact HY2.out)
     rw [← hw3]
     clear hw3 c1 c2
     go_upto_region 6 with (fail)
     go_quiet (fail)
     go_wp2_with fail
     exact ⟨⟨k + 1,by omega,by go_num,by rw [← HC.out,HS.out,if_neg hxy,if_neg hyx],HZ1.out,HZ2.out,z11 HZ.out _⟩,by simp [intOf];omega⟩
  ·obtain rfl:k = 32:=by omega
   rw [cmpN_end (by rw [HA.out.1];exact Nat.le_refl _)] at HC
   clear h1 h2 hb hc HX1 HX2 HB
   go_wp2_with fail
   go_ret
   exact ⟨by rw [← HC.out];rfl,HY.out⟩
end Go.Proofs.YtnbldbbbibpobaaGreatDoor
namespace Go.Proofs.YtnbldbbbibpobaaGreatDoor
open Go.RowKit
theorem z1i {P:Program} {ops:Array Oper} {o:Oper} {a:Act} {w:World} {K:Act → World → Prop} {Q:Exit → Act → World → Prop} (hg:o.guard = none)
 (h:wpList P ops (fun e a w=>e = Exit.normal ∧ K a w) [o] a w):OpWp P o a w K Q:=by
 refine ⟨?_⟩
 unfold wpList at h
 simp only [Region.wanted,hg,if_true] at h
 rcases h with h | ⟨_,a',w',h,_⟩
 ·unfold Oper.wp at *
  generalize (execOp a.eval o).run P w = r at *
  cases r with
  | ok n w' =>
    cases n <;> simp only [Oper.upon] at h ⊢ <;> first
     | exact h.2
     | exact Rows.mono h (fun _ _ he=>he.2)
     | (refine Calls.mono h (fun e w'' he => ?_)
        cases e with
        | returned v=>exact he.2
        | panicked c=>cases he.1
        | outgrown =>
          obtain ⟨_,_,h0,_⟩:=he
          cases h0)
  | halt x w' =>
    cases x <;> simp only [Oper.upon] at h ⊢
    cases h.1
 ·cases h
theorem z5v {P:Program} {ops:Array Oper} {rest:List Oper} {o:Oper} {a:Act} {w:World} {Q:Exit → Act → World → Prop} (hgd:o.guard = none) (t:TypeId) (x y:Operand) (ho:o.op = .slice t x (some y) none none) (vx vy r:Value) (hx:a.eval x = vx) (hy:a.eval y = vy)
 (hr:∀ w,(Instr.sliceAt t vx (some vy) none none).run P w = .ok r w) (h:wpList P ops Q rest (a.put o.dst r) w):wpList P ops Q (o :: rest) a w:=by
 refine wpList_plain hgd fun K hK=>?_
 unfold Oper.wp execOp
 simp only [ho,Option.map_some,Option.map_none,hx,hy,Sem.run_bind,hr w,Result.andThen_ok,Sem.run_pure]
 exact hK _ _ h
theorem za3 {P:Program} {o:Oper} {a:Act} {w:World} {K:Act → World → Prop} {Q:Exit → Act → World → Prop} (t:TypeId) (x y:Operand) (ho:o.op = .slice t x (some y) none none) (vx vy r:Value) (hx:a.eval x = vx) (hy:a.eval y = vy)
 (hr:∀ w,(Instr.sliceAt t vx (some vy) none none).run P w = .ok r w) (h:K (a.put o.dst r) w):OpWp P o a w K Q:=by
 refine ⟨?_⟩
 unfold Oper.wp execOp
 simp only [ho,Option.map_some,Option.map_none,hx,hy,Sem.run_bind,hr w,Result.andThen_ok,Sem.run_pure]
 exact h
theorem z9h {P:Program} {o:Oper} {a:Act} {w:World} {K:Act → World → Prop} {Q:Exit → Act → World → Prop} (t:TypeId) (x y:Operand) (ho:o.op = .slice t x none (some y) none) (vx vy r:Value) (hx:a.eval x = vx) (hy:a.eval y = vy)
 (hr:∀ w,(Instr.sliceAt t vx none (some vy) none).run P w = .ok r w) (h:K (a.put o.dst r) w):OpWp P o a w K Q:=by
 refine ⟨?_⟩
 unfold Oper.wp execOp
 simp only [ho,Option.map_some,Option.map_none,hx,hy,Sem.run_bind,hr w,Result.andThen_ok,Sem.run_pure]
 exact h
theorem za5 {P:Program} {o:Oper} {a:Act} {w:World} {K:Act → World → Prop} {Q:Exit → Act → World → Prop} (t:TypeId) (x y z:Operand) (ho:o.op = .slice t x none (some y) (some z)) (vx vy vz r:Value) (hx:a.eval x = vx) (hy:a.eval y = vy) (hz:a.eval z = vz)
 (hr:∀ w,(Instr.sliceAt t vx none (some vy) (some vz)).run P w = .ok r w) (h:K (a.put o.dst r) w):OpWp P o a w K Q:=by
 refine ⟨?_⟩
 unfold Oper.wp execOp
 simp only [ho,Option.map_some,Option.map_none,hx,hy,hz,Sem.run_bind,hr w,Result.andThen_ok,Sem.run_pure]
 exact h
structure Chain (c:List Nat) (A:World → Prop) (M:Nat → Value → World → Prop) (s:Nat → Bool) (V:Nat → Value) (w:World):Prop where
 always:A w
 now:∃ m,m ≤ c.length ∧ (∀ p,p < c.length → s (c.getD p 0) = decide (p < m)) ∧ M m (V (c.getD (m - 1) 0)) w
section
variable {c:List Nat} {A:World → Prop} {M:Nat → Value → World → Prop} {s:Nat → Bool} {V:Nat → Value} {w w':World}
theorem Chain.none (hA:A w) (hM:∀ v,M 0 v w):Chain c A M (fun _=>false) V w:=⟨hA,0,Nat.zero_le _,fun _ _=>rfl,hM _⟩
theorem zgx {c:List Nat} {k p:Nat} (hc:k ∉ c) (hp:p < c.length):c.getD p 0 ≠ k:=fun h=>hc (by
 rw [List.getD_eq_getElem?_getD,List.getElem?_eq_getElem hp] at h
 rw [← h]
 exact List.getElem_mem hp)
theorem Chain.ne {k:Nat} {v:Value} (h:Chain c A M s V w) (hc:k ∉ c) (h0:0 < c.length):Chain c A M (fun n=>s n || n == k) (upd V k v) w:=by
 obtain ⟨hA,m,hm,hs,hM⟩:=h
 refine ⟨hA,m,hm,fun p hp=>?_,?_⟩
 ·have:=zgx hc hp
  show (s (c.getD p 0) || c.getD p 0 == k) = _
  rw [← hs p hp,beq_false_of_ne this,Bool.or_false]
 ·rw [z1r V v (zgx hc (by omega))]
  exact hM
theorem Chain.at (h:Chain c A M s V w) (p:Nat) (hp:p < c.length) (hu:s (c.getD p 0) = false) (hd:p = 0 ∨ s (c.getD (p - 1) 0) = true):M p (V (c.getD (p - 1) 0)) w:=by
 obtain ⟨_,m,hm,hs,hM⟩:=h
 have h1:=hs p hp
 rw [hu] at h1
 have h1:¬ p < m:=of_decide_eq_false h1.symm
 have h2:p ≤ m:=by
  rcases hd with rfl | hd
  ·exact Nat.zero_le _
  ·have h3:=hs (p - 1) (by omega)
   rw [hd] at h3
   have:=of_decide_eq_true h3.symm
   omega
 obtain rfl:m = p:=by omega
 exact hM
theorem Chain.step {v:Value} (h:Chain c A M s V w) (p:Nat) (hp:p < c.length) (hn:∀ q,q < c.length → q ≠ p → c.getD q 0 ≠ c.getD p 0) (hu:s (c.getD p 0) = false) (hd:p = 0 ∨ s (c.getD (p - 1) 0) = true) (hA:A w') (hM:M (p + 1) v w') :
 Chain c A M (fun n=>s n || n == c.getD p 0) (upd V (c.getD p 0) v) w':=by
 obtain ⟨_,m,hm,hs,_⟩:=h
 have h1:=hs p hp
 rw [hu] at h1
 have h1:¬ p < m:=of_decide_eq_false h1.symm
 have h2:p ≤ m:=by
  rcases hd with rfl | hd
  ·exact Nat.zero_le _
  ·have h3:=hs (p - 1) (by omega)
   rw [hd] at h3
   have:=of_decide_eq_true h3.symm
   omega
 obtain rfl:m = p:=by omega
 refine ⟨hA,m + 1,by omega,fun q hq=>?_,?_⟩
 ·show (s (c.getD q 0) || c.getD q 0 == c.getD m 0) = _
  rw [hs q hq]
  by_cases hqm:q = m
  ·subst hqm
   simp
  ·have hne:c.getD q 0 ≠ c.getD m 0:=hn q hq hqm
   have e1:(c.getD q 0 == c.getD m 0) = false:=beq_false_of_ne hne
   rw [e1,Bool.or_false]
   exact decide_eq_decide.2 (by omega)
 ·rw [Nat.add_sub_cancel,z28]
  exact hM
theorem Chain.fin (h:Chain c A M s V w) (hall:∀ p,p < c.length → s (c.getD p 0) = true):M c.length (V (c.getD (c.length - 1) 0)) w:=by
 obtain ⟨_,m,hm,hs,hM⟩:=h
 by_cases h0:m < c.length
 ·have:=hs m h0
  rw [hall m h0] at this
  exact absurd (of_decide_eq_true this.symm) (by omega)
 ·obtain rfl:m = c.length:=by omega
  exact hM
end
end Go.Proofs.YtnbldbbbibpobaaGreatDoor
