/-
  Joined: Rows of operations with their names (layer 11's 'placed'); a row of operations made whole, and filled one by one.; The developers' present: the operations that are there and wanted, each with its name.; Sorting a row of operations with their names: the order, what lies where, before and after.; The developers' compare of operations with their names.; The developers' arranged: what is there and wanted, in the row's order.
-/
import Derived.Shelf.SlSortCmp.NoneTotal
import Derived.Shelf.SlSortCmp.WholeK
import Derived.Sort.Grow
import Derived.Test.YtnbldbbbibpobaaGreatDoorJ04
import Derived.Test.YtnbldbbbibpobaaGreatDoorJ05
import Derived.Test.YtnbldbbbibpobaaGreatDoorJ06
import Derived.Test.YtnbldbbbibpobaaGreatDoorJ07
import Derived.Test.YtnbldbbbibpobaaGreatDoorJ08
import Derived.Test.YtnbldbbbibpobaaGreatDoorJ17
import Derived.Test.YtnbldbbbibpobaaGreatDoorJ18
set_option maxRecDepth 100000
set_option maxHeartbeats 4000000
namespace Go.Proofs.YtnbldbbbibpobaaGreatDoor
open Go.RowKit Go.BigFrame Go.Sort Go.Shelf
def plL (x:OpN) (pa:Option Addr) (pc:Nat):List Value:=opL x pa pc ++ z07 .u8 (z00 x)
def plV (x:OpN) (pa:Option Addr) (pc:Nat):Array Value:=(plL x pa pc).toArray
theorem z2e {x:OpN} {pa:Option Addr} {pc:Nat} (h:x.d.ref.length = 32):(plL x pa pc).length = 70:=by
 rw [plL,List.length_append,z16 h,z0y,z0p]
theorem z80 (x:OpN) (pa:Option Addr) (pc:Nat):∀ u ∈ plL x pa pc,u.oneCell' = true:=fun u hu=>by
 rcases List.mem_append.1 hu with hu | hu
 ·exact zbf _ _ _ u hu
 ·exact z5i _ _ u hu
theorem zik {b o:Nat} {x:OpN} {pa:Option Addr} {pc:Nat} {w:World} (hr:x.d.ref.length = 32) (h:w.rangeAt b o (plL x pa pc)):w.rangeAt b o (opL x pa pc) ∧ w.rangeAt b (o + 38) (z07 .u8 (z00 x)):=by
 have hl:=z16 (pa:=pa) (pc:=pc) hr
 refine ⟨fun j v hj=>h j v ?_,fun j v hj=>?_⟩
 ·have hjl:=(List.getElem?_eq_some_iff.1 hj).1
  rw [plL,List.getElem?_append_left hjl]
  exact hj
 ·have:=h (38 + j) v (by rw [plL,List.getElem?_append_right (by omega),hl,Nat.add_sub_cancel_left];exact hj)
  rwa [show o + 38 + j = o + (38 + j) by omega]
theorem zcf {b o:Nat} {x:OpN} {pa:Option Addr} {pc:Nat} {w:World} (hr:x.d.ref.length = 32) (h:w.rangeAt b o (opL x pa pc)):w.cell? ⟨b,o + 36,none⟩ = some (.int .i64 x.depth):=by
 have hl:=z0u hr
 exact h 36 _ (by rw [opL,List.getElem?_append_right (by omega),hl];rfl)
def OwnP (B:Nat) (e:TypeId) (v:Value) (L:List OpN) (w:World):Prop :=
 ∃ C:List (List Value),w.ownsRow B e 70 v L.length C.flatten ∧ Wide 70 C ∧ C.length = L.length ∧ ∀ (i:Nat) (x:OpN),L[i]? = some x → ∃ pa pc,C[i]? = some (plL x pa pc) ∧ IAt pa x.preds w ∧ ∀ a,pa = some a → x.preds ≠ [] → v.ownBlock ≠ some a.block
theorem OwnP.nil (B:Nat) (e:TypeId) (w:World):OwnP B e (.slice none 0 0) [] w:=⟨[],World.ownsRow_nil _ _ _ _,Wide.nil _,rfl,fun i x hx=>by cases hx⟩
theorem OwnP.form {B:Nat} {e:TypeId} {v:Value} {L:List OpN} {w:World} (h:OwnP B e v L w):∃ ao cap,v = .slice ao L.length cap:=by
 obtain ⟨C,h,_⟩:=h
 rcases h.2 with ⟨hv,h0⟩ | ⟨g,cap,cur,hv,_⟩
 ·exact ⟨none,0,by rw [hv,h0]⟩
 ·exact ⟨some ⟨g,0,none⟩,cap,hv⟩
theorem OwnP.formB {B:Nat} {e:TypeId} {v:Value} {L:List OpN} {w:World} (h:OwnP B e v L w):v = .slice none 0 0 ∧ L = [] ∨ ∃ g cap,v = .slice (some ⟨g,0,none⟩) L.length cap ∧ L.length ≤ cap ∧ B ≤ g ∧ g < w.heap.size:=by
 obtain ⟨C,h,_⟩:=h
 rcases h.2 with ⟨hv,h0⟩ | ⟨g,cap,cur,hv,hB,hg,hc,_⟩
 ·exact .inl ⟨hv,List.length_eq_zero_iff.1 h0⟩
 ·exact .inr ⟨g,cap,hv,hc,hB,lt_of_block hg⟩
theorem OwnP.lt {B:Nat} {e:TypeId} {v:Value} {L:List OpN} {w:World} (h:OwnP B e v L w) {g:Nat} (hg:v.ownBlock = some g):B ≤ g ∧ g < w.heap.size:=by
 obtain ⟨C,h1,_⟩:=h
 exact World.ownsRow.lt h1 g hg
theorem OwnP.below {B:Nat} {e:TypeId} {v:Value} {L:List OpN} {w w':World} (h:OwnP B e v L w) (k:Below w.heap.size w w'):OwnP B e v L w':=by
 obtain ⟨C,h1,h2,h3,h4⟩:=h
 refine ⟨C,World.ownsRow.kept (row:=none) h1 ⟨k.os,k.tape,k.output,k.size,fun i hi _=>k.block i hi⟩ (Classical.em _),h2,h3,fun i x hx=>?_⟩
 obtain ⟨pa,pc,q1,q2,q3⟩:=h4 i x hx
 exact ⟨pa,pc,q1,q2.below k,q3⟩
theorem OwnP.mono {B B':Nat} {e:TypeId} {v:Value} {L:List OpN} {w:World} (h:OwnP B e v L w) (hB:B' ≤ B):OwnP B' e v L w:=by
 obtain ⟨C,h1,h2,h3,h4⟩:=h
 refine ⟨C,⟨h1.1,?_⟩,h2,h3,h4⟩
 rcases h1.2 with h0 | ⟨g,cap,cur,hv,hg,r⟩
 ·exact Or.inl h0
 ·exact Or.inr ⟨g,cap,cur,hv,Nat.le_trans hB hg,r⟩
theorem OwnP.get {B g n c:Nat} {e:TypeId} {L:List OpN} {w:World} (h:OwnP B e (.slice (some ⟨g,0,none⟩) n c) L w) {i:Nat} {x:OpN} (hx:L[i]? = some x):g < w.heap.size ∧ ∃ pa pc,w.rangeAt g (70 * i) (plL x pa pc) ∧ IAt pa x.preds w ∧ ∀ a,pa = some a → x.preds ≠ [] → g ≠ a.block:=by
 obtain ⟨C,h1,h2,h3,h4⟩:=h
 obtain ⟨pa,pc,q1,q2,q3⟩:=h4 i x hx
 refine ⟨(World.ownsRow.lt h1 g rfl).2,pa,pc,fun j v hj=>?_,q2,fun a ha h0 e=>q3 a ha h0 (by rw [← e];rfl)⟩
 have hi:i < C.length:=(List.getElem?_eq_some_iff.1 q1).1
 have hcd:C.getD i [] = plL x pa pc:=by rw [List.getD_eq_getElem?_getD,q1];rfl
 have hj70:j < 70:=by
  have h5:=(List.getElem?_eq_some_iff.1 hj).1
  have h6:=h2.getD hi
  rw [hcd] at h6
  omega
 have hc:=World.ownsRow.cells h1 (g:=g) rfl (70 * i + j) v
 rw [z5h h2 hi hj70,hcd,Addr.add_lit,Nat.zero_add] at hc
 exact hc hj
theorem zac {P:Program} {w:World} {ops:Array Oper} {rest:List Oper} {o:Oper} {a:Act} {Q:Exit → Act → World → Prop} (hgd:o.guard = none) (s x:Operand) (t e:TypeId)
 (ho:o.op = .call { callee:=.builtin .append,args:=#[s,x],argTypes:=#[t,t] })
 (B bytes:Nat) (z:Value) (hzs:z.cells.size = 70) (hby:bytes ≤ 1024) (ht:P.underlying t = some (.slice e)) (hinfo:(P.info? e).map (fun i=>(i.zero,i.size,i.bytes)) = some (some z,70,bytes))
 (v:Value) (L:List OpN) (y:OpN) (pa:Option Addr) (pc:Nat) (hy:y.d.ref.length = 32) (hpa:IAt pa y.preds w) (hne:∀ a,pa = some a → y.preds ≠ [] → v.ownBlock ≠ some a.block) (ad:Addr) (c:Nat) (hs:a.eval s = v) (hown:OwnP B e v L w) (hx:a.eval x = .slice (some ad) 1 c)
 (hnews:∀ j u,(plL y pa pc)[j]? = some u → w.cell? (ad.add j) = some u) (h63:L.length ≤ 1000000) (hB:B ≤ w.heap.size)
 (h:∀ v' w',Hid (OwnP B e v' (L ++ [y]) w') → Hid (Below B w w') → Hid (w.grownBy w' v.ownBlock) → wpList P ops Q rest (a.put o.dst v') w'):wpList P ops Q (o :: rest) a w:=by
 obtain ⟨i,hi,hz0,hz1,hz2⟩:=info_parts hinfo
 obtain ⟨C,h1,h2,h3,h4⟩:=hown
 have hul:(plL y pa pc).length = 70:=z2e hy
 refine wpList_append_own_at w hgd s x _ ho B e i z 70 bytes ht hi hz0 hz1 hz2 hzs (by decide) v L.length C.flatten hs h1 ad 1 c (plL y pa pc) hx (by rw [hul]) hnews (z80 y pa pc) (by unfold maxLen;omega)
  (Nat.le_trans (Nat.mul_le_mul (show L.length + 1 ≤ 1000001 by omega) hby) (by decide)) hB ?_
 intro v' w' q1 q2 _ q3
 refine h v' w' ⟨C ++ [plL y pa pc],?_,h2.snoc hul,by rw [List.length_append,List.length_append,h3];rfl,fun j x' hj=>?_⟩ ((Below.refl B w).grown q2 hB (fun k hk=>(World.ownsRow.lt h1 k hk).1)) q2
 ·rw [List.length_append,List.flatten_append,List.flatten_cons,List.flatten_nil,List.append_nil]
  exact q1
 ·have hold:∀ (a:Addr) (M:List (List Nat)),IAt (some a) M w → M ≠ [] → v.ownBlock ≠ some a.block → v'.ownBlock ≠ some a.block:=fun a M hM h0 hv e=>by
   rcases q3 with q3 | q3
   ·exact hv (q3 ▸ e)
   ·rw [q3] at e
    have:=hM.lt h0 rfl
    simp only [Option.some.injEq] at e
    omega
  by_cases hjl:j < L.length
  ·rw [List.getElem?_append_left hjl] at hj
   obtain ⟨pa',pc',r1,r2,r3⟩:=h4 j x' hj
   refine ⟨pa',pc',by rw [List.getElem?_append_left (by omega)];exact r1,r2.grown q2 r3,?_⟩
   rintro a rfl h0
   exact hold a _ r2 h0 (r3 a rfl h0)
  ·rw [List.getElem?_append_right (by omega)] at hj
   obtain rfl:j = L.length:=by
    have:=(List.getElem?_eq_some_iff.1 hj).1
    simp only [List.length_singleton] at this
    omega
   simp only [Nat.sub_self,List.getElem?_cons_zero,Option.some.injEq] at hj
   subst hj
   refine ⟨pa,pc,by rw [List.getElem?_append_right (by omega),h3];simp,hpa.grown q2 hne,?_⟩
   rintro a rfl h0
   exact hold a _ hpa h0 (hne a rfl h0)
theorem z3k {P:Program} {w:World} {ops:Array Oper} {rest:List Oper} {o:Oper} {a:Act} {Q:Exit → Act → World → Prop} (hgd:o.guard = none) (t e:TypeId) (x:Operand) (ho:o.op = .buildSlice t 1 #[(0,x)]) (us:List Value) (hx:a.eval x = .agg us.toArray)
 (hr:∀ w,(Instr.buildSlice t 1 #[(0,.agg us.toArray)]).run P w = .ok (.slice (some ⟨w.heap.size,0,none⟩) 1 1) (w.alloc (.cells us.toArray e)))
 (h:∀ w',Hid (Cells w.heap.size e us.toArray w') → Hid (Below w.heap.size w w') → wpList P ops Q rest (a.put o.dst (.slice (some ⟨w.heap.size,0,none⟩) 1 1)) w'):wpList P ops Q (o :: rest) a w :=
 wpList_plain hgd fun _ hK=>(z8k t e x ho us hx hr (hK _ _ (h _ (Lib.hid (heap_alloc_new w _)) (Lib.hid ((Below.refl _ _).alloc (Nat.le_refl _) _))))).out
theorem Cells.news {g:Nat} {t:TypeId} {us:List Value} {w:World} (h:Cells g t us.toArray w):∀ j u,us[j]? = some u → w.cell? ((⟨g,0,none⟩:Addr).add j) = some u:=fun j u hj=>by
 rw [Addr.add_lit,Nat.zero_add,h.at,List.getElem?_toArray]
 exact hj
theorem OwnO.formB {B:Nat} {e:TypeId} {v:Value} {L:List OpN} {w:World} (h:OwnO B e v L w):v = .slice none 0 0 ∧ L = [] ∨ ∃ g cap,v = .slice (some ⟨g,0,none⟩) L.length cap ∧ L.length ≤ cap ∧ B ≤ g ∧ g < w.heap.size:=by
 obtain ⟨C,h,_⟩:=h
 rcases h.2 with ⟨hv,h0⟩ | ⟨g,cap,cur,hv,hB,hg,hc,_⟩
 ·exact .inl ⟨hv,List.length_eq_zero_iff.1 h0⟩
 ·exact .inr ⟨g,cap,hv,hc,hB,lt_of_block hg⟩
theorem OwnO.mono {B B':Nat} {e:TypeId} {v:Value} {L:List OpN} {w:World} (h:OwnO B e v L w) (hB:B' ≤ B):OwnO B' e v L w:=by
 obtain ⟨C,h1,h2,h3,h4⟩:=h
 refine ⟨C,⟨h1.1,?_⟩,h2,h3,h4⟩
 rcases h1.2 with h0 | ⟨g,cap,cur,hv,hg,r⟩
 ·exact Or.inl h0
 ·exact Or.inr ⟨g,cap,cur,hv,Nat.le_trans hB hg,r⟩
theorem zf1 (n:Nat):(madeCells (Value.agg (opV z05 none 0)).cells (n * 38)).toList = (List.replicate n (opL z05 none 0)).flatten:=by
 have hW:Wide 38 (List.replicate n (opL z05 none 0)):=fun x hx=>by
  rw [(List.mem_replicate.1 hx).2];rfl
 have hl:=z4i hW
 rw [List.length_replicate] at hl
 refine List.ext_getElem? fun j=>?_
 by_cases hj:j < n * 38
 ·obtain ⟨q,m,rfl,hm,hq⟩:=zan (K:=38) (q:=j) (n:=n) (by decide)
  rw [z5h hW (by rw [List.length_replicate];exact hq hj) hm,List.getD_eq_getElem?_getD,List.getElem?_replicate,if_pos (hq hj),Option.getD_some]
  simp only [madeCells,Array.getElem?_toList]
  rw [Array.getElem?_eq_getElem (by simpa using hj)]
  simp only [Array.getElem_map,Array.getElem_range]
  rw [show (38 * q + m) % (Value.agg (opV z05 none 0)).cells.size = m from by
   show (38 * q + m) % 38 = m
   omega]
  have hm':m < (opL z05 none 0).length:=hm
  rw [List.getElem?_eq_getElem hm']
  show some ((opV z05 none 0)[m]!) = _
  rw [getElem!_pos (opV z05 none 0) m hm]
  rfl
 ·rw [List.getElem?_eq_none (by simp [madeCells];omega),List.getElem?_eq_none (by omega)]
theorem OwnO.made {B g n:Nat} {e:TypeId} {w:World} (h:w.ownsRow B e 38 (.slice (some ⟨g,0,none⟩) n n) n (madeCells (Value.agg (opV z05 none 0)).cells (n * 38)).toList) :
 OwnO B e (.slice (some ⟨g,0,none⟩) n n) (List.replicate n z05) w:=by
 refine ⟨List.replicate n (opL z05 none 0),?_,fun x hx=>?_,by rw [List.length_replicate,List.length_replicate],fun i x hx=>?_⟩
 ·rw [List.length_replicate,← zf1]
  exact h
 ·rw [(List.mem_replicate.1 hx).2];rfl
 ·have hi:=(List.getElem?_eq_some_iff.1 hx).1
  rw [List.length_replicate] at hi
  rw [List.getElem?_replicate,if_pos hi] at hx
  cases hx
  exact ⟨none,0,by rw [List.getElem?_replicate,if_pos hi],.inl rfl,fun a ha=>by cases ha⟩
theorem OwnO.there {B g n c i:Nat} {e:TypeId} {L:List OpN} {w:World} (hn:n = L.length) (h:OwnO B e (.slice (some ⟨g,0,none⟩) n c) L w) (hi:i < n):w.there g (38 * i) 38:=by
 subst hn
 obtain ⟨C,h1,h2,h3,h4⟩:=h
 have hf:=z4i h2
 intro j hj
 exact ⟨by rw [World.ownsRow.cellAt h1 (38 * i + j) (by omega),List.getElem?_eq_getElem (by rw [hf,h3];omega)];rfl,World.ownsRow.frozenAt h1 (38 * i + j)⟩
theorem OwnO.set {B g n c i:Nat} {e:TypeId} {L:List OpN} {w:World} (hn:n = L.length) (h:OwnO B e (.slice (some ⟨g,0,none⟩) n c) L w) (hi:i < n) {x:OpN} {pa:Option Addr} {pc:Nat} (hx:x.d.ref.length = 32) (hpa:IAt pa x.preds w) (hoff:∀ a,pa = some a → x.preds ≠ [] → g ≠ a.block) :
 OwnO B e (.slice (some ⟨g,0,none⟩) n c) (L.set i x) (w.setCells g (38 * i) (opL x pa pc)):=by
 subst hn
 obtain ⟨C,h1,h2,h3,h4⟩:=h
 have hl:=z16 (pa:=pa) (pc:=pc) hx
 have hb:But g w (w.setCells g (38 * i) (opL x pa pc)):=But.cells _ _ _ (But.refl _ _)
 have hk:∀ (qa:Option Addr) (K:List (List Nat)),IAt qa K w → (∀ a,qa = some a → K ≠ [] → g ≠ a.block) → IAt qa K (w.setCells g (38 * i) (opL x pa pc)):=fun qa K hq ho =>
  hq.only ((Only.refl (fun b=>b = g) w).but hb (.inl rfl)) (fun a ha h0 e=>ho a ha h0 e.symm)
 refine ⟨C.set i (opL x pa pc),?_,h2.set i hl,by rw [List.length_set,List.length_set,h3],fun j y hj=>?_⟩
 ·rw [List.length_set,flat_set (by decide) h2 (by omega) hl]
  exact z9z (opL x pa pc) _ (38 * i) w h1
 ·by_cases hji:i = j
  ·subst hji
   rw [List.getElem?_set_self (by omega)] at hj
   cases hj
   exact ⟨pa,pc,by rw [List.getElem?_set_self (by omega)],hk pa _ hpa hoff,fun a ha h0 e=>hoff a ha h0 (by injection e)⟩
  ·rw [List.getElem?_set_ne hji] at hj
   obtain ⟨qa,qc,r1,r2,r3⟩:=h4 j y hj
   exact ⟨qa,qc,by rw [List.getElem?_set_ne hji];exact r1,hk qa _ r2 (fun a ha h0 e=>r3 a ha h0 (by rw [← e];rfl)),r3⟩
theorem zaq {P:Program} {w:World} {ops:Array Oper} {rest:List Oper} {o:Oper} {a:Act} {Q:Exit → Act → World → Prop} (hgd:o.guard = none) (ty:TypeId) (x y:Operand) (ho:o.op = .store ty x y) (hd:o.dst = none)
 (B g n c i off:Nat) (e:TypeId) (L:List OpN) (z:OpN) (pa:Option Addr) (pc:Nat) (hn:n = L.length) (hoff:off = 38 * i) (hx:a.eval x = .pointer (some ⟨g,off,none⟩)) (hy:a.eval y = .agg (opV z pa pc))
 (hO:OwnO B e (.slice (some ⟨g,0,none⟩) n c) L w) (hi:i < n) (hz:z.d.ref.length = 32) (hpa:IAt pa z.preds w) (ho':∀ a,pa = some a → z.preds ≠ [] → g ≠ a.block) (hty:(P.info? ty).map (·.size) = some 38)
 (h:∀ w',Hid (OwnO B e (.slice (some ⟨g,0,none⟩) n c) (L.set i z) w') → Hid (But g w w') → wpList P ops Q rest a w'):wpList P ops Q (o :: rest) a w:=by
 subst hoff
 have hs:(opV z pa pc).size = 38:=by rw [opV,List.size_toArray,z16 hz]
 refine wpList_store_mid hgd ty x y ho g (38 * i) _ hx hy (by rw [hs];exact hO.there hn hi) (by rw [hs];exact hty) (all_oneCell_toArray (zbf z pa pc)) ?_
 rw [hd]
 refine h _ ?_ ?_
 ·exact (hO.set hn hi hz hpa ho')
 ·exact (But.cells _ _ _ (But.refl _ _))
end Go.Proofs.YtnbldbbbibpobaaGreatDoor
namespace Go.Proofs.YtnbldbbbibpobaaGreatDoor
open Go.RowKit Go.BigFrame
def zeo (L:List OpN) (n:List Nat):OpN:=(L.find? fun o=>decide (z00 o = n)).getD z05
theorem ze5 {L:List OpN} (hd:(L.map z00).Nodup) {o:OpN} (ho:o ∈ L):zeo L (z00 o) = o:=by
 unfold zeo
 cases he:L.find? (fun x=>decide (z00 x = z00 o)) with
 | none =>
   have:=List.find?_eq_none.1 he o ho
   simp at this
 | some y =>
   have h1:=List.mem_of_find?_eq_some he
   have h2:=List.find?_some he
   exact z4a hd h1 ho (by simpa using h2)
def z59 (L:List OpN) (K:OpN → Bool) (ns:List (List Nat)):List OpN:=(ns.map (zeo L)).filter K
theorem zjv {L:List OpN} {K:OpN → Bool} {ns:List (List Nat)} {k:Nat} (hk:k < ns.length):z59 L K (ns.take (k + 1)) = z59 L K (ns.take k) ++ if K (zeo L (ns.getD k [])) = true then [zeo L (ns.getD k [])] else []:=by
 rw [z59,List.take_succ_eq_append_getElem hk,List.map_append,List.filter_append,List.getD_eq_getElem?_getD,List.getElem?_eq_getElem hk]
 congr 1
 show List.filter K [zeo L ns[k]] = if K (zeo L ns[k]) = true then [zeo L ns[k]] else []
 by_cases h:K (zeo L ns[k]) = true
 ·rw [if_pos h,List.filter_cons_of_pos h];rfl
 ·rw [if_neg h,List.filter_cons_of_neg h];rfl
theorem zd0 {L:List OpN} {K:OpN → Bool} (hd:(L.map z00).Nodup):(z59 L K (z0g (L.map z00))).Perm (L.filter K):=by
 refine (((za8 _).map (zeo L)).trans ?_).filter K
 rw [List.map_map]
 have:L.map (zeo L ∘ z00) = L:=by
  conv=>rhs;rw [← List.map_id L]
  exact List.map_congr_left fun o ho=>ze5 hd ho
 rw [this]
theorem zfm {L:List OpN} {K:OpN → Bool} {ns:List (List Nat)}:(z59 L K ns).length ≤ ns.length:=by
 have:=List.length_filter_le K (ns.map (zeo L))
 rwa [List.length_map] at this
theorem z4r {P : Program} {w : World} {o : Oper} {a : Act} {Q : Exit → Act → World → Prop} {ops : Array Oper} {rest : List Oper} (hw : Region.wanted o (yielded ops a.tmps) = true) {f : FuncId} {fn : Func} (hf : P.funcs[f]? = some fn) (hname : (fn.name == "runtime.NumGoroutine") = false) (hb : fn.body.isNone = false)
 (x:Operand) (args:Array Operand) (ts:Array TypeId) (ho:o.op = .call { callee:=.value x,args:=args,argTypes:=ts }) (first caps:Array Value) (hx:a.eval x = .func (.func f) first caps) (vs:List Value) (hv:args.toList.map a.eval = vs) {C:Ending → World → Prop}
 (hc:Calls P f (first ++ vs.toArray ++ caps) w C) (h:∀ e w',C e w' → ∃ v,e = .returned v ∧ wpList P ops Q rest (a.put o.dst v) w'):wpList P ops Q (o :: rest) a w :=
 BigFrame.wpList_want hw fun _ hK=>(zjg hf hname hb ho first caps hx vs hv hc fun e w' he=>by
  obtain ⟨v,hv,hk⟩:=h e w' he
  exact ⟨v,hv,hK _ _ hk⟩).out
def zmb:Nat → Option (Nat × Nat):=fun i=>(#[(0,38),(38,32)]:Array (Nat × Nat))[i]?
theorem pl_fill (parts:List (Nat × Value)):Tryz.prog.built 99 parts = Instr.fill zmb (opL z05 none 0 ++ z07 .u8 zeroI).toArray parts:=by kernel_rfl
theorem built_pl (x:OpN) (pa:Option Addr) (pc:Nat) (hr:x.d.ref.length = 32):Tryz.prog.built 99 [(0,.agg (opV x pa pc)),(1,.agg (z07 .u8 (z00 x)).toArray)] = some (plV x pa pc):=by
 rw [pl_fill]
 refine (z4l zmb 0 0 38 (.agg (opV x pa pc)) _ [] (opL z05 none 0) (z07 .u8 zeroI) (opL x pa pc) rfl rfl (z16 hr) rfl rfl).trans ?_
 have h2:=z4l zmb 1 38 32 (.agg (z07 .u8 (z00 x)).toArray) [] (opL x pa pc) (z07 .u8 zeroI) [] (z07 .u8 (z00 x)) rfl rfl (by rw [z0y,z0p]) rfl (z16 hr)
 rw [List.append_nil] at h2
 refine h2.trans ?_
 rw [zaj,List.append_nil]
 rfl
theorem Tryz.infoPl:(Tryz.prog.info? 99).map (fun i=>(i.zero,i.size,i.bytes)) = some (some (.agg (opL z05 none 0 ++ z07 .u8 zeroI).toArray),70,144):=by kernel_rfl
theorem own_base {B:Nat} {e:TypeId} {pa:Option Addr} {n c:Nat} {L:List (List Nat)} {w:World} (h:OwnI B e (.slice pa n c) L w) (h0:L ≠ []) {a:Addr} (ha:pa = some a):B ≤ a.block:=by
 obtain ⟨g,cap,h1,h2,_⟩:=h.formB (List.length_pos_iff.2 h0)
 injection h1 with h1
 rw [ha] at h1
 injection h1 with h1
 rw [h1]
 exact h2
theorem opOf_in {L:List OpN} (hd:(L.map z00).Nodup) {n:List Nat} (hn:n ∈ L.map z00):zeo L n ∈ L ∧ z00 (zeo L n) = n:=by
 obtain ⟨o,ho,rfl⟩:=List.mem_map.1 hn
 rw [ze5 hd ho]
 exact ⟨ho,rfl⟩
theorem zci (X:Nat → Prop) (B:Bs) (T:Ents) (s:DagN) (hs:List (List Nat)) (M:Bh) (n:List Nat) (w:World) (h:SetAt X B T s hs M w) (hi:n ∈ s.names) (hd:s.names.Nodup) (ht:Tame s) (o:OpN) (ho:zeo s.ops n = o) :
 Calls Tryz.prog 19 #[.pointer (some ⟨B.gs,0,none⟩),.agg (z07 .u8 n).toArray] w fun e w'=>∃ pa pc,e = .returned (.tuple #[.agg (opV o pa pc),.int .i64 0]) ∧ OwnI w.heap.size 25 (.slice pa o.preds.length pc) o.preds w' ∧ Below w.heap.size w w':=by
 have hok:IdOk n:=by
  obtain ⟨y,_,rfl⟩:=List.mem_map.1 hi
  exact z1v y
 refine (dev_get X B T s hs M n w h hok ht.ops).mono ?_
 rintro e w' ⟨⟨y,pa,pc,h1,h2⟩,hb⟩
 obtain ⟨h3,h4,rfl⟩:=h2.resolve_right fun q=>q.1 hi
 have hy:y = o:=by rw [← ho,← h4];exact (ze5 hd h3).symm
 subst hy
 exact ⟨pa,pc,rfl,h1,hb⟩
theorem zb4 (X:Nat → Prop) (B:Bs) (T:Ents) (s:DagN) (hs:List (List Nat)) (M:Bh) (K:OpN → Bool) (f:FuncId) (fn:Func) (caps:Array Value) (w:World) (h:SetAt X B T s hs M w) (hn:s.names.Nodup) (ht:Tame s)
 (hfn : Tryz.prog.funcs[f]? = some fn) (hname : (fn.name == "runtime.NumGoroutine") = false) (hbody : fn.body.isNone = false)
 (hK:∀ x ∈ s.ops,∀ pa pc w',Below w.heap.size w w' → Calls Tryz.prog f (#[] ++ [Value.agg (opV x pa pc)].toArray ++ caps) w' fun e w''=>e = .returned (.bool (K x)) ∧ Below w'.heap.size w' w'') :
 Calls Tryz.prog 70 #[.pointer (some ⟨B.gs,0,none⟩),.func (.func f) #[] caps] w fun e w'=>∃ v,e = .returned v ∧ OwnP w.heap.size 99 v (z59 s.ops K (z0g s.names)) w' ∧ Below w.heap.size w w':=by
 have hops:s.ops.length ≤ 1000:=by have:=ht.many;omega
 have HN:=Lib.hid (zkk h (by omega))
 have HG:=Lib.hid (fun w' n (k:Below w.heap.size w w') (hi:n ∈ s.names)=>zci X B T s hs M n w' (h.below k) hi hn ht _ rfl)
 have HK:=Lib.hid hK
 have HF:=Lib.hid ht.ops
 have HND:=Lib.hid hn
 have HFN:=Shut.mk hfn
 have HNM:=Shut.mk hname
 have HBD:=Shut.mk hbody
 have HRI:=Lib.hid (show Ids (z0g s.names) from z4q fun x hx=>by
  obtain ⟨o,_,rfl⟩:=List.mem_map.1 hx
  exact z1v o)
 have HRL:=Lib.hid (show (z0g s.names).length ≤ 1000 by rw [z36,DagN.names,List.length_map];exact hops)
 clear hK hn ht hfn hname hbody h hops
 go_enter Tryz.func70,Tryz.ntmps70
 obtain ⟨m,hm⟩:∃ m,(z0g s.names).length = m:=⟨_,rfl⟩
 have HM:=Shut.mk hm
 have hm2:m ≤ 1000:=hm ▸ HRL.out
 clear hm
 go_wp2_with (refine HN.out.mono ?_;rintro e w1 ⟨v1,rfl,ho1,hb1⟩;obtain ⟨ap,cp,rfl⟩:=ho1.form;have HB1:=Lib.hid hb1;have HI1:=Lib.hid (ho1.at HRI.out);rw [HM.out];clear ho1 hb1 HN)
 go_loopw [5,13] (fun tv i wr=>∃ (v:Value) (k:Nat),tv = v ∧ i = .int .i64 k ∧ k ≤ m ∧ OwnP w1.heap.size 99 v (z59 s.ops K ((z0g s.names).take k)) wr ∧ Below w1.heap.size w1 wr) (fun _ i _=>m - (intOf i).toNat)
 case atStart=>exact ⟨_,0,rfl,rfl,Nat.zero_le _,OwnP.nil _ _ _,Below.refl _ _⟩
 case round =>
  obtain ⟨wi,rfl⟩:∃ z,z = wr:=⟨_,rfl⟩
  obtain ⟨v,k,rfl,rfl,hk,ho,hb⟩:=hrel
  have HO:=Lib.hid ho
  have HB:=Lib.hid (HB1.out.trans (hb.mono HB1.out.size))
  have HBM:=Lib.hid hb
  have HIW:=Lib.hid (HI1.out.below hb)
  clear hb ho
  by_cases hlt:k < m
  ·obtain ⟨b,ob,rfl,hbl⟩:=HIW.out.some (by rw [HM.out];omega)
   have g1:=HIW.out.get (i:=k) (by rw [HM.out];omega)
   have i1:=Ids.getD HRI.out (i:=k) (by rw [HM.out];omega)
   have hnx:=zjv (L:=s.ops) (K:=K) (ns:=z0g s.names) (k:=k) (by rw [HM.out];exact hlt)
   have hin:(z0g s.names).getD k [] ∈ s.names:=risingN_mem.1 (by
    rw [List.getD_eq_getElem?_getD,List.getElem?_eq_getElem (by rw [HM.out];exact hlt)]
    exact List.getElem_mem _)
   obtain ⟨x,hx⟩:∃ x,(z0g s.names).getD k [] = x:=⟨_,rfl⟩
   rw [hx] at g1 i1 hnx hin
   obtain ⟨hom,hon⟩:=opOf_in HND.out hin
   have HIN:=Lib.hid hin
   have HNX:=Lib.hid hnx
   have HXI:=Lib.hid i1
   have HG1:=Lib.hid g1
   have HS1:=Lib.hid (show (Tryz.prog.info? 25).map (·.size) = some x.length by rw [i1.1];exact Tryz.sizeI)
   have HL2:=Lib.hid (show (List.replicate 32 0).length = x.length by rw [i1.1];rfl)
   clear hx g1 i1 hnx hin hbl
   go_wp2_with (first
    | (refine z0a rfl 25 _ rfl b (ob + k * 32) x _ rfl HG1.out Tryz.underlying25 rfl HS1.out ?_)
    | (refine z06 rfl 25 _ _ rfl rfl wi.heap.size .u8 (List.replicate 32 0) x 25 rfl rfl (heap_alloc_new wi _) HS1.out HL2.out ?_))
   intro w5 hc' hb'
   have HB5a:=Lib.hid (show Below wi.heap.size wi w5 from But.toBelow ((Below.refl _ _).alloc (Nat.le_refl _) _) hb'.out (Nat.le_refl _) (by rw [World.size_alloc];exact Nat.le_succ _))
   have HC5:=Lib.hid (show Blk wi.heap.size 25 .u8 x w5 from hc'.out)
   have HB5:=Lib.hid (HB.out.trans (HB5a.out.mono HB.out.size))
   have HGT:=Lib.hid (HG.out w5 x HB5.out HIN.out)
   clear hc' hb'
   obtain ⟨o,hoe⟩:∃ o,zeo s.ops x = o:=⟨_,rfl⟩
   rw [hoe] at hom hon HGT HNX
   have HFO:=Lib.hid (HF.out o hom)
   have HOM:=Lib.hid hom
   have HON:=Lib.hid hon
   have HSV:=Lib.hid (fun (pa:Option Addr) (pc:Nat)=>show (Tryz.prog.info? 38).map (·.size) = some (opV o pa pc).size by rw [z0b HFO.out.d.ref.1];exact Tryz.sizeO)
   have HSZ:=Lib.hid (fun (pa:Option Addr) (pc:Nat)=>show (opL z05 none 0).toArray.size = (opV o pa pc).size by rw [z0b HFO.out.d.ref.1];rfl)
   have HZO:=Lib.hid (show (Tryz.prog.info? 38).bind (·.zero) = some (.agg (opL z05 none 0).toArray) by kernel_rfl)
   clear hoe hom hon
   go_wp2_with (first
    | (refine z04 rfl 25 (.tmp 7) rfl wi.heap.size .u8 x 25 _ rfl HC5.out Tryz.underlying25 rfl HS1.out ?_)
    | (refine HGT.out.mono ?_;rintro e w6 ⟨pa,pc,rfl,ho6,hb6⟩;have HO6:=Lib.hid ho6;have HB6:=Lib.hid hb6;clear ho6 hb6)
    | (refine z0d rfl 38 rfl (opL z05 none 0) HZO.out ?_)
    | (refine z02 rfl 38 _ _ rfl rfl w6.heap.size (opL z05 none 0).toArray (opV o pa pc) 38 rfl rfl (heap_alloc_new w6 _) (HSV.out pa pc) (HSZ.out pa pc) (z1i o pa pc) ?_))
   intro w7 hc7 hb7
   have hb67:Below w6.heap.size w6 w7:=But.toBelow ((Below.refl _ w6).alloc (Nat.le_refl _) _) hb7.out (Nat.le_refl _) (by rw [World.size_alloc];exact Nat.le_succ _)
   have HC7:=Lib.hid (show Cells w6.heap.size 38 (opV o pa pc) w7 from hc7.out)
   have HI7:=Lib.hid (HO6.out.below hb67)
   have HB7:=Lib.hid (show Below wi.heap.size wi w7 from HB5a.out.trans ((HB6.out.trans (hb67.mono HB6.out.size)).mono HB5a.out.size))
   have HC57:=Lib.hid (show Blk wi.heap.size 25 .u8 x w7 from HC5.out.below (HB6.out.trans (hb67.mono HB6.out.size)))
   have HB07:=Lib.hid (HB.out.trans (HB7.out.mono HB.out.size))
   have HKK:=Lib.hid (HK.out o HOM.out pa pc w7 HB07.out)
   clear hc7 hb7 hb67
   obtain ⟨kb,hkb⟩:∃ z,K o = z:=⟨_,rfl⟩
   rw [hkb] at HNX HKK
   clear hkb
   cases kb with
   | false =>
     have HNXF:=Lib.hid (show z59 s.ops K ((z0g s.names).take (k + 1)) = z59 s.ops K ((z0g s.names).take k) by rw [HNX.out];simp)
     go_wp2_with (first
      | (refine z1b (by rfl) 38 (.tmp 8) rfl w6.heap.size (opV o pa pc) 38 _ rfl HC7.out Tryz.underlying38 rfl (HSV.out pa pc) ?_)
      | (refine z4r (by rfl) HFN.out HNM.out HBD.out (.tmp 26) _ _ rfl #[] caps rfl [.agg (opV o pa pc)] rfl HKK.out ?_;rintro e w8 ⟨rfl,hb8⟩;refine ⟨_,rfl,?_⟩;have HB8:=Lib.hid (HB7.out.trans (hb8.mono HB7.out.size));clear hb8))
     refine ⟨⟨_,k + 1,rfl,by go_num,by omega,by rw [HNXF.out];exact HO.out.below HB8.out,HBM.out.trans (HB8.out.mono HBM.out.size)⟩,by simp [intOf];omega⟩
   | true =>
     have HNXT:=Lib.hid (show z59 s.ops K ((z0g s.names).take (k + 1)) = z59 s.ops K ((z0g s.names).take k) ++ [o] by rw [HNX.out];simp)
     have HBP:=Lib.hid (show Tryz.prog.built 99 [(0,.agg (opV o pa pc)),(1,.agg (z07 .u8 x).toArray)] = some (plV o pa pc) from HON.out ▸ built_pl o pa pc HFO.out.d.ref.1)
     have hr8:=z3s (P:=Tryz.prog) 96 99 (plL o pa pc) _ _ _ Tryz.underlying96 Tryz.infoPl (z2e HFO.out.d.ref.1) (by decide) (by decide)
     have HR8:=Lib.hid hr8
     obtain ⟨oa,oc,rfl⟩:=HO.out.form
     have hol:=zfm (L:=s.ops) (K:=K) (ns:=(z0g s.names).take k)
     rw [List.length_take,HM.out] at hol
     obtain ⟨ol,hole⟩:∃ z,(z59 s.ops K ((z0g s.names).take k)).length = z:=⟨_,rfl⟩
     rw [hole] at hol HO ⊢
     have HOL:=Lib.hid (show (z59 s.ops K ((z0g s.names).take k)).length ≤ 1000000 from by omega)
     clear hr8 hole hol
     go_wp2_with (first
      | (refine z1b (by rfl) 38 (.tmp 8) rfl w6.heap.size (opV o pa pc) 38 _ rfl HC7.out Tryz.underlying38 rfl (HSV.out pa pc) ?_)
      | (refine z4r (by rfl) HFN.out HNM.out HBD.out (.tmp 26) _ _ rfl #[] caps rfl [.agg (opV o pa pc)] rfl HKK.out ?_;rintro e w8 ⟨rfl,hb8⟩;refine ⟨_,rfl,?_⟩;have HB8:=Lib.hid (HB7.out.trans (hb8.mono HB7.out.size));have HC8:=Lib.hid (HC7.out.below hb8);have HI8:=Lib.hid (HI7.out.below hb8);have HC58:=Lib.hid (HC57.out.below hb8);clear hb8)
      | (refine z01 rfl 38 (.tmp 8) rfl w6.heap.size (opV o pa pc) 38 _ rfl HC8.out Tryz.underlying38 rfl (HSV.out pa pc) ?_)
      | (refine z04 rfl 25 (.tmp 7) rfl wi.heap.size .u8 x 25 _ rfl HC58.out Tryz.underlying25 rfl HS1.out ?_)
      | (refine z1c rfl 99 _ rfl [(0,.agg (opV o pa pc)),(1,.agg (z07 .u8 x).toArray)] _ (by rw [List.map_toArray];rfl) HBP.out ?_)
      | (refine z3k rfl 96 99 _ rfl (plL o pa pc) rfl HR8.out ?_))
     intro w9 hc9 hb9
     have HC9:=Lib.hid hc9.out.news
     have HB9:=Lib.hid (HB8.out.trans (hb9.out.mono HB8.out.size))
     have HI9:=Lib.hid ((HI8.out.below hb9.out).at HFO.out.preds)
     have HN9:=Lib.hid (show ∀ a,pa = some a → o.preds ≠ [] → (Value.slice oa ol oc).ownBlock ≠ some a.block from fun a ha h0 e=>by
      have h1:=own_base HO6.out h0 ha
      have h2:=(HO.out.lt e).2
      have h3:=HB5a.out.size
      omega)
     have HO9:=Lib.hid (HO.out.below HB9.out)
     have HZ9:=Lib.hid (show w1.heap.size ≤ w9.heap.size from Nat.le_trans HBM.out.size HB9.out.size)
     obtain ⟨g9,hg9⟩:∃ z,w8.heap.size = z:=⟨_,rfl⟩
     rw [hg9] at HC9 ⊢
     clear hc9 hb9 hg9
     go_wp2_with (refine zac rfl _ _ 96 99 rfl w1.heap.size 144 _ rfl (by decide) Tryz.underlying96 Tryz.infoPl (.slice oa ol oc) _ o pa pc HFO.out.d.ref.1 HI9.out HN9.out ⟨g9,0,none⟩ 1 rfl HO9.out rfl HC9.out HOL.out HZ9.out ?_)
     intro v10 w10 ho10 hb10 _
     have HO10:=Lib.hid ho10.out
     have HB10:=Lib.hid hb10.out
     clear ho10 hb10
     go_wp2_with fail
     exact ⟨⟨v10,k + 1,rfl,by go_num,by omega,by rw [HNXT.out];exact HO10.out,(HBM.out.trans (HB9.out.mono HBM.out.size)).trans HB10.out⟩,by simp [intOf];omega⟩
  ·obtain rfl:k = m:=by omega
   have HE:=Lib.hid (show (z0g s.names).take k = z0g s.names from List.take_of_length_le (by rw [HM.out];exact Nat.le_refl _))
   go_wp2_with fail
   go_ret
   exact ⟨_,rfl,by rw [HE.out] at HO;exact HO.out.mono HB1.out.size,HB.out⟩
open Go.Sort Go.Shelf
theorem zd4 {α:Type} {enc:α → List Value} {K:Nat} (hlen:∀ x,(enc x).length = K) (L:List α):Wide K (L.map enc):=fun x hx=>by
 obtain ⟨y,_,rfl⟩:=List.mem_map.1 hx
 exact hlen y
section
variable {α:Type} [Inhabited α] {enc:α → List Value} {K:Nat}
theorem zcu (hlen:∀ x,(enc x).length = K) (hK:0 < K) (d:Array α):(flatK enc K d).toList = (d.toList.map enc).flatten:=by
 have hW:=zd4 hlen d.toList
 have hl:=z4i hW
 rw [List.length_map,Array.length_toList (xs:=d)] at hl
 have hs:(flatK enc K d).size = d.size * K:=size_flatK _ _ _
 refine List.ext_getElem? fun t=>?_
 by_cases ht:t < d.size * K
 ·obtain ⟨q,m,rfl,hm,hq⟩:=zan (K:=K) (q:=t) (n:=d.size) hK
  have hq:=hq ht
  have h1:=get_flatK enc K d _ ht
  rw [getElem!_pos _ _ (by rw [hs];exact ht)] at h1
  rw [Array.getElem?_toList,Array.getElem?_eq_getElem (by rw [hs];exact ht),h1]
  rw [z5h hW (by rw [List.length_map,Array.length_toList (xs:=d)];exact hq) hm,List.getD_eq_getElem?_getD,List.getElem?_map,Array.getElem?_toList (xs:=d),Array.getElem?_eq_getElem hq]
  have e1:(K * q + m) / K = q:=by rw [Nat.mul_add_div hK,Nat.div_eq_of_lt hm,Nat.add_zero]
  have e2:(K * q + m) % K = m:=by rw [Nat.mul_add_mod,Nat.mod_eq_of_lt hm]
  rw [e1,e2,getElem!_pos d _ hq]
  have h4:m < (enc d[q]).length:=by rw [hlen];exact hm
  show some ((enc d[q])[m]!) = (enc d[q])[m]?
  rw [List.getElem?_eq_getElem h4,getElem!_pos (enc d[q]) m h4]
 ·rw [List.getElem?_eq_none (by rw [Array.length_toList,hs];omega),List.getElem?_eq_none (by omega)]
theorem zg7 {w:World} {g n:Nat} {os:Array Obj} {cur:Array Value} {e:TypeId} {fr:Nat × Nat} (d:Array α) (hb:w.heap[g]? = some (.cells cur e fr)) :
 (sortWorldK enc K w g 0 n d os).heap[g]? = some (.cells (putCells id 0 (flatK enc K d) cur) e fr):=by
 have hg:g < w.heap.size:=(Array.getElem?_eq_some_iff.1 hb).1
 unfold sortWorldK putRowK
 rw [heap_grow_old _ _ (by simp [putRow,mapBlock,Sort.ahead];exact hg)]
 simp [putRow,mapBlock,Sort.ahead,Array.getElem?_modify,hb,onCells]
theorem zbc {w:World} {g n:Nat} {os:Array Obj} (d:Array α):w.grownBy (sortWorldK enc K w g 0 n d os) (some g):=by
 unfold sortWorldK putRowK
 refine ⟨rfl,rfl,rfl,by simp [grow,putRow,mapBlock,Sort.ahead],fun k hk hne=>?_⟩
 rw [heap_grow_old _ _ (by simp [putRow,mapBlock,Sort.ahead];exact hk)]
 have:g ≠ k:=fun e=>hne (by rw [e])
 simp [putRow,mapBlock,Sort.ahead,Array.getElem?_modify,this]
theorem zcb (cur F:Array Value) (h:F.size ≤ cur.size):(putCells id 0 F cur).toList.take F.size = F.toList:=by
 apply List.ext_getElem?
 intro j
 by_cases hj:j < F.size
 ·rw [List.getElem?_take_of_lt hj,Array.getElem?_toList]
  simp [putCells,hj,show j < cur.size by omega]
 ·rw [List.getElem?_take_eq_none (by omega),List.getElem?_eq_none (by simp;omega)]
theorem zb9 (hlen:∀ x,(enc x).length = K) (hK:0 < K) {B g c q:Nat} {e:TypeId} {ss ts:List α} {w:World} {os:Array Obj} (h:w.ownsRow B e K (.slice (some ⟨g,0,none⟩) ss.length c) ss.length (ss.map enc).flatten) (hl:ts.length = ss.length) :
 (sortWorldK enc K w g 0 q ts.toArray os).ownsRow B e K (.slice (some ⟨g,0,none⟩) ss.length c) ss.length (ts.map enc).flatten:=by
 rcases h.2 with ⟨h0,_⟩ | ⟨g',cap,cur,h0,hB,hh,h1,h2,h3,h4⟩
 ·cases h0
 ·injection h0 with h5 h6 h7
  injection h5 with h5
  injection h5 with h5 _ _
  subst h5 h7
  have hs:(flatK enc K ts.toArray).size = ts.length * K:=by rw [size_flatK,List.size_toArray]
  refine ⟨?_,.inr ⟨g,c,_,rfl,hB,zg7 _ hh,h1,h2,by simp [putCells,h3],?_⟩⟩
  ·rw [z4i (zd4 hlen ts),List.length_map,hl]
  ·have h5:=zcb cur (flatK enc K ts.toArray) (by rw [hs,hl,h3];exact Nat.mul_le_mul_right K h1)
   rw [hs,zcu hlen hK,hl] at h5
   exact h5
theorem zc4 (hlen:∀ x,(enc x).length = K) (hK:0 < K) {B g c:Nat} {e:TypeId} {ss:List α} {w:World} (h:w.ownsRow B e K (.slice (some ⟨g,0,none⟩) ss.length c) ss.length (ss.map enc).flatten):HoldsK enc K w g 0 ss.toArray:=by
 rcases h.2 with ⟨h0,_⟩ | ⟨g',cap,cur,h0,hB,hh,h1,h2,h3,h4⟩
 ·cases h0
 ·injection h0 with h5 h6 h7
  injection h5 with h5
  injection h5 with h5 _ _
  subst h5 h7
  intro j hj
  rw [size_flatK,List.size_toArray] at hj
  refine ⟨?_,by simp [World.frozen?,hh]⟩
  have h5:(cur.toList.take (ss.length * K))[j]? = ((ss.map enc).flatten)[j]?:=by rw [h4]
  rw [List.getElem?_take_of_lt hj] at h5
  have h6:=zcu hlen hK ss.toArray
  rw [List.toList_toArray] at h6
  rw [← h6,Array.getElem?_toList,Array.getElem?_toList,Array.getElem?_eq_getElem (i:=j) (xs:=flatK enc K ss.toArray) (by rw [size_flatK,List.size_toArray];exact hj)] at h5
  simp only [World.cell?,hh,Nat.zero_add,Option.isSome_none,Bool.false_eq_true,if_false]
  rw [h5,getElem!_pos (flatK enc K ss.toArray) j (by rw [size_flatK,List.size_toArray];exact hj)]
  rfl
end
structure PlE where
 x:OpN
 pa:Option Addr
 pc:Nat
 ok:x.d.ref.length = 32
instance:Inhabited PlE:=⟨⟨z05,none,0,rfl⟩⟩
def za3 (p:PlE):List Value:=plL p.x p.pa p.pc
theorem zae (p:PlE):(za3 p).length = 70:=z2e p.ok
def cfO (a b:OpN):Int:=if a.depth < b.depth then -1 else if b.depth < a.depth then 1 else z1t (z00 a) (z00 b)
def cfP (p q:PlE):Int:=cfO p.x q.x
theorem nbef {a b:OpN}:z9r a b = false ↔ b.depth < a.depth ∨ a.depth = b.depth ∧ (z00 a = z00 b ∨ z1t (z00 b) (z00 a) = -1):=by
 rw [← Bool.not_eq_true,befN_iff]
 constructor
 ·intro h
  rcases Int.lt_trichotomy a.depth b.depth with h1 | h1 | h1
  ·exact absurd (.inl h1) h
  ·refine .inr ⟨h1,?_⟩
   by_cases he:z00 a = z00 b
   ·exact .inl he
   ·exact .inr ((z3m (by rw [z0p,z0p]) he).resolve_left fun e=>h (.inr ⟨h1,e⟩))
  ·exact .inl h1
 ·rintro (h | ⟨h,k⟩) (h2 | ⟨h2,k2⟩)
  ·omega
  ·omega
  ·omega
  ·rcases k with k | k
   ·rw [k,z8h] at k2;cases k2
   ·exact z58 k2 k
theorem cfO_lt (a b:OpN):cfO a b < 0 ↔ z9r a b = true:=by
 rw [befN_iff,cfO]
 by_cases h1:a.depth < b.depth
 ·rw [if_pos h1]
  exact ⟨fun _=>.inl h1,fun _=>by decide⟩
 ·rw [if_neg h1]
  by_cases h2:b.depth < a.depth
  ·rw [if_pos h2]
   exact ⟨fun h=>absurd h (by decide),fun h=>by rcases h with h | ⟨h,_⟩ <;> omega⟩
  ·rw [if_neg h2]
   have h3:a.depth = b.depth:=by omega
   rcases z42 (z00 a) (z00 b) with h | h | h <;> rw [h]
   ·exact ⟨fun _=>.inr ⟨h3,rfl⟩,fun _=>by decide⟩
   ·exact ⟨fun e=>absurd e (by decide),fun e=>by
     rcases e with e | ⟨_,e⟩
     ·omega
     ·cases e⟩
   ·exact ⟨fun e=>absurd e (by decide),fun e=>by
     rcases e with e | ⟨_,e⟩
     ·omega
     ·cases e⟩
theorem ltP (p q:PlE):ltOf cfP p q = true ↔ z9r p.x q.x = true:=by
 unfold ltOf cfP
 rw [decide_eq_true_iff]
 exact cfO_lt _ _
theorem leP (p q:PlE):ltOf cfP p q = false ↔ z9r p.x q.x = false:=by
 rw [← Bool.not_eq_true,ltP,Bool.not_eq_true]
theorem swoP:SWO (ltOf cfP) where
 irrefl x:=(leP x x).2 (befN_irr _)
 trans x y z h1 h2:=(ltP x z).2 (zd2 ((ltP x y).1 h1) ((ltP y z).1 h2))
 ntrans x y z h1 h2:=by
  refine (leP x z).2 (nbef.2 ?_)
  rcases nbef.1 ((leP x y).1 h1) with e1 | ⟨e1,k1⟩ <;> rcases nbef.1 ((leP y z).1 h2) with e2 | ⟨e2,k2⟩
  ·exact .inl (by omega)
  ·exact .inl (by omega)
  ·exact .inl (by omega)
  ·refine .inr ⟨by omega,?_⟩
   rcases k1 with k1 | k1
   ·rcases k2 with k2 | k2
    ·exact .inl (k1.trans k2)
    ·exact .inr (by rw [k1];exact k2)
   ·rcases k2 with k2 | k2
    ·exact .inr (by rw [← k2];exact k1)
    ·exact .inr (z2q k2 k1)
theorem zhv {R:OpN → Option Addr → Prop}:∀ (L:List OpN) (C:List (List Value)),C.length = L.length → (∀ x ∈ L,x.d.ref.length = 32) → (∀ (i:Nat) (x:OpN),L[i]? = some x → ∃ pa pc,C[i]? = some (plL x pa pc) ∧ R x pa) → ∃ D:List PlE,D.map (·.x) = L ∧ D.map za3 = C ∧ ∀ p ∈ D,R p.x p.pa
 | [],[],_,_,_=>⟨[],rfl,rfl,fun p hp=>by cases hp⟩
 | [],_ :: _,h,_,_=>by cases h
 | _ :: _,[],h,_,_=>by cases h
 | x :: L, c :: C, h, hr, hE => by
   obtain ⟨D,h1,h2,h3⟩:=zhv (R:=R) L C (by simpa using h) (fun y hy=>hr y (List.mem_cons_of_mem _ hy)) (fun i y hy=>by
    have:=hE (i + 1) y (by rw [List.getElem?_cons_succ];exact hy)
    simpa only [List.getElem?_cons_succ] using this)
   obtain ⟨pa,pc,q1,q2⟩:=hE 0 x rfl
   rw [List.getElem?_cons_zero,Option.some.injEq] at q1
   refine ⟨⟨x,pa,pc,hr x (List.mem_cons_self ..)⟩ :: D,by rw [List.map_cons,h1],by rw [List.map_cons,h2,q1];rfl,fun p hp=>?_⟩
   rcases List.mem_cons.1 hp with rfl | hp
   ·exact q2
   ·exact h3 p hp
theorem OwnP.split {B:Nat} {e:TypeId} {v:Value} {L:List OpN} {w:World} (h:OwnP B e v L w) (hr:∀ x ∈ L,x.d.ref.length = 32) :
 ∃ D:List PlE,D.map (·.x) = L ∧ w.ownsRow B e 70 v D.length (D.map za3).flatten ∧ ∀ p ∈ D,IAt p.pa p.x.preds w ∧ ∀ a,p.pa = some a → p.x.preds ≠ [] → v.ownBlock ≠ some a.block:=by
 obtain ⟨C,h1,h2,h3,h4⟩:=h
 obtain ⟨D,d1,d2,d3⟩:=zhv (R:=fun x pa=>IAt pa x.preds w ∧ ∀ a,pa = some a → x.preds ≠ [] → v.ownBlock ≠ some a.block) L C h3 hr h4
 have hl:D.length = L.length:=by rw [← d1,List.length_map]
 exact ⟨D,d1,by rw [d2,hl];exact h1,d3⟩
theorem OwnP.join {B:Nat} {e:TypeId} {v:Value} {D:List PlE} {w:World} (h:w.ownsRow B e 70 v D.length (D.map za3).flatten) (k:∀ p ∈ D,IAt p.pa p.x.preds w ∧ ∀ a,p.pa = some a → p.x.preds ≠ [] → v.ownBlock ≠ some a.block):OwnP B e v (D.map (·.x)) w:=by
 refine ⟨D.map za3,by rw [List.length_map];exact h,zd4 zae D,by rw [List.length_map,List.length_map],fun i x hx=>?_⟩
 rw [List.getElem?_map] at hx
 obtain ⟨p,hp,rfl⟩:=Option.map_eq_some_iff.1 hx
 obtain ⟨k1,k2⟩:=k p (List.mem_of_getElem? hp)
 exact ⟨p.pa,p.pc,by rw [List.getElem?_map,hp];rfl,k1,k2⟩
theorem zgr {d d':Array PlE} (hp:PermIn 0 d.size d d') (hs:SortedIn (ltOf cfP) 0 d.size d') (hd:((d.toList.map (·.x)).map z00).Nodup):d'.toList.Perm d.toList ∧ Rows (d'.toList.map (·.x)):=by
 obtain ⟨h1,_,h2⟩:=hp
 have hperm:d'.toList.Perm d.toList:=by
  rw [← h1] at h2
  have e1:d'.extract 0 d'.size = d':=by simp
  have e2:d.extract 0 d'.size = d:=by rw [h1];simp
  rwa [e1,e2] at h2
 refine ⟨hperm,?_⟩
 have hnd:((d'.toList.map (·.x)).map z00).Nodup:=((hperm.map (·.x)).map z00).nodup_iff.2 hd
 unfold Rows
 rw [List.pairwise_iff_getElem]
 intro i j hi hj hij
 rw [List.length_map,Array.length_toList] at hi hj
 have h3:=hs i j (Nat.zero_le _) hij (by omega)
 rw [getElem!_pos d' j hj,getElem!_pos d' i hi] at h3
 have hne:=List.pairwise_iff_getElem.1 hnd i j (by rw [List.length_map,List.length_map,Array.length_toList];exact hi) (by rw [List.length_map,List.length_map,Array.length_toList];exact hj) hij
 simp only [List.getElem_map,Array.getElem_toList] at hne ⊢
 have h4:=(leP _ _).1 h3
 exact (zct (by rw [z0p,z0p]) hne).resolve_right (by rw [h4];decide)
def zk3 (x y:Int):Int:=if x < y then -1 else if y < x then 1 else 0
theorem cfO_or (a b:OpN):cfO a b = if zk3 a.depth b.depth = 0 then z1t (z00 a) (z00 b) else zk3 a.depth b.depth:=by
 unfold cfO zk3
 by_cases h1:a.depth < b.depth
 ·rw [if_pos h1,if_pos h1,if_neg (by decide)]
 ·rw [if_neg h1,if_neg h1]
  by_cases h2:b.depth < a.depth
  ·rw [if_pos h2,if_pos h2,if_neg (by decide)]
  ·rw [if_neg h2,if_neg h2,if_pos rfl]
theorem z8u {g:Nat} {t:TypeId} (p:PlE) {w:World} (h:Cells g t (za3 p).toArray w):w.rangeAt g 0 (opL p.x p.pa p.pc) ∧ w.rangeAt g 38 (z07 .u8 (z00 p.x)):=by
 have h1:w.rangeAt g 0 (plL p.x p.pa p.pc):=fun j v hj=>by
  rw [Nat.zero_add,h.at,List.getElem?_toArray]
  exact hj
 exact zik p.ok h1
theorem Onw.grow {w2 w':World} (h:Onw w2 w') {q:Nat} {os:Array Obj}:Onw w2 (Sort.grow (w'.drewN q) os):=by
 obtain ⟨⟨h1,h2,h3,h4,h5⟩,h6⟩:=h
 refine ⟨⟨h1,h2,h3,?_,fun i hi=>?_⟩,Nat.le_trans h6 (Nat.le_add_right _ _)⟩
 ·show w2.heap.size ≤ (w'.heap ++ os).size
  rw [Array.size_append]
  omega
 ·show (w'.heap ++ os)[i]? = _
  rw [Array.getElem?_append_left (by omega)]
  exact h5 i hi
theorem zkq (x:Int) (w:World):Calls Tryz.prog 143 #[.int .i64 x] w fun e w'=>e = .returned (.bool false) ∧ w' = w:=by
 go_enter Tryz.func143,Tryz.ntmps143
 go_wp2_with fail
 go_ret
 exact ⟨by simp,rfl⟩
theorem dev_cmpI (x y:Int) (w:World):Calls Tryz.prog 113 #[.int .i64 x,.int .i64 y] w fun e w'=>e = .returned (.int .i64 (zk3 x y)) ∧ w' = w:=by
 have HN:=Lib.hid (fun z=>zkq z w)
 by_cases h1:x < y
 ·have HR:=Shut.mk (show zk3 x y = -1 from if_pos h1)
  have g1:decide (x < y) = true:=decide_eq_true h1
  go_enter Tryz.func113,Tryz.ntmps113
  go_wp2_with (refine (HN.out _).mono ?_;rintro e w2 ⟨rfl,rfl⟩)
  go_ret
  exact ⟨by rw [HR.out];rfl,rfl⟩
 ·have g1:decide (x < y) = false:=decide_eq_false h1
  by_cases h2:y < x
  ·have HR:=Shut.mk (show zk3 x y = 1 by rw [zk3,if_neg h1,if_pos h2])
   have g2:decide (y < x) = true:=decide_eq_true h2
   go_enter Tryz.func113,Tryz.ntmps113
   go_wp2_with (refine (HN.out _).mono ?_;rintro e w2 ⟨rfl,rfl⟩)
   go_ret
   exact ⟨by rw [HR.out];rfl,rfl⟩
  ·have HR:=Shut.mk (show zk3 x y = 0 by rw [zk3,if_neg h1,if_neg h2])
   have g2:decide (y < x) = false:=decide_eq_false h2
   go_enter Tryz.func113,Tryz.ntmps113
   go_wp2_with (refine (HN.out _).mono ?_;rintro e w2 ⟨rfl,rfl⟩)
   go_ret
   exact ⟨by rw [HR.out];rfl,rfl⟩
theorem dev_or2 (x y:Int) (g:Nat) (w:World) (h0:w.cell? ⟨g,0,none⟩ = some (.int .i64 x)) (h1:w.cell? ⟨g,1,none⟩ = some (.int .i64 y)):Calls Tryz.prog 112 #[.slice (some ⟨g,0,none⟩) 2 2] w fun e w'=>e = .returned (.int .i64 (if x = 0 then y else x)) ∧ w' = w:=by
 obtain ⟨R,hR⟩:∃ R,(if x = 0 then y else x) = R:=⟨_,rfl⟩
 have HX:=Shut.mk hR.symm
 rw [hR]
 clear hR
 go_enter Tryz.func112,Tryz.ntmps112
 go_wp2_with fail
 go_loopw [8] (fun i wr=>wr = w ∧ (i = .int .i64 0 ∨ i = .int .i64 1 ∧ x = 0 ∨ i = .int .i64 2 ∧ x = 0 ∧ y = 0)) (fun i _=>2 - (intOf i).toNat)
 case atStart=>exact ⟨rfl,.inl rfl⟩
 case round =>
  obtain ⟨rfl,hi⟩:=hrel
  rcases hi with rfl | ⟨rfl,rfl⟩ | ⟨rfl,rfl,rfl⟩
  ·by_cases hx:x = 0
   ·subst hx
    go_wp2_with fail
    exact ⟨by simp,by decide⟩
   ·have HR:=Shut.mk (show R = x by rw [HX.out,if_neg hx])
    go_wp2_with fail
    go_ret
    exact ⟨by rw [HR.out];rfl,rfl⟩
  ·by_cases hy:y = 0
   ·subst hy
    go_wp2_with fail
    exact ⟨by simp,by decide⟩
   ·have HR:=Shut.mk (show R = y by rw [HX.out,if_pos rfl])
    go_wp2_with fail
    go_ret
    exact ⟨by rw [HR.out];rfl,rfl⟩
  ·have HR:=Shut.mk (show R = 0 by rw [HX.out,if_pos rfl])
   go_wp2_with fail
   go_ret
   exact ⟨by rw [HR.out];rfl,rfl⟩
theorem zc0 (p q:PlE) (w:World) :
 Calls Tryz.prog 92 #[.agg (za3 p).toArray,.agg (za3 q).toArray] w fun e w'=>e = .returned (.int .i64 (cfP p q)) ∧ ∃ m os,w' = grow (w.drewN m) os:=by
 have HCF:=Shut.mk (show cfP p q = if zk3 p.x.depth q.x.depth = 0 then z1t (z00 p.x) (z00 q.x) else zk3 p.x.depth q.x.depth from cfO_or _ _)
 obtain ⟨CF,hCF⟩:∃ z,cfP p q = z:=⟨_,rfl⟩
 rw [hCF] at HCF ⊢
 clear hCF
 have b1:RowKit.Below w.heap.size w (w.alloc (.cells (za3 p).toArray 99)):=(RowKit.Below.refl _ _).alloc (Nat.le_refl _) _
 have x1:Cells w.heap.size 99 (za3 p).toArray (w.alloc (.cells (za3 p).toArray 99)):=heap_alloc_new w _
 have s1:(w.alloc (.cells (za3 p).toArray 99)).heap.size = w.heap.size + 1:=World.size_alloc _ _
 have b2:RowKit.Below (w.alloc (.cells (za3 p).toArray 99)).heap.size (w.alloc (.cells (za3 p).toArray 99)) ((w.alloc (.cells (za3 p).toArray 99)).alloc (.cells (za3 q).toArray 99)):=(RowKit.Below.refl _ _).alloc (Nat.le_refl _) _
 have x2:Cells (w.alloc (.cells (za3 p).toArray 99)).heap.size 99 (za3 q).toArray ((w.alloc (.cells (za3 p).toArray 99)).alloc (.cells (za3 q).toArray 99)):=heap_alloc_new _ _
 rw [s1] at x2
 have HX1:=Lib.hid (x1.below b2)
 have HX2:=Lib.hid x2
 have HB:=Lib.hid (b1.trans (b2.mono b1.size))
 have HD:=Lib.hid (show w.drawn = ((w.alloc (.cells (za3 p).toArray 99)).alloc (.cells (za3 q).toArray 99)).drawn from rfl)
 clear b1 x1 s1 b2 x2
 go_enter Tryz.func92,Tryz.ntmps92
 go_upto_region 1 with (fail)
 obtain ⟨w2,hw2⟩:∃ x,x = ((w.alloc (.cells (za3 p).toArray 99)).alloc (.cells (za3 q).toArray 99)):=⟨_,rfl⟩
 rw [← hw2] at HX1 HX2 HB HD ⊢
 clear hw2
 have HC:=Lib.hid (fun w'=>z8o (z00 p.x) (z00 q.x) (z1v p.x) (z1v q.x) w')
 have HI:=Lib.hid (fun w'=>dev_cmpI p.x.depth q.x.depth w')
 have HP36:=Lib.hid (fun w' (k:Onw w2 w')=>show w'.cell? ⟨w.heap.size,36,none⟩ = some (.int .i64 p.x.depth) from by
  have:=zcf p.ok (z8u p (HX1.out.below k.below)).1
  rwa [Nat.zero_add] at this)
 have HQ36:=Lib.hid (fun w' (k:Onw w2 w')=>show w'.cell? ⟨w.heap.size + 1,36,none⟩ = some (.int .i64 q.x.depth) from by
  have:=zcf q.ok (z8u q (HX2.out.below k.below)).1
  rwa [Nat.zero_add] at this)
 have HPN:=Lib.hid (fun w' (k:Onw w2 w')=>(z8u p (HX1.out.below k.below)).2)
 have HQN:=Lib.hid (fun w' (k:Onw w2 w')=>(z8u q (HX2.out.below k.below)).2)
 have HNP:=Lib.hid (z0p p.x)
 have HNQ:=Lib.hid (z0p q.x)
 obtain ⟨A2,hA2⟩:∃ z,p.x.depth = z:=⟨_,rfl⟩
 obtain ⟨B2,hB2⟩:∃ z,q.x.depth = z:=⟨_,rfl⟩
 obtain ⟨NA,hNA⟩:∃ z,z00 p.x = z:=⟨_,rfl⟩
 obtain ⟨NB,hNB⟩:∃ z,z00 q.x = z:=⟨_,rfl⟩
 rw [hA2] at HP36 HI HCF
 rw [hB2] at HQ36 HI HCF
 rw [hNA] at HPN HC HCF HNP
 rw [hNB] at HQN HC HCF HNQ
 obtain ⟨CI,hCI⟩:∃ z,zk3 A2 B2 = z:=⟨_,rfl⟩
 obtain ⟨CN,hCN⟩:∃ z,z1t NA NB = z:=⟨_,rfl⟩
 rw [hCI] at HI HCF
 rw [hCN] at HC HCF
 have HSA:=Lib.hid (show (Tryz.prog.info? 25).map (·.size) = some NA.length by rw [HNP.out];exact Tryz.sizeI)
 have HSB:=Lib.hid (show (Tryz.prog.info? 25).map (·.size) = some NB.length by rw [HNQ.out];exact Tryz.sizeI)
 clear hA2 hB2 hNA hNB hCI hCN HX1 HX2
 refine z0c (Onw w2) 12 (by kernel_rfl) (by kernel_rfl) ⟨(Below.refl _ _).drew,Nat.le_succ _⟩ ?_
 simp only [zC,zD,zE,zF]
 repeat (first
  | (go_big_quiet_want;refine z03 3 _ rfl ⟨w.heap.size,36,none⟩ _ rfl HP36.out Tryz.isAgg3 ?_;go_big_quiet_on;simp only [Act.put,zS,zA,zB])
  | (go_big_quiet_want;refine z03 3 _ rfl ⟨w.heap.size + 1,36,none⟩ _ rfl HQ36.out Tryz.isAgg3 ?_;go_big_quiet_on;simp only [Act.put,zS,zA,zB])
  | (go_big_quiet_want;refine z0i 25 _ rfl w.heap.size 38 NA _ rfl HPN.out Tryz.underlying25 rfl HSA.out ?_;go_big_quiet_on;simp only [Act.put,zS,zA,zB])
  | (go_big_quiet_want;refine z0i 25 _ rfl (w.heap.size + 1) 38 NB _ rfl HQN.out Tryz.underlying25 rfl HSB.out ?_;go_big_quiet_on;simp only [Act.put,zS,zA,zB])
  | go_big_quiet_step ((intro hs';first
   | (go_at_call 113;exact (HI.out _).mono fun e w' h=>⟨h.1,h.2 ▸ hs'⟩)
   | (go_at_call 85;exact (HC.out _).mono fun e w' h=>⟨h.1,by obtain ⟨qq,oo,rfl⟩:=h.2;exact Onw.grow hs'⟩)
   | rfl)))
 refine wpQuiet_nil ?_
 intro w6 hs6
 have H6:=Lib.hid hs6
 have HO:=Lib.hid (fun g w' h0 h1=>dev_or2 CI CN g w' h0 h1)
 rw [← HCF.out] at HO
 clear hs6
 have hn:=heap_alloc_new w6 (.cells #[.int .i64 CI,.int .i64 CN] 3)
 have HO6:=Lib.hid (HO.out w6.heap.size _ (by rw [Lib.cell_of_heap hn];rfl) (by rw [Lib.cell_of_heap hn];rfl))
 have HW:=Lib.hid (show ∃ m os,w6.alloc (.cells #[.int .i64 CI,.int .i64 CN] 3) = grow (w.drewN m) os from
  zm3 (HB.out.trans ((H6.out.below.trans ((RowKit.Below.refl w6.heap.size w6).alloc (Nat.le_refl _) _ |>.mono H6.out.below.size)).mono HB.out.size)) (by have:=HD.out;have:=H6.out.drawn;show w.drawn ≤ w6.drawn;omega))
 clear hn HO
 go_wp2_with (refine HO6.out.mono ?_;rintro e w7 ⟨rfl,rfl⟩)
 go_ret
 exact ⟨rfl,HW.out⟩
theorem sort_pls {B g n c:Nat} {L:List OpN} {w:World} (h:OwnP B 99 (.slice (some ⟨g,0,none⟩) n c) L w) (hn:L.length = n) (hl:n ≤ 100000) (hr:∀ x ∈ L,x.d.ref.length = 32) (hd:(L.map z00).Nodup) :
 Calls Tryz.prog 91 #[.slice (some ⟨g,0,none⟩) n c,.func (.func 92) #[] #[]] w fun e w'=>e = .returned (.tuple #[]) ∧ OwnP B 99 (.slice (some ⟨g,0,none⟩) n c) (z2g L) w' ∧ w.grownBy w' (some g):=by
 have hlt:g < w.heap.size:=(h.lt (g:=g) rfl).2
 obtain ⟨D,d1,d2,d3⟩:=h.split hr
 have hDl:D.length = n:=by rw [← hn,← d1,List.length_map]
 subst hDl
 have hcon:=AnyQ.slices_SortFunc Tryz.sortPl 70 (fun w=>by show (isAgg 99).run Tryz.prog w = _;unfold isAgg;rw [Sem.run_bind,show (underlying 99).run Tryz.prog w = _ from run_underlying Tryz.underlying99 w];rfl) (fun w=>by obtain ⟨ie,hi,_,hz1,_⟩:=info_parts Tryz.infoPl;show (Go.sizeOf 99).run Tryz.prog w = _;simp [Go.sizeOf,typeInfo,hi,hz1]) za3 zae (fun x v hv=>z80 _ _ _ v hv) cfP swoP 92 #[] g 0 c D.toArray w (enters_of Tryz.func92 (by kernel_rfl) rfl)
  (fun m os dk _ x y=>zc0 x y _) (zc4 zae (by decide) d2) hlt (by rw [List.size_toArray];omega)
 rw [List.size_toArray] at hcon
 refine Calls.mono (f:=91) hcon ?_
 rintro e w' ⟨rfl,d',q,os,hp,hs,rfl⟩
 have hp':PermIn 0 D.toArray.size D.toArray d':=by rw [List.size_toArray];exact hp
 have hs':SortedIn (ltOf cfP) 0 D.toArray.size d':=by rw [List.size_toArray];exact hs
 have hdn:((D.toArray.toList.map (·.x)).map z00).Nodup:=by rw [List.toList_toArray,d1];exact hd
 obtain ⟨h1,h2⟩:=zgr hp' hs' hdn
 rw [List.toList_toArray] at h1
 have hl':d'.toList.length = D.length:=by rw [h1.length_eq]
 have hg:=zbc (enc:=za3) (K:=70) (w:=w) (g:=g) (n:=q) (os:=os) d'
 refine ⟨rfl,?_,hg⟩
 have he:d'.toList.map (·.x) = z2g L:=zic h2 (by rw [← d1];exact h1.map _) hd (fun o _=>z0p o)
 have hrow:=zb9 (q:=q) (os:=os) zae (by decide) d2 hl'
 rw [Array.toArray_toList] at hrow
 rw [← he]
 refine OwnP.join (D:=d'.toList) (by rw [hl'];exact hrow) fun p hp=>?_
 obtain ⟨k1,k2⟩:=d3 p (h1.mem_iff.1 hp)
 exact ⟨k1.grown hg (fun a ha h0 e=>k2 a ha h0 e),k2⟩
theorem z78 (X:Nat → Prop) (B:Bs) (T:Ents) (s:DagN) (hs:List (List Nat)) (M:Bh) (K:OpN → Bool) (f:FuncId) (fn:Func) (caps:Array Value) (w:World) (h:SetAt X B T s hs M w) (hn:s.names.Nodup) (ht:Tame s)
 (hfn : Tryz.prog.funcs[f]? = some fn) (hname : (fn.name == "runtime.NumGoroutine") = false) (hbody : fn.body.isNone = false)
 (hK:∀ x ∈ s.ops,∀ pa pc w',Below w.heap.size w w' → Calls Tryz.prog f (#[] ++ [Value.agg (opV x pa pc)].toArray ++ caps) w' fun e w''=>e = .returned (.bool (K x)) ∧ Below w'.heap.size w' w'') :
 Calls Tryz.prog 64 #[.pointer (some ⟨B.gs,0,none⟩),.func (.func f) #[] caps] w fun e w'=>∃ v,e = .returned v ∧ OwnP w.heap.size 99 v (z2g (s.ops.filter K)) w' ∧ Below w.heap.size w w':=by
 have HP:=Lib.hid (zb4 X B T s hs M K f fn caps w h hn ht hfn hname hbody hK)
 have hperm:(z59 s.ops K (z0g s.names)).Perm (s.ops.filter K):=zd0 hn
 have hdn:((s.ops.filter K).map z00).Nodup:=(List.filter_sublist.map z00).nodup hn
 have hE:∀ L:List OpN,L.Perm (s.ops.filter K) → z2g L = z2g (s.ops.filter K):=fun L hL=>row_same hL hdn fun o _=>z0p o
 have HE:=Lib.hid (hE _ hperm)
 have HD:=Lib.hid ((hperm.map z00).nodup_iff.2 hdn)
 have HR:=Lib.hid (show ∀ x ∈ z59 s.ops K (z0g s.names),x.d.ref.length = 32 from fun x hx=>(ht.ops x (List.mem_filter.1 (hperm.mem_iff.1 hx)).1).d.ref.1)
 have HL:=Lib.hid (show (z59 s.ops K (z0g s.names)).length ≤ 1000 from by
  have h1:=zfm (L:=s.ops) (K:=K) (ns:=z0g s.names)
  rw [z36,DagN.names,List.length_map] at h1
  have:=ht.many
  exact Nat.le_trans h1 (by omega))
 obtain ⟨L,hL⟩:∃ L,z59 s.ops K (z0g s.names) = L:=⟨_,rfl⟩
 rw [hL] at HP HE HD HR HL
 clear h hn ht hfn hname hbody hK hperm hdn hE hL
 go_enter Tryz.func64,Tryz.ntmps64
 go_wp2_with (refine HP.out.mono ?_;rintro e w2 ⟨v,rfl,ho,hb⟩)
 have HB:=Lib.hid hb
 have HO:=Lib.hid ho
 clear hb HP
 rcases ho.formB with ⟨rfl,h0⟩ | ⟨gg,cap,rfl,_,hgg,_⟩
 ·have HS:=Lib.hid (AnyF.slices_SortFunc_none Tryz.sortPl none 0 (.func (.func 92) #[] #[]) w2)
  have HL0:=Lib.hid (show z2g (s.ops.filter K) = [] by rw [← HE.out,h0];rfl)
  clear ho h0 HO
  go_wp2_with (refine Calls.mono (f:=91) HS.out ?_;rintro e w3 ⟨rfl,rfl⟩)
  go_ret
  exact ⟨_,rfl,by rw [HL0.out];exact OwnP.nil _ _ _,HB.out⟩
 ·have HG:=Lib.hid hgg
  obtain ⟨n,hn⟩:∃ n,L.length = n:=⟨_,rfl⟩
  have HS:=Lib.hid (sort_pls ho rfl (by have:=HL.out;omega) HR.out HD.out)
  rw [hn] at HS ⊢
  clear ho hgg hn HO
  go_wp2_with (refine HS.out.mono ?_;rintro e w3 ⟨rfl,ho3,hg3⟩)
  go_ret
  exact ⟨_,rfl,by rw [← HE.out];exact ho3,HB.out.grown hg3 HB.out.size (fun k e=>by
   obtain rfl:gg = k:=by injection e
   exact HG.out)⟩
end Go.Proofs.YtnbldbbbibpobaaGreatDoor
