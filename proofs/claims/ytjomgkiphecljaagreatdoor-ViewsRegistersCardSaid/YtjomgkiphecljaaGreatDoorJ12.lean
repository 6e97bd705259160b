/-
  Joined: The document's set while it is turned: one of its four rows is another now.; The values of a printed region, together: what each is once it is there.; The document's Compare, Good.; In a region whose order is open: an operation by its law for a list; operations that make memory one behind the other (a chain) among others that do not.; The document's Rising. Written by dag/gen/gen_rising.py.
-/
import Derived.Test.YtjomgkiphecljaaGreatDoorJ01
import Derived.Test.YtjomgkiphecljaaGreatDoorJ02
import Derived.Test.YtjomgkiphecljaaGreatDoorJ03
import Derived.Test.YtjomgkiphecljaaGreatDoorJ04
import Derived.Test.YtjomgkiphecljaaGreatDoorJ11
set_option maxRecDepth 100000
set_option maxHeartbeats 4000000
namespace Go.Proofs.YtjomgkiphecljaaGreatDoor
open Go.RowKit Go.BigFrame
theorem z0u {B g n m:Nat} {e u:TypeId} {v:Value} {cs:List Value} {ds:Array Value} {w:World} (h:w.ownsRow B e n v m cs) (hc:Cells g u ds w) (hne:e ≠ u):v.ownBlock ≠ some g:=by
 intro hk
 rcases h.2 with ⟨h1,_⟩ | ⟨g',cap,cur,h1,_,h3,_⟩
 ·rw [h1] at hk
  cases hk
 ·rw [h1] at hk
  obtain rfl:g' = g:=by injection hk
  have h4:w.heap[g']? = some (.cells ds u (0,0)):=hc
  rw [h3] at h4
  injection h4 with h4
  injection h4 with _ h5
  exact hne h5
theorem z6p {B B' n n' m m':Nat} {e u:TypeId} {v v':Value} {cs ds:List Value} {w:World} (h:w.ownsRow B e n v m cs) (k:w.ownsRow B' u n' v' m' ds) (hne:e ≠ u) {g:Nat} (hg:v.ownBlock = some g):v'.ownBlock ≠ some g:=by
 rcases h.2 with ⟨h1,_⟩ | ⟨g1,cap,cur,h1,_,h3,_⟩
 ·rw [h1] at hg
  cases hg
 ·rw [h1] at hg
  obtain rfl:g1 = g:=by injection hg
  exact z0u k (show Cells g1 e cur w from h3) (Ne.symm hne)
structure RefL (X:Nat → Prop) (gs:Nat) (vo vw vn vq:Value) (A W:List OpN) (N Q:List (List Nat)) (w:World):Prop where
 cells:Cells gs 52 #[vo,vw,vn,vq] w
 ops:OwnX X 0 49 vo A w
 wait:OwnX X 0 49 vw W w
 names:OwnI 0 45 vn N w
 waits:OwnI 0 45 vq Q w
 mine:∀ b,RefX gs vo vw vn vq b → X b
 apart:∀ b,vo.ownBlock = some b → vw.ownBlock ≠ some b
 apartN:∀ b,vn.ownBlock = some b → vq.ownBlock ≠ some b
section
variable {X:Nat → Prop} {gs:Nat} {vo vw vn vq v:Value} {A W M:List OpN} {N Q K:List (List Nat)} {s:DagN} {w w':World}
theorem RefAt.l (h:RefAt X gs vo vw vn vq s w):RefL X gs vo vw vn vq s.ops s.wait s.names s.waits w:=⟨h.cells,h.ops,h.wait,h.names,h.waits,h.mine,h.apart,h.apartN⟩
theorem RefL.at (h:RefL X gs vo vw vn vq A W (A.map z02) (W.map z02) w):RefAt X gs vo vw vn vq ⟨A,W⟩ w:=⟨h.cells,h.ops,h.wait,h.names,h.waits,h.mine,h.apart,h.apartN⟩
theorem RefL.below (h:RefL X gs vo vw vn vq A W N Q w) (k:Below w.heap.size w w'):RefL X gs vo vw vn vq A W N Q w' :=
 ⟨h.cells.below k,h.ops.below k,h.wait.below k,h.names.below k,h.waits.below k,h.mine,h.apart,h.apartN⟩
theorem RefL.lt (h:RefL X gs vo vw vn vq A W N Q w) {b:Nat} (hb:RefX gs vo vw vn vq b):b < w.heap.size:=by
 rcases hb with rfl | hb | hb | hb | hb
 ·exact h.cells.lt
 ·exact (h.ops.lt hb).2
 ·exact (h.wait.lt hb).2
 ·exact (World.ownsRow.lt h.names b hb).2
 ·exact (World.ownsRow.lt h.waits b hb).2
theorem RefL.struct (h:RefL X gs vo vw vn vq A W N Q w):vo.ownBlock ≠ some gs ∧ vw.ownBlock ≠ some gs ∧ vn.ownBlock ≠ some gs ∧ vq.ownBlock ≠ some gs:=by
 obtain ⟨_,h1,_⟩:=h.ops
 obtain ⟨_,h2,_⟩:=h.wait
 exact ⟨z0u h1 h.cells (by decide),z0u h2 h.cells (by decide),z0u h.names h.cells (by decide),z0u h.waits h.cells (by decide)⟩
theorem RefL.cross (h:RefL X gs vo vw vn vq A W N Q w) {b:Nat}:(vo.ownBlock = some b → vn.ownBlock ≠ some b ∧ vq.ownBlock ≠ some b) ∧ (vw.ownBlock = some b → vn.ownBlock ≠ some b ∧ vq.ownBlock ≠ some b):=by
 obtain ⟨_,h1,_⟩:=h.ops
 obtain ⟨_,h2,_⟩:=h.wait
 exact ⟨fun hb=>⟨z6p h1 h.names (by decide) hb,z6p h1 h.waits (by decide) hb⟩,fun hb=>⟨z6p h2 h.names (by decide) hb,z6p h2 h.waits (by decide) hb⟩⟩
def Moved (v u:Value) (w:World):Prop:=∀ b,v.ownBlock = some b → u.ownBlock = some b ∨ w.heap.size ≤ b
theorem OwnI.only {O:Nat → Prop} {B:Nat} {e:TypeId} {v:Value} {L:List (List Nat)} {w w':World} (h:OwnI B e v L w) (k:Only O w w') (hv:∀ g,v.ownBlock = some g → ¬ O g):OwnI B e v L w':=by
 refine ⟨h.1,?_⟩
 rcases h.2 with h0 | ⟨g,cap,cur,he,hB,hg,r⟩
 ·exact .inl h0
 ·exact .inr ⟨g,cap,cur,he,hB,(k.block g (lt_of_block hg) (hv g (by rw [he];rfl))).trans hg,r⟩
theorem z7v {u:Value} {gs j:Nat} (k:Only (fun b=>u.ownBlock = some b) w w'):Only (fun b=>u.ownBlock = some b ∨ b = gs) w (w'.setCell ⟨gs,j,none⟩ v) :=
 (show Only (fun b=>u.ownBlock = some b ∨ b = gs) w w' from ⟨k.os,k.tape,k.output,k.size,fun i hi hn=>k.block i hi (fun e=>hn (.inl e))⟩).setCell _ _ (.inl (.inr rfl))
theorem z8h {gs j:Nat}:Only (fun b=>b = gs) w (w.setCell ⟨gs,j,none⟩ v):=(Only.refl _ _).setCell _ _ (.inl rfl)
theorem RefL.putOps (h:RefL X gs vo vw vn vq A W N Q w) (hX:∀ b,w.heap.size ≤ b → X b) (k:Only (fun b=>vo.ownBlock = some b) w w') (hv:OwnX X 0 49 v M w') (hm:Moved v vo w) :
 RefL X gs v vw vn vq M W N Q (w'.setCell ⟨gs,0,none⟩ v) ∧ Turn (RefX gs vo vw vn vq) (RefX gs v vw vn vq) w (w'.setCell ⟨gs,0,none⟩ v):=by
 obtain ⟨g1,g2,g3,g4⟩:=h.struct
 have hcs:=h.cells.only k (fun e=>g1 e)
 have k2:=z7v (v:=v) (gs:=gs) (j:=0) k
 have hPX:∀ b,(vo.ownBlock = some b ∨ b = gs) → X b:=fun b hb=>hb.elim (fun e=>h.mine b (.inr (.inl e))) (fun e=>h.mine b (.inl e))
 have hvg:v.ownBlock ≠ some gs:=by obtain ⟨_,h1,_⟩:=hv;exact z0u h1 hcs (by decide)
 refine ⟨⟨hcs.set 0 v,hv.only z8h (fun b hb=>h.mine b (.inl hb)) (fun g hg e=>hvg (e ▸ hg)),h.wait.only k2 hPX (fun g hg e=>e.elim (fun e=>h.apart g e hg) (fun e=>g2 (e ▸ hg))),h.names.only k2 (fun g hg e=>e.elim (fun e=>(h.cross.1 e).1 hg) (fun e=>g3 (e ▸ hg))),h.waits.only k2 (fun g hg e=>e.elim (fun e=>(h.cross.1 e).2 hg) (fun e=>g4 (e ▸ hg))),?_,?_,h.apartN⟩,⟨?_,?_⟩⟩
 ·rintro b (hb | hb | hb)
  ·exact h.mine b (.inl hb)
  ·exact (hm b hb).elim (fun e=>h.mine b (.inr (.inl e))) (hX b)
  ·exact h.mine b (.inr (.inr hb))
 ·intro b hb he
  rcases hm b hb with e | e
  ·exact h.apart b e he
  ·have:=(h.wait.lt he).2
   omega
 ·exact ⟨k2.os,k2.tape,k2.output,k2.size,fun i hi hn=>k2.block i hi (fun e=>hn (e.elim (fun e=>.inr (.inl e)) .inl))⟩
 ·rintro b (hb | hb | hb)
  ·exact .inl (.inl hb)
  ·exact (hm b hb).elim (fun e=>.inl (.inr (.inl e))) .inr
  ·exact .inl (.inr (.inr hb))
theorem RefL.putWait (h:RefL X gs vo vw vn vq A W N Q w) (hX:∀ b,w.heap.size ≤ b → X b) (k:Only (fun b=>vw.ownBlock = some b) w w') (hv:OwnX X 0 49 v M w') (hm:Moved v vw w) :
 RefL X gs vo v vn vq A M N Q (w'.setCell ⟨gs,1,none⟩ v) ∧ Turn (RefX gs vo vw vn vq) (RefX gs vo v vn vq) w (w'.setCell ⟨gs,1,none⟩ v):=by
 obtain ⟨g1,g2,g3,g4⟩:=h.struct
 have hcs:=h.cells.only k (fun e=>g2 e)
 have k2:=z7v (v:=v) (gs:=gs) (j:=1) k
 have hPX:∀ b,(vw.ownBlock = some b ∨ b = gs) → X b:=fun b hb=>hb.elim (fun e=>h.mine b (.inr (.inr (.inl e)))) (fun e=>h.mine b (.inl e))
 have hvg:v.ownBlock ≠ some gs:=by obtain ⟨_,h1,_⟩:=hv;exact z0u h1 hcs (by decide)
 refine ⟨⟨hcs.set 1 v,h.ops.only k2 hPX (fun g hg e=>e.elim (fun e=>h.apart g hg e) (fun e=>g1 (e ▸ hg))),hv.only z8h (fun b hb=>h.mine b (.inl hb)) (fun g hg e=>hvg (e ▸ hg)),h.names.only k2 (fun g hg e=>e.elim (fun e=>(h.cross.2 e).1 hg) (fun e=>g3 (e ▸ hg))),h.waits.only k2 (fun g hg e=>e.elim (fun e=>(h.cross.2 e).2 hg) (fun e=>g4 (e ▸ hg))),?_,?_,h.apartN⟩,⟨?_,?_⟩⟩
 ·rintro b (hb | hb | hb | hb)
  ·exact h.mine b (.inl hb)
  ·exact h.mine b (.inr (.inl hb))
  ·exact (hm b hb).elim (fun e=>h.mine b (.inr (.inr (.inl e)))) (hX b)
  ·exact h.mine b (.inr (.inr (.inr hb)))
 ·intro b hb he
  rcases hm b he with e | e
  ·exact h.apart b hb e
  ·have:=(h.ops.lt hb).2
   omega
 ·exact ⟨k2.os,k2.tape,k2.output,k2.size,fun i hi hn=>k2.block i hi (fun e=>hn (e.elim (fun e=>.inr (.inr (.inl e))) .inl))⟩
 ·rintro b (hb | hb | hb | hb)
  ·exact .inl (.inl hb)
  ·exact .inl (.inr (.inl hb))
  ·exact (hm b hb).elim (fun e=>.inl (.inr (.inr (.inl e)))) .inr
  ·exact .inl (.inr (.inr (.inr hb)))
theorem RefL.putNames (h:RefL X gs vo vw vn vq A W N Q w) (hX:∀ b,w.heap.size ≤ b → X b) (k:Only (fun b=>vn.ownBlock = some b) w w') (hv:OwnI 0 45 v K w') (hm:Moved v vn w) :
 RefL X gs vo vw v vq A W K Q (w'.setCell ⟨gs,2,none⟩ v) ∧ Turn (RefX gs vo vw vn vq) (RefX gs vo vw v vq) w (w'.setCell ⟨gs,2,none⟩ v):=by
 obtain ⟨g1,g2,g3,g4⟩:=h.struct
 have hcs:=h.cells.only k (fun e=>g3 e)
 have k2:=z7v (v:=v) (gs:=gs) (j:=2) k
 have hPX:∀ b,(vn.ownBlock = some b ∨ b = gs) → X b:=fun b hb=>hb.elim (fun e=>h.mine b (.inr (.inr (.inr (.inl e))))) (fun e=>h.mine b (.inl e))
 have hvg:v.ownBlock ≠ some gs:=z0u hv hcs (by decide)
 refine ⟨⟨hcs.set 2 v,h.ops.only k2 hPX (fun g hg e=>e.elim (fun e=>(h.cross.1 hg).1 e) (fun e=>g1 (e ▸ hg))),h.wait.only k2 hPX (fun g hg e=>e.elim (fun e=>(h.cross.2 hg).1 e) (fun e=>g2 (e ▸ hg))),hv.only z8h (fun g hg e=>hvg (e ▸ hg)),h.waits.only k2 (fun g hg e=>e.elim (fun e=>h.apartN g e hg) (fun e=>g4 (e ▸ hg))),?_,h.apart,?_⟩,⟨?_,?_⟩⟩
 ·rintro b (hb | hb | hb | hb | hb)
  ·exact h.mine b (.inl hb)
  ·exact h.mine b (.inr (.inl hb))
  ·exact h.mine b (.inr (.inr (.inl hb)))
  ·exact (hm b hb).elim (fun e=>h.mine b (.inr (.inr (.inr (.inl e))))) (hX b)
  ·exact h.mine b (.inr (.inr (.inr (.inr hb))))
 ·intro b hb he
  rcases hm b hb with e | e
  ·exact h.apartN b e he
  ·have:=(World.ownsRow.lt h.waits b he).2
   omega
 ·exact ⟨k2.os,k2.tape,k2.output,k2.size,fun i hi hn=>k2.block i hi (fun e=>hn (e.elim (fun e=>.inr (.inr (.inr (.inl e)))) .inl))⟩
 ·rintro b (hb | hb | hb | hb | hb)
  ·exact .inl (.inl hb)
  ·exact .inl (.inr (.inl hb))
  ·exact .inl (.inr (.inr (.inl hb)))
  ·exact (hm b hb).elim (fun e=>.inl (.inr (.inr (.inr (.inl e))))) .inr
  ·exact .inl (.inr (.inr (.inr (.inr hb))))
theorem RefL.putWaits (h:RefL X gs vo vw vn vq A W N Q w) (hX:∀ b,w.heap.size ≤ b → X b) (k:Only (fun b=>vq.ownBlock = some b) w w') (hv:OwnI 0 45 v K w') (hm:Moved v vq w) :
 RefL X gs vo vw vn v A W N K (w'.setCell ⟨gs,3,none⟩ v) ∧ Turn (RefX gs vo vw vn vq) (RefX gs vo vw vn v) w (w'.setCell ⟨gs,3,none⟩ v):=by
 obtain ⟨g1,g2,g3,g4⟩:=h.struct
 have hcs:=h.cells.only k (fun e=>g4 e)
 have k2:=z7v (v:=v) (gs:=gs) (j:=3) k
 have hPX:∀ b,(vq.ownBlock = some b ∨ b = gs) → X b:=fun b hb=>hb.elim (fun e=>h.mine b (.inr (.inr (.inr (.inr e))))) (fun e=>h.mine b (.inl e))
 have hvg:v.ownBlock ≠ some gs:=z0u hv hcs (by decide)
 refine ⟨⟨hcs.set 3 v,h.ops.only k2 hPX (fun g hg e=>e.elim (fun e=>(h.cross.1 hg).2 e) (fun e=>g1 (e ▸ hg))),h.wait.only k2 hPX (fun g hg e=>e.elim (fun e=>(h.cross.2 hg).2 e) (fun e=>g2 (e ▸ hg))),h.names.only k2 (fun g hg e=>e.elim (fun e=>h.apartN g hg e) (fun e=>g3 (e ▸ hg))),hv.only z8h (fun g hg e=>hvg (e ▸ hg)),?_,h.apart,?_⟩,⟨?_,?_⟩⟩
 ·rintro b (hb | hb | hb | hb | hb)
  ·exact h.mine b (.inl hb)
  ·exact h.mine b (.inr (.inl hb))
  ·exact h.mine b (.inr (.inr (.inl hb)))
  ·exact h.mine b (.inr (.inr (.inr (.inl hb))))
  ·exact (hm b hb).elim (fun e=>h.mine b (.inr (.inr (.inr (.inr e))))) (hX b)
 ·intro b hb he
  rcases hm b he with e | e
  ·exact h.apartN b hb e
  ·have:=(World.ownsRow.lt h.names b hb).2
   omega
 ·exact ⟨k2.os,k2.tape,k2.output,k2.size,fun i hi hn=>k2.block i hi (fun e=>hn (e.elim (fun e=>.inr (.inr (.inr (.inr e)))) .inl))⟩
 ·rintro b (hb | hb | hb | hb | hb)
  ·exact .inl (.inl hb)
  ·exact .inl (.inr (.inl hb))
  ·exact .inl (.inr (.inr (.inl hb)))
  ·exact .inl (.inr (.inr (.inr (.inl hb))))
  ·exact (hm b hb).elim (fun e=>.inl (.inr (.inr (.inr (.inr e))))) .inr
def Loc (O:Nat → Prop) (g:Nat) (w:World):Prop:=g < w.heap.size ∧ ¬ O g
theorem Loc.turn {O O':Nat → Prop} {g:Nat} {w w':World} (h:Loc O g w) (k:Turn O O' w w'):Loc O' g w' :=
 ⟨Nat.lt_of_lt_of_le h.1 k.only.size,fun e=>by
  rcases k.own g e with e | e
  ·exact h.2 e
  ·have:=h.1
   omega⟩
end
def Vals (q:Nat → Bool) (V:Nat → Value) (L:List (Nat × Value)):Prop:=∀ n v,q n = true → L.lookup n = some v → V n = v
section
variable {q:Nat → Bool} {V:Nat → Value} {L:List (Nat × Value)} {i n:Nat} {v u:Value}
theorem Vals.none:Vals (fun _=>false) V L:=fun _ _ h=>by cases h
theorem Vals.set (h:Vals q V L) (hl:L.lookup i = some v):Vals (fun j=>q j || j == i) (upd V i v) L:=fun n x hn hx=>by
 by_cases e:n = i
 ·subst e
  rw [z2f]
  exact Option.some.inj (hl.symm.trans hx)
 ·rw [z1x V v e]
  exact h n x (z7j e hn) hx
theorem Vals.off (h:Vals q V L) (hl:L.lookup i = Option.none):Vals (fun j=>q j || j == i) (upd V i u) L:=fun n x hn hx=>by
 by_cases e:n = i
 ·subst e
  rw [hl] at hx
  cases hx
 ·rw [z1x V u e]
  exact h n x (z7j e hn) hx
theorem Vals.get (h:Vals q V L) (n:Nat) (hq:q n = true) (hl:L.lookup n = some v):V n = v:=h n v hq hl
end
example (q:Nat → Bool) (V:Nat → Value) (a b c:Value) (h:Vals q V [(0,a),(1,b),(2,.bool true),(5,c)]) (hq:∀ i,i < 6 → q i = true) (K:Value → (Nat → Bool) → (Nat → Value) → Prop) (hK:∀ v,Vals (fun j=>q j || j == 5) (upd V 5 v) [(0,a),(1,b),(2,.bool true),(5,c)] ∧ True → K v q V):K c q V ∧ V 1 = b:=by
 refine ⟨hK _ ⟨h.set rfl,trivial⟩,?_⟩
 have v1:=h.get 1 (hq 1 (by decide)) rfl
 have v2:=h.get 2 (hq 2 (by decide)) rfl
 have v5:=h.get 5 (hq 5 (by decide)) rfl
 exact v1
example (q:Nat → Bool) (V:Nat → Value) (a b c:Value) (h:Vals q V [(0,a),(1,b),(2,.bool true),(5,c)]) (u:Value):Vals (fun j=>q j || j == 3) (upd V 3 u) [(0,a),(1,b),(2,.bool true),(5,c)]:=h.off rfl
theorem zlo {a b:List Nat} {i:Nat} (ha:i < a.length) (hb:i < b.length):z1o (a.drop i) (b.drop i) = if a[i] < b[i] then -1 else if b[i] < a[i] then 1 else z1o (a.drop (i + 1)) (b.drop (i + 1)):=by
 rw [List.drop_eq_getElem_cons ha,List.drop_eq_getElem_cons hb,z1o]
theorem cmpN_end {a b:List Nat} {i:Nat} (ha:a.length ≤ i):z1o (a.drop i) (b.drop i) = 0:=by
 rw [List.drop_eq_nil_of_le ha,z1o]
 intro x y z t h
 cases h
theorem zg8 {g:Nat} {t:TypeId} {l:List Nat} {w:World} (h:Cells g t (z05 .u8 l).toArray w) {i:Nat} (hi:i < l.length):w.cell? ⟨g,i,none⟩ = some (.int .u8 (l[i]:Int)):=by
 rw [h.at,List.getElem?_toArray,z05,List.getElem?_map,List.getElem?_eq_getElem hi]
 rfl
theorem z5o (a b:List Nat) (ha:IdOk a) (hb:IdOk b) (w:World) :
 Calls Tryz.prog 42 #[.agg (z05 .u8 a).toArray,.agg (z05 .u8 b).toArray] w fun e w'=>e = .returned (.int .i64 (z1o a b)) ∧ Below w.heap.size w w':=by
 have b1:Below w.heap.size w (w.alloc (.cells (z05 .u8 a).toArray 45)):=(Below.refl _ _).alloc (Nat.le_refl _) _
 have x1:Cells w.heap.size 45 (z05 .u8 a).toArray (w.alloc (.cells (z05 .u8 a).toArray 45)):=heap_alloc_new w _
 have s1:(w.alloc (.cells (z05 .u8 a).toArray 45)).heap.size = w.heap.size + 1:=World.size_alloc _ _
 have b2:Below (w.alloc (.cells (z05 .u8 a).toArray 45)).heap.size (w.alloc (.cells (z05 .u8 a).toArray 45)) ((w.alloc (.cells (z05 .u8 a).toArray 45)).alloc (.cells (z05 .u8 b).toArray 45)):=(Below.refl _ _).alloc (Nat.le_refl _) _
 have x2:Cells (w.alloc (.cells (z05 .u8 a).toArray 45)).heap.size 45 (z05 .u8 b).toArray ((w.alloc (.cells (z05 .u8 a).toArray 45)).alloc (.cells (z05 .u8 b).toArray 45)):=heap_alloc_new _ _
 rw [s1] at x2
 have HX1:=Lib.hid (x1.below b2)
 have HX2:=Lib.hid x2
 have HB:=Lib.hid (b1.trans (b2.mono b1.size))
 have HA:=Lib.hid ha
 have HBB:=Lib.hid hb
 clear b1 x1 s1 b2 x2 ha hb
 go_enter Tryz.func42,Tryz.ntmps42
 go_upto_region 1 with (fail)
 obtain ⟨w2,hw2⟩:∃ x,x = ((w.alloc (.cells (z05 .u8 a).toArray 45)).alloc (.cells (z05 .u8 b).toArray 45)):=⟨_,rfl⟩
 rw [← hw2] at HX1 HX2 HB ⊢
 clear hw2
 go_wp2_with fail
 go_loopw [6] (fun i wr=>∃ k:Nat,k ≤ 32 ∧ i = .int .i64 k ∧ z1o (a.drop k) (b.drop k) = z1o a b ∧ Cells w.heap.size 45 (z05 .u8 a).toArray wr ∧ Cells (w.heap.size + 1) 45 (z05 .u8 b).toArray wr ∧ Below w.heap.size w wr) (fun i _=>32 - (intOf i).toNat)
 case atStart=>exact ⟨0,by omega,rfl,rfl,HX1.out,HX2.out,HB.out⟩
 case round =>
  obtain ⟨k,hk,rfl,hc,h1,h2,hb⟩:=hrel
  have HY1:=Lib.hid h1
  have HY2:=Lib.hid h2
  have HY:=Lib.hid hb
  have HC:=Shut.mk hc
  by_cases hlt:k < 32
  ·have hka:k < a.length:=by rw [HA.out.1];exact hlt
   have hkb:k < b.length:=by rw [HBB.out.1];exact hlt
   have c1:=zg8 h1 hka
   have c2:=zg8 h2 hkb
   have HS:=Shut.mk (zlo hka hkb)
   have hxa:=HA.out.2 _ (List.getElem_mem hka)
   have hxb:=HBB.out.2 _ (List.getElem_mem hkb)
   obtain ⟨x,hx⟩:∃ x,a[k] = x:=⟨_,rfl⟩
   obtain ⟨y,hy⟩:∃ y,b[k] = y:=⟨_,rfl⟩
   rw [hx] at c1 HS hxa
   rw [hy] at c2 HS hxb
   clear hx hy hka hkb h1 h2 hb hc HX1 HX2 HB
   by_cases hxy:x < y
   ·have hxyi:(x:Int) < (y:Int):=by omega
    go_upto_region 4 with (fail)
    go_quiet (fail)
    go_wp2_with fail
    go_ret
    exact ⟨by rw [← HC.out,HS.out,if_pos hxy];rfl,z0v HY.out _⟩
   ·by_cases hyx:y < x
    ·have hyxi:(y:Int) < (x:Int):=by omega
     go_upto_region 4 with (fail)
     go_quiet (fail)
     obtain ⟨w3,hw3⟩:∃ x,x = wr.drewN nq:=⟨_,rfl⟩
     have c13:w3.cell? ⟨w.heap.size,k,none⟩ = some (.int .u8 (x:Int)):=by rw [hw3];exact c1
     have c23:w3.cell? ⟨w.heap.size + 1,k,none⟩ = some (.int .u8 (y:Int)):=by rw [hw3];exact c2
     have HZ:=Lib.hid (show Below w.heap.size w w3 by rw [hw3];exact z0v HY.out _)
     have HZ1:=Lib.hid (show Cells w.heap.size 45 (z05 .u8 a).toArray w3 by rw [hw3];exact HY1.out)
     have HZ2:=Lib.hid (show Cells (w.heap.size + 1) 45 (z05 .u8 b).toArray w3 by rw [hw3];exact HY2.out)
     rw [← hw3]
     clear hw3 c1 c2
     go_upto_region 6 with (fail)
     go_quiet (fail)
     go_wp2_with fail
     go_ret
     exact ⟨by rw [← HC.out,HS.out,if_neg hxy,if_pos hyx];rfl,z0v HZ.out _⟩
    ·have hxyi:¬ (x:Int) < (y:Int):=by omega
     have hyxi:¬ (y:Int) < (x:Int):=by omega
     go_upto_region 4 with (fail)
     go_quiet (fail)
     obtain ⟨w3,hw3⟩:∃ x,x = wr.drewN nq:=⟨_,rfl⟩
     have c13:w3.cell? ⟨w.heap.size,k,none⟩ = some (.int .u8 (x:Int)):=by rw [hw3];exact c1
     have c23:w3.cell? ⟨w.heap.size + 1,k,none⟩ = some (.int .u8 (y:Int)):=by rw [hw3];exact c2
     have HZ:=Lib.hid (show Below w.heap.size w w3 by rw [hw3];exact z0v HY.out _)
     have HZ1:=Lib.hid (show Cells w.heap.size 45 (z05 .u8 a).toArray w3 by rw [hw3];exact HY1.out)
     have HZ2:=Lib.hid (show Cells (w.heap.size + 1) 45 (z05 .u8 b).toArray w3 by rw [hw3];exact HY2.out)
     rw [← hw3]
     clear hw3 c1 c2
     go_upto_region 6 with (fail)
     go_quiet (fail)
     go_wp2_with fail
     exact ⟨⟨k + 1,by omega,by go_num,by rw [← HC.out,HS.out,if_neg hxy,if_neg hyx],HZ1.out,HZ2.out,z0v HZ.out _⟩,by simp [intOf];omega⟩
  ·obtain rfl:k = 32:=by omega
   rw [cmpN_end (by rw [HA.out.1];exact Nat.le_refl _)] at HC
   clear h1 h2 hb hc HX1 HX2 HB
   go_wp2_with fail
   go_ret
   exact ⟨by rw [← HC.out];rfl,HY.out⟩
end Go.Proofs.YtjomgkiphecljaaGreatDoor
namespace Go.Proofs.YtjomgkiphecljaaGreatDoor
open Go.RowKit
theorem z1n {P:Program} {ops:Array Oper} {o:Oper} {a:Act} {w:World} {K:Act → World → Prop} {Q:Exit → Act → World → Prop} (hg:o.guard = none)
 (h:wpList P ops (fun e a w=>e = Exit.normal ∧ K a w) [o] a w):OpWp P o a w K Q:=by
 refine ⟨?_⟩
 unfold wpList at h
 simp only [Region.wanted,hg,if_true] at h
 rcases h with h | ⟨_,a',w',h,_⟩
 ·unfold Oper.wp at *
  generalize (execOp a.eval o).run P w = r at *
  cases r with
  | ok n w' =>
    cases n <;> simp only [Oper.upon] at h ⊢ <;> first
     | exact h.2
     | exact Rows.mono h (fun _ _ he=>he.2)
     | (refine Calls.mono h (fun e w'' he => ?_)
        cases e with
        | returned v=>exact he.2
        | panicked c=>cases he.1
        | outgrown =>
          obtain ⟨_,_,h0,_⟩:=he
          cases h0)
  | halt x w' =>
    cases x <;> simp only [Oper.upon] at h ⊢
    cases h.1
 ·cases h
theorem z2x {P:Program} {ops:Array Oper} {rest:List Oper} {o:Oper} {a:Act} {w:World} {Q:Exit → Act → World → Prop} (hgd:o.guard = none) (t:TypeId) (x y:Operand) (ho:o.op = .slice t x (some y) none none) (vx vy r:Value) (hx:a.eval x = vx) (hy:a.eval y = vy)
 (hr:∀ w,(Instr.sliceAt t vx (some vy) none none).run P w = .ok r w) (h:wpList P ops Q rest (a.put o.dst r) w):wpList P ops Q (o :: rest) a w:=by
 refine wpList_plain hgd fun K hK=>?_
 unfold Oper.wp execOp
 simp only [ho,Option.map_some,Option.map_none,hx,hy,Sem.run_bind,hr w,Result.andThen_ok,Sem.run_pure]
 exact hK _ _ h
theorem za9 {P:Program} {o:Oper} {a:Act} {w:World} {K:Act → World → Prop} {Q:Exit → Act → World → Prop} (t:TypeId) (x y:Operand) (ho:o.op = .slice t x (some y) none none) (vx vy r:Value) (hx:a.eval x = vx) (hy:a.eval y = vy)
 (hr:∀ w,(Instr.sliceAt t vx (some vy) none none).run P w = .ok r w) (h:K (a.put o.dst r) w):OpWp P o a w K Q:=by
 refine ⟨?_⟩
 unfold Oper.wp execOp
 simp only [ho,Option.map_some,Option.map_none,hx,hy,Sem.run_bind,hr w,Result.andThen_ok,Sem.run_pure]
 exact h
theorem zb0 {P:Program} {o:Oper} {a:Act} {w:World} {K:Act → World → Prop} {Q:Exit → Act → World → Prop} (t:TypeId) (x y:Operand) (ho:o.op = .slice t x none (some y) none) (vx vy r:Value) (hx:a.eval x = vx) (hy:a.eval y = vy)
 (hr:∀ w,(Instr.sliceAt t vx none (some vy) none).run P w = .ok r w) (h:K (a.put o.dst r) w):OpWp P o a w K Q:=by
 refine ⟨?_⟩
 unfold Oper.wp execOp
 simp only [ho,Option.map_some,Option.map_none,hx,hy,Sem.run_bind,hr w,Result.andThen_ok,Sem.run_pure]
 exact h
theorem zb4 {P:Program} {o:Oper} {a:Act} {w:World} {K:Act → World → Prop} {Q:Exit → Act → World → Prop} (t:TypeId) (x y z:Operand) (ho:o.op = .slice t x none (some y) (some z)) (vx vy vz r:Value) (hx:a.eval x = vx) (hy:a.eval y = vy) (hz:a.eval z = vz)
 (hr:∀ w,(Instr.sliceAt t vx none (some vy) (some vz)).run P w = .ok r w) (h:K (a.put o.dst r) w):OpWp P o a w K Q:=by
 refine ⟨?_⟩
 unfold Oper.wp execOp
 simp only [ho,Option.map_some,Option.map_none,hx,hy,hz,Sem.run_bind,hr w,Result.andThen_ok,Sem.run_pure]
 exact h
structure Chain (c:List Nat) (A:World → Prop) (M:Nat → Value → World → Prop) (s:Nat → Bool) (V:Nat → Value) (w:World):Prop where
 always:A w
 now:∃ m,m ≤ c.length ∧ (∀ p,p < c.length → s (c.getD p 0) = decide (p < m)) ∧ M m (V (c.getD (m - 1) 0)) w
section
variable {c:List Nat} {A:World → Prop} {M:Nat → Value → World → Prop} {s:Nat → Bool} {V:Nat → Value} {w w':World}
theorem Chain.none (hA:A w) (hM:∀ v,M 0 v w):Chain c A M (fun _=>false) V w:=⟨hA,0,Nat.zero_le _,fun _ _=>rfl,hM _⟩
theorem zlw {c:List Nat} {k p:Nat} (hc:k ∉ c) (hp:p < c.length):c.getD p 0 ≠ k:=fun h=>hc (by
 rw [List.getD_eq_getElem?_getD,List.getElem?_eq_getElem hp] at h
 rw [← h]
 exact List.getElem_mem hp)
theorem Chain.ne {k:Nat} {v:Value} (h:Chain c A M s V w) (hc:k ∉ c) (h0:0 < c.length):Chain c A M (fun n=>s n || n == k) (upd V k v) w:=by
 obtain ⟨hA,m,hm,hs,hM⟩:=h
 refine ⟨hA,m,hm,fun p hp=>?_,?_⟩
 ·have:=zlw hc hp
  show (s (c.getD p 0) || c.getD p 0 == k) = _
  rw [← hs p hp,beq_false_of_ne this,Bool.or_false]
 ·rw [z1x V v (zlw hc (by omega))]
  exact hM
theorem Chain.at (h:Chain c A M s V w) (p:Nat) (hp:p < c.length) (hu:s (c.getD p 0) = false) (hd:p = 0 ∨ s (c.getD (p - 1) 0) = true):M p (V (c.getD (p - 1) 0)) w:=by
 obtain ⟨_,m,hm,hs,hM⟩:=h
 have h1:=hs p hp
 rw [hu] at h1
 have h1:¬ p < m:=of_decide_eq_false h1.symm
 have h2:p ≤ m:=by
  rcases hd with rfl | hd
  ·exact Nat.zero_le _
  ·have h3:=hs (p - 1) (by omega)
   rw [hd] at h3
   have:=of_decide_eq_true h3.symm
   omega
 obtain rfl:m = p:=by omega
 exact hM
theorem Chain.step {v:Value} (h:Chain c A M s V w) (p:Nat) (hp:p < c.length) (hn:∀ q,q < c.length → q ≠ p → c.getD q 0 ≠ c.getD p 0) (hu:s (c.getD p 0) = false) (hd:p = 0 ∨ s (c.getD (p - 1) 0) = true) (hA:A w') (hM:M (p + 1) v w') :
 Chain c A M (fun n=>s n || n == c.getD p 0) (upd V (c.getD p 0) v) w':=by
 obtain ⟨_,m,hm,hs,_⟩:=h
 have h1:=hs p hp
 rw [hu] at h1
 have h1:¬ p < m:=of_decide_eq_false h1.symm
 have h2:p ≤ m:=by
  rcases hd with rfl | hd
  ·exact Nat.zero_le _
  ·have h3:=hs (p - 1) (by omega)
   rw [hd] at h3
   have:=of_decide_eq_true h3.symm
   omega
 obtain rfl:m = p:=by omega
 refine ⟨hA,m + 1,by omega,fun q hq=>?_,?_⟩
 ·show (s (c.getD q 0) || c.getD q 0 == c.getD m 0) = _
  rw [hs q hq]
  by_cases hqm:q = m
  ·subst hqm
   simp
  ·have hne:c.getD q 0 ≠ c.getD m 0:=hn q hq hqm
   have e1:(c.getD q 0 == c.getD m 0) = false:=beq_false_of_ne hne
   rw [e1,Bool.or_false]
   exact decide_eq_decide.2 (by omega)
 ·rw [Nat.add_sub_cancel,z2f]
  exact hM
theorem Chain.fin (h:Chain c A M s V w) (hall:∀ p,p < c.length → s (c.getD p 0) = true):M c.length (V (c.getD (c.length - 1) 0)) w:=by
 obtain ⟨_,m,hm,hs,hM⟩:=h
 by_cases h0:m < c.length
 ·have:=hs m h0
  rw [hall m h0] at this
  exact absurd (of_decide_eq_true this.symm) (by omega)
 ·obtain rfl:m = c.length:=by omega
  exact hM
end
open Go.BigFrame
theorem zck:∀ (a b:List Nat),z1o a b = -1 ∨ z1o a b = 0 ∨ z1o a b = 1
 | [],[]=>.inr (.inl (by rw [z1o];intro a x b y h;cases h))
 | [],_ :: _=>.inr (.inl (by rw [z1o];intro a x b y h;cases h))
 | _ :: _,[]=>.inr (.inl (by rw [z1o];intro a x b y h h2;cases h2))
 | x :: a, y :: b => by
   rw [z1o]
   split
   ·exact .inl rfl
   ·split
    ·exact .inr (.inr rfl)
    ·exact zck a b
theorem z4n {L:List (List Nat)} (h:Ids L):Ids (z0g L):=fun x hx=>h x (risingN_mem.1 hx)
theorem zgo {L:List (List Nat)} {k:Nat} (h:k < L.length):z0g (L.take (k + 1)) = zb9 (L.getD k []) (z0g (L.take k)):=by
 rw [List.take_succ_eq_append_getElem h,zdx,List.getD_eq_getElem?_getD,List.getElem?_eq_getElem h]
 rfl
theorem OwnI.cap {B:Nat} {e:TypeId} {ao:Option Addr} {n c:Nat} {L:List (List Nat)} {w:World} (h:OwnI B e (.slice ao n c) L w):L.length ≤ c ∧ (ao = none → c = 0):=by
 rcases h.2 with ⟨h1,h2⟩ | ⟨g,cap,cur,h1,h2,h3,h4,_⟩
 ·cases h1
  exact ⟨by omega,fun _=>rfl⟩
 ·cases h1
  exact ⟨h4,fun h=>by cases h⟩
theorem IAt.drop {ap:Option Addr} {L:List (List Nat)} {w:World} {c j:Nat} (h:IAt ap L w) (hc:L.length ≤ c):IAt (if c = j then ap else ap.map (·.add (j * 32))) (L.drop j) w:=by
 by_cases hj:L.length ≤ j
 ·exact .inl (List.drop_eq_nil_of_le hj)
 rw [if_neg (by omega)]
 rcases h with rfl | ⟨b,o,rfl,h2,h3⟩
 ·exact .inl (by simp)
 ·refine .inr ⟨b,o + j * 32,by simp [Addr.add_lit],h2,fun i hi=>?_⟩
  rw [List.length_drop] at hi
  have:=h3 (j + i) (by omega)
  rw [show o + 32 * (j + i) = o + j * 32 + 32 * i by omega] at this
  rw [List.getD_eq_getElem?_getD,List.getElem?_drop,← List.getD_eq_getElem?_getD]
  exact this
theorem IAt.take {ap:Option Addr} {L:List (List Nat)} {w:World} (h:IAt ap L w) (j:Nat):IAt ap (L.take j) w:=by
 rcases h with rfl | ⟨b,o,rfl,h2,h3⟩
 ·exact .inl (by simp)
 ·refine .inr ⟨b,o,rfl,h2,fun i hi=>?_⟩
  rw [List.length_take] at hi
  rw [List.getD_eq_getElem?_getD,List.getElem?_take_of_lt (by omega),← List.getD_eq_getElem?_getD]
  exact h3 i (by omega)
theorem ze1 {ap:Option Addr} {c j:Nat} (h:ap = none → c = 0):(if c = j then ap else ap.map (·.add (j * 32))) = none → c - j = 0:=by
 intro he
 split at he
 ·omega
 ·cases ap with
  | none=>rw [h rfl];omega
  | some z=>cases he
theorem z56 (ap:Option Addr) (n c j:Nat) (hj:j ≤ n) (_hc:n ≤ c) (w:World):(Instr.sliceAt 40 (.slice ap n c) (some (.int .i64 (j:Int))) none none).run Tryz.prog w = .ok (.slice (if c = j then ap else ap.map (·.add (j * 32))) (n - j) (c - j)) w:=by
 go_simp
theorem z6y (ap:Option Addr) (n c j:Nat) (hj:j ≤ n) (hc:n ≤ c) (w:World):(Instr.sliceAt 40 (.slice ap n c) none (some (.int .i64 (j:Int))) (some (.int .i64 (j:Int)))).run Tryz.prog w = .ok (.slice ap j j) w:=by
 go_simp
 intro h
 omega
theorem z5j {g:Nat} {t:TypeId} {x:List Nat} {w:World} (h:Blk g t .u8 x w):IAt (some ⟨g,0,none⟩) [x] w :=
 .inr ⟨g,0,rfl,h.lt,fun i hi j v hj=>by
  obtain rfl:i = 0:=by simpa using hi
  have e:w.cell? ⟨g,j,none⟩ = (z05 .u8 x).toArray[j]?:=Lib.cell_of_heap h j
  rw [List.getElem?_toArray] at e
  simp only [Nat.mul_zero,Nat.zero_add]
  rw [e]
  simpa using hj⟩
def RisM (x:List Nat) (O:List (List Nat)) (j:Nat) (w7:World):Nat → Value → World → Prop
 | 0,_,w'=>Below w7.heap.size w7 w'
 | 1,v,w'=>Below w7.heap.size w7 w' ∧ ∃ g,v = .slice (some ⟨g,0,none⟩) 1 1 ∧ IAt (some ⟨g,0,none⟩) [x] w'
 | 2,v,w'=>Below w7.heap.size w7 w' ∧ OwnI w7.heap.size 45 v (O.take j ++ [x]) w'
 | _,v,w'=>Below w7.heap.size w7 w' ∧ OwnI w7.heap.size 45 v (O.take j ++ [x] ++ O.drop j) w'
theorem z8i (L:List (List Nat)) (ao:Option Addr) (n c:Nat) (w:World) (hL:Ids L) (hn:L.length = n) (hat:IAt ao L w) (h63:n ≤ 1000000) :
 Calls Tryz.prog 34 #[.slice ao n c] w fun e w'=>∃ v,e = .returned v ∧ OwnI w.heap.size 45 v (z0g L) w' ∧ Below w.heap.size w w':=by
 have HL:=Lib.hid hL
 have HN:=Shut.mk hn
 have HAT:=Lib.hid hat
 clear hL hn hat
 go_enter Tryz.func34,Tryz.ntmps34
 go_wp2_with fail
 go_loopw [3,10] (fun v i wr=>∃ k:Nat,k ≤ n ∧ i = .int .i64 k ∧ OwnI w.heap.size 45 v (z0g (L.take k)) wr ∧ Below w.heap.size w wr) (fun _ i _=>n - (intOf i).toNat)
 case atStart=>exact ⟨0,Nat.zero_le _,rfl,OwnI.nil _ _ _,Below.refl _ _⟩
 case round =>
  obtain ⟨k,hk,rfl,hown,hbw⟩:=hrel
  have HBW:=Lib.hid hbw
  by_cases hlt:k < n
  ·have hri:=Ids.take HL.out k
   have HOI:=Lib.hid (z4n hri)
   have HNX:=Shut.mk (zgo (L:=L) (k:=k) (by rw [HN.out];exact hlt))
   have hol:(z0g (L.take k)).length = k:=by rw [z3a,List.length_take,HN.out];omega
   obtain ⟨O,hO⟩:∃ O,z0g (L.take k) = O:=⟨_,rfl⟩
   rw [hO] at hown HOI HNX hol
   have HOL:=Shut.mk hol
   obtain ⟨ap,cap,hv⟩:=hown.form
   subst hv
   have HOA:=Lib.hid (hown.at HOI.out)
   have HOWN:=Lib.hid hown
   rw [hol]
   have HATW:=Lib.hid (HAT.out.below hbw)
   obtain ⟨b,ob,rfl,hbl⟩:=HATW.out.some (by rw [HN.out];omega)
   have g1:=HATW.out.get (i:=k) (by rw [HN.out];omega)
   have i1:=Ids.getD HL.out (i:=k) (by rw [HN.out];omega)
   obtain ⟨x,hx⟩:∃ x,L.getD k [] = x:=⟨_,rfl⟩
   rw [hx] at g1 i1 HNX
   have HG1:=Lib.hid g1
   have HI1:=Lib.hid i1
   have HS1:=Lib.hid (show (Tryz.prog.info? 45).map (·.size) = some x.length by rw [i1.1];exact Tryz.sizeI)
   have HL2:=Lib.hid (show (List.replicate 32 0).length = x.length by rw [i1.1];rfl)
   clear hx g1 i1 hbl hbw hri hol hO hown
   go_wp2_with (first
    | (refine z0a rfl 45 _ rfl b (ob + k * 32) x _ rfl HG1.out Tryz.underlying45 rfl HS1.out ?_)
    | (refine z06 rfl 45 _ _ rfl rfl wr.heap.size .u8 (List.replicate 32 0) x 45 rfl rfl (heap_alloc_new wr _) HS1.out HL2.out ?_))
   intro w5 hc' hb'
   have HY:=Lib.hid hc'.out
   have HBY:=Lib.hid (show Below wr.heap.size wr w5 from But.toBelow ((Below.refl _ _).alloc (Nat.le_refl _) _) hb'.out (Nat.le_refl _) (by rw [World.size_alloc];exact Nat.le_succ _))
   have HB5:=Lib.hid (HBW.out.trans (HBY.out.mono HBW.out.size))
   clear hc' hb' HL2
   go_wp2_with fail
   obtain ⟨wo,hwo⟩:∃ x,x = wr:=⟨_,rfl⟩
   subst hwo
   go_loopw [6] (fun i wq=>∃ j:Nat,j ≤ k ∧ j ≤ zgb x O ∧ i = .int .i64 j ∧ Below w5.heap.size w5 wq) (fun i _=>k - (intOf i).toNat)
   case atStart=>exact ⟨0,Nat.zero_le _,Nat.zero_le _,rfl,Below.refl _ _⟩
   case round =>
    obtain ⟨j,hj,hjp,rfl,hbq⟩:=hrel
    have HBQ:=Lib.hid hbq
    have HPL:=Lib.hid hjp
    have HYQ:=Lib.hid (fun (w':World) (q:Below wr.heap.size wr w')=>(HY.out.below hbq).below q)
    have HOQ:=Lib.hid ((HOA.out.below HBY.out).below hbq)
    clear hbq hjp
    by_cases hjk:j < k
    ·have HST:=Lib.hid (zeo x O j (by rw [HOL.out];exact hjk) HPL.out)
     obtain ⟨bo,oo,rfl,hbo⟩:=HOQ.out.some (by rw [HOL.out];omega)
     have g2:=HOQ.out.get (i:=j) (by rw [HOL.out];omega)
     have i2:=Ids.getD HOI.out (i:=j) (by rw [HOL.out];omega)
     obtain ⟨y,hy⟩:∃ y,O.getD j [] = y:=⟨_,rfl⟩
     rw [hy] at g2 i2 HST
     have HG2:=Lib.hid (fun (w':World) (q:Below wr.heap.size wr w')=>show w'.rangeAt bo (oo + j * 32) (z05 .u8 y) from z0c g2 q hbo)
     have HS2:=Lib.hid (show (Tryz.prog.info? 45).map (·.size) = some y.length by rw [i2.1];exact Tryz.sizeI)
     have HC:=Lib.hid (fun w'=>z5o y x i2 HI1.out w')
     have hth:=zck y x
     obtain ⟨r,hr⟩:∃ r,z1o y x = r:=⟨_,rfl⟩
     rw [hr] at HC HST hth
     clear hy g2 i2 hbo hr
     by_cases hr1:r = -1
     ·subst hr1
      have HPS:=Lib.hid (show j + 1 ≤ zgb x O from HST.out.2 rfl)
      clear hth HST
      go_upto_region 6 with (fail)
      refine z0h (fun w'=>Below wr.heap.size wr w') (by kernel_rfl) (by kernel_rfl) (Below.refl _ _).drew ?_
      repeat (first
       | go_big_quiet_skip
       | (go_big_quiet_want;refine z0y 45 _ rfl wo.heap.size .u8 x 45 _ rfl HYQ.out Tryz.underlying45 rfl HS1.out ?_;go_big_quiet_on;simp only [Act.put,zS,zA,zB])
       | (go_big_quiet_want;refine z0i 45 _ rfl bo (oo + j * 32) y _ rfl HG2.out Tryz.underlying45 rfl HS2.out ?_;go_big_quiet_on;simp only [Act.put,zS,zA,zB])
       | go_big_quiet_step ((intro hs';first
        | (go_at_call 42;exact (HC.out _).mono fun e w' h=>⟨h.1,hs'.trans (h.2.mono hs'.size)⟩)
        | rfl)))
      refine wpQuiet_nil ?_
      intro w6 hb6
      go_wp2_with fail
      exact ⟨⟨j + 1,by omega,HPS.out,by go_num,HBQ.out.trans (hb6.mono HBQ.out.size)⟩,by simp [intOf];omega⟩
     ·have hr0:¬ r < 0:=by omega
      have HPO:=Lib.hid (show zgb x O ≤ j from Nat.le_of_not_lt fun h=>hr1 (HST.out.1 h))
      clear hth HST hr1
      go_upto_region 6 with (fail)
      refine z0h (fun w'=>Below wr.heap.size wr w') (by kernel_rfl) (by kernel_rfl) (Below.refl _ _).drew ?_
      repeat (first
       | go_big_quiet_skip
       | (go_big_quiet_want;refine z0y 45 _ rfl wo.heap.size .u8 x 45 _ rfl HYQ.out Tryz.underlying45 rfl HS1.out ?_;go_big_quiet_on;simp only [Act.put,zS,zA,zB])
       | (go_big_quiet_want;refine z0i 45 _ rfl bo (oo + j * 32) y _ rfl HG2.out Tryz.underlying45 rfl HS2.out ?_;go_big_quiet_on;simp only [Act.put,zS,zA,zB])
       | go_big_quiet_step ((intro hs';first
        | (go_at_call 42;exact (HC.out _).mono fun e w' h=>⟨h.1,hs'.trans (h.2.mono hs'.size)⟩)
        | rfl)))
      refine wpQuiet_nil ?_
      intro w6 hb6
      have HB6:=Lib.hid (HBQ.out.trans (hb6.mono HBQ.out.size))
      clear hb6 hr0 HG2 HS2 HC HYQ HOQ
      have HJP:=Shut.mk (show j = zgb x O by have:=HPO.out;have:=HPL.out;omega)
      obtain ⟨hkc,hcn⟩:=OwnI.cap HOWN.out
      rw [HOL.out] at hkc
      have HB0:=Lib.hid (HBY.out.trans (HB6.out.mono HBY.out.size))
      have hdr:=IAt.drop (j:=j) (c:=cap) (HOA.out.below HB0.out) (by rw [HOL.out];exact hkc)
      have hsl:=z56 (some ⟨bo,oo,none⟩) k cap j hj hkc
      have hni:=ze1 (j:=j) hcn
      obtain ⟨RA,hRA⟩:∃ RA:Option Addr,(if cap = j then (some ⟨bo,oo,none⟩) else Option.map (fun z:Addr=>z.add (j * 32)) (some ⟨bo,oo,none⟩)) = RA:=⟨_,rfl⟩
      rw [hRA] at hdr hni
      simp only [hRA] at hsl
      have HSL:=Lib.hid hsl
      have HNI:=Lib.hid hni
      have HDR:=Lib.hid hdr
      have HSM:=Lib.hid (fun w=>z6y (some ⟨bo,oo,none⟩) k cap j hj hkc w)
      clear hRA hdr hsl hni
      go_upto_region 8 with (fail)
      refine wp_region_lit ?_
      iterate 9 (first | go_skip | go_guarded | go_step)
      refine z2x rfl 40 (.tmp 30) (.tmp 31) rfl _ _ _ rfl rfl HSL.out ?_
      simp only [Act.put,zS,zA,zB]
      refine z0x rfl (.tmp 29) (.tmp 32) 40 45 rfl w6.heap.size (.agg (z05 .u8 (List.replicate 32 0)).toArray) rfl Tryz.underlying40 Tryz.infoI32 (.slice (some ⟨w6.heap.size,0,none⟩) 0 0) [] (O.drop j) (HOI.out.drop j) _ _ _ (by rw [List.length_drop,HOL.out]) rfl (World.ownsRow_lit w6 #[] 0 (Nat.le_refl _) (by unfold maxLen;omega) rfl) rfl (HDR.out.below ((Below.refl _ _).alloc (Nat.le_refl _) _)) HNI.out (by rw [List.length_drop,HOL.out];simp;omega) (by rw [World.size_alloc];exact Nat.le_succ _) ?_
      intro v7 w7 ho7 hg7 _
      rw [List.nil_append] at ho7
      obtain ⟨a7,c7,hv7⟩:=ho7.out.form
      rw [List.length_drop,HOL.out] at hv7
      have hb7:Below w6.heap.size w6 w7:=((Below.refl w6.heap.size _).grown hg7.out (by rw [World.size_alloc];exact Nat.le_succ _) (fun g hg=>by cases hg;exact Nat.le_refl _) |> fun q=>((Below.refl _ _).alloc (Nat.le_refl _) _).trans q)
      have HO7A:=Lib.hid (show IAt a7 (O.drop j) w7 from OwnI.at (hv7 ▸ ho7.out) (HOI.out.drop j))
      have HN7:=Lib.hid (OwnI.cap (hv7 ▸ ho7.out)).2
      have HV7:=Shut.mk hv7
      have HYW:=Lib.hid (HY.out.below (HB6.out.trans (hb7.mono HB6.out.size)))
      have HOT:=Lib.hid (show IAt (some ⟨bo,oo,none⟩) (O.take j) w7 from ((HOA.out.below HB0.out).below hb7).take j)
      have HB7:=Lib.hid (HB5.out.trans ((HB6.out.trans (hb7.mono HB6.out.size)).mono HB5.out.size))
      clear ho7 hg7 hb7 hv7 HSL HDR HNI HB0 HOA HOWN
      go_wp2_with fail
      refine z0e 9 (fun q V w'=>Vals q V [(0,.slice (some ⟨bo,oo,none⟩) k cap),(1,.int .i64 (j:Int)),(2,.int .i64 (j:Int)),(3,.slice (some ⟨bo,oo,none⟩) j j),(4,.agg (z05 .u8 x).toArray),(7,v7)] ∧ Below w7.heap.size w7 w' ∧ Chain [5,6,8] (fun w'=>Below w7.heap.size w7 w') (RisM x O j w7) q V w') (fun | 0=>u34 | 1=>u35 | 2=>u36 | 3=>u37 | 4=>u38 | 5=>u39 | 6=>u40 | 7=>u41 | 8=>u42 | _=>undef) (by kernel_rfl) (by kernel_rfl) (by kernel_rfl) (by simp only [zC,zD,z0f,Act.put,zS,zA,zB]) ⟨Vals.none,(Below.refl _ _).drew,Chain.none (Below.refl _ _).drew (fun _=>(Below.refl _ _).drew)⟩ ?_ ?_
      ·simp only [zC,zD,z0f,Nat.zero_add,Nat.reduceAdd,Act.put,zS,zA,zB]
       refine zQc ?_ (zQc ?_ (zQc ?_ (zQc ?_ (zQc ?_ (zQc ?_ (zQc ?_ (zQc ?_ (zQc ?_ (zQn)))))))))
       all_goals (refine zQf rfl ?_;rintro q V wq hr hu ⟨hVs,hb,hch⟩ K hK)
       ·exact z0j (.tmp 3) rfl _ rfl (hK _ _ ⟨hVs.set rfl,hb,hch.ne (by decide) (by decide)⟩)
       ·exact z0j (.tmp 6) rfl _ rfl (hK _ _ ⟨hVs.set rfl,hb,hch.ne (by decide) (by decide)⟩)
       ·exact z0j (.tmp 6) rfl _ rfl (hK _ _ ⟨hVs.set rfl,hb,hch.ne (by decide) (by decide)⟩)
       ·exact zb4 40 (.tmp 34) (.tmp 35) (.tmp 36) rfl _ _ _ _ (hVs.get 0 (hr { on:=0,ground:=.data } (by simp) rfl) rfl) (hVs.get 1 (hr { on:=1,ground:=.data } (by simp) rfl) rfl) (hVs.get 2 (hr { on:=2,ground:=.data } (by simp) rfl) rfl) HSM.out (hK _ _ ⟨hVs.set rfl,hb,hch.ne (by decide) (by decide)⟩)
       ·exact z1d 45 (.tmp 5) rfl wo.heap.size .u8 x 45 _ rfl (HYW.out.below hb) Tryz.underlying45 rfl HS1.out (hK _ _ ⟨hVs.set rfl,hb,hch.ne (by decide) (by decide)⟩)
       ·have hm:Below w7.heap.size w7 wq:=hch.at 0 (by decide) hu (.inl rfl)
        refine z1n (ops:=#[]) rfl (z16 rfl 40 45 (.tmp 38) rfl x (hVs.get 4 (hr { on:=4,ground:=.data } (by simp) rfl) rfl) HI1.out.1 Tryz.underlying40 Tryz.infoI32 ?_)
        intro w' hk' hb'
        have hbn:Below w7.heap.size w7 w':=Below.trans hm (hb'.out.mono hm.size)
        have hb':=hb'.out.mono hm.size
        have hc5:=hch.step (v:=.slice (some ⟨wq.heap.size,0,none⟩) 1 1) 0 (by decide) (by decide) hu (.inl rfl) hbn ⟨hbn,wq.heap.size,rfl,z5j hk'.out⟩
        exact ⟨rfl,(hK _ _ ⟨hVs.off rfl,hb.trans hb',hc5⟩)⟩
       ·obtain ⟨hm,g,hv5,hcl⟩:RisM x O j w7 1 (V 5) wq:=hch.at 1 (by decide) hu (.inr (hr { on:=5,ground:=.data } (by simp) rfl))
        refine z1n (ops:=#[]) rfl (z4y rfl (.tmp 37) (.tmp 39) 40 45 rfl (.agg (z05 .u8 (List.replicate 32 0)).toArray) rfl Tryz.underlying40 Tryz.infoI32 (O.take j) [x] (HOI.out.take j) (Ids.one HI1.out.1 HI1.out.2) _ j (by rw [List.length_take,HOL.out];omega) ⟨g,0,none⟩ 1 1 rfl (by decide) (hVs.get 3 (hr { on:=3,ground:=.data } (by simp) rfl) rfl) (HOT.out.below hb) hv5 hcl (by rw [List.length_take,HOL.out];simp;omega) ?_)
        intro v' w' ho' hb'
        have hbn:Below w7.heap.size w7 w':=Below.trans hm (hb'.out.mono hm.size)
        have hb':=hb'.out.mono hm.size
        have hc6:=hch.step (v:=v') 1 (by decide) (by decide) hu (.inr (hr { on:=5,ground:=.data } (by simp) rfl)) hbn ⟨hbn,ho'.out.mono hm.size⟩
        exact ⟨rfl,(hK _ _ ⟨hVs.off rfl,hb.trans hb',hc6⟩)⟩
       ·exact z0j (.tmp 7) rfl _ rfl (hK _ _ ⟨hVs.set rfl,hb,hch.ne (by decide) (by decide)⟩)
       ·obtain ⟨hm,hv6⟩:RisM x O j w7 2 (V 6) wq:=hch.at 2 (by decide) hu (.inr (hr { on:=6,ground:=.data } (by simp) rfl))
        refine z1n (ops:=#[]) rfl (z0x rfl (.tmp 40) (.tmp 41) 40 45 rfl w7.heap.size (.agg (z05 .u8 (List.replicate 32 0)).toArray) rfl Tryz.underlying40 Tryz.infoI32 _ (O.take j ++ [x]) (O.drop j) (HOI.out.drop j) a7 (k - j) c7 (by rw [List.length_drop,HOL.out]) rfl hv6 ((hVs.get 7 (hr { on:=7,ground:=.data } (by simp) rfl) rfl).trans HV7.out) (HO7A.out.below hb) HN7.out (by rw [List.length_append,List.length_take,List.length_drop,HOL.out];simp;omega) hm.size ?_)
        intro v' w' ho' hg' _
        have hb':Below w7.heap.size wq w':=(Below.refl _ _).grown hg'.out hm.size (fun g hg=>(World.ownsRow.lt hv6 g hg).1)
        have hbn:=Below.trans hm hb'
        have hc8:=hch.step (v:=v') 2 (by decide) (by decide) hu (.inr (hr { on:=6,ground:=.data } (by simp) rfl)) hbn ⟨hbn,ho'.out⟩
        exact ⟨rfl,(hK _ _ ⟨hVs.off rfl,hb.trans hb',hc8⟩)⟩
      rintro q V wq hall ⟨hVs,hb,hch⟩
      have v0:=hVs.get 0 (hall 0 (by decide)) rfl
      have v1:=hVs.get 1 (hall 1 (by decide)) rfl
      have v2:=hVs.get 2 (hall 2 (by decide)) rfl
      have v3:=hVs.get 3 (hall 3 (by decide)) rfl
      have v4:=hVs.get 4 (hall 4 (by decide)) rfl
      obtain ⟨u5,v5⟩:∃ v,V 5 = v:=⟨_,rfl⟩
      obtain ⟨u6,v6⟩:∃ v,V 6 = v:=⟨_,rfl⟩
      have v7:=hVs.get 7 (hall 7 (by decide)) rfl
      obtain ⟨u8,v8⟩:∃ v,V 8 = v:=⟨_,rfl⟩
      obtain ⟨hbl,hrow⟩:RisM x O j w7 3 (V 8) wq:=hch.fin (fun p hp=>by match p,hp with | 0,_=>exact hall 5 (by decide) | 1,_=>exact hall 6 (by decide) | 2,_=>exact hall 8 (by decide))
      have hrow:OwnI w7.heap.size 45 (V 8) (O.take j ++ [x] ++ O.drop j) wq:=hrow
      rw [v8] at hrow
      have HROW:=Lib.hid hrow
      have HBL:=Lib.hid hbl
      clear hrow hbl hch
      simp only [zC,zD,zE,zF,z0f,Nat.zero_add,Nat.reduceAdd,v0,v1,v2,v3,v4,v5,v6,v7,v8,Act.put,zS,zA,zB]
      clear hVs v0 v1 v2 v3 v4 v5 v6 v7 v8 hall
      go_wp2_with fail
      have HIN:=Shut.mk (show z0g (L.take (k + 1)) = O.take j ++ [x] ++ O.drop j by rw [HNX.out,zco,← HJP.out];simp)
      exact ⟨⟨k + 1,by omega,by go_num,by rw [HIN.out];exact HROW.out.mono HB7.out.size,HB7.out.trans (HBL.out.mono HB7.out.size)⟩,by simp [intOf];omega⟩
    ·have HPO:=Lib.hid (show zgb x O ≤ j by have:=zlz x O;rw [HOL.out] at this;omega)
     go_upto_region 6 with (fail)
     refine z0h (fun w'=>Below wr.heap.size wr w') (by kernel_rfl) (by kernel_rfl) (Below.refl _ _).drew ?_
     repeat (first
      | go_big_quiet_skip
      | go_big_quiet_step ((intro hs';rfl)))
     refine wpQuiet_nil ?_
     intro w6 hb6
     have HB6:=Lib.hid (HBQ.out.trans (hb6.mono HBQ.out.size))
     clear hb6 HYQ HOQ
     have HJP:=Shut.mk (show j = zgb x O by have:=HPO.out;have:=HPL.out;omega)
     obtain ⟨hkc,hcn⟩:=OwnI.cap HOWN.out
     rw [HOL.out] at hkc
     have HB0:=Lib.hid (HBY.out.trans (HB6.out.mono HBY.out.size))
     have hdr:=IAt.drop (j:=j) (c:=cap) (HOA.out.below HB0.out) (by rw [HOL.out];exact hkc)
     have hsl:=z56 ap k cap j hj hkc
     have hni:=ze1 (j:=j) hcn
     obtain ⟨RA,hRA⟩:∃ RA:Option Addr,(if cap = j then ap else Option.map (fun z:Addr=>z.add (j * 32)) ap) = RA:=⟨_,rfl⟩
     rw [hRA] at hdr hni
     simp only [hRA] at hsl
     have HSL:=Lib.hid hsl
     have HNI:=Lib.hid hni
     have HDR:=Lib.hid hdr
     have HSM:=Lib.hid (fun w=>z6y ap k cap j hj hkc w)
     clear hRA hdr hsl hni
     go_upto_region 8 with (fail)
     refine wp_region_lit ?_
     iterate 9 (first | go_skip | go_guarded | go_step)
     refine z2x rfl 40 (.tmp 30) (.tmp 31) rfl _ _ _ rfl rfl HSL.out ?_
     simp only [Act.put,zS,zA,zB]
     refine z0x rfl (.tmp 29) (.tmp 32) 40 45 rfl w6.heap.size (.agg (z05 .u8 (List.replicate 32 0)).toArray) rfl Tryz.underlying40 Tryz.infoI32 (.slice (some ⟨w6.heap.size,0,none⟩) 0 0) [] (O.drop j) (HOI.out.drop j) _ _ _ (by rw [List.length_drop,HOL.out]) rfl (World.ownsRow_lit w6 #[] 0 (Nat.le_refl _) (by unfold maxLen;omega) rfl) rfl (HDR.out.below ((Below.refl _ _).alloc (Nat.le_refl _) _)) HNI.out (by rw [List.length_drop,HOL.out];simp;omega) (by rw [World.size_alloc];exact Nat.le_succ _) ?_
     intro v7 w7 ho7 hg7 _
     rw [List.nil_append] at ho7
     obtain ⟨a7,c7,hv7⟩:=ho7.out.form
     rw [List.length_drop,HOL.out] at hv7
     have hb7:Below w6.heap.size w6 w7:=((Below.refl w6.heap.size _).grown hg7.out (by rw [World.size_alloc];exact Nat.le_succ _) (fun g hg=>by cases hg;exact Nat.le_refl _) |> fun q=>((Below.refl _ _).alloc (Nat.le_refl _) _).trans q)
     have HO7A:=Lib.hid (show IAt a7 (O.drop j) w7 from OwnI.at (hv7 ▸ ho7.out) (HOI.out.drop j))
     have HN7:=Lib.hid (OwnI.cap (hv7 ▸ ho7.out)).2
     have HV7:=Shut.mk hv7
     have HYW:=Lib.hid (HY.out.below (HB6.out.trans (hb7.mono HB6.out.size)))
     have HOT:=Lib.hid (show IAt ap (O.take j) w7 from ((HOA.out.below HB0.out).below hb7).take j)
     have HB7:=Lib.hid (HB5.out.trans ((HB6.out.trans (hb7.mono HB6.out.size)).mono HB5.out.size))
     clear ho7 hg7 hb7 hv7 HSL HDR HNI HB0 HOA HOWN
     go_wp2_with fail
     refine z0e 9 (fun q V w'=>Vals q V [(0,.slice ap k cap),(1,.int .i64 (j:Int)),(2,.int .i64 (j:Int)),(3,.slice ap j j),(4,.agg (z05 .u8 x).toArray),(7,v7)] ∧ Below w7.heap.size w7 w' ∧ Chain [5,6,8] (fun w'=>Below w7.heap.size w7 w') (RisM x O j w7) q V w') (fun | 0=>u34 | 1=>u35 | 2=>u36 | 3=>u37 | 4=>u38 | 5=>u39 | 6=>u40 | 7=>u41 | 8=>u42 | _=>undef) (by kernel_rfl) (by kernel_rfl) (by kernel_rfl) (by simp only [zC,zD,z0f,Act.put,zS,zA,zB]) ⟨Vals.none,(Below.refl _ _).drew,Chain.none (Below.refl _ _).drew (fun _=>(Below.refl _ _).drew)⟩ ?_ ?_
     ·simp only [zC,zD,z0f,Nat.zero_add,Nat.reduceAdd,Act.put,zS,zA,zB]
      refine zQc ?_ (zQc ?_ (zQc ?_ (zQc ?_ (zQc ?_ (zQc ?_ (zQc ?_ (zQc ?_ (zQc ?_ (zQn)))))))))
      all_goals (refine zQf rfl ?_;rintro q V wq hr hu ⟨hVs,hb,hch⟩ K hK)
      ·exact z0j (.tmp 3) rfl _ rfl (hK _ _ ⟨hVs.set rfl,hb,hch.ne (by decide) (by decide)⟩)
      ·exact z0j (.tmp 6) rfl _ rfl (hK _ _ ⟨hVs.set rfl,hb,hch.ne (by decide) (by decide)⟩)
      ·exact z0j (.tmp 6) rfl _ rfl (hK _ _ ⟨hVs.set rfl,hb,hch.ne (by decide) (by decide)⟩)
      ·exact zb4 40 (.tmp 34) (.tmp 35) (.tmp 36) rfl _ _ _ _ (hVs.get 0 (hr { on:=0,ground:=.data } (by simp) rfl) rfl) (hVs.get 1 (hr { on:=1,ground:=.data } (by simp) rfl) rfl) (hVs.get 2 (hr { on:=2,ground:=.data } (by simp) rfl) rfl) HSM.out (hK _ _ ⟨hVs.set rfl,hb,hch.ne (by decide) (by decide)⟩)
      ·exact z1d 45 (.tmp 5) rfl wo.heap.size .u8 x 45 _ rfl (HYW.out.below hb) Tryz.underlying45 rfl HS1.out (hK _ _ ⟨hVs.set rfl,hb,hch.ne (by decide) (by decide)⟩)
      ·have hm:Below w7.heap.size w7 wq:=hch.at 0 (by decide) hu (.inl rfl)
       refine z1n (ops:=#[]) rfl (z16 rfl 40 45 (.tmp 38) rfl x (hVs.get 4 (hr { on:=4,ground:=.data } (by simp) rfl) rfl) HI1.out.1 Tryz.underlying40 Tryz.infoI32 ?_)
       intro w' hk' hb'
       have hbn:Below w7.heap.size w7 w':=Below.trans hm (hb'.out.mono hm.size)
       have hb':=hb'.out.mono hm.size
       have hc5:=hch.step (v:=.slice (some ⟨wq.heap.size,0,none⟩) 1 1) 0 (by decide) (by decide) hu (.inl rfl) hbn ⟨hbn,wq.heap.size,rfl,z5j hk'.out⟩
       exact ⟨rfl,(hK _ _ ⟨hVs.off rfl,hb.trans hb',hc5⟩)⟩
      ·obtain ⟨hm,g,hv5,hcl⟩:RisM x O j w7 1 (V 5) wq:=hch.at 1 (by decide) hu (.inr (hr { on:=5,ground:=.data } (by simp) rfl))
       refine z1n (ops:=#[]) rfl (z4y rfl (.tmp 37) (.tmp 39) 40 45 rfl (.agg (z05 .u8 (List.replicate 32 0)).toArray) rfl Tryz.underlying40 Tryz.infoI32 (O.take j) [x] (HOI.out.take j) (Ids.one HI1.out.1 HI1.out.2) _ j (by rw [List.length_take,HOL.out];omega) ⟨g,0,none⟩ 1 1 rfl (by decide) (hVs.get 3 (hr { on:=3,ground:=.data } (by simp) rfl) rfl) (HOT.out.below hb) hv5 hcl (by rw [List.length_take,HOL.out];simp;omega) ?_)
       intro v' w' ho' hb'
       have hbn:Below w7.heap.size w7 w':=Below.trans hm (hb'.out.mono hm.size)
       have hb':=hb'.out.mono hm.size
       have hc6:=hch.step (v:=v') 1 (by decide) (by decide) hu (.inr (hr { on:=5,ground:=.data } (by simp) rfl)) hbn ⟨hbn,ho'.out.mono hm.size⟩
       exact ⟨rfl,(hK _ _ ⟨hVs.off rfl,hb.trans hb',hc6⟩)⟩
      ·exact z0j (.tmp 7) rfl _ rfl (hK _ _ ⟨hVs.set rfl,hb,hch.ne (by decide) (by decide)⟩)
      ·obtain ⟨hm,hv6⟩:RisM x O j w7 2 (V 6) wq:=hch.at 2 (by decide) hu (.inr (hr { on:=6,ground:=.data } (by simp) rfl))
       refine z1n (ops:=#[]) rfl (z0x rfl (.tmp 40) (.tmp 41) 40 45 rfl w7.heap.size (.agg (z05 .u8 (List.replicate 32 0)).toArray) rfl Tryz.underlying40 Tryz.infoI32 _ (O.take j ++ [x]) (O.drop j) (HOI.out.drop j) a7 (k - j) c7 (by rw [List.length_drop,HOL.out]) rfl hv6 ((hVs.get 7 (hr { on:=7,ground:=.data } (by simp) rfl) rfl).trans HV7.out) (HO7A.out.below hb) HN7.out (by rw [List.length_append,List.length_take,List.length_drop,HOL.out];simp;omega) hm.size ?_)
       intro v' w' ho' hg' _
       have hb':Below w7.heap.size wq w':=(Below.refl _ _).grown hg'.out hm.size (fun g hg=>(World.ownsRow.lt hv6 g hg).1)
       have hbn:=Below.trans hm hb'
       have hc8:=hch.step (v:=v') 2 (by decide) (by decide) hu (.inr (hr { on:=6,ground:=.data } (by simp) rfl)) hbn ⟨hbn,ho'.out⟩
       exact ⟨rfl,(hK _ _ ⟨hVs.off rfl,hb.trans hb',hc8⟩)⟩
     rintro q V wq hall ⟨hVs,hb,hch⟩
     have v0:=hVs.get 0 (hall 0 (by decide)) rfl
     have v1:=hVs.get 1 (hall 1 (by decide)) rfl
     have v2:=hVs.get 2 (hall 2 (by decide)) rfl
     have v3:=hVs.get 3 (hall 3 (by decide)) rfl
     have v4:=hVs.get 4 (hall 4 (by decide)) rfl
     obtain ⟨u5,v5⟩:∃ v,V 5 = v:=⟨_,rfl⟩
     obtain ⟨u6,v6⟩:∃ v,V 6 = v:=⟨_,rfl⟩
     have v7:=hVs.get 7 (hall 7 (by decide)) rfl
     obtain ⟨u8,v8⟩:∃ v,V 8 = v:=⟨_,rfl⟩
     obtain ⟨hbl,hrow⟩:RisM x O j w7 3 (V 8) wq:=hch.fin (fun p hp=>by match p,hp with | 0,_=>exact hall 5 (by decide) | 1,_=>exact hall 6 (by decide) | 2,_=>exact hall 8 (by decide))
     have hrow:OwnI w7.heap.size 45 (V 8) (O.take j ++ [x] ++ O.drop j) wq:=hrow
     rw [v8] at hrow
     have HROW:=Lib.hid hrow
     have HBL:=Lib.hid hbl
     clear hrow hbl hch
     simp only [zC,zD,zE,zF,z0f,Nat.zero_add,Nat.reduceAdd,v0,v1,v2,v3,v4,v5,v6,v7,v8,Act.put,zS,zA,zB]
     clear hVs v0 v1 v2 v3 v4 v5 v6 v7 v8 hall
     go_wp2_with fail
     have HIN:=Shut.mk (show z0g (L.take (k + 1)) = O.take j ++ [x] ++ O.drop j by rw [HNX.out,zco,← HJP.out];simp)
     exact ⟨⟨k + 1,by omega,by go_num,by rw [HIN.out];exact HROW.out.mono HB7.out.size,HB7.out.trans (HBL.out.mono HB7.out.size)⟩,by simp [intOf];omega⟩
  ·obtain rfl:k = n:=by omega
   have HR:=Shut.mk (show z0g (L.take k) = z0g L by rw [List.take_of_length_le (Nat.le_of_eq HN.out)])
   have HOWN:=Lib.hid hown
   clear hown hbw
   go_wp2_with fail
   go_ret
   exact ⟨_,rfl,by rw [← HR.out];exact HOWN.out,HBW.out⟩
end Go.Proofs.YtjomgkiphecljaaGreatDoor
