/-
  Joined: Take's steps: slices cut, literals of one laid and pushed, in a region whose order is open; what lies beside the set while it turns.; The developers' set, as it lies in memory: a struct of four maps; rows of names behind names.; A text copied over cells of one's own, wherever they lie; a block of cells laid over; facts of regions whose order is open: Ord (one comes behind another), NewC.turn.; In a region whose order is open: a struct's block made and stored into; a map looked up.; maps.Keys of maps kept by names: what it answers; the iterator's contract. Written by gen/gen_keys.py.; slices.AppendSeq onto nil, slices.Collect: against whatever iterator over names.; Contracts of the library laid at this program, in plain words.; bytes.Compare (its assembly is the model's own entry, by the kit's law), and the developers' Compare.
-/
import Derived.Laws.IdiomCopy
import Derived.Lib.Bytealg
import Derived.Lib.BytesEntry
import Derived.LoopIn
import Derived.LoopNIn
import Derived.OwnWalkIn
import Derived.RangeFuncCalls
import Derived.RangeFuncLeaves
import Derived.RangeFuncNested
import Derived.RangeFuncWrites
import Derived.Shelf.Abstract
import Derived.Shelf.RegionOpen
import Derived.Shelf.SlSortCmp.NoneTotal
import Derived.Shelf.SlSortCmp.WholeK
import Derived.TacticsInMore
import Derived.Test.YtjomgkiphecljaaGreatDoorProg
import Derived.WalkKit
import Derived.Test.YtjomgkiphecljaaGreatDoorJ02
import Derived.Test.YtjomgkiphecljaaGreatDoorJ04
import Derived.Test.YtjomgkiphecljaaGreatDoorJ11
import Derived.Test.YtjomgkiphecljaaGreatDoorJ12
set_option maxRecDepth 100000
set_option maxHeartbeats 4000000
namespace Go.Proofs.YtjomgkiphecljaaGreatDoor
open Go.RowKit Go.BigFrame
theorem zf3 (ap:Option Addr) (n c j:Nat) (hj:j ≤ n) (hc:n ≤ c) (w:World):(Instr.sliceAt 50 (.slice ap n c) none (some (.int .i64 (j:Int))) none).run Tryz.prog w = .ok (.slice ap j c) w:=by
 go_simp
 intro h
 omega
theorem zbl (ap:Option Addr) (n c j:Nat) (hj:j ≤ n) (_hc:n ≤ c) (w:World):(Instr.sliceAt 50 (.slice ap n c) (some (.int .i64 (j:Int))) none none).run Tryz.prog w = .ok (.slice (if c = j then ap else ap.map (·.add (j * 38))) (n - j) (c - j)) w:=by
 go_simp
theorem zfm (ap:Option Addr) (n c j:Nat) (hj:j ≤ n) (hc:n ≤ c) (w:World):(Instr.sliceAt 40 (.slice ap n c) none (some (.int .i64 (j:Int))) none).run Tryz.prog w = .ok (.slice ap j c) w:=by
 go_simp
 intro h
 omega
theorem z19 (gs k:Nat) (hk:k < 4) (w:World):(Instr.fieldAt 52 (.pointer (some ⟨gs,0,none⟩)) k).run Tryz.prog w = .ok (.pointer (some ⟨gs,k,none⟩)) w:=by
 match k,hk with
 | 0,_=>go_simp
 | 1,_=>go_simp
 | 2,_=>go_simp
 | 3,_=>go_simp
theorem z41:(Tryz.prog.info? 49).map (fun i=>(i.zero,i.size,i.bytes)) = some (some (.agg (opV z04 none 0)),38,112):=by kernel_rfl
section
variable {o:Oper} {a:Act} {w:World} {K:Act → World → Prop} {Q:Exit → Act → World → Prop}
theorem z6s (z:Operand) (ho:o.op = .buildSlice 50 1 #[(0,z)]) (X:Nat → Prop) (y:OpN) (pa:Option Addr) (pc:Nat) (hy:y.d.ref.length = 32) (hz:a.eval z = .agg (opV y pa pc)) (hia:IAt pa y.preds w) (hoff:OffX X pa y.preds)
 (h:∀ w',Below w.heap.size w w' → OpsX X (some ⟨w.heap.size,0,none⟩) [y] w' → K (a.put o.dst (.slice (some ⟨w.heap.size,0,none⟩) 1 1)) w'):OpWp Tryz.prog o a w K Q:=by
 have hb:Below w.heap.size w (w.alloc (.cells (opL y pa pc).toArray 49)):=(Below.refl _ _).alloc (Nat.le_refl _) _
 refine z7n 50 49 z ho (opL y pa pc) hz (z3f 50 49 (opL y pa pc) _ _ _ Tryz.underlying50 z41 (z14 hy) (by decide) (by decide)) (h _ hb ?_)
 refine .inr ⟨w.heap.size,0,rfl,by rw [World.size_alloc];exact Nat.lt_succ_self _,fun i x hx=>?_⟩
 obtain ⟨rfl,rfl⟩:i = 0 ∧ y = x:=by
  have hi:i = 0:=by
   have:=(List.getElem?_eq_some_iff.1 hx).1
   simpa using this
  subst hi
  exact ⟨rfl,by simpa using hx⟩
 refine ⟨pa,pc,fun j v hj=>?_,hia.below hb,hoff⟩
 have e:(w.alloc (.cells (opL y pa pc).toArray 49)).cell? ⟨w.heap.size,j,none⟩ = (opL y pa pc).toArray[j]?:=Lib.cell_of_heap (heap_alloc_new w _) j
 rw [List.getElem?_toArray] at e
 simp only [Nat.zero_mul,Nat.zero_add]
 rw [e]
 exact hj
theorem z4p (hg:o.guard = none) (s z:Operand) (ho:o.op = .call { callee:=.builtin .append,args:=#[s,z],argTypes:=#[50,50] }) (X:Nat → Prop) (B:Nat) (v:Value) (L M:List OpN) (hM:∀ y ∈ M,y.d.ref.length = 32) (ad:Addr) (n c:Nat) (hn:n = M.length)
 (hs:a.eval s = v) (hown:OwnX X B 49 v L w) (hX:∀ g,v.ownBlock = some g → X g) (hz:a.eval z = .slice (some ad) n c) (hsrc:OpsX X (some ad) M w) (h63:L.length + M.length ≤ 1000000) (hB:B ≤ w.heap.size)
 (h:∀ v' w',OwnX X B 49 v' (L ++ M) w' → w.grownBy w' v.ownBlock → (v'.ownBlock = v.ownBlock ∨ v'.ownBlock = some w.heap.size) → K (a.put o.dst v') w'):OpWp Tryz.prog o a w K Q :=
 z1n (ops:=#[]) hg (z1i hg s z 50 49 ho B 112 (.agg (opV z04 none 0)) rfl (by decide) Tryz.underlying50 z41 X v L M hM ad n c hn hs hown hX hz hsrc h63 hB
  (fun v' w' h1 h2 h3=>⟨rfl,h v' w' (h1.out.mono (fun _=>.inl) (Nat.le_refl _)) h2.out h3.out⟩))
theorem z6t (hg:o.guard = none) (z:Operand) (ho:o.op = .buildSlice 40 1 #[(0,z)]) (y:List Nat) (hy:y.length = 32) (hz:a.eval z = .agg (z05 .u8 y).toArray)
 (h:∀ w',Below w.heap.size w w' → IAt (some ⟨w.heap.size,0,none⟩) [y] w' → K (a.put o.dst (.slice (some ⟨w.heap.size,0,none⟩) 1 1)) w'):OpWp Tryz.prog o a w K Q :=
 z1n (ops:=#[]) hg (z16 hg 40 45 z ho y hz hy Tryz.underlying40 Tryz.infoI32 (fun w' h1 h2=>⟨rfl,h w' h2.out (z5j h1.out)⟩))
theorem z38 (hg:o.guard = none) (s z:Operand) (ho:o.op = .call { callee:=.builtin .append,args:=#[s,z],argTypes:=#[40,40] }) (B:Nat) (v:Value) (L M:List (List Nat)) (hM:Ids M) (ad:Option Addr) (n c:Nat) (hn:n = M.length)
 (hs:a.eval s = v) (hown:OwnI B 45 v L w) (hz:a.eval z = .slice ad n c) (hsrc:IAt ad M w) (hnil:ad = none → c = 0) (h63:L.length + M.length ≤ 1000000) (hB:B ≤ w.heap.size)
 (h:∀ v' w',OwnI B 45 v' (L ++ M) w' → w.grownBy w' v.ownBlock → (v'.ownBlock = v.ownBlock ∨ v'.ownBlock = some w.heap.size) → K (a.put o.dst v') w'):OpWp Tryz.prog o a w K Q :=
 z1n (ops:=#[]) hg (z0x hg s z 40 45 ho B (.agg (z05 .u8 (List.replicate 32 0)).toArray) rfl Tryz.underlying40 Tryz.infoI32 v L M hM ad n c hn hs hown hz hsrc hnil h63 hB
  (fun v' w' h1 h2 h3=>⟨rfl,h v' w' h1.out h2.out h3.out⟩))
end
def PushM (X:Nat → Prop) (wb:World) (vv:Value) (L:List OpN) (y:OpN):Nat → Value → World → Prop
 | 0,_,w'=>Below wb.heap.size wb w'
 | 1,v,w'=>Below wb.heap.size wb w' ∧ ∃ g,v = .slice (some ⟨g,0,none⟩) 1 1 ∧ OpsX X (some ⟨g,0,none⟩) [y] w'
 | _,v,w'=>Only (fun b=>vv.ownBlock = some b) wb w' ∧ OwnX X 0 49 v (L ++ [y]) w' ∧ Moved v vv wb
def PushI (wb:World) (vv:Value) (L:List (List Nat)) (y:List Nat):Nat → Value → World → Prop
 | 0,_,w'=>Below wb.heap.size wb w'
 | 1,v,w'=>Below wb.heap.size wb w' ∧ ∃ g,v = .slice (some ⟨g,0,none⟩) 1 1 ∧ IAt (some ⟨g,0,none⟩) [y] w'
 | _,v,w'=>Only (fun b=>vv.ownBlock = some b) wb w' ∧ OwnI 0 45 v (L ++ [y]) w' ∧ Moved v vv wb
theorem Moved.of {v u:Value} {w wq:World} (h:v.ownBlock = u.ownBlock ∨ v.ownBlock = some wq.heap.size) (hs:w.heap.size ≤ wq.heap.size):Moved v u w:=fun b hb=>by
 rcases h with h | h
 ·exact .inl (h ▸ hb)
 ·rw [h] at hb
  obtain rfl:wq.heap.size = b:=by injection hb
  exact .inr hs
def LocC (O:Nat → Prop) (g:Nat) (t:TypeId) (cs:Array Value) (w:World):Prop:=¬ O g ∧ Cells g t cs w
theorem LocC.turn {O O':Nat → Prop} {g:Nat} {t:TypeId} {cs:Array Value} {w w':World} (h:LocC O g t cs w) (k:Turn O O' w w'):LocC O' g t cs w' :=
 ⟨(Loc.turn ⟨h.2.lt,h.1⟩ k).2,h.2.only k.only h.1⟩
theorem LocC.below {O:Nat → Prop} {g:Nat} {t:TypeId} {cs:Array Value} {w w':World} (h:LocC O g t cs w) (k:Below w.heap.size w w'):LocC O g t cs w':=⟨h.1,h.2.below k⟩
def LocR (O:Nat → Prop) (B:Nat) (v:Value) (L:List (List Nat)) (w:World):Prop:=(∀ b,v.ownBlock = some b → ¬ O b) ∧ OwnI B 45 v L w
theorem LocR.turn {O O':Nat → Prop} {B:Nat} {v:Value} {L:List (List Nat)} {w w':World} (h:LocR O B v L w) (k:Turn O O' w w'):LocR O' B v L w' :=
 ⟨fun b hb=>(Loc.turn ⟨(World.ownsRow.lt h.2 b hb).2,h.1 b hb⟩ k).2,h.2.only k.only h.1⟩
theorem LocR.below {O:Nat → Prop} {B:Nat} {v:Value} {L:List (List Nat)} {w w':World} (h:LocR O B v L w) (k:Below w.heap.size w w'):LocR O B v L w':=⟨h.1,h.2.below k⟩
theorem Tryz.idKey:IdKey Tryz.prog 45 :=
 IdKey.of (by kernel_rfl) 5 Tryz.underlying45 Tryz.underlying5 (by kernel_rfl) (by kernel_rfl) (by kernel_rfl) (by kernel_rfl) (by kernel_rfl)
structure Bs where
 gs:Nat
 p:Nat
 w:Nat
 h:Nat
 b:Nat
structure Ents where
 p:List (List Nat × Value)
 w:List (List Nat × Value)
 b:List (List Nat × Value)
def EntsO (X:Nat → Prop) (L:List OpN) (E:List (List Nat × Value)) (w:World):Prop :=
 E.length = L.length ∧ ∀ (i:Nat) (x:OpN),L[i]? = some x → ∃ pa pc,E[i]? = some (z02 x,.agg (opV x pa pc)) ∧ IAt pa x.preds w ∧ OffX X pa x.preds
structure EntsB (X:Nat → Prop) (M:Bh) (E:List (List Nat × Value)) (w:World):Prop where
 len:E.length = M.length
 ent:∀ (i:Nat) (q:List Nat × List (List Nat)),M[i]? = some q → ∃ v,E[i]? = some (q.1,v) ∧ OwnI 0 45 v q.2 w ∧ ∀ b,v.ownBlock = some b → X b
 apart:∀ (i j:Nat) (p q:List Nat) (u v:Value),E[i]? = some (p,u) → E[j]? = some (q,v) → i ≠ j → ∀ b,u.ownBlock = some b → v.ownBlock ≠ some b
 ids:∀ q ∈ M,Ids q.2
def z9i (hs:List (List Nat)):List (List Nat × Value):=hs.map fun n=>(n,.agg #[])
structure SetAt (X:Nat → Prop) (B:Bs) (T:Ents) (s:DagN) (hs:List (List Nat)) (M:Bh) (w:World):Prop where
 cells:Cells B.gs 65 #[.map (some B.p),.map (some B.w),.map (some B.h),.map (some B.b)] w
 pm:MapN B.p T.p w
 wm:MapN B.w T.w w
 hm:MapN B.h (z9i hs) w
 bm:MapN B.b T.b w
 ops:EntsO X s.ops T.p w
 wait:EntsO X s.wait T.w w
 beh:EntsB X M T.b w
 mine:X B.gs ∧ X B.p ∧ X B.w ∧ X B.h ∧ X B.b
 apart:B.p ≠ B.w ∧ B.p ≠ B.h ∧ B.p ≠ B.b ∧ B.w ≠ B.h ∧ B.w ≠ B.b ∧ B.h ≠ B.b
def SetO (B:Bs) (T:Ents):Nat → Prop:=fun b=>b = B.gs ∨ b = B.p ∨ b = B.w ∨ b = B.h ∨ b = B.b ∨ ∃ p v,(p,v) ∈ T.b ∧ v.ownBlock = some b
section
variable {X Y O:Nat → Prop} {B:Bs} {T:Ents} {s:DagN} {hs:List (List Nat)} {M:Bh} {w w':World} {E:List (List Nat × Value)} {L:List OpN}
theorem EntsO.only (h:EntsO X L E w) (k:Only O w w') (hO:∀ b,O b → X b):EntsO X L E w' :=
 ⟨h.1,fun i x hx=>by
  obtain ⟨pa,pc,h1,h2,h3⟩:=h.2 i x hx
  exact ⟨pa,pc,h1,h2.only k (h3.mono hO),h3⟩⟩
theorem EntsO.below (h:EntsO X L E w) (k:Below w.heap.size w w'):EntsO X L E w':=h.only (Only.of (O:=fun _=>False) k) (fun _ e=>e.elim)
theorem EntsO.mono (h:EntsO X L E w) (hY:∀ b,Y b → X b):EntsO Y L E w :=
 ⟨h.1,fun i x hx=>by
  obtain ⟨pa,pc,h1,h2,h3⟩:=h.2 i x hx
  exact ⟨pa,pc,h1,h2,h3.mono hY⟩⟩
theorem EntsO.keys (h:EntsO X L E w):E.map (·.1) = L.map z02:=by
 refine List.ext_getElem? fun i=>?_
 rw [List.getElem?_map,List.getElem?_map]
 cases hx:L[i]? with
 | none=>rw [List.getElem?_eq_none (by rw [h.1];exact List.getElem?_eq_none_iff.1 hx)];rfl
 | some x =>
   obtain ⟨pa,pc,h1,_⟩:=h.2 i x hx
   rw [h1]
   rfl
theorem EntsO.push (h:EntsO X L E w) (x:OpN) (pa:Option Addr) (pc:Nat) (h1:IAt pa x.preds w) (h2:OffX X pa x.preds):EntsO X (L ++ [x]) (E ++ [(z02 x,.agg (opV x pa pc))]) w:=by
 refine ⟨by rw [List.length_append,List.length_append,h.1];rfl,fun i y hy=>?_⟩
 rcases Nat.lt_trichotomy i L.length with hi | hi | hi
 ·rw [List.getElem?_append_left hi] at hy
  rw [List.getElem?_append_left (by rw [h.1];exact hi)]
  exact h.2 i y hy
 ·subst hi
  rw [List.getElem?_append_right (Nat.le_refl _),Nat.sub_self] at hy
  obtain rfl:x = y:=by simpa using hy
  refine ⟨pa,pc,?_,h1,h2⟩
  rw [← h.1,List.getElem?_append_right (Nat.le_refl _),Nat.sub_self]
  rfl
 ·rw [List.getElem?_eq_none (by simp;omega)] at hy
  cases hy
theorem EntsO.erase (h:EntsO X L E w) (i:Nat):EntsO X (L.eraseIdx i) (E.eraseIdx i) w:=by
 refine ⟨by simp only [List.length_eraseIdx,h.1],fun j y hy=>?_⟩
 rw [List.getElem?_eraseIdx] at hy ⊢
 split at hy
 ·rename_i hj
  rw [if_pos hj]
  exact h.2 j y hy
 ·rename_i hj
  rw [if_neg hj]
  exact h.2 (j + 1) y hy
theorem EntsO.here (h:EntsO X L E w) (hd:(E.map (·.1)).Nodup) {i:Nat} {x:OpN} (hx:L[i]? = some x):∃ pa pc,E[i]? = some (z02 x,.agg (opV x pa pc)) ∧ E.lookup (z02 x) = some (.agg (opV x pa pc)) ∧ IAt pa x.preds w ∧ OffX X pa x.preds:=by
 obtain ⟨pa,pc,h1,h2,h3⟩:=h.2 i x hx
 exact ⟨pa,pc,h1,z2r hd h1,h2,h3⟩
theorem EntsO.not (h:EntsO X L E w) {n:List Nat} (hn:n ∉ L.map z02):E.lookup n = none:=z1w (by rw [h.keys];exact hn)
theorem EntsB.below (h:EntsB X M E w) (k:Below w.heap.size w w'):EntsB X M E w' :=
 ⟨h.len,fun i q hq=>by
  obtain ⟨v,h1,h2,h3⟩:=h.ent i q hq
  exact ⟨v,h1,h2.below k,h3⟩,h.apart,h.ids⟩
theorem EntsB.only (h:EntsB X M E w) (k:Only O w w') (hO:∀ p v b,(p,v) ∈ E → v.ownBlock = some b → ¬ O b):EntsB X M E w' :=
 ⟨h.len,fun i q hq=>by
  obtain ⟨v,h1,h2,h3⟩:=h.ent i q hq
  exact ⟨v,h1,h2.only k (fun g hg=>hO _ _ g (List.mem_of_getElem? h1) hg),h3⟩,h.apart,h.ids⟩
theorem EntsB.mono (h:EntsB X M E w) (hY:∀ p v b,(p,v) ∈ E → v.ownBlock = some b → Y b):EntsB Y M E w :=
 ⟨h.len,fun i q hq=>by
  obtain ⟨v,h1,h2,h3⟩:=h.ent i q hq
  exact ⟨v,h1,h2,fun b hb=>hY _ _ b (List.mem_of_getElem? h1) hb⟩,h.apart,h.ids⟩
theorem EntsB.keys (h:EntsB X M E w):E.map (·.1) = M.map (·.1):=by
 refine List.ext_getElem? fun i=>?_
 rw [List.getElem?_map,List.getElem?_map]
 cases hx:M[i]? with
 | none=>rw [List.getElem?_eq_none (by rw [h.len];exact List.getElem?_eq_none_iff.1 hx)];rfl
 | some q =>
   obtain ⟨v,h1,_⟩:=h.ent i q hx
   rw [h1]
   rfl
theorem EntsB.x (h:EntsB X M E w) {p:List Nat} {v:Value} {b:Nat} (hm:(p,v) ∈ E) (hb:v.ownBlock = some b):X b ∧ b < w.heap.size:=by
 obtain ⟨i,hi,he⟩:=List.getElem_of_mem hm
 have hi2:i < M.length:=by rw [← h.len];exact hi
 obtain ⟨u,h1,h2,h3⟩:=h.ent i M[i] (List.getElem?_eq_getElem hi2)
 rw [List.getElem?_eq_getElem hi,he] at h1
 cases h1
 exact ⟨h3 b hb,(World.ownsRow.lt h2 b hb).2⟩
theorem EntsB.row (h:EntsB X M E w) (hd:(E.map (·.1)).Nodup) (p:List Nat):OwnI 0 45 (atE E (.slice none 0 0) p) (atB M p) w ∧ (∀ b,(atE E (.slice none 0 0) p).ownBlock = some b → X b ∧ ∃ q v,(q,v) ∈ E ∧ v.ownBlock = some b) ∧ Ids (atB M p):=by
 by_cases hp:p ∈ M.map (·.1)
 ·obtain ⟨l,hl⟩:=z2d hp
  obtain ⟨i,hi⟩:=z5i hl
  obtain ⟨v,h1,h2,h3⟩:=h.ent i _ hi
  rw [atE,z2r hd h1,atB,atE,hl]
  exact ⟨h2,fun b hb=>⟨h3 b hb,p,v,List.mem_of_getElem? h1,hb⟩,h.ids _ (z8v hl)⟩
 ·rw [atE,z1w (by rw [h.keys];exact hp),atB,atE,z1w hp]
  exact ⟨OwnI.nil _ _ _,fun b hb=>(by cases hb),fun x hx=>by cases hx⟩
theorem EntsB.put (h:EntsB X M E w) (hd:(E.map (·.1)).Nodup) (p:List Nat) {v:Value} {l:List (List Nat)} (hl:Ids l) (c:Nat) (hc:∀ q u b,(q,u) ∈ E → u.ownBlock = some b → b ≠ c) (k:Only (fun b=>(atE E (.slice none 0 0) p).ownBlock = some b ∨ b = c) w w') (hv:OwnI 0 45 v l w') (hm:Moved v (atE E (.slice none 0 0) p) w) (hX:∀ b,v.ownBlock = some b → X b) :
 EntsB X (z30 M p l) (z30 E p v) w' ∧ ∀ q u b,(q,u) ∈ z30 E p v → u.ownBlock = some b → (∃ q u,(q,u) ∈ E ∧ u.ownBlock = some b) ∨ w.heap.size ≤ b:=by
 have hkE:=h.keys
 by_cases hp:p ∈ M.map (·.1)
 ·obtain ⟨l0,hl0⟩:=z2d hp
  obtain ⟨i,hi⟩:=z5i hl0
  obtain ⟨v0,h1,h2,h3⟩:=h.ent i _ hi
  have hat:atE E (.slice none 0 0) p = v0:=by rw [atE,z2r hd h1];rfl
  rw [hat] at k hm
  have hdM:(M.map (·.1)).Nodup:=hkE ▸ hd
  rw [z8s hdM l hi,z8s hd v h1]
  have hil:i < E.length:=(List.getElem?_eq_some_iff.1 h1).1
  have off:∀ (j:Nat) (q:List Nat) (u:Value),E[j]? = some (q,u) → j ≠ i → ∀ b,u.ownBlock = some b → v.ownBlock ≠ some b:=fun j q u hj hji b hb hvb=>by
   rcases hm b hvb with e | e
   ·exact h.apart j i q p u v0 hj h1 hji b hb e
   ·have:=(h.x (List.mem_of_getElem? hj) hb).2
    omega
  refine ⟨⟨by rw [List.length_set,List.length_set,h.len],fun j q hq=>?_,fun a c p' q' u1 u2 ha hc hac b hb=>?_,fun q hq=>?_⟩,fun q u b hq hb=>?_⟩
  ·by_cases hji:i = j
   ·subst hji
    rw [List.getElem?_set_self (by rw [← h.len];exact hil)] at hq
    obtain rfl:=Option.some.inj hq
    exact ⟨v,List.getElem?_set_self hil,hv,hX⟩
   ·rw [List.getElem?_set_ne hji] at hq
    obtain ⟨u,g1,g2,g3⟩:=h.ent j q hq
    exact ⟨u,by rw [List.getElem?_set_ne hji];exact g1,g2.only k (fun b hb e=>e.elim (fun e=>h.apart i j p q.1 v0 u h1 g1 hji b e hb) (hc _ _ b (List.mem_of_getElem? g1) hb)),g3⟩
  ·by_cases hia:i = a
   ·subst hia
    rw [List.getElem?_set_self hil] at ha
    cases ha
    rw [List.getElem?_set_ne hac] at hc
    intro e
    exact off c q' u2 hc (Ne.symm hac) b e hb
   ·rw [List.getElem?_set_ne hia] at ha
    by_cases hic:i = c
    ·subst hic
     rw [List.getElem?_set_self hil] at hc
     cases hc
     exact off a p' u1 ha (Ne.symm hia) b hb
    ·rw [List.getElem?_set_ne hic] at hc
     exact h.apart a c p' q' u1 u2 ha hc hac b hb
  ·rcases List.mem_or_eq_of_mem_set hq with hq | rfl
   ·exact h.ids q hq
   ·exact hl
  ·rcases List.mem_or_eq_of_mem_set hq with hq | hq
   ·exact .inl ⟨q,u,hq,hb⟩
   ·cases hq
    exact (hm b hb).imp (fun e=>⟨p,v0,List.mem_of_getElem? h1,e⟩) id
 ·have hpE:p ∉ E.map (·.1):=by rw [hkE];exact hp
  have hat:atE E (.slice none 0 0) p = .slice none 0 0:=by rw [atE,z1w hpE];rfl
  rw [hat] at k hm
  have k2:Only (fun b=>b = c) w w':=⟨k.os,k.tape,k.output,k.size,fun i hi hn=>k.block i hi (fun e=>e.elim (fun e=>by cases e) hn)⟩
  have new:∀ b,v.ownBlock = some b → w.heap.size ≤ b:=fun b hb=>(hm b hb).elim (fun e=>by cases e) id
  rw [z1u hp,z1u hpE]
  have hlen:=h.len
  have last:(E ++ [(p,v)])[E.length]? = some (p,v):=by rw [List.getElem?_append_right (Nat.le_refl _),Nat.sub_self];rfl
  have lt_of:∀ {j:Nat} {q:List Nat} {u:Value},(E ++ [(p,v)])[j]? = some (q,u) → E[j]? = some (q,u) ∨ (j = E.length ∧ q = p ∧ u = v):=fun {j q u} hj=>by
   rcases Nat.lt_trichotomy j E.length with hjl | hjl | hjl
   ·rw [List.getElem?_append_left hjl] at hj;exact .inl hj
   ·subst hjl;rw [last] at hj;cases hj;exact .inr ⟨rfl,rfl,rfl⟩
   ·rw [List.getElem?_eq_none (by simp;omega)] at hj;cases hj
  refine ⟨⟨by simp [h.len],fun j q hq=>?_,fun a c p' q' u1 u2 ha hc hac b hb=>?_,fun q hq=>?_⟩,fun q u b hq hb=>?_⟩
  ·rcases Nat.lt_trichotomy j M.length with hj | hj | hj
   ·rw [List.getElem?_append_left hj] at hq
    obtain ⟨u,g1,g2,g3⟩:=h.ent j q hq
    exact ⟨u,by rw [List.getElem?_append_left (by omega)];exact g1,g2.only k2 (fun b hb=>hc _ _ b (List.mem_of_getElem? g1) hb),g3⟩
   ·subst hj
    rw [List.getElem?_append_right (Nat.le_refl _),Nat.sub_self] at hq
    obtain rfl:(p,l) = q:=by simpa using hq
    exact ⟨v,by rw [← hlen];exact last,hv,hX⟩
   ·rw [List.getElem?_eq_none (by simp;omega)] at hq
    cases hq
  ·rcases lt_of ha with ha' | ⟨h1,h2,h3⟩
   ·rcases lt_of hc with hc' | ⟨g1,g2,g3⟩
    ·exact h.apart a c p' q' u1 u2 ha' hc' hac b hb
    ·subst g3
     intro e
     have:=(h.x (List.mem_of_getElem? ha') hb).2
     have:=new b e
     omega
   ·subst h3
    rcases lt_of hc with hc' | ⟨g1,g2,g3⟩
    ·intro e
     have:=(h.x (List.mem_of_getElem? hc') e).2
     have:=new b hb
     omega
    ·exact absurd (h1.trans g1.symm) hac
  ·rcases List.mem_append.1 hq with hq | hq
   ·exact h.ids q hq
   ·obtain rfl:=List.mem_singleton.1 hq
    exact hl
  ·rcases List.mem_append.1 hq with hq | hq
   ·exact .inl ⟨q,u,hq,hb⟩
   ·have:=List.mem_singleton.1 hq
    cases this
    exact .inr (new b hb)
theorem EntsB.del (h:EntsB X M E w) (hd:(E.map (·.1)).Nodup) (p:List Nat):EntsB X (z4s M p) (z4s E p) w:=by
 have hkE:=h.keys
 by_cases hp:p ∈ M.map (·.1)
 ·obtain ⟨l0,hl0⟩:=z2d hp
  obtain ⟨i,hi⟩:=z5i hl0
  obtain ⟨v0,h1,_⟩:=h.ent i _ hi
  rw [z8c (hkE ▸ hd) hi,z8c hd h1]
  have get:∀ {β:Type} (l:List β) (j:Nat) ,(l.eraseIdx i)[j]? = l[if j < i then j else j + 1]?:=fun l j=>by rw [List.getElem?_eraseIdx];split <;> rfl
  refine ⟨by simp only [List.length_eraseIdx,h.len],fun j q hq=>?_,fun a c p' q' u1 u2 ha hc hac b hb=>?_,fun q hq=>h.ids q ((List.eraseIdx_sublist _ _).subset hq)⟩
  ·rw [get] at hq ⊢
   exact h.ent _ q hq
  ·rw [get] at ha hc
   exact h.apart _ _ p' q' u1 u2 ha hc (by split <;> split <;> omega) b hb
 ·rw [z3y hp,z3y (by rw [hkE];exact hp)]
  exact h
theorem SetO.x (h:SetAt X B T s hs M w) {b:Nat} (hb:SetO B T b):X b ∧ b < w.heap.size:=by
 rcases hb with rfl | rfl | rfl | rfl | rfl | ⟨p,v,hm,hb⟩
 ·exact ⟨h.mine.1,h.cells.lt⟩
 ·exact ⟨h.mine.2.1,h.pm.lt⟩
 ·exact ⟨h.mine.2.2.1,h.wm.lt⟩
 ·exact ⟨h.mine.2.2.2.1,h.hm.lt⟩
 ·exact ⟨h.mine.2.2.2.2,h.bm.lt⟩
 ·exact h.beh.x hm hb
theorem SetAt.below (h:SetAt X B T s hs M w) (k:Below w.heap.size w w'):SetAt X B T s hs M w' :=
 ⟨h.cells.below k,h.pm.below k,h.wm.below k,h.hm.below k,h.bm.below k,h.ops.below k,h.wait.below k,h.beh.below k,h.mine,h.apart⟩
theorem SetAt.only (h:SetAt X B T s hs M w) (k:Only O w w') (hO:∀ b,O b → X b) (hd:∀ b,SetO B T b → ¬ O b):SetAt X B T s hs M w' :=
 ⟨h.cells.only k (hd _ (.inl rfl)),h.pm.only k (hd _ (.inr (.inl rfl))),h.wm.only k (hd _ (.inr (.inr (.inl rfl)))),h.hm.only k (hd _ (.inr (.inr (.inr (.inl rfl))))),h.bm.only k (hd _ (.inr (.inr (.inr (.inr (.inl rfl)))))),
  h.ops.only k hO,h.wait.only k hO,h.beh.only k (fun p v b hm hb=>hd b (.inr (.inr (.inr (.inr (.inr ⟨p,v,hm,hb⟩)))))),h.mine,h.apart⟩
theorem SetAt.mono (h:SetAt X B T s hs M w) (hY:∀ b,Y b → X b) (hO:∀ b,SetO B T b → Y b):SetAt Y B T s hs M w :=
 ⟨h.cells,h.pm,h.wm,h.hm,h.bm,h.ops.mono hY,h.wait.mono hY,h.beh.mono (fun p v b hm hb=>hO b (.inr (.inr (.inr (.inr (.inr ⟨p,v,hm,hb⟩)))))),
  ⟨hO _ (.inl rfl),hO _ (.inr (.inl rfl)),hO _ (.inr (.inr (.inl rfl))),hO _ (.inr (.inr (.inr (.inl rfl)))),hO _ (.inr (.inr (.inr (.inr (.inl rfl)))))⟩,h.apart⟩
theorem SetAt.gsne (h:SetAt X B T s hs M w):B.gs ≠ B.p ∧ B.gs ≠ B.w ∧ B.gs ≠ B.h ∧ B.gs ≠ B.b :=
 ⟨fun e=>h.pm.notCells (e ▸ h.cells),fun e=>h.wm.notCells (e ▸ h.cells),fun e=>h.hm.notCells (e ▸ h.cells),fun e=>h.bm.notCells (e ▸ h.cells)⟩
theorem SetAt.rowne (h:SetAt X B T s hs M w) {p:List Nat} {v:Value} (hm:(p,v) ∈ T.b):v.ownBlock ≠ some B.gs ∧ v.ownBlock ≠ some B.p ∧ v.ownBlock ≠ some B.w ∧ v.ownBlock ≠ some B.h ∧ v.ownBlock ≠ some B.b:=by
 obtain ⟨i,hi,he⟩:=List.getElem_of_mem hm
 have hi2:i < M.length:=by rw [← h.beh.len];exact hi
 obtain ⟨u,h1,h2,h3⟩:=h.beh.ent i M[i] (List.getElem?_eq_getElem hi2)
 rw [List.getElem?_eq_getElem hi,he] at h1
 cases h1
 exact ⟨z0u h2 h.cells (by decide),h.pm.notRow h2,h.wm.notRow h2,h.hm.notRow h2,h.bm.notRow h2⟩
theorem SetAt.putP (h:SetAt X B T s hs M w) {E':List (List Nat × Value)} {L':List OpN} (k:Only (fun b=>b = B.p) w w') (hE:MapN B.p E' w') (hO:EntsO X L' E' w) :
 SetAt X B ⟨E',T.w,T.b⟩ ⟨L',s.wait⟩ hs M w' ∧ Turn (SetO B T) (SetO B ⟨E',T.w,T.b⟩) w w':=by
 obtain ⟨g1,g2,g3,g4⟩:=h.gsne
 obtain ⟨a1,a2,a3,a4,a5,a6⟩:=h.apart
 have hX:∀ b,b = B.p → X b:=fun b e=>e ▸ h.mine.2.1
 exact ⟨⟨h.cells.only k g1,hE,h.wm.only k (Ne.symm a1),h.hm.only k (Ne.symm a2),h.bm.only k (Ne.symm a3),hO.only k hX,h.wait.only k hX,h.beh.only k (fun p v b hm hb e=>(h.rowne hm).2.1 (e ▸ hb)),h.mine,h.apart⟩,
  ⟨k.os,k.tape,k.output,k.size,fun i hi hn=>k.block i hi (fun e=>hn (.inr (.inl e)))⟩,fun b hb=>.inl hb⟩
theorem SetAt.putW (h:SetAt X B T s hs M w) {E':List (List Nat × Value)} {L':List OpN} (k:Only (fun b=>b = B.w) w w') (hE:MapN B.w E' w') (hO:EntsO X L' E' w) :
 SetAt X B ⟨T.p,E',T.b⟩ ⟨s.ops,L'⟩ hs M w' ∧ Turn (SetO B T) (SetO B ⟨T.p,E',T.b⟩) w w':=by
 obtain ⟨g1,g2,g3,g4⟩:=h.gsne
 obtain ⟨a1,a2,a3,a4,a5,a6⟩:=h.apart
 have hX:∀ b,b = B.w → X b:=fun b e=>e ▸ h.mine.2.2.1
 exact ⟨⟨h.cells.only k g2,h.pm.only k a1,hE,h.hm.only k (Ne.symm a4),h.bm.only k (Ne.symm a5),h.ops.only k hX,hO.only k hX,h.beh.only k (fun p v b hm hb e=>(h.rowne hm).2.2.1 (e ▸ hb)),h.mine,h.apart⟩,
  ⟨k.os,k.tape,k.output,k.size,fun i hi hn=>k.block i hi (fun e=>hn (.inr (.inr (.inl e))))⟩,fun b hb=>.inl hb⟩
theorem SetAt.putH (h:SetAt X B T s hs M w) {hs':List (List Nat)} (k:Only (fun b=>b = B.h) w w') (hE:MapN B.h (z9i hs') w') :
 SetAt X B T s hs' M w' ∧ Turn (SetO B T) (SetO B T) w w':=by
 obtain ⟨g1,g2,g3,g4⟩:=h.gsne
 obtain ⟨a1,a2,a3,a4,a5,a6⟩:=h.apart
 have hX:∀ b,b = B.h → X b:=fun b e=>e ▸ h.mine.2.2.2.1
 exact ⟨⟨h.cells.only k g3,h.pm.only k a2,h.wm.only k a4,hE,h.bm.only k (Ne.symm a6),h.ops.only k hX,h.wait.only k hX,h.beh.only k (fun p v b hm hb e=>(h.rowne hm).2.2.2.1 (e ▸ hb)),h.mine,h.apart⟩,
  ⟨k.os,k.tape,k.output,k.size,fun i hi hn=>k.block i hi (fun e=>hn (.inr (.inr (.inr (.inl e)))))⟩,fun b hb=>.inl hb⟩
theorem SetAt.putB (h:SetAt X B T s hs M w) (p:List Nat) {v:Value} {l:List (List Nat)} (hl:Ids l) (k:Only (fun b=>(atE T.b (.slice none 0 0) p).ownBlock = some b ∨ b = B.b) w w') (hv:OwnI 0 45 v l w') (hm:Moved v (atE T.b (.slice none 0 0) p) w) (hX:∀ b,v.ownBlock = some b → X b) (hE:MapN B.b (z30 T.b p v) w') :
 SetAt X B ⟨T.p,T.w,z30 T.b p v⟩ s hs (z30 M p l) w' ∧ Turn (SetO B T) (SetO B ⟨T.p,T.w,z30 T.b p v⟩) w w':=by
 obtain ⟨g1,g2,g3,g4⟩:=h.gsne
 obtain ⟨a1,a2,a3,a4,a5,a6⟩:=h.apart
 obtain ⟨r1,r2,_⟩:=h.beh.row h.bm.nodup p
 have hOX:∀ b,((atE T.b (.slice none 0 0) p).ownBlock = some b ∨ b = B.b) → X b:=fun b e=>e.elim (fun e=>(r2 b e).1) (fun e=>e ▸ h.mine.2.2.2.2)
 have ne:∀ c,(c = B.gs ∨ c = B.p ∨ c = B.w ∨ c = B.h) → ¬ ((atE T.b (.slice none 0 0) p).ownBlock = some c ∨ c = B.b):=by
  intro c hc e
  rcases e with e | e
  ·obtain ⟨q,u,hmem,hu⟩:=(r2 c e).2
   obtain ⟨n1,n2,n3,n4,_⟩:=h.rowne hmem
   rcases hc with rfl | rfl | rfl | rfl
   ·exact n1 hu
   ·exact n2 hu
   ·exact n3 hu
   ·exact n4 hu
  ·subst e
   rcases hc with e | e | e | e
   ·exact g4 e.symm
   ·exact a3 e.symm
   ·exact a5 e.symm
   ·exact a6 e.symm
 obtain ⟨hb,hnew⟩:=h.beh.put h.bm.nodup p hl B.b (fun q u b hq hu e=>(h.rowne hq).2.2.2.2 (e ▸ hu)) k hv hm hX
 refine ⟨⟨h.cells.only k (ne _ (.inl rfl)),h.pm.only k (ne _ (.inr (.inl rfl))),h.wm.only k (ne _ (.inr (.inr (.inl rfl)))),h.hm.only k (ne _ (.inr (.inr (.inr rfl)))),hE,h.ops.only k hOX,h.wait.only k hOX,hb,h.mine,h.apart⟩,?_,?_⟩
 ·exact ⟨k.os,k.tape,k.output,k.size,fun i hi hn=>k.block i hi (fun e=>hn (e.elim (fun e=>by
   obtain ⟨q,u,hmem,hu⟩:=(r2 i e).2
   exact .inr (.inr (.inr (.inr (.inr ⟨q,u,hmem,hu⟩))))) (fun e=>.inr (.inr (.inr (.inr (.inl e)))))))⟩
 ·rintro b (hb | hb | hb | hb | hb | ⟨q,u,hq,hu⟩)
  ·exact .inl (.inl hb)
  ·exact .inl (.inr (.inl hb))
  ·exact .inl (.inr (.inr (.inl hb)))
  ·exact .inl (.inr (.inr (.inr (.inl hb))))
  ·exact .inl (.inr (.inr (.inr (.inr (.inl hb)))))
  ·exact (hnew q u b hq hu).imp (fun e=>.inr (.inr (.inr (.inr (.inr e))))) id
theorem SetAt.delB (h:SetAt X B T s hs M w) (p:List Nat) (k:Only (fun b=>b = B.b) w w') (hE:MapN B.b (z4s T.b p) w') :
 SetAt X B ⟨T.p,T.w,z4s T.b p⟩ s hs (z4s M p) w' ∧ Turn (SetO B T) (SetO B ⟨T.p,T.w,z4s T.b p⟩) w w':=by
 obtain ⟨g1,g2,g3,g4⟩:=h.gsne
 obtain ⟨a1,a2,a3,a4,a5,a6⟩:=h.apart
 have hX:∀ b,b = B.b → X b:=fun b e=>e ▸ h.mine.2.2.2.2
 refine ⟨⟨h.cells.only k g4,h.pm.only k a3,h.wm.only k a5,h.hm.only k a6,hE,h.ops.only k hX,h.wait.only k hX,?_,h.mine,h.apart⟩,
  ⟨k.os,k.tape,k.output,k.size,fun i hi hn=>k.block i hi (fun e=>hn (.inr (.inr (.inr (.inr (.inl e))))))⟩,?_⟩
 ·refine (h.beh.del h.bm.nodup p).only k (fun q u b hq hu e=>?_)
  have hq':(q,u) ∈ T.b:=(List.mem_filter.1 hq).1
  exact (h.rowne hq').2.2.2.2 (e ▸ hu)
 ·rintro b (hb | hb | hb | hb | hb | ⟨q,u,hq,hu⟩)
  ·exact .inl (.inl hb)
  ·exact .inl (.inr (.inl hb))
  ·exact .inl (.inr (.inr (.inl hb)))
  ·exact .inl (.inr (.inr (.inr (.inl hb))))
  ·exact .inl (.inr (.inr (.inr (.inr (.inl hb)))))
  ·exact .inl (.inr (.inr (.inr (.inr (.inr ⟨q,u,(List.mem_filter.1 hq).1,hu⟩)))))
theorem SetAt.cell (h:SetAt X B T s hs M w):w.cell? ⟨B.gs,0,none⟩ = some (.map (some B.p)) ∧ w.cell? ⟨B.gs,1,none⟩ = some (.map (some B.w)) ∧ w.cell? ⟨B.gs,2,none⟩ = some (.map (some B.h)) ∧ w.cell? ⟨B.gs,3,none⟩ = some (.map (some B.b)) :=
 ⟨by rw [h.cells.at];rfl,by rw [h.cells.at];rfl,by rw [h.cells.at];rfl,by rw [h.cells.at];rfl⟩
end
end Go.Proofs.YtjomgkiphecljaaGreatDoor
namespace Go.Proofs.YtjomgkiphecljaaGreatDoor
open Go.RowKit
theorem z1k {P:Program} {ops:Array Oper} {rest:List Oper} {op:Oper} {a:Act} {w:World} {Q:Exit → Act → World → Prop} (hw:Region.wanted op (yielded ops a.tmps) = true) (ty:TypeId) (x:Operand) (ho:op.op = .load ty x)
 (b o:Nat) (hx:a.eval x = .pointer (some ⟨b,o,none⟩)) (cs:List Value) (d:TypeDesc) (hc:w.rangeAt b o cs) (hu:P.underlying ty = some d) (hd:d.isRow = true) (hi:(P.info? ty).map (·.size) = some cs.length)
 (h:wpList P ops Q rest (a.put op.dst (.agg cs.toArray)) w):wpList P ops Q (op :: rest) a w :=
 BigFrame.wpList_want hw fun _ hK=>wp_load_mid ty x ho b o hx cs d hc hu hd hi (hK _ _ h)
theorem NewC.turn {s:Nat → Bool} {V:Nat → Value} {B i j:Nat} {t:TypeId} {cs:Array Value} {w w':World} {u:Value} (h:NewC s V B j t cs w) (hne:j ≠ i) (hk:∀ g,Cells g t cs w → Cells g t cs w'):NewC (fun j=>s j || j == i) (upd V i u) B j t cs w':=fun hs=>by
 obtain ⟨g,e,hg,hc⟩:=h (z7j hne hs)
 exact ⟨g,by rw [z1x V u hne];exact e,hg,hk g hc⟩
open Go.BigFrame
def PutC (s:Nat → Bool) (V:Nat → Value) (B i j:Nat) (t:TypeId) (c0 c1:Array Value) (w:World):Prop:=s i = true → ∃ g,V i = .pointer (some ⟨g,0,none⟩) ∧ B ≤ g ∧ Cells g t (if s j = true then c1 else c0) w
section
variable {s:Nat → Bool} {V:Nat → Value} {B i j m g:Nat} {t:TypeId} {c0 c1:Array Value} {w w':World} {u:Value}
theorem PutC.none:PutC (fun _=>false) V B i j t c0 c1 w:=fun h=>by cases h
theorem PutC.ne (h:PutC s V B i j t c0 c1 w) (hne:i ≠ m) (hj:j ≠ m) (hb:Below w.heap.size w w'):PutC (fun n=>s n || n == m) (upd V m u) B i j t c0 c1 w':=fun hs=>by
 obtain ⟨g,e,hg,hk⟩:=h (z7j hne hs)
 refine ⟨g,by rw [z1x V u hne];exact e,hg,?_⟩
 show Cells g t (if (s j || j == m) = true then c1 else c0) w'
 rw [show (s j || j == m) = s j by rw [beq_false_of_ne hj,Bool.or_false]]
 exact hk.below hb
theorem PutC.made (hB:B ≤ w.heap.size) (hj:s j = false) (hne:j ≠ i):PutC (fun n=>s n || n == i) (upd V i (.pointer (some ⟨w.heap.size,0,Option.none⟩))) B i j t c0 c1 (w.alloc (.cells c0 t)):=fun _ =>
 ⟨w.heap.size,z2f _ _ _,hB,by
  show Cells w.heap.size t (if (s j || j == i) = true then c1 else c0) _
  rw [show (s j || j == i) = false by rw [hj,beq_false_of_ne hne];rfl]
  exact heap_alloc_new w _⟩
theorem PutC.stored (hV:V i = .pointer (some ⟨g,0,Option.none⟩)) (hB:B ≤ g) (hne:i ≠ j) (h:Cells g t c1 w):PutC (fun n=>s n || n == j) (upd V j u) B i j t c0 c1 w:=fun _ =>
 ⟨g,by rw [z1x V u hne];exact hV,hB,by
  show Cells g t (if (s j || j == j) = true then c1 else c0) w
  rw [show (s j || j == j) = true by simp]
  exact h⟩
end
section
variable {P:Program} {o:Oper} {a:Act} {w:World} {K:Act → World → Prop} {Q:Exit → Act → World → Prop}
theorem z28 (ty:TypeId) (x y:Operand) (ho:o.op = .store ty x y) (g:Nat) (cs cs':Array Value) (t:TypeId) (hx:a.eval x = .pointer (some ⟨g,0,none⟩)) (hy:a.eval y = .agg cs')
 (hg:Cells g t cs w) (hi:(P.info? ty).map (·.size) = some cs'.size) (hl:cs.size = cs'.size) (h1:cs'.all (·.oneCell') = true) (h:∀ w',Cells g t cs' w' → But g w w' → K (a.put o.dst undef) w'):OpWp P o a w K Q :=
 ⟨wp_store_row ty x y ho g _ hx hy t _ hg hi hl h1 (h _ (setRow_heap _ _ _ _ _ _ hg) ((But.refl g w).setRow _))⟩
theorem z3i (m x:Operand) (T K' E:TypeId) (c:Bool) (ho:o.op = .lookup T m x c) (hk:IdKey P K') (hT:P.underlying T = some (.map K' E)) (z:Value) (hz:(zeroValue E).run P w = .ok z w) (b:Nat) (L:List (List Nat × Value)) (hL:MapN b L w) (n:List Nat) (hn:IdOk n)
 (hm:a.eval m = .map (some b)) (hx:a.eval x = idV n) (r:Value) (hr:(if c then .tuple #[atE L z n,.bool (decide (n ∈ L.map (·.1)))] else atE L z n) = r) (h:K (a.put o.dst r) w):OpWp P o a w K Q:=by
 refine ⟨?_⟩
 unfold Oper.wp execOp
 simp only [ho,hm,hx,hL.lookup hk hT hz c hn,Sem.run_bind,Sem.run_pure,Result.andThen_ok]
 exact hr ▸ h
theorem z4k {C:World → Prop} {K:Act → Prop} (m x:Operand) (T K' E:TypeId) (c:Bool) (ho:o.op = .lookup T m x c) (hk:IdKey P K') (hT:P.underlying T = some (.map K' E)) (z:Value) (hz:∀ w,(zeroValue E).run P w = .ok z w) (b:Nat) (L:List (List Nat × Value)) (hL:∀ w,C w → MapN b L w) (n:List Nat) (hn:IdOk n)
 (hm:a.eval m = .map (some b)) (hx:a.eval x = idV n) (r:Value) (hr:(if c then .tuple #[atE L z n,.bool (decide (n ∈ L.map (·.1)))] else atE L z n) = r) (h:K (a.put o.dst r)):o.quiet P a C K:=by
 refine ⟨_,fun w hw=>?_,h⟩
 unfold Oper.quietAt execOp
 simp only [ho,hm,hx,(hL w hw).lookup hk hT (hz w) c hn,Sem.run_bind,Sem.run_pure,Result.andThen_ok,hr]
 exact ⟨rfl,rfl⟩
end
theorem z5e (gs k:Nat) (hk:k < 4) (w:World):(Instr.fieldAt 65 (.pointer (some ⟨gs,0,none⟩)) k).run Tryz.prog w = .ok (.pointer (some ⟨gs,k,none⟩)) w:=by
 match k,hk with
 | 0,_=>go_simp
 | 1,_=>go_simp
 | 2,_=>go_simp
 | 3,_=>go_simp
theorem z7b (w:World):(zeroValue 49).run Tryz.prog w = .ok (.agg (opV z04 none 0)) w:=by
 go_simp
 rfl
theorem zil (w:World):(zeroValue 40).run Tryz.prog w = .ok (.slice none 0 0) w:=by
 go_simp
theorem z4x (w:World):(Instr.alloc 49 true (.tuple #[])).run Tryz.prog w = .ok (.pointer (some ⟨w.heap.size,0,none⟩)) (w.alloc (.cells (opV z04 none 0) 49)):=by
 go_simp
 rfl
theorem z9r (v:Value) (b:Bool):(#[v,Value.bool b]:Array Value)[0]? = some v:=rfl
theorem z9q (v:Value) (b:Bool):(#[v,Value.bool b]:Array Value)[1]? = some (.bool b):=rfl
attribute [local go_sem] Oper.semAt_some
structure NId where
 val:List Nat
 ok:IdOk val
def z2b (l:List NId):List (List Nat):=l.map NId.val
theorem z8n (l:List NId) (x:NId):z2b (l ++ [x]) = z2b l ++ [x.val]:=by simp [z2b]
theorem z1g (l:List NId):(z2b l).length = l.length:=by simp [z2b]
theorem keys_o (b:Nat) (w:World) :
 Calls Tryz.prog 128 #[.map (some b)] w fun x w'=>x = .returned (.func (.func 144) #[] #[.pointer (some ⟨w.heap.size,0,none⟩)]) ∧ Cells w.heap.size 61 #[.map (some b)] w' ∧ w'.heap.size = w.heap.size + 1 ∧ Below w.heap.size w w':=by
 go_enter Tryz.func128,Tryz.ntmps128
 go_wp2_with fail
 go_ret
 exact ⟨rfl,heap_alloc_new w _,World.size_alloc _ _,(Below.refl _ _).alloc (Nat.le_refl _) _⟩
theorem keys1_o (m l Bm b:Nat) (L:List (List Nat × Value)) (J Jx:List NId → World → Prop) (W:World) (hJ:AbidesFrom W.heap.size J) (hBm:W.cell? ⟨Bm,0,none⟩ = some (.map (some b))) (hM:MapN b L W)
 (hY:∀ pre (x:NId) W1,J pre W1 → pre.length < L.length → YieldAt Fence.wide (m - 1) Tryz.prog l #[.agg (z05 .u8 x.val).toArray] W1 fun e W' =>
  (e = .returned (.bool true) ∧ J (pre ++ [x]) W' ∧ KeepsWalks W1 W') ∨ (e = .returned (.bool false) ∧ Jx (pre ++ [x]) W'))
 (h0:J [] W) :
 CallsIn Fence.wide m Tryz.prog 144 #[.func (.yield l) #[] #[],.pointer (some ⟨Bm,0,none⟩)] W fun e W'=>(∃ v,e = .returned v) ∧
  ((∃ xs,(z2b xs).Perm (L.map (·.1)) ∧ J xs W') ∨ (∃ pre:List NId,pre.length ≤ L.length ∧ Jx pre W')):=by
 refine callsIn_wide.2 ?_
 have HJ:=Lib.hid hJ
 have HY:=Lib.hid hY
 have HM:=Lib.hid hM
 have H0:=Lib.hid h0
 clear hJ hY hM h0
 go_enter Tryz.func144,Tryz.ntmps144
 go_wp2_with (refine zaw rfl _ 61 rfl 45 49 Tryz.underlying61 rfl HM.out ?_)
 intro w0 hi0 hg0 hb0
 have HI0:=Lib.hid (show ∃ ss:List NId,IterN b W.heap.size L (z2b ss) w0 ∧ J ss w0 from ⟨[],hi0.out,HJ.out [] W w0 none H0.out hg0.out (fun r e=>by cases e)⟩)
 obtain ⟨r,hr⟩:∃ r,W.heap.size = r:=⟨_,rfl⟩
 rw [hr] at HI0 HJ ⊢
 clear hi0 hg0 hb0 HM H0 hBm hr
 go_wp2_with fail
 go_loopw [3] (fun _ wr=>∃ ss:List NId,IterN b r L (z2b ss) wr ∧ J ss wr) (fun _ wr=>wr.rangeLeft b r)
 case atStart=>exact HI0.out
 case round =>
  clear HI0
  obtain ⟨ss,hit,hJs⟩:=hrel
  have HIT:=Lib.hid hit
  have HJS:=Lib.hid hJs
  clear hit hJs
  go_wp2_with (refine zba rfl _ rfl rfl HIT.out ?_ ?_)
  ·intro hp
   go_wp2_with fail
   refine bodyPost_end (results_none rfl _ _ _) rfl ?_
   exact ⟨⟨_,rfl⟩,.inl ⟨ss,hp.out,HJS.out⟩⟩
  ·intro n v w2 hnv hns hi2 hlt hg2 hen
   have hxok:IdOk n:=HIT.out.ok _ hnv.out
   have HX:=Lib.hid hxok
   have HLT:=Lib.hid hlt.out
   have hj2:J ss w2:=HJ.out ss wr w2 (some r) HJS.out hg2.out (fun q e=>by cases e;exact ⟨Nat.le_refl _,HIT.out.walk⟩)
   have HJ2:=Lib.hid hj2
   have HI2:=Lib.hid hi2.out
   have HS1:=Lib.hid (show (Tryz.prog.info? 45).map (·.size) = some n.length by rw [hxok.1];exact Tryz.sizeI)
   have HL2:=Lib.hid (show (List.replicate 32 0).length = n.length by rw [hxok.1];rfl)
   clear hnv hns hi2 hlt hg2 hxok hj2
   go_wp2_with (refine z06 rfl 45 _ _ rfl rfl w2.heap.size .u8 (List.replicate 32 0) n 45 rfl rfl (heap_alloc_new w2 _) HS1.out HL2.out ?_)
   intro w3 hc3 hb3
   have hB3:Below w2.heap.size w2 w3:=But.toBelow ((Below.refl _ _).alloc (Nat.le_refl _) _) hb3.out (Nat.le_refl _) (by rw [World.size_alloc];exact Nat.le_succ _)
   have HB3:=Lib.hid hB3
   have HC3:=Lib.hid hc3.out
   have HJ3:=Lib.hid (HJ.out ss w2 w3 none HJ2.out (z9p hB3 none) (fun q e=>by cases e))
   have HI3:=Lib.hid (HI2.out.kept (zd2 hB3))
   have HR3:=Lib.hid (HI2.out.left_eq (zd2 hB3))
   obtain ⟨g,hg⟩:∃ g,w2.heap.size = g:=⟨_,rfl⟩
   rw [hg] at HC3 ⊢
   clear hc3 hb3 hB3 HJ2 hg hen
   obtain ⟨fn,tmps,assign,body,hy,hR⟩:=HY.out ss ⟨n,HX.out⟩ w3 HJ3.out (by
    have:=HI3.out.count
    rw [List.length_append,z1g] at this
    simp only [List.length_singleton] at this
    omega)
   have HYY:=Lib.hid hy
   have HRR:=Lib.hid hR
   clear hy hR
   go_upto_region 3 with (fail)
   refine (wpIn_wide (n:=m)).1 ?_
   refine wpIn_region_lit ?_
   gi_wp2_with (refine z4u rfl 45 _ rfl g .u8 n 45 _ rfl HC3.out Tryz.underlying45 rfl HS1.out ?_)
   have hy:(Instr.yield l #[.agg (z05 .u8 n).toArray]).run Tryz.prog w3 = .ok (.round l fn tmps assign body) w3:=HYY.out
   rw [hy]
   refine ⟨(fun h=>by cases h),?_⟩
   refine HRR.out.mono ?_
   rintro e w4 (⟨rfl,hJ4,hk4⟩ | ⟨rfl,hJx4⟩)
   ·have HREL:=Lib.hid (show ∃ ss:List NId,IterN b r L (z2b ss) w4 ∧ J ss w4 from ⟨_,by rw [z8n];exact HI3.out.kept hk4,hJ4⟩)
    have HMS:=Lib.hid (show w4.rangeLeft b r < wr.rangeLeft b r from by rw [HI3.out.left_eq hk4,HR3.out];exact HLT.out)
    clear hJ4 hk4 hy
    gi_wp2
    go_wp2_with fail
    exact ⟨HREL.out,HMS.out⟩
   ·have HJ4:=Lib.hid hJx4
    clear hJx4 hy
    gi_wp2
    go_wp2_with fail
    refine bodyPost_ret (results_none rfl _ _ _) rfl ?_
    exact ⟨⟨_,rfl⟩,.inr ⟨_,by have:=HI3.out.count;rw [← z8n ss ⟨n,HX.out⟩,z1g] at this;exact this,HJ4.out⟩⟩
theorem zjz (m Bm b:Nat) (L:List (List Nat × Value)) (w:World) (hBm:Cells Bm 61 #[.map (some b)] w) (hM:MapN b L w) :
 SeqStopsK Fence.wide m Tryz.prog 144 #[.pointer (some ⟨Bm,0,none⟩)] (fun x:NId=>#[.agg (z05 .u8 x.val).toArray]) KeepsWalks (fun xs=>(z2b xs).Perm (L.map (·.1))) (fun pre=>pre.length ≤ L.length) L.length w:=fun l J Jx W hW hJ _ hY h0=>by
 have hc:=(hBm.below hW).at 0
 exact keys1_o m l Bm b L J Jx W hJ hc (hM.below hW) hY h0
attribute [local go_sem] Oper.semAt_some
theorem za5 {W W':World} {row:Option Nat} (hg:W.grownBy W' row) (hr:∀ r,row = some r → ∃ o:Obj,W.heap[r]? = some o ∧ o.isCells = true):KeepsOthers W W' :=
 ⟨hg.size,fun k o hk ho=>(hg.block k (Array.getElem?_eq_some_iff.1 hk).1 (fun e=>by
  obtain ⟨o',h1,h2⟩:=hr k e.symm
  rw [hk] at h1
  cases h1
  rw [ho] at h2
  cases h2)).trans hk⟩
theorem zhc {W W':World} (h:KeepsOthers W W'):KeepsWalks W W':=⟨h.size,fun k o hk ho=>h.same k o hk (Obj.not_cells_of_walk ho)⟩
theorem zft {B:Nat} {e:TypeId} {v:Value} {L:List (List Nat)} {w:World} (h:OwnI B e v L w):∀ r,v.ownBlock = some r → ∃ o:Obj,w.heap[r]? = some o ∧ o.isCells = true:=fun r hr=>by
 rcases h.2 with ⟨h0,_⟩ | ⟨g,cap,cur,h0,_,hh,_⟩
 ·rw [h0] at hr;cases hr
 ·rw [h0] at hr
  obtain rfl:g = r:=by injection hr
  exact ⟨_,hh,rfl⟩
theorem z90 {B g:Nat} {e t:TypeId} {v:Value} {L:List (List Nat)} {cs:Array Value} {w:World} (h:OwnI B e v L w) (hc:Cells g t cs w) (hne:t ≠ e):∀ k,v.ownBlock = some k → g ≠ k:=fun k hk hgk=>by
 subst hgk
 rcases h.2 with ⟨h0,_⟩ | ⟨g',cap,cur,h0,_,hh,_⟩
 ·rw [h0] at hk;cases hk
 ·rw [h0] at hk
  obtain rfl:g' = g:=by injection hk
  rw [show w.heap[g']? = _ from hc] at hh
  injection hh with hh
  injection hh with _ h2 _
  exact hne h2
structure ApN (w0:World) (gb N:Nat) (pre:List NId) (W:World):Prop where
 ex:∃ v,Cells gb 40 #[v] W ∧ OwnI w0.heap.size 45 v (z2b pre) W
 below:Below w0.heap.size w0 W
theorem ApN.kept {w0:World} {gb N:Nat} {pre:List NId} {W W':World} {row:Option Nat} (h:ApN w0 gb N pre W) (hg:W.grownBy W' row) (hr:∀ r,row = some r → w0.heap.size ≤ r ∧ ∃ o:Obj,W.heap[r]? = some o ∧ o.isCells = false):ApN w0 gb N pre W':=by
 obtain ⟨v,h1,h2⟩:=h.ex
 refine ⟨⟨v,(hg.block gb h1.lt (fun e=>?_)).trans h1,World.ownsRow.kept h2 hg ?_⟩,h.below.grown hg h.below.size (fun k e=>(hr k e).1)⟩
 ·obtain ⟨_,o,h3,h4⟩:=hr gb e.symm
  rw [show W.heap[gb]? = _ from h1] at h3
  cases h3
  cases h4
 ·cases hv:v.ownBlock with
  | none=>exact .inl rfl
  | some r =>
    right
    intro e
    obtain ⟨o,h3,h4⟩:=zft h2 r hv
    obtain ⟨_,o',h5,h6⟩:=hr r e.symm
    rw [h3] at h5
    cases h5
    rw [h4] at h6
    cases h6
theorem zd1 (g:Nat) (lb:Array Value) (eg:∀ args w,(callFunc g args).run Tryz.prog w = .ok (.enter g args) w) (S Sp:List NId → Prop) (N:Nat) (hN:N ≤ 100000) (w:World)
 (hseq:SeqStopsK Fence.wide 2 Tryz.prog g lb (fun x:NId=>#[.agg (z05 .u8 x.val).toArray]) KeepsWalks S Sp N w) :
 Calls Tryz.prog 149 #[.slice none 0 0,.func (.func g) #[] lb] w fun e w'=>∃ v ss,e = .returned v ∧ S ss ∧ OwnI w.heap.size 45 v (z2b ss) w' ∧ Below w.heap.size w w':=by
 have HSEQ:=Lib.hid hseq
 have HEG:=Lib.hid eg
 clear hseq eg
 refine callsIn_wide (n:=3) |>.1 ?_
 refine callsIn_of_wp_marks Tryz.func149 rfl trivial ?_ rfl
 simp only [Tryz.ntmps149,List.size_toArray,List.length_cons,List.length_nil,Nat.reduceAdd,Nat.reduceSub,Array.replicate_succ,Array.replicate_zero,List.push_toArray,List.append_toArray,List.nil_append,List.cons_append]
 refine wpIn_wide.2 ?_
 go_wp2_with fail
 obtain ⟨w1,hw1⟩:∃ z,z = w.alloc (.cells #[.slice none 0 0] 40):=⟨_,rfl⟩
 have hb1:Below w.heap.size w w1:=hw1 ▸ (Below.refl _ _).alloc (Nat.le_refl _) _
 have hc1:Cells w.heap.size 40 #[.slice none 0 0] w1:=hw1 ▸ heap_alloc_new w _
 have hz1:w1.heap.size = w.heap.size + 1:=hw1 ▸ World.size_alloc _ _
 rw [← hw1]
 obtain ⟨gb,hgb⟩:∃ g,w.heap.size = g:=⟨_,rfl⟩
 have HGB:=Shut.mk hgb
 have HB1:=Lib.hid hb1
 have HC1:=Lib.hid hc1
 have HZ1:=Shut.mk hz1
 rw [hgb] at HC1 ⊢
 clear hw1 hb1 hc1 hz1 hgb
 refine (wpIn_wide (n:=3)).1 ?_
 refine wpIn_rangeFunc_ownH rfl (by decide) (gf:=g) (lb:=lb) rfl trivial HEG.out HSEQ.out KeepsWalks.trans (fun W l o o' _ hl _ hk=>KeepsWalks.putObj o' hl hk) HB1.out (fun _=>rfl)
  (ApN w gb N) (fun _ _ _=>False) ?own (fun _ _ _ _ _ h _ _=>h) ?start
  (fun x a' W=>∃ gx,Blk gx 45 .u8 x.val W ∧ a' = { tmps:=#[.slice none 0 0,.func (.func g) #[] lb,.pointer (some ⟨gb,0,none⟩),undef,.slice none 0 0,.pointer (some ⟨gx,0,none⟩),.func (.func g) #[] lb,.agg (z05 .u8 x.val).toArray,undef,undef,undef,undef,undef],defers:=[] })
  ?ax ?assign ?body ?done ?stop
 case own =>
  intro pre W W' row h hg hr
  exact h.kept hg (fun r e=>⟨by have:=(hr r e).1;have:=HZ1.out;have:=HB1.out.size;omega,(hr r e).2⟩)
 case start=>exact ⟨⟨_,HC1.out,OwnI.nil _ _ _⟩,HB1.out⟩
 case ax =>
  rintro x a' u W W' row ⟨gx,h1,h2⟩ hg hr
  exact ⟨gx,(hg.block gx h1.lt (fun e=>by
   obtain ⟨_,o,h3,h4⟩:=hr gx e.symm
   rw [show W.heap[gx]? = _ from h1] at h3
   cases h3
   cases h4)).trans h1,h2⟩
 case assign =>
  intro l pre x W K hI hK
  have HI:=Lib.hid hI
  have HK:=Lib.hid hK
  have HS1:=Lib.hid (show (Tryz.prog.info? 45).map (·.size) = some x.val.length by rw [x.ok.1];exact Tryz.sizeI)
  have HL2:=Lib.hid (show (List.replicate 32 0).length = x.val.length by rw [x.ok.1];rfl)
  clear hI hK
  obtain ⟨n,hn⟩:∃ n,x.val = n:=⟨_,rfl⟩
  have HNX:=Shut.mk hn
  rw [hn] at HS1 HL2 ⊢
  clear hn
  refine wpIn_region_lit ?_
  gi_wp2_with (refine z7i rfl 45 _ _ rfl rfl W.heap.size .u8 (List.replicate 32 0) n 45 rfl rfl (heap_alloc_new W _) HS1.out HL2.out ?_)
  intro w3 hc3 hb3
  have hB3:Below W.heap.size W w3:=But.toBelow ((Below.refl _ _).alloc (Nat.le_refl _) _) hb3.out (Nat.le_refl _) (by rw [World.size_alloc];exact Nat.le_succ _)
  refine HK.out _ w3 ((za5 (z9p hB3 none) (fun r e=>by cases e)).from _) (zd2 hB3) (HI.out.kept (z9p hB3 none) (fun r e=>by cases e)) ⟨W.heap.size,by rw [HNX.out];exact hc3.out,?_⟩
  rw [HNX.out]
 case body =>
  rintro l pre x a' W hl - hI ⟨gx,hgx,rfl⟩ hlen
  obtain ⟨v,hcb,hown⟩:=hI.ex
  obtain ⟨ao,c,rfl⟩:=hown.form
  have c0:=hcb.at 0
  simp only [List.getElem?_toArray,List.getElem?_cons_zero] at c0
  have HI:=Lib.hid hI
  have HCB:=Lib.hid hcb
  have HO:=Lib.hid hown
  have HGX:=Lib.hid hgx
  have HLE:=Lib.hid hlen
  have HXO:=Lib.hid x.ok
  have HXS:=Shut.mk (z8n pre x)
  have HPL:=Shut.mk (z1g pre)
  have HS1:=Lib.hid (show (Tryz.prog.info? 45).map (·.size) = some x.val.length by rw [x.ok.1];exact Tryz.sizeI)
  obtain ⟨n,hn⟩:∃ n,x.val = n:=⟨_,rfl⟩
  rw [hn] at HGX HXO HS1 HXS ⊢
  obtain ⟨L,hL⟩:∃ L,z2b pre = L:=⟨_,rfl⟩
  rw [hL] at HO HXS HPL c0 HCB
  clear hn hI hcb hown hgx hlen hL
  refine wpIn_block ?_
  refine wpIn_region_lit ?_
  gi_wp2_with (first
   | (refine z4u rfl 45 _ rfl gx .u8 n 45 _ rfl HGX.out Tryz.underlying45 rfl HS1.out ?_)
   | (refine z8u rfl 40 45 _ rfl n rfl HXO.out.1 Tryz.underlying40 Tryz.infoI32 ?_))
  intro w3 hk3 hb3
  have HB3:=Lib.hid hb3.out
  have HO3:=Lib.hid (HO.out.below hb3.out)
  have HCB3:=Lib.hid (HCB.out.below hb3.out)
  have HIA3:=Lib.hid (z5j hk3.out)
  have HBS:=Lib.hid (show w.heap.size ≤ w3.heap.size from (HI.out.below.trans (hb3.out.mono HI.out.below.size)).size)
  obtain ⟨gl,hgl⟩:∃ g,W.heap.size = g:=⟨_,rfl⟩
  rw [hgl] at HIA3 ⊢
  clear hk3 hb3 c0 hgl
  gi_wp2_with (refine z81 rfl _ _ 40 45 rfl w.heap.size Tryz.underlying40 Tryz.infoI32 (.slice ao L.length c) L n HXO.out ⟨gl,0,none⟩ 1 1 rfl rfl HO3.out rfl HIA3.out (by have:=HLE.out;have:=HPL.out;omega) HBS.out ?_)
  intro v4 w4 ho4 hg4
  have hne4:some gb ≠ (Value.slice ao L.length c).ownBlock:=fun e=>by
   exact z90 HO3.out HCB3.out (by decide) gb e.symm rfl
  have hcb4:Cells gb 40 #[.slice ao L.length c] w4:=(hg4.out.block gb HCB3.out.lt hne4).trans HCB3.out
  have c4:=hcb4.at 0
  simp only [List.getElem?_toArray,List.getElem?_cons_zero] at c4
  have f4:=hcb4.frozen 0
  have HCB4:=Lib.hid hcb4
  have HO4:=Lib.hid ho4.out
  have HG4:=Lib.hid hg4.out
  have HK34:=Lib.hid ((za5 (z9p HB3.out none) (fun r e=>by cases e)).trans (za5 hg4.out (zft HO3.out)))
  have hb4:Below w.heap.size w w4:=(HI.out.below.trans (HB3.out.mono HI.out.below.size)).grown hg4.out HBS.out (fun k e=>(World.ownsRow.lt HO3.out k e).1)
  have HB4:=Lib.hid hb4
  obtain ⟨a5,c5,hv5⟩:=ho4.out.form
  rw [List.length_append,List.length_singleton] at hv5
  subst hv5
  clear ho4 hg4 hne4 hcb4 hb4
  gi_wp2
  have hks:KeepsOthers W (w4.setCell ⟨gb,0,none⟩ (.slice a5 (L.length + 1) c5)):=HK34.out.trans (KeepsOthers.setCell _ _ _)
  refine ⟨hks.from _,zhc hks,⟨⟨_,HCB4.out.set 0 _,?_⟩,?_⟩⟩
  ·rw [HXS.out]
   exact HO4.out.but ((But.refl gb w4).setCell 0 _) (z90 HO4.out HCB4.out (by decide))
  ·exact But.toBelow HB4.out ((But.refl gb w4).setCell 0 _) (Nat.le_of_eq HGB.out) HB4.out.size
 case done =>
  intro D xs W hD hS hI hK
  obtain ⟨v,hcb,hown⟩:=hI.ex
  obtain ⟨ao,c,rfl⟩:=hown.form
  have c0:=hcb.at 0
  simp only [List.getElem?_toArray,List.getElem?_cons_zero] at c0
  have hfin:=hI.kept (grownBy_putObj' W D (.deferred none)) (fun r e=>by cases e;exact ⟨Nat.le_trans HB1.out.size hD,_,hK,rfl⟩)
  obtain ⟨v',hcb',hown'⟩:=hfin.ex
  have hvv:v' = .slice ao (z2b xs).length c:=by
   have h1:=hcb'.at 0
   have h2:(W.putObj D (.deferred none)).cell? ⟨gb,0,none⟩ = W.cell? ⟨gb,0,none⟩:=World.cell?_of_block (World.putObj_heap_other (fun e=>by
    have e:gb = D:=e
    rw [← e] at hK
    rw [show W.heap[gb]? = _ from hcb] at hK
    cases hK))
   rw [h2,c0] at h1
   simp only [List.getElem?_toArray,List.getElem?_cons_zero] at h1
   exact (Option.some.inj h1).symm
  have HF:=Lib.hid (And.intro hS (And.intro (hvv ▸ hown') hfin.below))
  have HK:=Lib.hid hK
  clear hcb hown hI hfin hcb' hown' hvv hK hS
  go_wp2_with fail
  refine ⟨by simp,.inl ⟨_,_,rfl,run_takeDeferred HK.out,?_⟩⟩
  refine ⟨_,results_tmp rfl _ _ _,?_⟩
  exact ⟨_,xs,rfl,HF.out.1,HF.out.2.1,HF.out.2.2⟩
 case stop =>
  rintro D c pre W hD hp h
  exact h.elim
theorem zh2 (g:Nat) (lb:Array Value) (eg:∀ args w,(callFunc g args).run Tryz.prog w = .ok (.enter g args) w) (S Sp:List NId → Prop) (N:Nat) (hN:N ≤ 100000) (w:World)
 (hseq:SeqStopsK Fence.wide 2 Tryz.prog g lb (fun x:NId=>#[.agg (z05 .u8 x.val).toArray]) KeepsWalks S Sp N w) :
 Calls Tryz.prog 142 #[.func (.func g) #[] lb] w fun e w'=>∃ v ss,e = .returned v ∧ S ss ∧ OwnI w.heap.size 45 v (z2b ss) w' ∧ Below w.heap.size w w':=by
 have HA:=Lib.hid (zd1 g lb eg S Sp N hN w hseq)
 clear hseq eg
 go_enter Tryz.func142,Tryz.ntmps142
 go_wp2_with (refine HA.out.mono ?_;rintro e w2 ⟨v,ss,rfl,h1,h2,h3⟩)
 go_ret
 exact ⟨v,ss,rfl,h1,h2,h3⟩
end Go.Proofs.YtjomgkiphecljaaGreatDoor
namespace Go.Proofs.YtjomgkiphecljaaGreatDoor
open Go.Shelf
def Tryz.sortIds_ren:Go.Shelf.Ren:=⟨fun | 6=>143 | 15=>73 | 14=>150 | 28=>103 | 29=>104 | 20=>151 | 21=>152 | 22=>153 | 23=>154 | 24=>155 | 25=>156 | 26=>157 | 27=>158 | 46=>159 | 47=>130 | 48=>131 | 49=>160 | 50=>161 | 57=>162 | n=>n,fun | 22=>40 | 24=>45 | 25=>78 | 3=>3 | 39=>75 | 0=>0 | 53=>151 | 55=>121 | 4=>4 | 46=>143 | 45=>142 | 50=>148 | 5=>5 | 9=>9 | 66=>188 | 70=>192 | 76=>204 | 77=>205 | n=>n,fun | n=>n⟩
theorem Tryz.sortIds:Go.Proofs.SlLaysF0.n6 Tryz.prog Tryz.sortIds_ren:={
 mixed:=by kernel_rfl
 f6:=⟨Tryz.f143.name,by decide,Tryz.func143.trans (congrArg some (by kernel_rfl))⟩
 f14:=⟨Tryz.f150.name,by decide,Tryz.func150.trans (congrArg some (by kernel_rfl))⟩
 f15:=Tryz.func73.trans (congrArg some (by kernel_rfl))
 f20:=⟨Tryz.f151.name,by decide,Tryz.func151.trans (congrArg some (by kernel_rfl))⟩
 f21:=⟨Tryz.f152.name,by decide,Tryz.func152.trans (congrArg some (by kernel_rfl))⟩
 f22:=⟨Tryz.f153.name,by decide,Tryz.func153.trans (congrArg some (by kernel_rfl))⟩
 f23:=⟨Tryz.f154.name,by decide,Tryz.func154.trans (congrArg some (by kernel_rfl))⟩
 f24:=⟨Tryz.f155.name,by decide,Tryz.func155.trans (congrArg some (by kernel_rfl))⟩
 f25:=⟨Tryz.f156.name,by decide,Tryz.func156.trans (congrArg some (by kernel_rfl))⟩
 f26:=⟨Tryz.f157.name,by decide,Tryz.func157.trans (congrArg some (by kernel_rfl))⟩
 f27:=⟨Tryz.f158.name,by decide,Tryz.func158.trans (congrArg some (by kernel_rfl))⟩
 f28:=Tryz.func103.trans (congrArg some (by kernel_rfl))
 f29:=Tryz.func104.trans (congrArg some (by kernel_rfl))
 f46:=⟨Tryz.f159.name,by decide,Tryz.func159.trans (congrArg some (by kernel_rfl))⟩
 f47:=Tryz.func130.trans (congrArg some (by kernel_rfl))
 f48:=Tryz.func131.trans (congrArg some (by kernel_rfl))
 f49:=⟨Tryz.f160.name,by decide,Tryz.func160.trans (congrArg some (by kernel_rfl))⟩
 f50:=⟨Tryz.f161.name,by decide,Tryz.func161.trans (congrArg some (by kernel_rfl))⟩
 f57:=⟨Tryz.f162.name,by decide,Tryz.func162.trans (congrArg some (by kernel_rfl))⟩
 t0:=Tryz.underlying0
 a0:=Tryz.isAgg0
 z0:=Tryz.sizeOf0
 v0:=Tryz.zeroValue0
 t3:=Tryz.underlying3
 a3:=Tryz.isAgg3
 z3:=Tryz.sizeOf3
 v3:=Tryz.zeroValue3
 t4:=Tryz.underlying4
 a4:=Tryz.isAgg4
 z4:=Tryz.sizeOf4
 v4:=Tryz.zeroValue4
 t5:=Tryz.underlying5
 a5:=Tryz.isAgg5
 z5:=Tryz.sizeOf5
 v5:=Tryz.zeroValue5
 t9:=Tryz.underlying9
 a9:=Tryz.isAgg9
 z9:=Tryz.sizeOf9
 v9:=Tryz.zeroValue9
 t22:=Tryz.underlying40
 a22:=Tryz.isAgg40
 z22:=Tryz.sizeOf40
 v22:=Tryz.zeroValue40
 t25:=Tryz.underlying78
 a25:=Tryz.isAgg78
 z25:=Tryz.sizeOf78
 v25:=Tryz.zeroValue78
 t39:=Tryz.underlying75
 a39:=Tryz.isAgg75
 z39:=Tryz.sizeOf75
 v39:=Tryz.zeroValue75
 t45:=Tryz.underlying142
 a45:=Tryz.isAgg142
 z45:=Tryz.sizeOf142
 v45:=Tryz.zeroValue142
 t46:=Tryz.underlying143
 a46:=Tryz.isAgg143
 z46:=Tryz.sizeOf143
 v46:=Tryz.zeroValue143
 t50:=Tryz.underlying148
 a50:=Tryz.isAgg148
 z50:=Tryz.sizeOf148
 v50:=Tryz.zeroValue148
 t53:=Tryz.underlying151
 a53:=Tryz.isAgg151
 z53:=Tryz.sizeOf151
 v53:=Tryz.zeroValue151
 t55:=Tryz.underlying121
 a55:=Tryz.isAgg121
 z55:=Tryz.sizeOf121
 v55:=Tryz.zeroValue121
 t66:=Tryz.underlying188
 a66:=Tryz.isAgg188
 z66:=Tryz.sizeOf188
 v66:=Tryz.zeroValue188
 t70:=Tryz.underlying192
 a70:=Tryz.isAgg192
 z70:=Tryz.sizeOf192
 v70:=Tryz.zeroValue192
 t76:=Tryz.underlying204
 a76:=Tryz.isAgg204
 z76:=Tryz.sizeOf204
 v76:=Tryz.zeroValue204
 t77:=Tryz.underlying205
 a77:=Tryz.isAgg205
 z77:=Tryz.sizeOf205
 v77:=Tryz.zeroValue205 }
end Go.Proofs.YtjomgkiphecljaaGreatDoor
namespace Go.Proofs.YtjomgkiphecljaaGreatDoor
open Go.RowKit Go.BigFrame
theorem zdb {P:Program} (w:World) (a b:Addr) (n m c d:Nat) (xs ys:List Int) (hx:xs.length = n) (hy:ys.length = m) (h1:∀ j x,xs[j]? = some x → w.cell? (a.add j) = some (.int .u8 x)) (h2:∀ j x,ys[j]? = some x → w.cell? (b.add j) = some (.int .u8 x)) :
 (Extern.BytealgCompare.compare #[.slice (some a) n c,.slice (some b) m d]).run P w = .ok (.int .i64 (Lib.compareBytes (Lib.bytesOf xs) (Lib.bytesOf ys))) w:=by
 subst hx hy
 have l1:=Lib.run_loadBytesX (P:=P) w xs a .empty h1
 have l2:=Lib.run_loadBytesX (P:=P) w ys b .empty h2
 have he:∀ zs:List UInt8,(⟨ByteArray.empty.data ++ zs.toArray⟩:ByteArray) = ⟨zs.toArray⟩:=fun zs=>by
  apply ByteArray.ext
  show (#[]:Array UInt8) ++ zs.toArray = zs.toArray
  simp
 rw [he] at l1 l2
 change Sem.run P (do pure (goInt (Extern.BytealgCompare.cmp (← Extern.Bytes.bytesOf (.slice (some a) xs.length c)) (← Extern.Bytes.bytesOf (.slice (some b) ys.length d))))) w = _
 simp only [Extern.Bytes.bytesOf,Sem.run_bind,Sem.run_pure,l1,l2,Result.andThen]
 rw [Lib.cmp_eq]
 rfl
theorem zbr:∀ (a b:List UInt8),a.length = b.length → Lib.compareBytes a b = z1o (z12 a) (z12 b)
 | [],[],_=>rfl
 | [],_ :: _,h=>by cases h
 | _ :: _,[],h=>by cases h
 | x :: a, y :: b, h => by
   have ih:=zbr a b (by simpa using h)
   rw [Lib.compareBytes,ih]
   simp only [UInt8.lt_iff_toNat_lt]
   rw [show z12 (x :: a) = x.toNat :: z12 a from rfl,show z12 (y :: b) = y.toNat :: z12 b from rfl,z1o]
theorem z9a (l:List Nat):Lib.bytesOf (l.map fun (x:Nat)=>(x:Int)) = txt l:=by
 rw [Lib.bytesOf,List.map_map,txt]
 exact List.map_congr_left fun x _=>rfl
theorem z88 (g h c d:Nat) (t u:TypeId) (a b:List Nat) (ha:IdOk a) (hb:IdOk b) (w:World) (h1:Blk g t .u8 a w) (h2:Blk h u .u8 b w) :
 Calls Tryz.prog 106 #[.slice (some ⟨g,0,none⟩) 32 c,.slice (some ⟨h,0,none⟩) 32 d] w fun e w'=>e = .returned (.int .i64 (z1o a b)) ∧ w' = w:=by
 have hr:=zdb (P:=Tryz.prog) w ⟨g,0,none⟩ ⟨h,0,none⟩ 32 32 c d (a.map fun (x:Nat)=>(x:Int)) (b.map fun (x:Nat)=>(x:Int)) (by rw [List.length_map,ha.1]) (by rw [List.length_map,hb.1])
  (fun j x hj=>by
   rw [Addr.add_lit,Nat.zero_add,Lib.cell_of_heap h1 j,List.getElem?_toArray,z05,List.getElem?_map]
   rw [List.getElem?_map] at hj
   cases hq:a[j]? with
   | none=>rw [hq] at hj;cases hj
   | some y=>rw [hq] at hj;simp only [Option.map_some,Option.some.injEq] at hj ⊢;rw [← hj])
  (fun j x hj=>by
   rw [Addr.add_lit,Nat.zero_add,Lib.cell_of_heap h2 j,List.getElem?_toArray,z05,List.getElem?_map]
   rw [List.getElem?_map] at hj
   cases hq:b[j]? with
   | none=>rw [hq] at hj;cases hj
   | some y=>rw [hq] at hj;simp only [Option.map_some,Option.some.injEq] at hj ⊢;rw [← hj])
 rw [z9a,z9a,zbr _ _ (by rw [z2m,z2m,ha.1,hb.1]),z49 ha.2,z49 hb.2] at hr
 clear h1 h2
 go_enter Tryz.func106,Tryz.ntmps106
 go_wp2
 rw [run_callFunc_extern Tryz.func135 (by kernel_rfl) (by kernel_rfl) (by kernel_rfl) (e:=Extern.BytealgCompare.compare) (by kernel_rfl),hr]
 simp only [Result.andThen]
 rw [Oper.upon_value]
 go_wp2
 go_ret
 exact ⟨rfl,rfl⟩
theorem za8 (a b:List Nat) (ha:IdOk a) (hb:IdOk b) (w:World) :
 Calls Tryz.prog 78 #[.agg (z05 .u8 a).toArray,.agg (z05 .u8 b).toArray] w fun e w'=>e = .returned (.int .i64 (z1o a b)) ∧ Below w.heap.size w w':=by
 have b1:Below w.heap.size w (w.alloc (.cells (z05 .u8 a).toArray 45)):=(Below.refl _ _).alloc (Nat.le_refl _) _
 have x1:Blk w.heap.size 45 .u8 a (w.alloc (.cells (z05 .u8 a).toArray 45)):=heap_alloc_new w _
 have s1:(w.alloc (.cells (z05 .u8 a).toArray 45)).heap.size = w.heap.size + 1:=World.size_alloc _ _
 have b2:Below (w.alloc (.cells (z05 .u8 a).toArray 45)).heap.size (w.alloc (.cells (z05 .u8 a).toArray 45)) ((w.alloc (.cells (z05 .u8 a).toArray 45)).alloc (.cells (z05 .u8 b).toArray 45)):=(Below.refl _ _).alloc (Nat.le_refl _) _
 have x2:Blk (w.alloc (.cells (z05 .u8 a).toArray 45)).heap.size 45 .u8 b ((w.alloc (.cells (z05 .u8 a).toArray 45)).alloc (.cells (z05 .u8 b).toArray 45)):=heap_alloc_new _ _
 rw [s1] at x2
 have HX1:=Lib.hid (x1.below b2)
 have HX2:=Lib.hid x2
 have HB:=Lib.hid (b1.trans (b2.mono b1.size))
 have HA:=Lib.hid ha
 have HBB:=Lib.hid hb
 clear b1 x1 s1 b2 x2 ha hb
 go_enter Tryz.func78,Tryz.ntmps78
 go_upto_region 1 with (fail)
 obtain ⟨w2,hw2⟩:∃ x,x = ((w.alloc (.cells (z05 .u8 a).toArray 45)).alloc (.cells (z05 .u8 b).toArray 45)):=⟨_,rfl⟩
 rw [← hw2] at HX1 HX2 HB ⊢
 clear hw2
 have HC:=Lib.hid (fun w' c d (q:Below w2.heap.size w2 w')=>z88 w.heap.size (w.heap.size + 1) c d _ _ a b HA.out HBB.out w' (HX1.out.below q) (HX2.out.below q))
 refine z0h (fun w'=>Below w2.heap.size w2 w') (by kernel_rfl) (by kernel_rfl) (Below.refl _ _).drew ?_
 repeat (first
  | go_big_quiet_skip
  | go_big_quiet_step ((intro hs';first
   | (go_at_call 106;exact (HC.out _ _ _ hs').mono fun e w' h=>⟨h.1,h.2 ▸ hs'⟩)
   | rfl)))
 refine wpQuiet_nil ?_
 intro w4 hb4
 go_wp2_with fail
 go_ret
 exact ⟨rfl,HB.out.trans (hb4.mono HB.out.size)⟩
end Go.Proofs.YtjomgkiphecljaaGreatDoor
