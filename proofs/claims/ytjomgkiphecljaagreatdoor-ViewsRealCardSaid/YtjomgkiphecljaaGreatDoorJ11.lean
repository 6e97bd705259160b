/-
  Joined: Maps keyed by names of thirty-two bytes: a map's block as the list of its entries, in the order in which they came.; Maps of which only this is kept: what its keys are, what its values are, how many there may be. Keys of two texts.; Contracts of the library laid at this program, in plain words.; A range over a map kept by names: the names come, each once, in whatever order.; Names appended: a slice that need not be anybody's row, onto a row of one's own; one name onto a full slice.; What a round of a range over a function does with names: load, store, literal, append (the laws of Gen and Ids, inside a fence).; The document's set of operations, as it lies in memory.
-/
import Derived.DeepKeys5
import Derived.Laws.AppendOwnNone
import Derived.Lib.Hide
import Derived.Maps.Keyed
import Derived.Maps.Range
import Derived.OwnWalkIn
import Derived.RangeFuncSeq
import Derived.Shelf.SlSortCmp.NoneTotal
import Derived.Shelf.SlSortCmp.WholeK
import Derived.TacticsInMore
import Derived.Test.YtjomgkiphecljaaGreatDoorProg
import Derived.WalkKit
import Derived.Test.YtjomgkiphecljaaGreatDoorJ01
import Derived.Test.YtjomgkiphecljaaGreatDoorJ02
import Derived.Test.YtjomgkiphecljaaGreatDoorJ03
import Derived.Test.YtjomgkiphecljaaGreatDoorJ04
import Derived.Test.YtjomgkiphecljaaGreatDoorJ10
namespace Go.Proofs.YtjomgkiphecljaaGreatDoor
open Go.RowKit Go.MapKept
def idV (n:List Nat):Value:=.agg (z05 .u8 n).toArray
theorem zha {a b:List Nat} (h:idV a = idV b):a = b:=by
 have h1:z05 .u8 a = z05 .u8 b:=by
  have:=congrArg (fun v:Value=>v.cells.toList) h
  simpa [idV,Value.cells] using this
 have h2:∀ a b:List Nat,z05 .u8 a = z05 .u8 b → a = b:=by
  intro a
  induction a with
  | nil => intro b hb; cases b with
    | nil=>rfl
    | cons y b=>simp [z05] at hb
  | cons x a ih => intro b hb; cases b with
    | nil=>simp [z05] at hb
    | cons y b =>
      simp only [z05,List.map_cons,List.cons.injEq,Value.int.injEq,true_and] at hb
      rw [show x = y by omega,ih b hb.2]
 exact h2 a b h1
structure MapN (b:Nat) (L:List (List Nat × Value)) (w:World):Prop where
 ex:∃ es clock,w.heap[b]? = some (.map es clock) ∧ Stamped es clock ∧ es.toList.map (fun e=>(e.key,e.val)) = L.map (fun p=>(idV p.1,p.2))
 ok:∀ p ∈ L,IdOk p.1
 nodup:(L.map (·.1)).Nodup
theorem MapN.lt {b:Nat} {L:List (List Nat × Value)} {w:World} (h:MapN b L w):b < w.heap.size:=by
 obtain ⟨es,clock,h1,_⟩:=h.ex
 exact (Array.getElem?_eq_some_iff.1 h1).1
theorem MapN.only {O:Nat → Prop} {b:Nat} {L:List (List Nat × Value)} {w w':World} (h:MapN b L w) (k:Only O w w') (hb:¬ O b):MapN b L w':=by
 have hl:=h.lt
 obtain ⟨es,clock,h1,h2,h3⟩:=h.ex
 exact ⟨⟨es,clock,(k.block b hl hb).trans h1,h2,h3⟩,h.ok,h.nodup⟩
theorem MapN.below {b:Nat} {L:List (List Nat × Value)} {w w':World} (h:MapN b L w) (k:Below w.heap.size w w'):MapN b L w':=h.only (Only.of (O:=fun _=>False) k) id
theorem MapN.notCells {b:Nat} {L:List (List Nat × Value)} {w:World} (h:MapN b L w) {t:TypeId} {cs:Array Value} (hc:Cells b t cs w):False:=by
 obtain ⟨es,clock,h1,_⟩:=h.ex
 have hc':w.heap[b]? = some (.cells cs t (0,0)):=hc
 rw [h1] at hc'
 cases hc'
theorem MapN.notRow {b B n m:Nat} {e:TypeId} {v:Value} {cs:List Value} {L:List (List Nat × Value)} {w:World} (h:MapN b L w) (hr:w.ownsRow B e n v m cs):v.ownBlock ≠ some b:=by
 obtain ⟨es,clock,h1,_⟩:=h.ex
 intro hg
 rcases hr.2 with ⟨h0,_⟩ | ⟨g,cap,cur,h0,_,hh,_⟩
 ·rw [h0] at hg
  cases hg
 ·rw [h0] at hg
  obtain rfl:g = b:=by injection hg
  rw [h1] at hh
  cases hh
def World.putMap (w:World) (b:Nat) (o:Obj):World:={ w with heap:=w.heap.setIfInBounds b o }
theorem z21 (w:World) (b:Nat) (o:Obj):Only (fun x=>x = b) w (World.putMap w b o) :=
 ⟨rfl,rfl,rfl,by simp [World.putMap],fun i hi hn=>by
  show (w.heap.setIfInBounds b o)[i]? = w.heap[i]?
  rw [Array.getElem?_setIfInBounds_ne (Ne.symm hn)]⟩
section
variable {P:Program} {w:World} {T K E u:TypeId}
structure IdKey (P:Program) (K:TypeId):Prop where
 law:Maps.Keyed P K
 reads:∀ n,IdOk n → ∃ l,keyOf P K (idV n) = some l
theorem IdKey.of (hl:laidOutB P = true) (u:TypeId) (hK:P.underlying K = some (.array 32 u)) (hu:P.underlying u = some (.int .u8)) (hrow:decide (K < P.types.size) = true) (hk:P.keyTypeAt 2 K = true) (hk2:P.keyType K = true) (hone:P.cellsOf u = 1) (hc:P.cellsOf K = 32):IdKey P K:=by
 refine ⟨Maps.Keyed.of_law (deep_law_laid hl (m:=2) (by omega) (of_decide_eq_true hrow) hk (by rw [hK])),fun n hn=>?_⟩
 unfold keyOf
 rw [hK]
 have hsz2:(z05 .u8 n).toArray.size = 32:=by rw [List.size_toArray,z0s,hn.1]
 simp only [hk2,idV,Value.formed,hK,hc,hsz2,beq_self_eq_true,Bool.and_self,if_true,Option.map_eq_some_iff]
 suffices h:∃ ls,P.keyLits (P.types.size + 1) K (Value.agg (z05 .u8 n).toArray).cells.toList = some ls by
  obtain ⟨ls,h⟩:=h
  exact ⟨_,ls,h,rfl⟩
 obtain ⟨d,hd⟩:∃ d,P.types.size = d + 1:=⟨P.types.size - 1,(Nat.succ_pred_eq_of_pos (Nat.lt_of_le_of_lt (Nat.zero_le _) (of_decide_eq_true hrow))).symm⟩
 rw [hd]
 unfold Program.keyLits
 simp only [hK,Value.cells,hc,hone,z0s,hn.1,if_true,Option.map_eq_some_iff]
 have each:∀ is:List Nat,(∀ i ∈ is,i < 32) → ∃ ls,(is.mapM fun i=>P.keyLits (d + 1) u (((z05 .u8 n).drop (i * 1)).take 1)) = some ls:=by
  intro is
  induction is with
  | nil=>exact fun _=>⟨[],rfl⟩
  | cons i is ih =>
    intro hi
    obtain ⟨ls,hls⟩:=ih (fun j hj=>hi j (List.mem_cons_of_mem _ hj))
    have hil:=hi i (by simp)
    have hx:((z05 .u8 n).drop (i * 1)).take 1 = [.int .u8 (n[i]'(by have:=hn.1;omega):Int)]:=by
     rw [Nat.mul_one,List.drop_eq_getElem_cons (by rw [z0s];have:=hn.1;omega),List.take_succ_cons,List.take_zero]
     simp [z05]
    have hwf:(Lit.int .u8 (n[i]'(by have:=hn.1;omega):Int)).wf = true:=by
     have:=hn.2 _ (List.getElem_mem (show i < n.length by have:=hn.1;omega))
     simp [Lit.wf,IntKind.min,IntKind.max,IntKind.bits,IntKind.signed]
     omega
    refine ⟨[.int .u8 (n[i]'(by have:=hn.1;omega):Int)] :: ls,?_⟩
    rw [List.mapM_cons,hls,hx]
    unfold Program.keyLits
    simp only [hu,hwf,and_self,if_true]
    rfl
 obtain ⟨ls,hls⟩:=each (List.range 32) (fun i hi=>List.mem_range.1 hi)
 exact ⟨_,ls,hls,rfl⟩
theorem MapN.find (hk:IdKey P K) {b:Nat} {L:List (List Nat × Value)} (h:MapN b L w) {es:Array MapEntry} (hes:es.toList.map (fun e=>(e.key,e.val)) = L.map (fun p=>(idV p.1,p.2))) {n:List Nat} (hn:IdOk n) :
 ((Instr.findKey K (idV n) es.toList).run P w = .ok none w ∧ (∀ e ∈ es.toList,e.key ≠ idV n) ∧ n ∉ L.map (·.1)) ∨
 ∃ j e v,(Instr.findKey K (idV n) es.toList).run P w = .ok (some (j,v)) w ∧ es.toList[j]? = some e ∧ e.key = idV n ∧ e.val = v ∧ L[j]? = some (n,v):=by
 obtain ⟨lx,hlx⟩:=hk.reads n hn
 have hlen:es.toList.length = L.length:=by
  have:=congrArg List.length hes
  simpa using this
 have get:∀ j (hj:j < L.length),(es.toList[j]'(by omega)).key = idV (L[j]).1 ∧ (es.toList[j]'(by omega)).val = (L[j]).2:=fun j hj=>by
  have h1:=congrArg (fun l=>l[j]?) hes
  simp only [List.getElem?_map,List.getElem?_eq_getElem hj,List.getElem?_eq_getElem (show j < es.toList.length by omega),Option.map_some,Option.some.injEq,Prod.mk.injEq] at h1
  exact h1
 have hall:∀ e ∈ es.toList,∃ l,keyOf P K e.key = some l:=fun e he=>by
  obtain ⟨j,hj,rfl⟩:=List.getElem_of_mem he
  rw [(get j (by omega)).1]
  exact hk.reads _ (h.ok _ (List.getElem_mem _))
 rcases hk.law.find w hlx es.toList hall with ⟨h1,h2⟩ | ⟨j,e,h1,h2,h3⟩
 ·refine .inl ⟨h1,h2,fun hm=>?_⟩
  obtain ⟨p,hp,rfl⟩:=List.mem_map.1 hm
  obtain ⟨j,hj,rfl⟩:=List.getElem_of_mem hp
  exact h2 _ (List.getElem_mem (show j < es.toList.length by omega)) (get j hj).1
 ·obtain ⟨hj,he⟩:=List.getElem?_eq_some_iff.1 h2
  obtain ⟨g1,g2⟩:=get j (by omega)
  rw [he] at g1 g2
  refine .inr ⟨j,e,e.val,h1,h2,h3,rfl,?_⟩
  rw [List.getElem?_eq_getElem (by omega),g2]
  have:=zha (g1.symm.trans h3)
  rw [← this]
theorem MapN.lookup (hk:IdKey P K) (hT:P.underlying T = some (.map K E)) {z:Value} (hz:(zeroValue E).run P w = .ok z w) (c:Bool) {b:Nat} {L:List (List Nat × Value)} (h:MapN b L w) {n:List Nat} (hn:IdOk n) :
 (Instr.lookup T (.map (some b)) (idV n) c).run P w = .ok (if c then .tuple #[atE L z n,.bool (decide (n ∈ L.map (·.1)))] else atE L z n) w:=by
 obtain ⟨es,clock,hb,hs,hes⟩:=h.ex
 obtain ⟨lx,hlx⟩:=hk.reads n hn
 rcases h.find hk hes hn with ⟨h1,h2,h3⟩ | ⟨j,e,v,h1,h2,h3,h4,h5⟩
 ·rw [atE,z1w h3,decide_eq_false h3]
  simp [Instr.lookup,run_underlying hT,MapKept.run_getObj_map hb,hk.law.check w _ hlx,h1,hz,Result.andThen]
 ·rw [atE,z2r h.nodup h5,decide_eq_true (List.mem_map.2 ⟨(n,v),List.mem_of_getElem? h5,rfl⟩)]
  simp [Instr.lookup,run_underlying hT,MapKept.run_getObj_map hb,hk.law.check w _ hlx,h1,Result.andThen]
theorem MapN.update (hk:IdKey P K) (hT:P.underlying T = some (.map K E)) {b:Nat} {L:List (List Nat × Value)} (h:MapN b L w) {n:List Nat} (hn:IdOk n) (v:Value) :
 ∃ w',(Instr.mapUpdate T (.map (some b)) (idV n) v).run P w = .ok () w' ∧ MapN b (z30 L n v) w' ∧ Only (fun x=>x = b) w w':=by
 obtain ⟨es,clock,hb,hs,hes⟩:=h.ex
 obtain ⟨lx,hlx⟩:=hk.reads n hn
 rcases h.find hk hes hn with ⟨h1,h2,h3⟩ | ⟨j,e,x,h1,h2,h3,h4,h5⟩
 ·refine ⟨World.putMap w b (.map (es.push ⟨idV n,v,clock⟩) (clock + 1)),?_,⟨⟨_,_,(heap_set hb).1,stamped_push hs h2,?_⟩,?_,?_⟩,z21 _ _ _⟩
  ·simp [Instr.mapUpdate,run_underlying hT,MapKept.run_getObj_map hb,hk.law.check w _ hlx,h1,MapKept.run_setObj_map _ hb,Result.andThen,World.putMap]
  ·rw [z1u h3,Array.toList_push,List.map_append,List.map_append,hes]
   rfl
  ·rw [z1u h3]
   intro p hp
   rcases List.mem_append.1 hp with hp | hp
   ·exact h.ok p hp
   ·obtain rfl:=List.mem_singleton.1 hp
    exact hn
  ·rw [z1u h3,List.map_append]
   refine List.nodup_append.2 ⟨h.nodup,by simp,fun a ha c hc=>?_⟩
   obtain rfl:c = n:=by simpa using hc
   rintro rfl
   exact h3 ha
 ·have hm:n ∈ L.map (·.1):=List.mem_map.2 ⟨(n,x),List.mem_of_getElem? h5,rfl⟩
  have hj:es[j]? = some e:=by simpa using h2
  have hkeyf:∀ e',es[j]? = some e' → ({ e' with key:=idV n,val:=v }:MapEntry).key = e'.key:=fun e' he'=>by rw [hj] at he';cases he';exact h3.symm
  refine ⟨World.putMap w b (.map (es.modify j fun e'=>{ e' with key:=idV n,val:=v }) clock),?_,⟨⟨_,_,(heap_set hb).1,stamped_modify hs _ _ (fun _ _=>rfl) (fun e' _ he'=>hkeyf e' he'),?_⟩,?_,?_⟩,z21 _ _ _⟩
  ·simp [Instr.mapUpdate,run_underlying hT,MapKept.run_getObj_map hb,hk.law.check w _ hlx,h1,hj,h3,hk.law.stays w hlx,MapKept.run_setObj_map _ hb,Result.andThen,World.putMap]
  ·have hlist:(es.modify j (fun e'=>{ e' with key:=idV n,val:=v })).toList = es.toList.set j { e with key:=idV n,val:=v }:=by rw [Array.toList_modify,ChangeMaps.modify_eq_set _ _ _ _ h2]
   rw [z8s h.nodup v h5,hlist,List.map_set,List.map_set,hes]
  ·intro p hp
   have:p.1 ∈ (z30 L n v).map (·.1):=List.mem_map.2 ⟨p,hp,rfl⟩
   rw [zad hm] at this
   obtain ⟨q,hq,hqp⟩:=List.mem_map.1 this
   rw [← hqp]
   exact h.ok q hq
  ·rw [zad hm]
   exact h.nodup
theorem MapN.delete (hk:IdKey P K) (hT:P.underlying T = some (.map K E)) {b:Nat} {L:List (List Nat × Value)} (h:MapN b L w) {n:List Nat} (hn:IdOk n) (ty:TypeId) :
 ∃ w',(Builtin.delete_ #[T,K] ty #[.map (some b),idV n]).run P w = .ok (.tuple #[]) w' ∧ MapN b (z4s L n) w' ∧ Only (fun x=>x = b) w w':=by
 obtain ⟨es,clock,hb,hs,hes⟩:=h.ex
 obtain ⟨lx,hlx⟩:=hk.reads n hn
 rcases h.find hk hes hn with ⟨h1,h2,h3⟩ | ⟨j,e,x,h1,h2,h3,h4,h5⟩
 ·refine ⟨World.putMap w b (.map es clock),?_,⟨⟨_,_,(heap_set hb).1,hs,by rw [z3y h3];exact hes⟩,by rw [z3y h3];exact h.ok,by rw [z3y h3];exact h.nodup⟩,z21 _ _ _⟩
  simp [Builtin.delete_,run_underlying hT,MapKept.run_getObj_map hb,hk.law.check w _ hlx,h1,MapKept.run_setObj_map _ hb,Result.andThen,World.putMap]
 ·have hjl:j < es.size:=by simpa using (List.getElem?_eq_some_iff.1 h2).1
  have hsub:(es.eraseIdxIfInBounds j).toList = es.toList.eraseIdx j:=by
   unfold Array.eraseIdxIfInBounds
   rw [dif_pos hjl]
   simp
  have hd:=z8c h.nodup h5
  refine ⟨World.putMap w b (.map (es.eraseIdxIfInBounds j) clock),?_,⟨⟨_,_,(heap_set hb).1,stamped_erase hs _,?_⟩,?_,?_⟩,z21 _ _ _⟩
  ·simp [Builtin.delete_,run_underlying hT,MapKept.run_getObj_map hb,hk.law.check w _ hlx,h1,MapKept.run_setObj_map _ hb,Result.andThen,World.putMap]
  ·rw [hd,hsub,ChangeMaps.map_eraseIdx,ChangeMaps.map_eraseIdx,hes]
  ·intro p hp
   exact h.ok p (List.mem_filter.1 hp).1
  ·exact (List.Sublist.map _ List.filter_sublist).nodup h.nodup
theorem z9w (w:World):MapN w.heap.size [] (w.alloc (.map #[] 0)) :=
 ⟨⟨#[],0,(heap_alloc w _).1,stamped_empty 0,rfl⟩,fun p hp=>(by cases hp),List.nodup_nil⟩
end
section
variable {P:Program} {w w':World} {T K E:TypeId} {b:Nat} {L:List (List Nat × Value)} {n:List Nat}
def zi6 (L:List (List Nat × Value)) (z:Value) (n:List Nat):List (List Nat × Value):=if n ∈ L.map (·.1) then L else L ++ [(n,z)]
theorem put_ent (z:Value) (v:Value) (hd:(L.map (·.1)).Nodup):z30 (zi6 L z n) n v = z30 L n v:=by
 by_cases hn:n ∈ L.map (·.1)
 ·rw [zi6,if_pos hn]
 ·rw [zi6,if_neg hn]
  have hg:(L ++ [(n,z)])[L.length]? = some (n,z):=by rw [List.getElem?_append_right (Nat.le_refl _),Nat.sub_self];rfl
  have hd2:((L ++ [(n,z)]).map (·.1)).Nodup:=by
   rw [← z1u hn]
   exact z6q hd _ _
  rw [z8s hd2 v hg,z1u hn,List.set_append_right _ _ (Nat.le_refl _),Nat.sub_self]
  rfl
structure MapE (b:Nat) (L:List (List Nat × Value)) (n:List Nat) (born:Int) (w:World):Prop where
 map:MapN b L w
 stamp:∃ (es:Array MapEntry) (clock j:Nat) (e:MapEntry),w.heap[b]? = some (.map es clock) ∧ es.toList[j]? = some e ∧ e.key = idV n ∧ (e.born:Int) = born
theorem MapE.only {O:Nat → Prop} {born:Int} (h:MapE b L n born w) (k:Only O w w') (hb:¬ O b):MapE b L n born w':=by
 obtain ⟨es,clock,j,e,h1,h2⟩:=h.stamp
 exact ⟨h.map.only k hb,es,clock,j,e,(k.block b h.map.lt hb).trans h1,h2⟩
theorem MapN.entry (hk:IdKey P K) (hT:P.underlying T = some (.map K E)) {z:Value} (hz:(zeroValue E).run P w = .ok z w) (h:MapN b L w) (hn:IdOk n) :
 ∃ w' born, (Instr.mapEntry T (.map (some b)) (idV n)).run P w = .ok (.tuple #[atE L z n, .int .i64 born]) w' ∧ MapE b (zi6 L z n) n born w' ∧ Only (fun x => x = b) w w' ∧
   ∀ es clock,w.heap[b]? = some (.map es clock) → (∀ e ∈ es.toList,e.key = idV n → (e.born:Int) = born) ∧ ((∀ e ∈ es.toList,e.key ≠ idV n) → born = (clock:Int)):=by
 obtain ⟨es,clock,hb,hs,hes⟩:=h.ex
 obtain ⟨lx,hlx⟩:=hk.reads n hn
 rcases h.find hk hes hn with ⟨h1,h2,h3⟩ | ⟨j,e,x,h1,h2,h3,h4,h5⟩
 ·have hup:=(heap_set (o':=.map (es.push ⟨idV n,z,clock⟩) (clock + 1)) hb).1
  refine ⟨World.putMap w b (.map (es.push ⟨idV n,z,clock⟩) (clock + 1)),clock,?_,⟨⟨⟨_,_,hup,stamped_push hs h2,?_⟩,?_,?_⟩,_,_,es.size,⟨idV n,z,clock⟩,hup,?_,rfl,rfl⟩,z21 _ _ _,fun es' clock' hb'=>?_⟩
  ·rw [atE,z1w h3]
   simp [Instr.mapEntry,run_underlying hT,MapKept.run_getObj_map hb,hk.law.check w _ hlx,h1,hz,MapKept.run_setObj_map _ hb,Result.andThen,World.putMap,goInt]
  ·rw [zi6,if_neg h3,Array.toList_push,List.map_append,List.map_append,hes]
   rfl
  ·rw [zi6,if_neg h3]
   intro p hp
   rcases List.mem_append.1 hp with hp | hp
   ·exact h.ok p hp
   ·obtain rfl:=List.mem_singleton.1 hp
    exact hn
  ·rw [zi6,if_neg h3,← z1u h3]
   exact z6q h.nodup _ _
  ·rw [Array.toList_push,List.getElem?_append_right (by simp)]
   simp
  ·rw [hb] at hb'
   injection hb' with hb'
   injection hb' with he hc
   subst he hc
   exact ⟨fun e he hk=>absurd hk (h2 e he),fun _=>rfl⟩
 ·have hm:n ∈ L.map (·.1):=List.mem_map.2 ⟨(n,x),List.mem_of_getElem? h5,rfl⟩
  have hj:es[j]? = some e:=by simpa using h2
  have hkeyf:∀ e',es[j]? = some e' → ({ e' with key:=idV n }:MapEntry).key = e'.key:=fun e' he'=>by rw [hj] at he';cases he';exact h3.symm
  have hup:=(heap_set (o':=.map (es.modify j fun e'=>{ e' with key:=idV n }) clock) hb).1
  have hlist:(es.modify j (fun e'=>{ e' with key:=idV n })).toList = es.toList.set j { e with key:=idV n }:=by rw [Array.toList_modify,ChangeMaps.modify_eq_set _ _ _ _ h2]
  have hsame:({ e with key:=idV n }:MapEntry) = e:=by rw [← h3]
  have hjl:=(List.getElem?_eq_some_iff.1 h2).1
  have hset:es.toList.set j e = es.toList:=by
   refine List.ext_getElem? fun i=>?_
   by_cases hij:j = i
   ·subst hij
    rw [List.getElem?_set_self hjl,h2]
   ·rw [List.getElem?_set_ne hij]
  rw [hsame,hset] at hlist
  refine ⟨World.putMap w b (.map (es.modify j fun e'=>{ e' with key:=idV n }) clock),e.born,?_,⟨⟨⟨_,_,hup,stamped_modify hs _ _ (fun _ _=>rfl) (fun e' _ he'=>hkeyf e' he'),?_⟩,?_,?_⟩,_,_,j,e,hup,?_,h3,rfl⟩,z21 _ _ _,fun es' clock' hb'=>?_⟩
  ·rw [atE,z2r h.nodup h5]
   simp [Instr.mapEntry,run_underlying hT,MapKept.run_getObj_map hb,hk.law.check w _ hlx,h1,hj,h3,hk.law.stays w hlx,MapKept.run_setObj_map _ hb,Result.andThen,World.putMap,goInt]
  ·rw [zi6,if_pos hm,hlist,hes]
  ·rw [zi6,if_pos hm];exact h.ok
  ·rw [zi6,if_pos hm];exact h.nodup
  ·rw [hlist];exact h2
  ·rw [hb] at hb'
   injection hb' with hb'
   injection hb' with he hc
   subst he hc
   refine ⟨fun e' he hk=>?_,fun hall=>absurd h3 (hall e (List.mem_of_getElem? h2))⟩
   obtain ⟨i,hi,rfl⟩:=List.getElem_of_mem he
   have hb1:(es.toList.map (·.key))[i]? = (es.toList.map (·.key))[j]?:=by
    rw [List.getElem?_map,List.getElem?_map,h2,List.getElem?_eq_getElem hi,Option.map_some,Option.map_some,hk,h3]
   have:=(List.getElem?_inj (by rw [List.length_map];exact hi) hs.2.2).1 hb1
   subst this
   rw [List.getElem?_eq_getElem hi] at h2
   rw [Option.some.inj h2]
theorem MapN.entryAt (hk:IdKey P K) (hT:P.underlying T = some (.map K E)) {z:Value} (hz:∀ w,(zeroValue E).run P w = .ok z w) (h:MapN b L w) (hn:IdOk n) :
 ∃ born,∀ w2,w2.heap[b]? = w.heap[b]? → ∃ w',(Instr.mapEntry T (.map (some b)) (idV n)).run P w2 = .ok (.tuple #[atE L z n,.int .i64 born]) w' ∧ MapE b (zi6 L z n) n born w' ∧ Only (fun x=>x = b) w2 w':=by
 obtain ⟨_,born,_,_,_,h4⟩:=h.entry hk hT (hz w) hn
 refine ⟨born,fun w2 h2=>?_⟩
 obtain ⟨es,clock,hb,hs,hes⟩:=h.ex
 have hb2:=h2.trans hb
 have hm2:MapN b L w2:=⟨⟨es,clock,hb2,hs,hes⟩,h.ok,h.nodup⟩
 obtain ⟨w',born2,g1,g2,g3,g4⟩:=hm2.entry hk hT (hz w2) hn
 obtain ⟨p1,p2⟩:=h4 es clock hb
 obtain ⟨q1,q2⟩:=g4 es clock hb2
 have he:born2 = born:=by
  by_cases hex:∃ e ∈ es.toList,e.key = idV n
  ·obtain ⟨e,he,hk⟩:=hex
   rw [← p1 e he hk,← q1 e he hk]
  ·have hall:∀ e ∈ es.toList,e.key ≠ idV n:=fun e he hk=>hex ⟨e,he,hk⟩
   rw [p2 hall,q2 hall]
 subst he
 exact ⟨w',g1,g2,g3⟩
theorem MapE.store {born:Int} (h:MapE b L n born w) (hn:IdOk n) (v:Value) :
 ∃ w',(Instr.entryStore T (.map (some b)) (.int .i64 born) v).run P w = .ok () w' ∧ MapN b (z30 L n v) w' ∧ Only (fun x=>x = b) w w':=by
 obtain ⟨es,clock,hb,hs,hes⟩:=h.map.ex
 obtain ⟨es',clock',j,e,hb',h2,h3,h4⟩:=h.stamp
 rw [hb] at hb'
 injection hb' with hb'
 injection hb' with he hc
 subst he hc
 have hjl:=(List.getElem?_eq_some_iff.1 h2).1
 have hlen:es.toList.length = L.length:=by
  have:=congrArg List.length hes
  simpa using this
 have hget:(idV (L[j]'(by omega)).1,(L[j]'(by omega)).2) = (e.key,e.val):=by
  have h1:=congrArg (fun l=>l[j]?) hes
  simp only [List.getElem?_map,h2,List.getElem?_eq_getElem (show j < L.length by omega),Option.map_some,Option.some.injEq] at h1
  exact h1.symm
 have hL:L[j]? = some (n,e.val):=by
  rw [List.getElem?_eq_getElem (by omega)]
  have g1:(L[j]'(by omega)).1 = n:=zha ((congrArg Prod.fst hget).trans h3)
  have g2:(L[j]'(by omega)).2 = e.val:=congrArg Prod.snd hget
  rw [← g1,← g2]
 have hj:es[j]? = some e:=by simpa using h2
 have hfind:es.findIdx? (fun e'=>(e'.born:Int) == born) = some j:=by
  rw [show es = es.toList.toArray from rfl,List.findIdx?_toArray]
  refine List.findIdx?_eq_some_iff_getElem.2 ⟨hjl,?_,fun i hi=>?_⟩
  ·have:es.toList[j] = e:=by rw [List.getElem?_eq_getElem hjl] at h2;exact Option.some.inj h2
   rw [this,h4]
   simp
  ·have hne:(es.toList[i]'(by omega)).born ≠ e.born:=by
    intro he
    have hb1:(es.toList.map (·.born))[i]? = (es.toList.map (·.born))[j]?:=by
     rw [List.getElem?_map,List.getElem?_map,h2,List.getElem?_eq_getElem (by omega),Option.map_some,Option.map_some,he]
    have:=(List.getElem?_inj (by rw [List.length_map];omega) hs.2.1).1 hb1
    omega
   rw [← h4]
   simpa using fun q=>hne (by exact_mod_cast q)
 refine ⟨World.putMap w b (.map (es.modify j fun e'=>{ e' with val:=v }) clock),?_,⟨⟨_,_,(heap_set hb).1,stamped_modify hs _ _ (fun _ _=>rfl) (fun _ _ _=>rfl),?_⟩,?_,z6q h.map.nodup _ _⟩,z21 _ _ _⟩
 ·simp [Instr.entryStore,MapKept.run_getObj_map hb,asInt,asIntOf,hfind,MapKept.run_setObj_map _ hb,Result.andThen,World.putMap]
 ·have hlist:(es.modify j (fun e'=>{ e' with val:=v })).toList = es.toList.set j { e with val:=v }:=by rw [Array.toList_modify,ChangeMaps.modify_eq_set _ _ _ _ h2]
  rw [z8s h.map.nodup v hL,hlist,List.map_set,List.map_set,hes]
  show (List.map _ L).set j (e.key,v) = (List.map _ L).set j (idV n,v)
  rw [h3]
 ·intro p hp
  rw [z8s h.map.nodup v hL] at hp
  rcases List.mem_or_eq_of_mem_set hp with hp | rfl
  ·exact h.map.ok p hp
  ·exact hn
end
section
variable {P:Program} {w:World} {T K E:TypeId} {ops:Array Oper} {rest:List Oper} {o:Oper} {a:Act} {Q:Exit → Act → World → Prop}
theorem z3p (hg:o.guard = none) (m x y:Operand) (T K E:TypeId) (ho:o.op = .mapUpdate T m x y) (hk:IdKey P K) (hT:P.underlying T = some (.map K E)) (b:Nat) (L:List (List Nat × Value)) (h:MapN b L w) (n:List Nat) (hn:IdOk n) (v:Value)
 (hm:a.eval m = .map (some b)) (hx:a.eval x = idV n) (hy:a.eval y = v) (hK:∀ w',Hid (MapN b (z30 L n v) w') → Hid (Only (fun x=>x = b) w w') → wpList P ops Q rest (a.put o.dst undef) w'):wpList P ops Q (o :: rest) a w:=by
 refine wpList_plain hg fun K' hK'=>?_
 obtain ⟨w',h1,h2,h3⟩:=h.update hk hT hn v
 unfold Oper.wp execOp
 simp only [ho,hm,hx,hy,h1,Sem.run_bind,Sem.run_pure,Result.andThen_ok]
 exact hK' _ _ (hK w' h2 h3)
theorem z3q (hg:o.guard = none) (m x:Operand) (T K E:TypeId) (ho:o.op = .call { callee:=.builtin .delete,args:=#[m,x],argTypes:=#[T,K] }) (hk:IdKey P K) (hT:P.underlying T = some (.map K E)) (b:Nat) (L:List (List Nat × Value)) (h:MapN b L w) (n:List Nat) (hn:IdOk n)
 (hm:a.eval m = .map (some b)) (hx:a.eval x = idV n) (hK:∀ w',Hid (MapN b (z4s L n) w') → Hid (Only (fun x=>x = b) w w') → wpList P ops Q rest (a.put o.dst (.tuple #[])) w'):wpList P ops Q (o :: rest) a w:=by
 refine wpList_plain hg fun K' hK'=>?_
 obtain ⟨w',h1,h2,h3⟩:=h.delete hk hT hn o.type
 unfold Oper.wp execOp
 simp only [ho,hm,hx,resolve,invoke,builtin,Sem.run_bind,Sem.run_pure,Result.andThen_ok,List.map_toArray,List.map_cons,List.map_nil,h1]
 exact hK' _ _ (hK w' h2 h3)
theorem z6x (hg:o.guard = none) (m x y:Operand) (T:TypeId) (ho:o.op = .entryStore T m x y) (b:Nat) (L:List (List Nat × Value)) (n:List Nat) (born:Int) (h:MapE b L n born w) (hn:IdOk n) (v:Value)
 (hm:a.eval m = .map (some b)) (hx:a.eval x = .int .i64 born) (hy:a.eval y = v) (hK:∀ w',Hid (MapN b (z30 L n v) w') → Hid (Only (fun x=>x = b) w w') → wpList P ops Q rest (a.put o.dst undef) w'):wpList P ops Q (o :: rest) a w:=by
 refine wpList_plain hg fun K' hK'=>?_
 obtain ⟨w',h1,h2,h3⟩:=h.store (P:=P) (T:=T) hn v
 unfold Oper.wp execOp
 simp only [ho,hm,hx,hy,h1,Sem.run_bind,Sem.run_pure,Result.andThen_ok]
 exact hK' _ _ (hK w' h2 h3)
end
open Go.BigFrame
def MapG (R S:Value → Prop) (b N:Nat) (w:World):Prop :=
 ∃ es clock,w.heap[b]? = some (.map es clock) ∧ Stamped es clock ∧ es.size = N ∧ ∀ e ∈ es.toList,R e.key ∧ S e.val
theorem MapG.lt {R S:Value → Prop} {b N:Nat} {w:World} (h:MapG R S b N w):b < w.heap.size:=by
 obtain ⟨es,clock,h1,_⟩:=h
 exact (Array.getElem?_eq_some_iff.1 h1).1
theorem MapG.only {R S:Value → Prop} {O:Nat → Prop} {b N:Nat} {w w':World} (h:MapG R S b N w) (k:Only O w w') (hb:¬ O b):MapG R S b N w':=by
 have hl:=h.lt
 obtain ⟨es,clock,h1,h2⟩:=h
 exact ⟨es,clock,(k.block b hl hb).trans h1,h2⟩
theorem MapG.below {R S:Value → Prop} {b N:Nat} {w w':World} (h:MapG R S b N w) (k:Below w.heap.size w w'):MapG R S b N w':=h.only (Only.of (O:=fun _=>False) k) id
theorem zhs (R S:Value → Prop) (w:World):MapG R S w.heap.size 0 (w.alloc (.map #[] 0)) :=
 ⟨#[],0,(MapKept.heap_alloc w _).1,stamped_empty 0,rfl,fun e he=>by cases he⟩
section
variable {P:Program} {T K E:TypeId} {R S:Value → Prop} {b N:Nat} {w:World}
theorem MapG.lookup (hk:Maps.Keyed P K) (hR:∀ v,R v → ∃ l,keyOf P K v = some l) (hT:P.underlying T = some (.map K E)) {z:Value} (hz:∀ w,(zeroValue E).run P w = .ok z w) (h:MapG R S b N w) {n:Value} (hn:R n) :
 ∃ v,(S v ∨ v = z) ∧ ∀ w2,w2.heap[b]? = w.heap[b]? → (Instr.lookup T (.map (some b)) n false).run P w2 = .ok v w2:=by
 obtain ⟨es,clock,hb,hs,_,hes⟩:=h
 obtain ⟨lx,hlx⟩:=hR n hn
 have hall:∀ e ∈ es.toList,∃ l,keyOf P K e.key = some l:=fun e he=>hR _ (hes e he).1
 by_cases hex:∃ e ∈ es.toList,e.key = n
 ·obtain ⟨e,he,hek⟩:=hex
  refine ⟨e.val,.inl (hes e he).2,fun w2 h2=>?_⟩
  have hb2:=h2.trans hb
  rcases hk.find w2 hlx es.toList hall with ⟨h1,h3⟩ | ⟨j,e',h1,h3,h4⟩
  ·exact absurd hek (h3 e he)
  ·have:e' = e:=by
    obtain ⟨i,hi,rfl⟩:=List.getElem_of_mem he
    have hb1:(es.toList.map (·.key))[i]? = (es.toList.map (·.key))[j]?:=by
     rw [List.getElem?_map,List.getElem?_map,h3,List.getElem?_eq_getElem hi,Option.map_some,Option.map_some,hek,h4]
    have:=(List.getElem?_inj (by rw [List.length_map];exact hi) hs.2.2).1 hb1
    subst this
    rw [List.getElem?_eq_getElem hi] at h3
    exact (Option.some.inj h3).symm
   subst this
   simp [Instr.lookup,run_underlying hT,MapKept.run_getObj_map hb2,hk.check w2 _ hlx,h1,Result.andThen]
 ·have hne:∀ e ∈ es.toList,e.key ≠ n:=fun e he hk=>hex ⟨e,he,hk⟩
  refine ⟨z,.inr rfl,fun w2 h2=>?_⟩
  have hb2:=h2.trans hb
  rcases hk.find w2 hlx es.toList hall with ⟨h1,h3⟩ | ⟨j,e',h1,h3,h4⟩
  ·simp [Instr.lookup,run_underlying hT,MapKept.run_getObj_map hb2,hk.check w2 _ hlx,h1,hz,Result.andThen]
  ·exact absurd h4 (hne e' (List.mem_of_getElem? h3))
theorem MapG.update (hk:Maps.Keyed P K) (hR:∀ v,R v → ∃ l,keyOf P K v = some l) (hT:P.underlying T = some (.map K E)) (h:MapG R S b N w) {n v:Value} (hn:R n) (hv:S v) :
 ∃ w' N',(Instr.mapUpdate T (.map (some b)) n v).run P w = .ok () w' ∧ MapG R S b N' w' ∧ N' ≤ N + 1 ∧ Only (fun x=>x = b) w w':=by
 obtain ⟨es,clock,hb,hs,hN,hes⟩:=h
 obtain ⟨lx,hlx⟩:=hR n hn
 have hall:∀ e ∈ es.toList,∃ l,keyOf P K e.key = some l:=fun e he=>hR _ (hes e he).1
 rcases hk.find w hlx es.toList hall with ⟨h1,h2⟩ | ⟨j,e,h1,h2,h3⟩
 ·refine ⟨World.putMap w b (.map (es.push ⟨n,v,clock⟩) (clock + 1)),N + 1,?_,⟨_,_,(heap_set hb).1,stamped_push hs h2,by rw [Array.size_push,hN],fun e he=>?_⟩,Nat.le_refl _,z21 _ _ _⟩
  ·simp [Instr.mapUpdate,run_underlying hT,MapKept.run_getObj_map hb,hk.check w _ hlx,h1,MapKept.run_setObj_map _ hb,Result.andThen,World.putMap]
  ·rw [Array.toList_push,List.mem_append] at he
   rcases he with he | he
   ·exact hes e he
   ·obtain rfl:=List.mem_singleton.1 he
    exact ⟨hn,hv⟩
 ·have hj:es[j]? = some e:=by simpa using h2
  have hkeyf:∀ e',es[j]? = some e' → ({ e' with key:=n,val:=v }:MapEntry).key = e'.key:=fun e' he'=>by rw [hj] at he';cases he';exact h3.symm
  refine ⟨World.putMap w b (.map (es.modify j fun e'=>{ e' with key:=n,val:=v }) clock),N,?_,⟨_,_,(heap_set hb).1,stamped_modify hs _ _ (fun _ _=>rfl) (fun e' _ he'=>hkeyf e' he'),by rw [Array.size_modify,hN],fun e' he'=>?_⟩,Nat.le_succ _,z21 _ _ _⟩
  ·simp [Instr.mapUpdate,run_underlying hT,MapKept.run_getObj_map hb,hk.check w _ hlx,h1,hj,h3,hk.stays w hlx,MapKept.run_setObj_map _ hb,Result.andThen,World.putMap]
  ·rw [Array.toList_modify,ChangeMaps.modify_eq_set _ _ _ _ h2] at he'
   rcases List.mem_or_eq_of_mem_set he' with he' | rfl
   ·exact hes e' he'
   ·exact ⟨hn,hv⟩
theorem MapG.len (hT:P.underlying T = some (.map K E)) (h:MapG R S b N w) (ty:TypeId):(Builtin.len_ #[T] ty #[.map (some b)]).run P w = .ok (.int .i64 N) w:=by
 obtain ⟨es,clock,hb,hs,hN,_⟩:=h
 simp [Builtin.len_,run_underlying hT,MapKept.run_getObj_map hb,Result.andThen,goInt,hN]
end
section
variable {P:Program} {w:World} {T K E:TypeId} {ops:Array Oper} {rest:List Oper} {o:Oper} {a:Act} {Q:Exit → Act → World → Prop} {R S:Value → Prop} {b N:Nat}
theorem z2g (hw:Region.wanted o (yielded ops a.tmps) = true) (m x:Operand) (T:TypeId) (ho:o.op = .lookup T m x false) (vm vx v:Value) (hm:a.eval m = vm) (hx:a.eval x = vx) (hr:(Instr.lookup T vm vx false).run P w = .ok v w)
 (hK:wpList P ops Q rest (a.put o.dst v) w):wpList P ops Q (o :: rest) a w :=
 BigFrame.wpList_want hw fun K' hK'=>by
  unfold Oper.wp execOp
  simp only [ho,hm,hx,hr,Sem.run_bind,Sem.run_pure,Result.andThen_ok]
  exact hK' _ _ hK
theorem z63 (hg:o.guard = none) (m x y:Operand) (T K E:TypeId) (ho:o.op = .mapUpdate T m x y) (hk:Maps.Keyed P K) (hR:∀ v,R v → ∃ l,keyOf P K v = some l) (hT:P.underlying T = some (.map K E)) (h:MapG R S b N w) (n v:Value) (hn:R n) (hv:S v)
 (hm:a.eval m = .map (some b)) (hx:a.eval x = n) (hy:a.eval y = v) (hK:∀ w' N',Hid (MapG R S b N' w') → N' ≤ N + 1 → Hid (Only (fun x=>x = b) w w') → wpList P ops Q rest (a.put o.dst undef) w'):wpList P ops Q (o :: rest) a w:=by
 refine wpList_plain hg fun K' hK'=>?_
 obtain ⟨w',N',h1,h2,h3,h4⟩:=h.update hk hR hT hn hv
 unfold Oper.wp execOp
 simp only [ho,hm,hx,hy,h1,Sem.run_bind,Sem.run_pure,Result.andThen_ok]
 exact hK' _ _ (hK w' N' h2 h3 h4)
theorem z98 (hg:o.guard = none) (m:Operand) (T K E:TypeId) (ho:o.op = .call { callee:=.builtin .len,args:=#[m],argTypes:=#[T] }) (hT:P.underlying T = some (.map K E)) (h:MapG R S b N w)
 (hm:a.eval m = .map (some b)) (hK:wpList P ops Q rest (a.put o.dst (.int .i64 N)) w):wpList P ops Q (o :: rest) a w:=by
 refine wpList_plain hg fun K' hK'=>?_
 unfold Oper.wp execOp
 simp only [ho,hm,resolve,invoke,builtin,Sem.run_bind,Sem.run_pure,Result.andThen_ok,List.map_toArray,List.map_cons,List.map_nil,h.len hT o.type]
 exact hK' _ _ hK
end
def NumB (m:Nat) (v:Value):Prop:=∃ j:Nat,j < m ∧ v = .int .i64 (j:Int)
theorem NumB.of {m:Nat} (hm:0 < m) {v:Value} (h:NumB m v ∨ v = .int .i64 0):∃ j:Nat,j < m ∧ v = .int .i64 (j:Int):=by
 rcases h with h | rfl
 ·exact h
 ·exact ⟨0,hm,rfl⟩
def IdV (v:Value):Prop:=∃ n,IdOk n ∧ v = idV n
theorem IdV.reads {P:Program} {K:TypeId} (hk:IdKey P K) (v:Value) (h:IdV v):∃ l,keyOf P K v = some l:=by
 obtain ⟨n,h1,rfl⟩:=h
 exact hk.reads n h1
theorem Blk.made {B g n:Nat} {e:TypeId} {k:IntKind} {w:World} (h:w.ownsRow B e 1 (.slice (some ⟨g,0,none⟩) n n) n (madeCells #[Value.int k 0] n).toList):Blk g e k (List.replicate n 0) w:=by
 rcases h.2 with ⟨h1,_⟩ | ⟨g',cap,cur,h1,h2,h3,h4,h5,h6,h7⟩
 ·cases h1
 ·cases h1
  rw [Nat.mul_one] at h6 h7
  rw [List.take_of_length_le (by rw [Array.length_toList,h6];exact Nat.le_refl _)] at h7
  have:cur = (z05 k (List.replicate n 0)).toArray:=by
   rw [← Array.toArray_toList (xs:=cur),h7,toList_madeCells_one]
   congr 1
   rw [z05,List.map_replicate]
   rfl
  rw [this] at h3
  exact h3
end Go.Proofs.YtjomgkiphecljaaGreatDoor
namespace Go.Proofs.YtjomgkiphecljaaGreatDoor
open Go.Shelf
def Tryz.sortPl_ren:Go.Shelf.Ren:=⟨fun | 6=>68 | 15=>73 | 14=>90 | 28=>103 | 29=>104 | 20=>118 | 21=>119 | 22=>120 | 23=>121 | 24=>122 | 25=>123 | 26=>124 | 27=>125 | 46=>139 | 47=>130 | 48=>131 | 49=>140 | 50=>141 | 57=>148 | n=>n,fun | 22=>83 | 24=>86 | 25=>109 | 3=>3 | 39=>75 | 0=>0 | 53=>151 | 55=>121 | 4=>4 | 46=>143 | 45=>142 | 50=>148 | 5=>5 | 9=>9 | 66=>188 | 70=>192 | 76=>204 | 77=>205 | n=>n,fun | n=>n⟩
theorem Tryz.sortPl:Go.Proofs.SlLaysF0.n6 Tryz.prog Tryz.sortPl_ren:={
 mixed:=by kernel_rfl
 f6:=⟨Tryz.f68.name,by decide,Tryz.func68.trans (congrArg some (by kernel_rfl))⟩
 f14:=⟨Tryz.f90.name,by decide,Tryz.func90.trans (congrArg some (by kernel_rfl))⟩
 f15:=Tryz.func73.trans (congrArg some (by kernel_rfl))
 f20:=⟨Tryz.f118.name,by decide,Tryz.func118.trans (congrArg some (by kernel_rfl))⟩
 f21:=⟨Tryz.f119.name,by decide,Tryz.func119.trans (congrArg some (by kernel_rfl))⟩
 f22:=⟨Tryz.f120.name,by decide,Tryz.func120.trans (congrArg some (by kernel_rfl))⟩
 f23:=⟨Tryz.f121.name,by decide,Tryz.func121.trans (congrArg some (by kernel_rfl))⟩
 f24:=⟨Tryz.f122.name,by decide,Tryz.func122.trans (congrArg some (by kernel_rfl))⟩
 f25:=⟨Tryz.f123.name,by decide,Tryz.func123.trans (congrArg some (by kernel_rfl))⟩
 f26:=⟨Tryz.f124.name,by decide,Tryz.func124.trans (congrArg some (by kernel_rfl))⟩
 f27:=⟨Tryz.f125.name,by decide,Tryz.func125.trans (congrArg some (by kernel_rfl))⟩
 f28:=Tryz.func103.trans (congrArg some (by kernel_rfl))
 f29:=Tryz.func104.trans (congrArg some (by kernel_rfl))
 f46:=⟨Tryz.f139.name,by decide,Tryz.func139.trans (congrArg some (by kernel_rfl))⟩
 f47:=Tryz.func130.trans (congrArg some (by kernel_rfl))
 f48:=Tryz.func131.trans (congrArg some (by kernel_rfl))
 f49:=⟨Tryz.f140.name,by decide,Tryz.func140.trans (congrArg some (by kernel_rfl))⟩
 f50:=⟨Tryz.f141.name,by decide,Tryz.func141.trans (congrArg some (by kernel_rfl))⟩
 f57:=⟨Tryz.f148.name,by decide,Tryz.func148.trans (congrArg some (by kernel_rfl))⟩
 t0:=Tryz.underlying0
 a0:=Tryz.isAgg0
 z0:=Tryz.sizeOf0
 v0:=Tryz.zeroValue0
 t3:=Tryz.underlying3
 a3:=Tryz.isAgg3
 z3:=Tryz.sizeOf3
 v3:=Tryz.zeroValue3
 t4:=Tryz.underlying4
 a4:=Tryz.isAgg4
 z4:=Tryz.sizeOf4
 v4:=Tryz.zeroValue4
 t5:=Tryz.underlying5
 a5:=Tryz.isAgg5
 z5:=Tryz.sizeOf5
 v5:=Tryz.zeroValue5
 t9:=Tryz.underlying9
 a9:=Tryz.isAgg9
 z9:=Tryz.sizeOf9
 v9:=Tryz.zeroValue9
 t22:=Tryz.underlying83
 a22:=Tryz.isAgg83
 z22:=Tryz.sizeOf83
 v22:=Tryz.zeroValue83
 t25:=Tryz.underlying109
 a25:=Tryz.isAgg109
 z25:=Tryz.sizeOf109
 v25:=Tryz.zeroValue109
 t39:=Tryz.underlying75
 a39:=Tryz.isAgg75
 z39:=Tryz.sizeOf75
 v39:=Tryz.zeroValue75
 t45:=Tryz.underlying142
 a45:=Tryz.isAgg142
 z45:=Tryz.sizeOf142
 v45:=Tryz.zeroValue142
 t46:=Tryz.underlying143
 a46:=Tryz.isAgg143
 z46:=Tryz.sizeOf143
 v46:=Tryz.zeroValue143
 t50:=Tryz.underlying148
 a50:=Tryz.isAgg148
 z50:=Tryz.sizeOf148
 v50:=Tryz.zeroValue148
 t53:=Tryz.underlying151
 a53:=Tryz.isAgg151
 z53:=Tryz.sizeOf151
 v53:=Tryz.zeroValue151
 t55:=Tryz.underlying121
 a55:=Tryz.isAgg121
 z55:=Tryz.sizeOf121
 v55:=Tryz.zeroValue121
 t66:=Tryz.underlying188
 a66:=Tryz.isAgg188
 z66:=Tryz.sizeOf188
 v66:=Tryz.zeroValue188
 t70:=Tryz.underlying192
 a70:=Tryz.isAgg192
 z70:=Tryz.sizeOf192
 v70:=Tryz.zeroValue192
 t76:=Tryz.underlying204
 a76:=Tryz.isAgg204
 z76:=Tryz.sizeOf204
 v76:=Tryz.zeroValue204
 t77:=Tryz.underlying205
 a77:=Tryz.isAgg205
 z77:=Tryz.sizeOf205
 v77:=Tryz.zeroValue205 }
end Go.Proofs.YtjomgkiphecljaaGreatDoor
namespace Go.Proofs.YtjomgkiphecljaaGreatDoor
open Go.RowKit
open Go.ChangeMaps (setBlock)
structure IterN (b r:Nat) (L:List (List Nat × Value)) (S:List (List Nat)) (w:World):Prop where
 ex:∃ es clock since seen c0,w.heap[b]? = some (.map es clock) ∧ Go.MapKept.Stamped es clock ∧ es.toList.map (fun e=>(e.key,e.val)) = L.map (fun p=>(idV p.1,p.2)) ∧ w.heap[r]? = some (.mapIter (some b) since seen c0) ∧
  (∀ x ∈ es.toList,x.born < since) ∧ since ≤ c0 ∧ since ≤ clock ∧ ∀ x ∈ es.toList,∀ n,x.key = idV n → (seen.contains x.born = true ↔ n ∈ S)
 ok:∀ p ∈ L,IdOk p.1
 nodup:(L.map (·.1)).Nodup
 sn:S.Nodup
 sub:∀ n ∈ S,n ∈ L.map (·.1)
theorem IterN.ne {b r:Nat} {L:List (List Nat × Value)} {S:List (List Nat)} {w:World} (h:IterN b r L S w):r ≠ b:=by
 obtain ⟨es,clock,since,seen,c0,hb,_,_,hr,_⟩:=h.ex
 intro e
 rw [e,hb] at hr
 cases hr
theorem IterN.walk {b r:Nat} {L:List (List Nat × Value)} {S:List (List Nat)} {w:World} (h:IterN b r L S w):∃ o:Obj,w.heap[r]? = some o ∧ o.isWalk = true:=by
 obtain ⟨es,clock,since,seen,c0,hb,_,_,hr,_⟩:=h.ex
 exact ⟨_,hr,rfl⟩
theorem IterN.kept {b r:Nat} {L:List (List Nat × Value)} {S:List (List Nat)} {w w':World} (h:IterN b r L S w) (k:KeepsWalks w w'):IterN b r L S w':=by
 obtain ⟨es,clock,since,seen,c0,hb,h2,h3,hr,rest⟩:=h.ex
 exact ⟨⟨es,clock,since,seen,c0,k.same b _ hb rfl,h2,h3,k.same r _ hr rfl,rest⟩,h.ok,h.nodup,h.sn,h.sub⟩
theorem IterN.left_eq {b r:Nat} {L:List (List Nat × Value)} {S:List (List Nat)} {w w':World} (h:IterN b r L S w) (k:KeepsWalks w w'):w'.rangeLeft b r = w.rangeLeft b r:=by
 obtain ⟨es,clock,since,seen,c0,hb,h2,h3,hr,rest⟩:=h.ex
 simp only [World.rangeLeft,hb,hr,k.same b _ hb rfl,k.same r _ hr rfl]
theorem zig:∀ {S T:List (List Nat)},S.Nodup → (∀ n ∈ S,n ∈ T) → S.length ≤ T.length
 | [],T,_,_=>Nat.zero_le _
 | x :: S, T, hn, hs => by
   have h1:=List.nodup_cons.1 hn
   have hx:=hs x (by simp)
   have h2:=zig (T:=T.erase x) h1.2 (fun n hn'=>(List.mem_erase_of_ne (fun e=>h1.1 (by rw [← e];exact hn'))).2 (hs n (by simp [hn'])))
   rw [List.length_erase_of_mem hx] at h2
   have:=List.length_pos_of_mem hx
   simp only [List.length_cons]
   omega
theorem IterN.count {b r:Nat} {L:List (List Nat × Value)} {S:List (List Nat)} {w:World} (h:IterN b r L S w):S.length ≤ L.length:=by
 have h1:=zig h.sn h.sub
 rwa [List.length_map] at h1
section
variable {P:Program} {w:World} {T:TypeId} {b r:Nat} {L:List (List Nat × Value)} {S:List (List Nat)}
theorem MapN.range {t k e:TypeId} (h:MapN b L w) (ht:P.underlying t = some (.map k e)) :
 ∃ w',(Instr.range t (.map (some b))).run P w = .ok (.pointer (some ⟨w.heap.size,0,none⟩)) w' ∧ IterN b w.heap.size L [] w' ∧ w.grownBy w' none ∧ Below w.heap.size w w' ∧ w'.heap.size = w.heap.size + 1:=by
 have hlt:=h.lt
 obtain ⟨es,clock,hb,hs,he⟩:=h.ex
 refine ⟨_,run_range_map w t k e b es clock ht hb,⟨⟨es,clock,clock,#[],clock,((MapKept.heap_alloc w _).2 b hlt).trans hb,hs,he,(MapKept.heap_alloc w _).1,hs.1,Nat.le_refl _,Nat.le_refl _,fun x _ n _=>?_⟩,h.ok,h.nodup,List.nodup_nil,fun n hn=>by cases hn⟩,
  World.grownBy_alloc w _ none,(Below.refl _ _).alloc (Nat.le_refl _) _,by simp⟩
 simp
theorem IterN.key {es:Array MapEntry} (hes:es.toList.map (fun e=>(e.key,e.val)) = L.map (fun p=>(idV p.1,p.2))) {e:MapEntry} (he:e ∈ es.toList):∃ n v,(n,v) ∈ L ∧ e.key = idV n ∧ e.val = v:=by
 have h1:(e.key,e.val) ∈ L.map (fun p=>(idV p.1,p.2)):=hes ▸ List.mem_map.2 ⟨e,he,rfl⟩
 obtain ⟨p,hp,h2⟩:=List.mem_map.1 h1
 injection h2 with h3 h4
 exact ⟨p.1,p.2,hp,h3.symm,h4.symm⟩
theorem IterN.entry {es:Array MapEntry} (hes:es.toList.map (fun e=>(e.key,e.val)) = L.map (fun p=>(idV p.1,p.2))) {n:List Nat} (hn:n ∈ L.map (·.1)):∃ e ∈ es.toList,e.key = idV n:=by
 obtain ⟨p,hp,rfl⟩:=List.mem_map.1 hn
 have h1:(idV p.1,p.2) ∈ es.toList.map (fun e=>(e.key,e.val)):=hes ▸ List.mem_map.2 ⟨p,hp,rfl⟩
 obtain ⟨e,he,h2⟩:=List.mem_map.1 h1
 injection h2 with h3 h4
 exact ⟨e,he,h3⟩
theorem IterN.next (h:IterN b r L S w) (ty:TypeId) :
 (S.Perm (L.map (·.1)) ∧ (Instr.next (.pointer (some ⟨r,0,none⟩)) false ty).run P w = .ok (.tuple #[.bool false]) w) ∨
 ∃ n v w', (n, v) ∈ L ∧ n ∉ S ∧ (Instr.next (.pointer (some ⟨r, 0, none⟩)) false ty).run P w = .ok (.tuple #[.bool true, idV n, v]) w' ∧ IterN b r L (S ++ [n]) w' ∧ w'.rangeLeft b r < w.rangeLeft b r ∧ w.grownBy w' (some r) ∧ w'.heap.size = w.heap.size ∧
   (Instr.entry (.pointer (some ⟨r,0,none⟩))).run P w' = .ok (.tuple #[idV n,v]) w':=by
 have hne:=h.ne
 obtain ⟨es,clock,since,seen,c0,hb,hst,hes,hr,hold,hsc,hsk,hseen⟩:=h.ex
 have hst2:=(Go.MapKept.stamped_iff es clock).1 hst
 rcases run_next_at (P:=P) w ty r b since c0 seen es clock hr hb hold hsc with ⟨h0,hrun⟩ | ⟨e,he,w1,hal,hrun⟩
 ·refine .inl ⟨?_,hrun⟩
  refine (List.perm_ext_iff_of_nodup h.sn h.nodup).2 fun n=>⟨h.sub n,fun hn=>?_⟩
  obtain ⟨e,he,hk⟩:=IterN.entry hes hn
  exact (hseen e he n hk).1 (all_seen es seen h0 e he)
 ·obtain ⟨hem,hesn⟩:=mem_left he
  obtain ⟨n,v,hnv,hkey,hval⟩:=IterN.key hes hem
  have hn:n ∉ S:=fun hS=>by
   rw [(hseen e hem n hkey).2 hS] at hesn
   cases hesn
  have hr1:w1.heap[r]? = some (.mapIter (some b) since seen c0):=by rcases hal with rfl | rfl <;> exact hr
  have hb1:w1.heap[b]? = some (.map es clock):=by rcases hal with rfl | rfl <;> exact hb
  have hset:=Go.MapKept.heap_set (o':=.mapIter (some b) since (seen.push e.born) clock) hr1
  have hb':(setBlock w1 r (.mapIter (some b) since (seen.push e.born) clock)).heap[b]? = some (.map es clock):=(hset.2 b (fun e1=>hne e1.symm)).trans hb1
  refine .inr ⟨n,v,_,hnv,hn,hkey ▸ hval ▸ hrun,⟨⟨es,clock,since,seen.push e.born,clock,hb',hst,hes,hset.1,hold,hsk,hsk,fun x hx m hm=>?_⟩,h.ok,h.nodup,?_,?_⟩,?_,?_,?_,?_⟩
  ·rw [contains_push,List.mem_append,List.mem_singleton,Bool.or_eq_true,hseen x hx m hm,beq_iff_eq]
   constructor
   ·rintro (h1 | h1)
    ·exact .inl h1
    ·right
     have:=born_inj hst2.2.1 hx hem h1
     subst this
     exact zha (hm.symm.trans hkey)
   ·rintro (h1 | h1)
    ·exact .inl h1
    ·right
     subst h1
     by_cases hxe:x = e
     ·rw [hxe]
     ·exact absurd (hm.trans hkey.symm) (fun hk=>hxe (entry_eq_of_key hst2.2.2 hx hem hk))
  ·exact List.nodup_append.2 ⟨h.sn,by simp,fun a ha c hc e=>hn (by rw [List.mem_singleton.1 hc] at e;exact e ▸ ha)⟩
  ·intro m hm
   rcases List.mem_append.1 hm with h1 | h1
   ·exact h.sub m h1
   ·rw [List.mem_singleton.1 h1]
    exact List.mem_map.2 ⟨_,hnv,rfl⟩
  ·have hr':(setBlock w1 r (.mapIter (some b) since (seen.push e.born) clock)).heap[r]? = some (.mapIter (some b) since (seen.push e.born) clock):=hset.1
   simp only [World.rangeLeft,hb,hr,hb',hr']
   exact left_shrinks es seen e he
  ·rcases hal with rfl | rfl <;> exact ⟨rfl,rfl,rfl,by simp [setBlock],fun i _ hi=>hset.2 i (fun e1=>hi (by rw [e1]))⟩
  ·rcases hal with rfl | rfl <;> simp [setBlock]
  ·rw [← hkey,← hval]
   exact run_entry_at _ r b since seen es clock e hset.1 hb' hem hst2.2.1
theorem zaw {ops:Array Oper} {rest:List Oper} {o:Oper} {a:Act} {Q:Exit → Act → World → Prop} (hg:o.guard = none) (m:Operand) (t:TypeId) (hop:o.op = Op.range t m) (k e:TypeId) (ht:P.underlying t = some (.map k e))
 (hm:a.eval m = .map (some b)) (h:MapN b L w)
 (hK:∀ w',Hid (IterN b w.heap.size L [] w') → Hid (w.grownBy w' none) → Hid (Below w.heap.size w w') → wpList P ops Q rest (a.put o.dst (.pointer (some ⟨w.heap.size,0,none⟩))) w') :
 wpList P ops Q (o :: rest) a w:=by
 refine wpList_plain hg fun K' hK'=>?_
 obtain ⟨w',hrun,r1,r2,r3,_⟩:=h.range ht
 unfold Oper.wp
 simp [execOp,hop,hm,hrun,Result.andThen]
 exact hK' _ _ (hK w' (Lib.hid r1) (Lib.hid r2) (Lib.hid r3))
theorem zba {ops:Array Oper} {rest:List Oper} {o:Oper} {a:Act} {Q:Exit → Act → World → Prop} (hg:o.guard = none) (it:Operand) (hop:o.op = Op.next it false)
 (hit:a.eval it = .pointer (some ⟨r,0,none⟩)) (h:IterN b r L S w)
 (hDone:Hid (S.Perm (L.map (·.1))) → wpList P ops Q rest (a.put o.dst (.tuple #[.bool false])) w)
 (hMore:∀ n v w',Hid ((n,v) ∈ L) → Hid (n ∉ S) → Hid (IterN b r L (S ++ [n]) w') → Hid (w'.rangeLeft b r < w.rangeLeft b r) → Hid (w.grownBy w' (some r)) → (Instr.entry (.pointer (some ⟨r,0,none⟩))).run P w' = .ok (.tuple #[.agg (z05 .u8 n).toArray,v]) w' →
  wpList P ops Q rest (a.put o.dst (.tuple #[.bool true,.agg (z05 .u8 n).toArray,v])) w') :
 wpList P ops Q (o :: rest) a w:=by
 refine wpList_plain hg fun K' hK'=>?_
 unfold Oper.wp
 rcases h.next (P:=P) o.type with ⟨h0,hrun⟩ | ⟨n,v,w',h1,h2,hrun,h3,h4,h5,_,h6⟩
 ·simp [execOp,hop,hit,hrun,Result.andThen]
  exact hK' _ _ (hDone (Lib.hid h0))
 ·simp [execOp,hop,hit,hrun,Result.andThen]
  exact hK' _ _ (hMore n v w' (Lib.hid h1) (Lib.hid h2) (Lib.hid h3) (Lib.hid h4) (Lib.hid h5) h6)
end
end Go.Proofs.YtjomgkiphecljaaGreatDoor
namespace Go.Proofs.YtjomgkiphecljaaGreatDoor
open Go.RowKit
theorem z6o {ad:Addr} {L:List (List Nat)} {w:World} (h:IAt (some ad) L w) (hL:Ids L):∀ j u,(z23 L)[j]? = some u → w.cell? (ad.add j) = some u:=by
 intro j u hj
 rcases h with rfl | ⟨b,o,h1,h2,h3⟩
 ·cases hj
 ·cases h1
  have hlt:=(List.getElem?_eq_some_iff.1 hj).1
  rw [z15 hL] at hlt
  obtain ⟨q,m,rfl,hm⟩:∃ q m,j = 32 * q + m ∧ m < 32:=⟨j / 32,j % 32,by omega,Nat.mod_lt _ (by decide)⟩
  rw [z64 hL (by omega) hm] at hj
  rw [Addr.add_mid,← Nat.add_assoc]
  exact h3 q (by omega) m u hj
theorem z0x {P:Program} {w:World} {ops:Array Oper} {rest:List Oper} {o:Oper} {a:Act} {Q:Exit → Act → World → Prop} (hgd:o.guard = none) (s x:Operand) (t e:TypeId)
 (ho:o.op = .call { callee:=.builtin .append,args:=#[s,x],argTypes:=#[t,t] })
 (B:Nat) (z:Value) (hzs:z.cells.size = 32) (ht:P.underlying t = some (.slice e)) (hinfo:(P.info? e).map (fun i=>(i.zero,i.size,i.bytes)) = some (some z,32,32))
 (v:Value) (L M:List (List Nat)) (hM:Ids M) (ao:Option Addr) (n c:Nat) (hn:n = M.length) (hs:a.eval s = v) (hown:OwnI B e v L w) (hx:a.eval x = .slice ao n c) (hsrc:IAt ao M w) (hnil:ao = none → c = 0)
 (h63:L.length + M.length ≤ 1000000) (hB:B ≤ w.heap.size)
 (h:∀ v' w',Hid (OwnI B e v' (L ++ M) w') → Hid (w.grownBy w' v.ownBlock) → Hid (v'.ownBlock = v.ownBlock ∨ v'.ownBlock = some w.heap.size) → wpList P ops Q rest (a.put o.dst v') w'):wpList P ops Q (o :: rest) a w:=by
 obtain ⟨i,hi,hz0,hz1,hz2⟩:=info_parts hinfo
 cases ao with
 | none =>
   obtain rfl:=hnil rfl
   have hm:M = []:=by
    rcases hsrc with h | ⟨b,o',h,_⟩
    ·exact h
    ·cases h
   subst hm
   subst hn
   refine wpList_append_own_none hgd s x _ ho B e i 32 ht hi v L.length (z23 L) hs hown hx (h _ _ ?_ ⟨rfl,rfl,rfl,Nat.le_refl _,fun _ _ _=>rfl⟩ (.inl rfl))
   rw [List.append_nil]
   exact hown
 | some ad =>
   subst hn
   refine wpList_append_own_at w hgd s x _ ho B e i z 32 32 ht hi hz0 hz1 hz2 hzs (by decide) v L.length (z23 L) hs hown ad M.length c (z23 M) hx (z15 hM) (z6o hsrc hM) (za3 M) (by unfold maxLen;omega) (by omega) hB ?_
   intro v' w' h2 hg _ h3
   refine h v' w' ?_ hg h3
   show w'.ownsRow B e 32 v' (L ++ M).length (z23 (L ++ M))
   rw [List.length_append,z2p]
   exact h2
theorem z4y {P:Program} {w:World} {ops:Array Oper} {rest:List Oper} {o:Oper} {a:Act} {Q:Exit → Act → World → Prop} (hgd:o.guard = none) (s x:Operand) (t e:TypeId)
 (ho:o.op = .call { callee:=.builtin .append,args:=#[s,x],argTypes:=#[t,t] })
 (z:Value) (hzs:z.cells.size = 32) (ht:P.underlying t = some (.slice e)) (hinfo:(P.info? e).map (fun i=>(i.zero,i.size,i.bytes)) = some (some z,32,32))
 (L M:List (List Nat)) (hL:Ids L) (hM:Ids M) (ao:Option Addr) (k:Nat) (hk:k = L.length) (ad:Addr) (n c:Nat) (hn:n = M.length) (h0:0 < n) (hs:a.eval s = .slice ao k k) (hsrc:IAt ao L w) (hx:a.eval x = .slice (some ad) n c) (hnews:IAt (some ad) M w)
 (h63:L.length + M.length ≤ 1000000)
 (h:∀ v' w',Hid (OwnI w.heap.size e v' (L ++ M) w') → Hid (Below w.heap.size w w') → wpList P ops Q rest (a.put o.dst v') w'):wpList P ops Q (o :: rest) a w:=by
 obtain ⟨i,hi,hz0,hz1,hz2⟩:=info_parts hinfo
 subst hk hn
 cases ao with
 | none =>
   have hl:L = []:=by
    rcases hsrc with h | ⟨b,o',h,_⟩
    ·exact h
    ·cases h
   subst hl
   refine z0x hgd s x t e ho w.heap.size z hzs ht hinfo (.slice none 0 0) [] M hM (some ad) M.length c rfl hs (World.ownsRow_nil _ _ _ _) hx hnews (fun h=>by cases h) h63 (Nat.le_refl _) ?_
   intro v' w' h1 h2 _
   exact h v' w' h1 ((Below.refl _ _).grown h2.out (Nat.le_refl _) (fun g hg=>by cases hg))
 | some b =>
   have hr:=run_append_grow (P:=P) w t o.type e i z ht hi hz0 b L.length L.length (z23 L) (by rw [z15 hL,hz1]) (z6o hsrc hL) ad M.length c (z23 M) (by rw [z15 hM,hz1]) (z6o hnews hM) (by omega) (by omega) (growslice_fits (by omega) (by rw [hz2];omega))
   have hge:=grownCap_ge w (L.length + M.length) L.length e
   have hcm:=grownCap_le_maxLen w (L.length + M.length) L.length e (by unfold maxLen;omega)
   refine wpList_plain hgd fun K hK=>?_
   unfold Oper.wp execOp
   simp only [ho,resolve,invoke,builtin,Sem.run_bind,Sem.run_pure,Result.andThen_ok,List.map_toArray,List.map_cons,List.map_nil,hs,hx,hr]
   refine hK _ _ (h _ _ ⟨?_,.inr ⟨w.heap.size,_,_,?_,Nat.le_refl _,heap_alloc_new w.drew _,?_,hcm,?_,?_⟩⟩ ((z0v (Below.refl _ w) 1).alloc (Nat.le_refl _) _))
   ·rw [z2p,List.length_append,z15 hL,z15 hM,List.length_append]
    omega
   ·rw [List.length_append]
   ·rw [List.length_append]
    exact hge
   ·simp only [Array.size_append,List.size_toArray,size_zeroCells,hzs,z15 hL,z15 hM]
    omega
   ·simp only [Array.toList_append]
    rw [z2p,List.length_append,List.take_append_of_le_length (by rw [List.length_append,z15 hL,z15 hM];omega),List.take_of_length_le (by rw [List.length_append,z15 hL,z15 hM];omega)]
section
variable {F:Fence} {m:Nat} {P:Program} {ops:Array Oper} {rest:List Oper} {o:Oper} {a:Act} {w:World} {Q:Exit → Act → World → Prop}
theorem z75 (hg:o.guard = none) (hd:∀ c,o.op ≠ .defer c) (hc:∀ c,o.op ≠ .call c) (v:Value) (w':World) (hr:(execOp a.eval o).run P w = .ok (.value v) w') (h:wpListIn F m P ops Q rest (a.put o.dst v) w'):wpListIn F m P ops Q (o :: rest) a w:=by
 refine wpListIn_plain hg fun K hK=>?_
 unfold Oper.wpIn
 refine ⟨fun f hf=>?_,?_⟩
 ·unfold Oper.about at hf
  cases hop:o.op <;> rw [hop] at hf <;> first | cases hf | exact absurd hop (hc _)
 ·rw [Oper.semAt_plain F _ _ hd,hr]
  exact hK _ _ h
theorem z4u (hgd:o.guard = none) (ty:TypeId) (x:Operand) (ho:o.op = .load ty x)
 (g:Nat) (k:IntKind) (l:List Nat) (t:TypeId) (d:TypeDesc) (hx:a.eval x = .pointer (some ⟨g,0,none⟩)) (hg:Blk g t k l w)
 (hu:P.underlying ty = some d) (hd:(match d with | .struct _ | .array _ _=>true | _=>false) = true) (hi:(P.info? ty).map (·.size) = some l.length)
 (h:wpListIn F m P ops Q rest (a.put o.dst (.agg (z05 k l).toArray)) w):wpListIn F m P ops Q (o :: rest) a w:=by
 refine z75 hgd (fun c e=>by rw [ho] at e;cases e) (fun c e=>by rw [ho] at e;cases e) _ _ ?_ h
 unfold execOp
 simp only [ho,hx,Instr.loadAt,Instr.sureAddr,Sem.run_bind,Sem.run_pure,Result.andThen_ok,run_loadVar_row w g t ty _ _ d hg hu hd (by rw [z13];exact hi)]
theorem z7i (hgd:o.guard = none) (ty:TypeId) (x y:Operand) (ho:o.op = .store ty x y)
 (hd:o.dst = none) (g:Nat) (k:IntKind) (l l':List Nat) (t:TypeId) (hx:a.eval x = .pointer (some ⟨g,0,none⟩)) (hy:a.eval y = .agg (z05 k l').toArray)
 (hg:Blk g t k l w) (hi:(P.info? ty).map (·.size) = some l'.length) (hl:l.length = l'.length)
 (h:∀ w',Hid (Blk g t k l' w') → Hid (But g w w') → wpListIn F m P ops Q rest a w'):wpListIn F m P ops Q (o :: rest) a w:=by
 refine wpListIn_plain hgd fun K hK=>?_
 unfold Oper.wpIn
 refine ⟨fun f hf=>(by unfold Oper.about at hf;rw [ho] at hf;cases hf),?_⟩
 rw [Oper.semAt_plain F _ _ (fun c e=>by rw [ho] at e;cases e)]
 unfold execOp
 simp only [ho,hx,hy,Instr.storeAt,Instr.sureAddr,Sem.run_bind,Sem.run_pure,Result.andThen_ok,run_storeVar_row w g t ty _ _ hg (by rw [z13];exact hi) (by rw [z13,z13];exact hl) (z7r k l')]
 have h2:=h (w.setRow g (z05 k l').toArray) hg.row ((But.refl g w).setRow _)
 show K (a.put o.dst undef) (w.setRow g (z05 k l').toArray)
 rw [hd]
 exact hK _ _ h2
theorem z8u (hg:o.guard = none) (t e:TypeId) (x:Operand) (ho:o.op = .buildSlice t 1 #[(0,x)])
 (l:List Nat) (hx:a.eval x = .agg (z05 .u8 l).toArray) (hl:l.length = 32) (ht:P.underlying t = some (.slice e)) (hinfo:(P.info? e).map (fun i=>(i.zero,i.size,i.bytes)) = some (some (.agg (z05 .u8 (List.replicate 32 0)).toArray),32,32))
 (h:∀ w',Hid (Blk w.heap.size e .u8 l w') → Hid (Below w.heap.size w w') → wpListIn F m P ops Q rest (a.put o.dst (.slice (some ⟨w.heap.size,0,none⟩) 1 1)) w'):wpListIn F m P ops Q (o :: rest) a w:=by
 obtain ⟨ie,hi,hz0,hz1,_⟩:=info_parts hinfo
 have h1:=Great.fill_whole (s:=32) (by decide) [Value.agg (z05 .u8 l).toArray] ((Array.range (1 * 32)).map ((Value.agg (z05 .u8 (List.replicate 32 0)).toArray).cells[· % (Value.agg (z05 .u8 (List.replicate 32 0)).toArray).cells.size]!))
  (fun v hv=>by obtain rfl:=List.mem_singleton.1 hv;show (z05 .u8 l).toArray.size = 32;rw [List.size_toArray,z0s,hl]) (by simp)
 have e1:((#[(0,x)]:Array (Nat × Operand)).map fun (i,x)=>(i,a.eval x)).toList = ([Value.agg (z05 .u8 l).toArray].zipIdx 0).map fun x=>(x.2,x.1):=by
  simp [hx,List.zipIdx_cons]
 have e2:([Value.agg (z05 .u8 l).toArray].flatMap fun v=>v.cells.toList).toArray = (z05 .u8 l).toArray:=by
  rw [List.flatMap_cons,List.flatMap_nil,List.append_nil]
  rfl
 have hr:=run_buildSlice (P:=P) w t e 1 ((#[(0,x)]:Array (Nat × Operand)).map fun (i,x)=>(i,a.eval x)) (z05 .u8 l).toArray ie _ ht hi hz0 (by rw [hz1];decide) (by rw [hz1];decide) (by rw [hz1,e1,h1,e2])
 refine z75 hg (fun c e=>by rw [ho] at e;cases e) (fun c e=>by rw [ho] at e;cases e) _ _ ?_ (h _ (heap_alloc_new w _) ((Below.refl _ w).alloc (Nat.le_refl _) _))
 unfold execOp
 simp only [ho,Sem.run_bind,hr,Result.andThen_ok]
 rfl
theorem z81 (hgd:o.guard = none) (s x:Operand) (t e:TypeId)
 (ho:o.op = .call { callee:=.builtin .append,args:=#[s,x],argTypes:=#[t,t] })
 (B:Nat) (ht:P.underlying t = some (.slice e)) (hinfo:(P.info? e).map (fun i=>(i.zero,i.size,i.bytes)) = some (some (.agg (z05 .u8 (List.replicate 32 0)).toArray),32,32))
 (v:Value) (L:List (List Nat)) (y:List Nat) (hy:IdOk y) (ad:Addr) (n c:Nat) (hn:n = 1) (hs:a.eval s = v) (hown:OwnI B e v L w) (hx:a.eval x = .slice (some ad) n c) (hsrc:IAt (some ad) [y] w)
 (h63:L.length + 1 ≤ 1000000) (hB:B ≤ w.heap.size)
 (h:∀ v' w',Hid (OwnI B e v' (L ++ [y]) w') → Hid (w.grownBy w' v.ownBlock) → wpListIn F m P ops Q rest (a.put o.dst v') w'):wpListIn F m P ops Q (o :: rest) a w:=by
 obtain ⟨i,hi,hz0,hz1,hz2⟩:=info_parts hinfo
 subst hn
 have hM:Ids [y]:=Ids.one hy.1 hy.2
 refine wpListIn_append_own w hgd s x _ ho B e i _ 32 32 ht hi hz0 hz1 hz2 rfl (by decide) v L.length (z23 L) hs hown ad 1 c (z23 [y]) hx (z15 hM) (z6o hsrc hM) (za3 [y]) (by unfold maxLen;omega) (by omega) hB ?_
 intro v' w' h2 hg h3
 refine h v' w' ?_ hg
 show w'.ownsRow B e 32 v' (L ++ [y]).length (z23 (L ++ [y]))
 rw [List.length_append,z2p]
 exact h2
end
theorem z9p {w w':World} (h:Below w.heap.size w w') (row:Option Nat):w.grownBy w' row:=⟨h.os,h.tape,h.output,h.size,fun k hk _=>h.block k hk⟩
theorem zd2 {w w':World} (h:Below w.heap.size w w'):KeepsWalks w w':=⟨h.size,fun k _ hk _=>(h.block k (Array.getElem?_eq_some_iff.1 hk).1).trans hk⟩
open Go.BigFrame
def RefX (gs:Nat) (vo vw vn vq:Value):Nat → Prop:=fun b=>b = gs ∨ vo.ownBlock = some b ∨ vw.ownBlock = some b ∨ vn.ownBlock = some b ∨ vq.ownBlock = some b
structure RefAt (X:Nat → Prop) (gs:Nat) (vo vw vn vq:Value) (s:DagN) (w:World):Prop where
 cells:Cells gs 52 #[vo,vw,vn,vq] w
 ops:OwnX X 0 49 vo s.ops w
 wait:OwnX X 0 49 vw s.wait w
 names:OwnI 0 45 vn s.names w
 waits:OwnI 0 45 vq s.waits w
 mine:∀ b,RefX gs vo vw vn vq b → X b
 apart:∀ b,vo.ownBlock = some b → vw.ownBlock ≠ some b
 apartN:∀ b,vn.ownBlock = some b → vq.ownBlock ≠ some b
theorem z3d {L:List OpN}:Ids (L.map z02):=fun x hx=>by
 obtain ⟨o,_,rfl⟩:=List.mem_map.1 hx
 exact ⟨z0z o,z52 o⟩
theorem RefAt.below {X:Nat → Prop} {gs:Nat} {vo vw vn vq:Value} {s:DagN} {w w':World} (h:RefAt X gs vo vw vn vq s w) (k:Below w.heap.size w w'):RefAt X gs vo vw vn vq s w' :=
 ⟨h.cells.below k,h.ops.below k,h.wait.below k,h.names.below k,h.waits.below k,h.mine,h.apart,h.apartN⟩
theorem RefAt.cell {X:Nat → Prop} {gs:Nat} {vo vw vn vq:Value} {s:DagN} {w:World} (h:RefAt X gs vo vw vn vq s w):w.cell? ⟨gs,0,none⟩ = some vo ∧ w.cell? ⟨gs,1,none⟩ = some vw ∧ w.cell? ⟨gs,2,none⟩ = some vn ∧ w.cell? ⟨gs,3,none⟩ = some vq :=
 ⟨by rw [h.cells.at];rfl,by rw [h.cells.at];rfl,by rw [h.cells.at];rfl,by rw [h.cells.at];rfl⟩
theorem ze0 (X:Nat → Prop) (w:World) (hX:X w.heap.size):RefAt X w.heap.size (.slice none 0 0) (.slice none 0 0) (.slice none 0 0) (.slice none 0 0) DagN.new (w.alloc (.cells #[.slice none 0 0,.slice none 0 0,.slice none 0 0,.slice none 0 0] 52)) :=
 ⟨heap_alloc_new w _,OwnX.nil _ _ _ _,OwnX.nil _ _ _ _,OwnI.nil _ _ _,OwnI.nil _ _ _,(fun b hb=>by
  rcases hb with rfl | hb | hb | hb | hb
  ·exact hX
  all_goals cases hb),(fun b hb=>by cases hb),(fun b hb=>by cases hb)⟩
end Go.Proofs.YtjomgkiphecljaaGreatDoor
