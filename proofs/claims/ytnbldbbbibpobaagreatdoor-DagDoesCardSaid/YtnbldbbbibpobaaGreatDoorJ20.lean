/-
  Joined: A range over a map kept by names: the names come, each once, in whatever order.; What a round of a range over a function does with names: load, store, literal, append (the laws of Gen and Ids, inside a fence).; maps.Keys of maps kept by names: what it answers; the iterator's contract. Written by gen/gen_keys.py.; slices.AppendSeq onto nil, slices.Collect: against whatever iterator over names.; Contracts of the library laid at this program, in plain words.; op.Compare told to the world; slices.SortFunc of names by it.; slices.SortFunc of a row of names by op.Compare.; slices.SortedFunc of names; the developers' ascending.
-/
import Derived.Lib.Hide
import Derived.LoopIn
import Derived.LoopNIn
import Derived.Maps.Range
import Derived.OwnWalkIn
import Derived.RangeFuncCalls
import Derived.RangeFuncLeaves
import Derived.RangeFuncNested
import Derived.RangeFuncSeq
import Derived.RangeFuncWrites
import Derived.Shelf.Abstract
import Derived.Shelf.RegionOpen
import Derived.Shelf.SlSortCmp.NoneTotal
import Derived.Shelf.SlSortCmp.WholeK
import Derived.Sort.Grow
import Derived.TacticsInMore
import Derived.Test.YtnbldbbbibpobaaGreatDoorProg
import Derived.WalkKit
import Derived.Test.YtnbldbbbibpobaaGreatDoorJ01
import Derived.Test.YtnbldbbbibpobaaGreatDoorJ02
import Derived.Test.YtnbldbbbibpobaaGreatDoorJ03
import Derived.Test.YtnbldbbbibpobaaGreatDoorJ05
import Derived.Test.YtnbldbbbibpobaaGreatDoorJ12
import Derived.Test.YtnbldbbbibpobaaGreatDoorJ13
import Derived.Test.YtnbldbbbibpobaaGreatDoorJ14
set_option maxRecDepth 100000
set_option maxHeartbeats 4000000
namespace Go.Proofs.YtnbldbbbibpobaaGreatDoor
open Go.RowKit
open Go.ChangeMaps (setBlock)
structure IterN (b r:Nat) (L:List (List Nat × Value)) (S:List (List Nat)) (w:World):Prop where
 ex:∃ es clock since seen c0,w.heap[b]? = some (.map es clock) ∧ Go.MapKept.Stamped es clock ∧ es.toList.map (fun e=>(e.key,e.val)) = L.map (fun p=>(idV p.1,p.2)) ∧ w.heap[r]? = some (.mapIter (some b) since seen c0) ∧
  (∀ x ∈ es.toList,x.born < since) ∧ since ≤ c0 ∧ since ≤ clock ∧ ∀ x ∈ es.toList,∀ n,x.key = idV n → (seen.contains x.born = true ↔ n ∈ S)
 ok:∀ p ∈ L,IdOk p.1
 nodup:(L.map (·.1)).Nodup
 sn:S.Nodup
 sub:∀ n ∈ S,n ∈ L.map (·.1)
theorem IterN.ne {b r:Nat} {L:List (List Nat × Value)} {S:List (List Nat)} {w:World} (h:IterN b r L S w):r ≠ b:=by
 obtain ⟨es,clock,since,seen,c0,hb,_,_,hr,_⟩:=h.ex
 intro e
 rw [e,hb] at hr
 cases hr
theorem IterN.walk {b r:Nat} {L:List (List Nat × Value)} {S:List (List Nat)} {w:World} (h:IterN b r L S w):∃ o:Obj,w.heap[r]? = some o ∧ o.isWalk = true:=by
 obtain ⟨es,clock,since,seen,c0,hb,_,_,hr,_⟩:=h.ex
 exact ⟨_,hr,rfl⟩
theorem IterN.kept {b r:Nat} {L:List (List Nat × Value)} {S:List (List Nat)} {w w':World} (h:IterN b r L S w) (k:KeepsWalks w w'):IterN b r L S w':=by
 obtain ⟨es,clock,since,seen,c0,hb,h2,h3,hr,rest⟩:=h.ex
 exact ⟨⟨es,clock,since,seen,c0,k.same b _ hb rfl,h2,h3,k.same r _ hr rfl,rest⟩,h.ok,h.nodup,h.sn,h.sub⟩
theorem IterN.left_eq {b r:Nat} {L:List (List Nat × Value)} {S:List (List Nat)} {w w':World} (h:IterN b r L S w) (k:KeepsWalks w w'):w'.rangeLeft b r = w.rangeLeft b r:=by
 obtain ⟨es,clock,since,seen,c0,hb,h2,h3,hr,rest⟩:=h.ex
 simp only [World.rangeLeft,hb,hr,k.same b _ hb rfl,k.same r _ hr rfl]
theorem zfm:∀ {S T:List (List Nat)},S.Nodup → (∀ n ∈ S,n ∈ T) → S.length ≤ T.length
 | [],T,_,_=>Nat.zero_le _
 | x :: S, T, hn, hs => by
   have h1:=List.nodup_cons.1 hn
   have hx:=hs x (by simp)
   have h2:=zfm (T:=T.erase x) h1.2 (fun n hn'=>(List.mem_erase_of_ne (fun e=>h1.1 (by rw [← e];exact hn'))).2 (hs n (by simp [hn'])))
   rw [List.length_erase_of_mem hx] at h2
   have:=List.length_pos_of_mem hx
   simp only [List.length_cons]
   omega
theorem IterN.count {b r:Nat} {L:List (List Nat × Value)} {S:List (List Nat)} {w:World} (h:IterN b r L S w):S.length ≤ L.length:=by
 have h1:=zfm h.sn h.sub
 rwa [List.length_map] at h1
section
variable {P:Program} {w:World} {T:TypeId} {b r:Nat} {L:List (List Nat × Value)} {S:List (List Nat)}
theorem MapN.range {t k e:TypeId} (h:MapN b L w) (ht:P.underlying t = some (.map k e)) :
 ∃ w',(Instr.range t (.map (some b))).run P w = .ok (.pointer (some ⟨w.heap.size,0,none⟩)) w' ∧ IterN b w.heap.size L [] w' ∧ w.grownBy w' none ∧ Below w.heap.size w w' ∧ w'.heap.size = w.heap.size + 1:=by
 have hlt:=h.lt
 obtain ⟨es,clock,hb,hs,he⟩:=h.ex
 refine ⟨_,run_range_map w t k e b es clock ht hb,⟨⟨es,clock,clock,#[],clock,((MapKept.heap_alloc w _).2 b hlt).trans hb,hs,he,(MapKept.heap_alloc w _).1,hs.1,Nat.le_refl _,Nat.le_refl _,fun x _ n _=>?_⟩,h.ok,h.nodup,List.nodup_nil,fun n hn=>by cases hn⟩,
  World.grownBy_alloc w _ none,(Below.refl _ _).alloc (Nat.le_refl _) _,by simp⟩
 simp
theorem IterN.key {es:Array MapEntry} (hes:es.toList.map (fun e=>(e.key,e.val)) = L.map (fun p=>(idV p.1,p.2))) {e:MapEntry} (he:e ∈ es.toList):∃ n v,(n,v) ∈ L ∧ e.key = idV n ∧ e.val = v:=by
 have h1:(e.key,e.val) ∈ L.map (fun p=>(idV p.1,p.2)):=hes ▸ List.mem_map.2 ⟨e,he,rfl⟩
 obtain ⟨p,hp,h2⟩:=List.mem_map.1 h1
 injection h2 with h3 h4
 exact ⟨p.1,p.2,hp,h3.symm,h4.symm⟩
theorem IterN.entry {es:Array MapEntry} (hes:es.toList.map (fun e=>(e.key,e.val)) = L.map (fun p=>(idV p.1,p.2))) {n:List Nat} (hn:n ∈ L.map (·.1)):∃ e ∈ es.toList,e.key = idV n:=by
 obtain ⟨p,hp,rfl⟩:=List.mem_map.1 hn
 have h1:(idV p.1,p.2) ∈ es.toList.map (fun e=>(e.key,e.val)):=hes ▸ List.mem_map.2 ⟨p,hp,rfl⟩
 obtain ⟨e,he,h2⟩:=List.mem_map.1 h1
 injection h2 with h3 h4
 exact ⟨e,he,h3⟩
theorem IterN.next (h:IterN b r L S w) (ty:TypeId) :
 (S.Perm (L.map (·.1)) ∧ (Instr.next (.pointer (some ⟨r,0,none⟩)) false ty).run P w = .ok (.tuple #[.bool false]) w) ∨
 ∃ n v w', (n, v) ∈ L ∧ n ∉ S ∧ (Instr.next (.pointer (some ⟨r, 0, none⟩)) false ty).run P w = .ok (.tuple #[.bool true, idV n, v]) w' ∧ IterN b r L (S ++ [n]) w' ∧ w'.rangeLeft b r < w.rangeLeft b r ∧ w.grownBy w' (some r) ∧ w'.heap.size = w.heap.size ∧
   (Instr.entry (.pointer (some ⟨r,0,none⟩))).run P w' = .ok (.tuple #[idV n,v]) w':=by
 have hne:=h.ne
 obtain ⟨es,clock,since,seen,c0,hb,hst,hes,hr,hold,hsc,hsk,hseen⟩:=h.ex
 have hst2:=(Go.MapKept.stamped_iff es clock).1 hst
 rcases run_next_at (P:=P) w ty r b since c0 seen es clock hr hb hold hsc with ⟨h0,hrun⟩ | ⟨e,he,w1,hal,hrun⟩
 ·refine .inl ⟨?_,hrun⟩
  refine (List.perm_ext_iff_of_nodup h.sn h.nodup).2 fun n=>⟨h.sub n,fun hn=>?_⟩
  obtain ⟨e,he,hk⟩:=IterN.entry hes hn
  exact (hseen e he n hk).1 (all_seen es seen h0 e he)
 ·obtain ⟨hem,hesn⟩:=mem_left he
  obtain ⟨n,v,hnv,hkey,hval⟩:=IterN.key hes hem
  have hn:n ∉ S:=fun hS=>by
   rw [(hseen e hem n hkey).2 hS] at hesn
   cases hesn
  have hr1:w1.heap[r]? = some (.mapIter (some b) since seen c0):=by rcases hal with rfl | rfl <;> exact hr
  have hb1:w1.heap[b]? = some (.map es clock):=by rcases hal with rfl | rfl <;> exact hb
  have hset:=Go.MapKept.heap_set (o':=.mapIter (some b) since (seen.push e.born) clock) hr1
  have hb':(setBlock w1 r (.mapIter (some b) since (seen.push e.born) clock)).heap[b]? = some (.map es clock):=(hset.2 b (fun e1=>hne e1.symm)).trans hb1
  refine .inr ⟨n,v,_,hnv,hn,hkey ▸ hval ▸ hrun,⟨⟨es,clock,since,seen.push e.born,clock,hb',hst,hes,hset.1,hold,hsk,hsk,fun x hx m hm=>?_⟩,h.ok,h.nodup,?_,?_⟩,?_,?_,?_,?_⟩
  ·rw [contains_push,List.mem_append,List.mem_singleton,Bool.or_eq_true,hseen x hx m hm,beq_iff_eq]
   constructor
   ·rintro (h1 | h1)
    ·exact .inl h1
    ·right
     have:=born_inj hst2.2.1 hx hem h1
     subst this
     exact zer (hm.symm.trans hkey)
   ·rintro (h1 | h1)
    ·exact .inl h1
    ·right
     subst h1
     by_cases hxe:x = e
     ·rw [hxe]
     ·exact absurd (hm.trans hkey.symm) (fun hk=>hxe (entry_eq_of_key hst2.2.2 hx hem hk))
  ·exact List.nodup_append.2 ⟨h.sn,by simp,fun a ha c hc e=>hn (by rw [List.mem_singleton.1 hc] at e;exact e ▸ ha)⟩
  ·intro m hm
   rcases List.mem_append.1 hm with h1 | h1
   ·exact h.sub m h1
   ·rw [List.mem_singleton.1 h1]
    exact List.mem_map.2 ⟨_,hnv,rfl⟩
  ·have hr':(setBlock w1 r (.mapIter (some b) since (seen.push e.born) clock)).heap[r]? = some (.mapIter (some b) since (seen.push e.born) clock):=hset.1
   simp only [World.rangeLeft,hb,hr,hb',hr']
   exact left_shrinks es seen e he
  ·rcases hal with rfl | rfl <;> exact ⟨rfl,rfl,rfl,by simp [setBlock],fun i _ hi=>hset.2 i (fun e1=>hi (by rw [e1]))⟩
  ·rcases hal with rfl | rfl <;> simp [setBlock]
  ·rw [← hkey,← hval]
   exact run_entry_at _ r b since seen es clock e hset.1 hb' hem hst2.2.1
theorem z5x {ops:Array Oper} {rest:List Oper} {o:Oper} {a:Act} {Q:Exit → Act → World → Prop} (hg:o.guard = none) (m:Operand) (t:TypeId) (hop:o.op = Op.range t m) (k e:TypeId) (ht:P.underlying t = some (.map k e))
 (hm:a.eval m = .map (some b)) (h:MapN b L w)
 (hK:∀ w',Hid (IterN b w.heap.size L [] w') → Hid (w.grownBy w' none) → Hid (Below w.heap.size w w') → wpList P ops Q rest (a.put o.dst (.pointer (some ⟨w.heap.size,0,none⟩))) w') :
 wpList P ops Q (o :: rest) a w:=by
 refine wpList_plain hg fun K' hK'=>?_
 obtain ⟨w',hrun,r1,r2,r3,_⟩:=h.range ht
 unfold Oper.wp
 simp [execOp,hop,hm,hrun,Result.andThen]
 exact hK' _ _ (hK w' (Lib.hid r1) (Lib.hid r2) (Lib.hid r3))
theorem z6l {ops:Array Oper} {rest:List Oper} {o:Oper} {a:Act} {Q:Exit → Act → World → Prop} (hg:o.guard = none) (it:Operand) (hop:o.op = Op.next it false)
 (hit:a.eval it = .pointer (some ⟨r,0,none⟩)) (h:IterN b r L S w)
 (hDone:Hid (S.Perm (L.map (·.1))) → wpList P ops Q rest (a.put o.dst (.tuple #[.bool false])) w)
 (hMore:∀ n v w',Hid ((n,v) ∈ L) → Hid (n ∉ S) → Hid (IterN b r L (S ++ [n]) w') → Hid (w'.rangeLeft b r < w.rangeLeft b r) → Hid (w.grownBy w' (some r)) → (Instr.entry (.pointer (some ⟨r,0,none⟩))).run P w' = .ok (.tuple #[.agg (z06 .u8 n).toArray,v]) w' →
  wpList P ops Q rest (a.put o.dst (.tuple #[.bool true,.agg (z06 .u8 n).toArray,v])) w') :
 wpList P ops Q (o :: rest) a w:=by
 refine wpList_plain hg fun K' hK'=>?_
 unfold Oper.wp
 rcases h.next (P:=P) o.type with ⟨h0,hrun⟩ | ⟨n,v,w',h1,h2,hrun,h3,h4,h5,_,h6⟩
 ·simp [execOp,hop,hit,hrun,Result.andThen]
  exact hK' _ _ (hDone (Lib.hid h0))
 ·simp [execOp,hop,hit,hrun,Result.andThen]
  exact hK' _ _ (hMore n v w' (Lib.hid h1) (Lib.hid h2) (Lib.hid h3) (Lib.hid h4) (Lib.hid h5) h6)
end
end Go.Proofs.YtnbldbbbibpobaaGreatDoor
namespace Go.Proofs.YtnbldbbbibpobaaGreatDoor
open Go.RowKit
section
variable {F:Fence} {m:Nat} {P:Program} {ops:Array Oper} {rest:List Oper} {o:Oper} {a:Act} {w:World} {Q:Exit → Act → World → Prop}
theorem z6h (hg:o.guard = none) (hd:∀ c,o.op ≠ .defer c) (hc:∀ c,o.op ≠ .call c) (v:Value) (w':World) (hr:(execOp a.eval o).run P w = .ok (.value v) w') (h:wpListIn F m P ops Q rest (a.put o.dst v) w'):wpListIn F m P ops Q (o :: rest) a w:=by
 refine wpListIn_plain hg fun K hK=>?_
 unfold Oper.wpIn
 refine ⟨fun f hf=>?_,?_⟩
 ·unfold Oper.about at hf
  cases hop:o.op <;> rw [hop] at hf <;> first | cases hf | exact absurd hop (hc _)
 ·rw [Oper.semAt_plain F _ _ hd,hr]
  exact hK _ _ h
theorem z2t (hgd:o.guard = none) (ty:TypeId) (x:Operand) (ho:o.op = .load ty x)
 (g:Nat) (k:IntKind) (l:List Nat) (t:TypeId) (d:TypeDesc) (hx:a.eval x = .pointer (some ⟨g,0,none⟩)) (hg:Blk g t k l w)
 (hu:P.underlying ty = some d) (hd:(match d with | .struct _ | .array _ _=>true | _=>false) = true) (hi:(P.info? ty).map (·.size) = some l.length)
 (h:wpListIn F m P ops Q rest (a.put o.dst (.agg (z06 k l).toArray)) w):wpListIn F m P ops Q (o :: rest) a w:=by
 refine z6h hgd (fun c e=>by rw [ho] at e;cases e) (fun c e=>by rw [ho] at e;cases e) _ _ ?_ h
 unfold execOp
 simp only [ho,hx,Instr.loadAt,Instr.sureAddr,Sem.run_bind,Sem.run_pure,Result.andThen_ok,run_loadVar_row w g t ty _ _ d hg hu hd (by rw [z13];exact hi)]
theorem z6q (hgd:o.guard = none) (ty:TypeId) (x y:Operand) (ho:o.op = .store ty x y)
 (hd:o.dst = none) (g:Nat) (k:IntKind) (l l':List Nat) (t:TypeId) (hx:a.eval x = .pointer (some ⟨g,0,none⟩)) (hy:a.eval y = .agg (z06 k l').toArray)
 (hg:Blk g t k l w) (hi:(P.info? ty).map (·.size) = some l'.length) (hl:l.length = l'.length)
 (h:∀ w',Hid (Blk g t k l' w') → Hid (But g w w') → wpListIn F m P ops Q rest a w'):wpListIn F m P ops Q (o :: rest) a w:=by
 refine wpListIn_plain hgd fun K hK=>?_
 unfold Oper.wpIn
 refine ⟨fun f hf=>(by unfold Oper.about at hf;rw [ho] at hf;cases hf),?_⟩
 rw [Oper.semAt_plain F _ _ (fun c e=>by rw [ho] at e;cases e)]
 unfold execOp
 simp only [ho,hx,hy,Instr.storeAt,Instr.sureAddr,Sem.run_bind,Sem.run_pure,Result.andThen_ok,run_storeVar_row w g t ty _ _ hg (by rw [z13];exact hi) (by rw [z13,z13];exact hl) (z78 k l')]
 have h2:=h (w.setRow g (z06 k l').toArray) hg.row ((But.refl g w).setRow _)
 show K (a.put o.dst undef) (w.setRow g (z06 k l').toArray)
 rw [hd]
 exact hK _ _ h2
theorem z86 (hg:o.guard = none) (t e:TypeId) (x:Operand) (ho:o.op = .buildSlice t 1 #[(0,x)])
 (l:List Nat) (hx:a.eval x = .agg (z06 .u8 l).toArray) (hl:l.length = 32) (ht:P.underlying t = some (.slice e)) (hinfo:(P.info? e).map (fun i=>(i.zero,i.size,i.bytes)) = some (some (.agg (z06 .u8 (List.replicate 32 0)).toArray),32,32))
 (h:∀ w',Hid (Blk w.heap.size e .u8 l w') → Hid (Below w.heap.size w w') → wpListIn F m P ops Q rest (a.put o.dst (.slice (some ⟨w.heap.size,0,none⟩) 1 1)) w'):wpListIn F m P ops Q (o :: rest) a w:=by
 obtain ⟨ie,hi,hz0,hz1,_⟩:=info_parts hinfo
 have h1:=Great.fill_whole (s:=32) (by decide) [Value.agg (z06 .u8 l).toArray] ((Array.range (1 * 32)).map ((Value.agg (z06 .u8 (List.replicate 32 0)).toArray).cells[· % (Value.agg (z06 .u8 (List.replicate 32 0)).toArray).cells.size]!))
  (fun v hv=>by obtain rfl:=List.mem_singleton.1 hv;show (z06 .u8 l).toArray.size = 32;rw [List.size_toArray,z0v,hl]) (by simp)
 have e1:((#[(0,x)]:Array (Nat × Operand)).map fun (i,x)=>(i,a.eval x)).toList = ([Value.agg (z06 .u8 l).toArray].zipIdx 0).map fun x=>(x.2,x.1):=by
  simp [hx,List.zipIdx_cons]
 have e2:([Value.agg (z06 .u8 l).toArray].flatMap fun v=>v.cells.toList).toArray = (z06 .u8 l).toArray:=by
  rw [List.flatMap_cons,List.flatMap_nil,List.append_nil]
  rfl
 have hr:=run_buildSlice (P:=P) w t e 1 ((#[(0,x)]:Array (Nat × Operand)).map fun (i,x)=>(i,a.eval x)) (z06 .u8 l).toArray ie _ ht hi hz0 (by rw [hz1];decide) (by rw [hz1];decide) (by rw [hz1,e1,h1,e2])
 refine z6h hg (fun c e=>by rw [ho] at e;cases e) (fun c e=>by rw [ho] at e;cases e) _ _ ?_ (h _ (heap_alloc_new w _) ((Below.refl _ w).alloc (Nat.le_refl _) _))
 unfold execOp
 simp only [ho,Sem.run_bind,hr,Result.andThen_ok]
 rfl
theorem z7d (hgd:o.guard = none) (s x:Operand) (t e:TypeId)
 (ho:o.op = .call { callee:=.builtin .append,args:=#[s,x],argTypes:=#[t,t] })
 (B:Nat) (ht:P.underlying t = some (.slice e)) (hinfo:(P.info? e).map (fun i=>(i.zero,i.size,i.bytes)) = some (some (.agg (z06 .u8 (List.replicate 32 0)).toArray),32,32))
 (v:Value) (L:List (List Nat)) (y:List Nat) (hy:IdOk y) (ad:Addr) (n c:Nat) (hn:n = 1) (hs:a.eval s = v) (hown:OwnI B e v L w) (hx:a.eval x = .slice (some ad) n c) (hsrc:IAt (some ad) [y] w)
 (h63:L.length + 1 ≤ 1000000) (hB:B ≤ w.heap.size)
 (h:∀ v' w',Hid (OwnI B e v' (L ++ [y]) w') → Hid (w.grownBy w' v.ownBlock) → wpListIn F m P ops Q rest (a.put o.dst v') w'):wpListIn F m P ops Q (o :: rest) a w:=by
 obtain ⟨i,hi,hz0,hz1,hz2⟩:=info_parts hinfo
 subst hn
 have hM:Ids [y]:=Ids.one hy.1 hy.2
 refine wpListIn_append_own w hgd s x _ ho B e i _ 32 32 ht hi hz0 hz1 hz2 rfl (by decide) v L.length (z1w L) hs hown ad 1 c (z1w [y]) hx (z14 hM) (z62 hsrc hM) (z9w [y]) (by unfold maxLen;omega) (by omega) hB ?_
 intro v' w' h2 hg h3
 refine h v' w' ?_ hg
 show w'.ownsRow B e 32 v' (L ++ [y]).length (z1w (L ++ [y]))
 rw [List.length_append,z2j]
 exact h2
end
theorem z74 {w w':World} (h:Below w.heap.size w w') (row:Option Nat):w.grownBy w' row:=⟨h.os,h.tape,h.output,h.size,fun k hk _=>h.block k hk⟩
theorem z73 {w w':World} (h:Below w.heap.size w w'):KeepsWalks w w':=⟨h.size,fun k _ hk _=>(h.block k (Array.getElem?_eq_some_iff.1 hk).1).trans hk⟩
open Go.BigFrame
attribute [local go_sem] Oper.semAt_some
structure NId where
 val:List Nat
 ok:IdOk val
def z1t (l:List NId):List (List Nat):=l.map NId.val
theorem z4q (l:List NId) (x:NId):z1t (l ++ [x]) = z1t l ++ [x.val]:=by simp [z1t]
theorem z1e (l:List NId):(z1t l).length = l.length:=by simp [z1t]
theorem keys_o (b:Nat) (w:World) :
 Calls Tryz.prog 84 #[.map (some b)] w fun x w'=>x = .returned (.func (.func 104) #[] #[.pointer (some ⟨w.heap.size,0,none⟩)]) ∧ Cells w.heap.size 76 #[.map (some b)] w' ∧ w'.heap.size = w.heap.size + 1 ∧ Below w.heap.size w w':=by
 go_enter Tryz.func84,Tryz.ntmps84
 go_wp2_with fail
 go_ret
 exact ⟨rfl,heap_alloc_new w _,World.size_alloc _ _,(Below.refl _ _).alloc (Nat.le_refl _) _⟩
theorem keys1_o (m l Bm b:Nat) (L:List (List Nat × Value)) (J Jx:List NId → World → Prop) (W:World) (hJ:AbidesFrom W.heap.size J) (hBm:W.cell? ⟨Bm,0,none⟩ = some (.map (some b))) (hM:MapN b L W)
 (hY:∀ pre (x:NId) W1,J pre W1 → pre.length < L.length → YieldAt Fence.wide (m - 1) Tryz.prog l #[.agg (z06 .u8 x.val).toArray] W1 fun e W' =>
  (e = .returned (.bool true) ∧ J (pre ++ [x]) W' ∧ KeepsWalks W1 W') ∨ (e = .returned (.bool false) ∧ Jx (pre ++ [x]) W'))
 (h0:J [] W) :
 CallsIn Fence.wide m Tryz.prog 104 #[.func (.yield l) #[] #[],.pointer (some ⟨Bm,0,none⟩)] W fun e W'=>(∃ v,e = .returned v) ∧
  ((∃ xs,(z1t xs).Perm (L.map (·.1)) ∧ J xs W') ∨ (∃ pre:List NId,pre.length ≤ L.length ∧ Jx pre W')):=by
 refine callsIn_wide.2 ?_
 have HJ:=Lib.hid hJ
 have HY:=Lib.hid hY
 have HM:=Lib.hid hM
 have H0:=Lib.hid h0
 clear hJ hY hM h0
 go_enter Tryz.func104,Tryz.ntmps104
 go_wp2_with (refine z5x rfl _ 76 rfl 25 38 Tryz.underlying76 rfl HM.out ?_)
 intro w0 hi0 hg0 hb0
 have HI0:=Lib.hid (show ∃ ss:List NId,IterN b W.heap.size L (z1t ss) w0 ∧ J ss w0 from ⟨[],hi0.out,HJ.out [] W w0 none H0.out hg0.out (fun r e=>by cases e)⟩)
 obtain ⟨r,hr⟩:∃ r,W.heap.size = r:=⟨_,rfl⟩
 rw [hr] at HI0 HJ ⊢
 clear hi0 hg0 hb0 HM H0 hBm hr
 go_wp2_with fail
 go_loopw [3] (fun _ wr=>∃ ss:List NId,IterN b r L (z1t ss) wr ∧ J ss wr) (fun _ wr=>wr.rangeLeft b r)
 case atStart=>exact HI0.out
 case round =>
  clear HI0
  obtain ⟨ss,hit,hJs⟩:=hrel
  have HIT:=Lib.hid hit
  have HJS:=Lib.hid hJs
  clear hit hJs
  go_wp2_with (refine z6l rfl _ rfl rfl HIT.out ?_ ?_)
  ·intro hp
   go_wp2_with fail
   refine bodyPost_end (results_none rfl _ _ _) rfl ?_
   exact ⟨⟨_,rfl⟩,.inl ⟨ss,hp.out,HJS.out⟩⟩
  ·intro n v w2 hnv hns hi2 hlt hg2 hen
   have hxok:IdOk n:=HIT.out.ok _ hnv.out
   have HX:=Lib.hid hxok
   have HLT:=Lib.hid hlt.out
   have hj2:J ss w2:=HJ.out ss wr w2 (some r) HJS.out hg2.out (fun q e=>by cases e;exact ⟨Nat.le_refl _,HIT.out.walk⟩)
   have HJ2:=Lib.hid hj2
   have HI2:=Lib.hid hi2.out
   have HS1:=Lib.hid (show (Tryz.prog.info? 25).map (·.size) = some n.length by rw [hxok.1];exact Tryz.sizeI)
   have HL2:=Lib.hid (show (List.replicate 32 0).length = n.length by rw [hxok.1];rfl)
   clear hnv hns hi2 hlt hg2 hxok hj2
   go_wp2_with (refine z04 rfl 25 _ _ rfl rfl w2.heap.size .u8 (List.replicate 32 0) n 25 rfl rfl (heap_alloc_new w2 _) HS1.out HL2.out ?_)
   intro w3 hc3 hb3
   have hB3:Below w2.heap.size w2 w3:=But.toBelow ((Below.refl _ _).alloc (Nat.le_refl _) _) hb3.out (Nat.le_refl _) (by rw [World.size_alloc];exact Nat.le_succ _)
   have HB3:=Lib.hid hB3
   have HC3:=Lib.hid hc3.out
   have HJ3:=Lib.hid (HJ.out ss w2 w3 none HJ2.out (z74 hB3 none) (fun q e=>by cases e))
   have HI3:=Lib.hid (HI2.out.kept (z73 hB3))
   have HR3:=Lib.hid (HI2.out.left_eq (z73 hB3))
   obtain ⟨g,hg⟩:∃ g,w2.heap.size = g:=⟨_,rfl⟩
   rw [hg] at HC3 ⊢
   clear hc3 hb3 hB3 HJ2 hg hen
   obtain ⟨fn,tmps,assign,body,hy,hR⟩:=HY.out ss ⟨n,HX.out⟩ w3 HJ3.out (by
    have:=HI3.out.count
    rw [List.length_append,z1e] at this
    simp only [List.length_singleton] at this
    omega)
   have HYY:=Lib.hid hy
   have HRR:=Lib.hid hR
   clear hy hR
   go_upto_region 3 with (fail)
   refine (wpIn_wide (n:=m)).1 ?_
   refine wpIn_region_lit ?_
   gi_wp2_with (refine z2t rfl 25 _ rfl g .u8 n 25 _ rfl HC3.out Tryz.underlying25 rfl HS1.out ?_)
   have hy:(Instr.yield l #[.agg (z06 .u8 n).toArray]).run Tryz.prog w3 = .ok (.round l fn tmps assign body) w3:=HYY.out
   rw [hy]
   refine ⟨(fun h=>by cases h),?_⟩
   refine HRR.out.mono ?_
   rintro e w4 (⟨rfl,hJ4,hk4⟩ | ⟨rfl,hJx4⟩)
   ·have HREL:=Lib.hid (show ∃ ss:List NId,IterN b r L (z1t ss) w4 ∧ J ss w4 from ⟨_,by rw [z4q];exact HI3.out.kept hk4,hJ4⟩)
    have HMS:=Lib.hid (show w4.rangeLeft b r < wr.rangeLeft b r from by rw [HI3.out.left_eq hk4,HR3.out];exact HLT.out)
    clear hJ4 hk4 hy
    gi_wp2
    go_wp2_with fail
    exact ⟨HREL.out,HMS.out⟩
   ·have HJ4:=Lib.hid hJx4
    clear hJx4 hy
    gi_wp2
    go_wp2_with fail
    refine bodyPost_ret (results_none rfl _ _ _) rfl ?_
    exact ⟨⟨_,rfl⟩,.inr ⟨_,by have:=HI3.out.count;rw [← z4q ss ⟨n,HX.out⟩,z1e] at this;exact this,HJ4.out⟩⟩
theorem zg0 (m Bm b:Nat) (L:List (List Nat × Value)) (w:World) (hBm:Cells Bm 76 #[.map (some b)] w) (hM:MapN b L w) :
 SeqStopsK Fence.wide m Tryz.prog 104 #[.pointer (some ⟨Bm,0,none⟩)] (fun x:NId=>#[.agg (z06 .u8 x.val).toArray]) KeepsWalks (fun xs=>(z1t xs).Perm (L.map (·.1))) (fun pre=>pre.length ≤ L.length) L.length w:=fun l J Jx W hW hJ _ hY h0=>by
 have hc:=(hBm.below hW).at 0
 exact keys1_o m l Bm b L J Jx W hJ hc (hM.below hW) hY h0
attribute [local go_sem] Oper.semAt_some
theorem z9b {W W':World} {row:Option Nat} (hg:W.grownBy W' row) (hr:∀ r,row = some r → ∃ o:Obj,W.heap[r]? = some o ∧ o.isCells = true):KeepsOthers W W' :=
 ⟨hg.size,fun k o hk ho=>(hg.block k (Array.getElem?_eq_some_iff.1 hk).1 (fun e=>by
  obtain ⟨o',h1,h2⟩:=hr k e.symm
  rw [hk] at h1
  cases h1
  rw [ho] at h2
  cases h2)).trans hk⟩
theorem zeo {W W':World} (h:KeepsOthers W W'):KeepsWalks W W':=⟨h.size,fun k o hk ho=>h.same k o hk (Obj.not_cells_of_walk ho)⟩
theorem zd7 {B:Nat} {e:TypeId} {v:Value} {L:List (List Nat)} {w:World} (h:OwnI B e v L w):∀ r,v.ownBlock = some r → ∃ o:Obj,w.heap[r]? = some o ∧ o.isCells = true:=fun r hr=>by
 rcases h.2 with ⟨h0,_⟩ | ⟨g,cap,cur,h0,_,hh,_⟩
 ·rw [h0] at hr;cases hr
 ·rw [h0] at hr
  obtain rfl:g = r:=by injection hr
  exact ⟨_,hh,rfl⟩
theorem z8m {B g:Nat} {e t:TypeId} {v:Value} {L:List (List Nat)} {cs:Array Value} {w:World} (h:OwnI B e v L w) (hc:Cells g t cs w) (hne:t ≠ e):∀ k,v.ownBlock = some k → g ≠ k:=fun k hk hgk=>by
 subst hgk
 rcases h.2 with ⟨h0,_⟩ | ⟨g',cap,cur,h0,_,hh,_⟩
 ·rw [h0] at hk;cases hk
 ·rw [h0] at hk
  obtain rfl:g' = g:=by injection hk
  rw [show w.heap[g']? = _ from hc] at hh
  injection hh with hh
  injection hh with _ h2 _
  exact hne h2
structure ApN (w0:World) (gb N:Nat) (pre:List NId) (W:World):Prop where
 ex:∃ v,Cells gb 34 #[v] W ∧ OwnI w0.heap.size 25 v (z1t pre) W
 below:Below w0.heap.size w0 W
theorem ApN.kept {w0:World} {gb N:Nat} {pre:List NId} {W W':World} {row:Option Nat} (h:ApN w0 gb N pre W) (hg:W.grownBy W' row) (hr:∀ r,row = some r → w0.heap.size ≤ r ∧ ∃ o:Obj,W.heap[r]? = some o ∧ o.isCells = false):ApN w0 gb N pre W':=by
 obtain ⟨v,h1,h2⟩:=h.ex
 refine ⟨⟨v,(hg.block gb h1.lt (fun e=>?_)).trans h1,World.ownsRow.kept h2 hg ?_⟩,h.below.grown hg h.below.size (fun k e=>(hr k e).1)⟩
 ·obtain ⟨_,o,h3,h4⟩:=hr gb e.symm
  rw [show W.heap[gb]? = _ from h1] at h3
  cases h3
  cases h4
 ·cases hv:v.ownBlock with
  | none=>exact .inl rfl
  | some r =>
    right
    intro e
    obtain ⟨o,h3,h4⟩:=zd7 h2 r hv
    obtain ⟨_,o',h5,h6⟩:=hr r e.symm
    rw [h3] at h5
    cases h5
    rw [h4] at h6
    cases h6
theorem zb3 (g:Nat) (lb:Array Value) (eg:∀ args w,(callFunc g args).run Tryz.prog w = .ok (.enter g args) w) (S Sp:List NId → Prop) (N:Nat) (hN:N ≤ 100000) (w:World)
 (hseq:SeqStopsK Fence.wide 2 Tryz.prog g lb (fun x:NId=>#[.agg (z06 .u8 x.val).toArray]) KeepsWalks S Sp N w) :
 Calls Tryz.prog 132 #[.slice none 0 0,.func (.func g) #[] lb] w fun e w'=>∃ v ss,e = .returned v ∧ S ss ∧ OwnI w.heap.size 25 v (z1t ss) w' ∧ Below w.heap.size w w':=by
 have HSEQ:=Lib.hid hseq
 have HEG:=Lib.hid eg
 clear hseq eg
 refine callsIn_wide (n:=3) |>.1 ?_
 refine callsIn_of_wp_marks Tryz.func132 rfl trivial ?_ rfl
 simp only [Tryz.ntmps132,List.size_toArray,List.length_cons,List.length_nil,Nat.reduceAdd,Nat.reduceSub,Array.replicate_succ,Array.replicate_zero,List.push_toArray,List.append_toArray,List.nil_append,List.cons_append]
 refine wpIn_wide.2 ?_
 go_wp2_with fail
 obtain ⟨w1,hw1⟩:∃ z,z = w.alloc (.cells #[.slice none 0 0] 34):=⟨_,rfl⟩
 have hb1:Below w.heap.size w w1:=hw1 ▸ (Below.refl _ _).alloc (Nat.le_refl _) _
 have hc1:Cells w.heap.size 34 #[.slice none 0 0] w1:=hw1 ▸ heap_alloc_new w _
 have hz1:w1.heap.size = w.heap.size + 1:=hw1 ▸ World.size_alloc _ _
 rw [← hw1]
 obtain ⟨gb,hgb⟩:∃ g,w.heap.size = g:=⟨_,rfl⟩
 have HGB:=Shut.mk hgb
 have HB1:=Lib.hid hb1
 have HC1:=Lib.hid hc1
 have HZ1:=Shut.mk hz1
 rw [hgb] at HC1 ⊢
 clear hw1 hb1 hc1 hz1 hgb
 refine (wpIn_wide (n:=3)).1 ?_
 refine wpIn_rangeFunc_ownH rfl (by decide) (gf:=g) (lb:=lb) rfl trivial HEG.out HSEQ.out KeepsWalks.trans (fun W l o o' _ hl _ hk=>KeepsWalks.putObj o' hl hk) HB1.out (fun _=>rfl)
  (ApN w gb N) (fun _ _ _=>False) ?own (fun _ _ _ _ _ h _ _=>h) ?start
  (fun x a' W=>∃ gx,Blk gx 25 .u8 x.val W ∧ a' = { tmps:=#[.slice none 0 0,.func (.func g) #[] lb,.pointer (some ⟨gb,0,none⟩),undef,.slice none 0 0,.pointer (some ⟨gx,0,none⟩),.func (.func g) #[] lb,.agg (z06 .u8 x.val).toArray,undef,undef,undef,undef,undef],defers:=[] })
  ?ax ?assign ?body ?done ?stop
 case own =>
  intro pre W W' row h hg hr
  exact h.kept hg (fun r e=>⟨by have:=(hr r e).1;have:=HZ1.out;have:=HB1.out.size;omega,(hr r e).2⟩)
 case start=>exact ⟨⟨_,HC1.out,OwnI.nil _ _ _⟩,HB1.out⟩
 case ax =>
  rintro x a' u W W' row ⟨gx,h1,h2⟩ hg hr
  exact ⟨gx,(hg.block gx h1.lt (fun e=>by
   obtain ⟨_,o,h3,h4⟩:=hr gx e.symm
   rw [show W.heap[gx]? = _ from h1] at h3
   cases h3
   cases h4)).trans h1,h2⟩
 case assign =>
  intro l pre x W K hI hK
  have HI:=Lib.hid hI
  have HK:=Lib.hid hK
  have HS1:=Lib.hid (show (Tryz.prog.info? 25).map (·.size) = some x.val.length by rw [x.ok.1];exact Tryz.sizeI)
  have HL2:=Lib.hid (show (List.replicate 32 0).length = x.val.length by rw [x.ok.1];rfl)
  clear hI hK
  obtain ⟨n,hn⟩:∃ n,x.val = n:=⟨_,rfl⟩
  have HNX:=Shut.mk hn
  rw [hn] at HS1 HL2 ⊢
  clear hn
  refine wpIn_region_lit ?_
  gi_wp2_with (refine z6q rfl 25 _ _ rfl rfl W.heap.size .u8 (List.replicate 32 0) n 25 rfl rfl (heap_alloc_new W _) HS1.out HL2.out ?_)
  intro w3 hc3 hb3
  have hB3:Below W.heap.size W w3:=But.toBelow ((Below.refl _ _).alloc (Nat.le_refl _) _) hb3.out (Nat.le_refl _) (by rw [World.size_alloc];exact Nat.le_succ _)
  refine HK.out _ w3 ((z9b (z74 hB3 none) (fun r e=>by cases e)).from _) (z73 hB3) (HI.out.kept (z74 hB3 none) (fun r e=>by cases e)) ⟨W.heap.size,by rw [HNX.out];exact hc3.out,?_⟩
  rw [HNX.out]
 case body =>
  rintro l pre x a' W hl - hI ⟨gx,hgx,rfl⟩ hlen
  obtain ⟨v,hcb,hown⟩:=hI.ex
  obtain ⟨ao,c,rfl⟩:=hown.form
  have c0:=hcb.at 0
  simp only [List.getElem?_toArray,List.getElem?_cons_zero] at c0
  have HI:=Lib.hid hI
  have HCB:=Lib.hid hcb
  have HO:=Lib.hid hown
  have HGX:=Lib.hid hgx
  have HLE:=Lib.hid hlen
  have HXO:=Lib.hid x.ok
  have HXS:=Shut.mk (z4q pre x)
  have HPL:=Shut.mk (z1e pre)
  have HS1:=Lib.hid (show (Tryz.prog.info? 25).map (·.size) = some x.val.length by rw [x.ok.1];exact Tryz.sizeI)
  obtain ⟨n,hn⟩:∃ n,x.val = n:=⟨_,rfl⟩
  rw [hn] at HGX HXO HS1 HXS ⊢
  obtain ⟨L,hL⟩:∃ L,z1t pre = L:=⟨_,rfl⟩
  rw [hL] at HO HXS HPL c0 HCB
  clear hn hI hcb hown hgx hlen hL
  refine wpIn_block ?_
  refine wpIn_region_lit ?_
  gi_wp2_with (first
   | (refine z2t rfl 25 _ rfl gx .u8 n 25 _ rfl HGX.out Tryz.underlying25 rfl HS1.out ?_)
   | (refine z86 rfl 34 25 _ rfl n rfl HXO.out.1 Tryz.underlying34 Tryz.infoI32 ?_))
  intro w3 hk3 hb3
  have HB3:=Lib.hid hb3.out
  have HO3:=Lib.hid (HO.out.below hb3.out)
  have HCB3:=Lib.hid (HCB.out.below hb3.out)
  have HIA3:=Lib.hid (z4x hk3.out)
  have HBS:=Lib.hid (show w.heap.size ≤ w3.heap.size from (HI.out.below.trans (hb3.out.mono HI.out.below.size)).size)
  obtain ⟨gl,hgl⟩:∃ g,W.heap.size = g:=⟨_,rfl⟩
  rw [hgl] at HIA3 ⊢
  clear hk3 hb3 c0 hgl
  gi_wp2_with (refine z7d rfl _ _ 34 25 rfl w.heap.size Tryz.underlying34 Tryz.infoI32 (.slice ao L.length c) L n HXO.out ⟨gl,0,none⟩ 1 1 rfl rfl HO3.out rfl HIA3.out (by have:=HLE.out;have:=HPL.out;omega) HBS.out ?_)
  intro v4 w4 ho4 hg4
  have hne4:some gb ≠ (Value.slice ao L.length c).ownBlock:=fun e=>by
   exact z8m HO3.out HCB3.out (by decide) gb e.symm rfl
  have hcb4:Cells gb 34 #[.slice ao L.length c] w4:=(hg4.out.block gb HCB3.out.lt hne4).trans HCB3.out
  have c4:=hcb4.at 0
  simp only [List.getElem?_toArray,List.getElem?_cons_zero] at c4
  have f4:=hcb4.frozen 0
  have HCB4:=Lib.hid hcb4
  have HO4:=Lib.hid ho4.out
  have HG4:=Lib.hid hg4.out
  have HK34:=Lib.hid ((z9b (z74 HB3.out none) (fun r e=>by cases e)).trans (z9b hg4.out (zd7 HO3.out)))
  have hb4:Below w.heap.size w w4:=(HI.out.below.trans (HB3.out.mono HI.out.below.size)).grown hg4.out HBS.out (fun k e=>(World.ownsRow.lt HO3.out k e).1)
  have HB4:=Lib.hid hb4
  obtain ⟨a5,c5,hv5⟩:=ho4.out.form
  rw [List.length_append,List.length_singleton] at hv5
  subst hv5
  clear ho4 hg4 hne4 hcb4 hb4
  gi_wp2
  have hks:KeepsOthers W (w4.setCell ⟨gb,0,none⟩ (.slice a5 (L.length + 1) c5)):=HK34.out.trans (KeepsOthers.setCell _ _ _)
  refine ⟨hks.from _,zeo hks,⟨⟨_,HCB4.out.set 0 _,?_⟩,?_⟩⟩
  ·rw [HXS.out]
   exact HO4.out.but ((But.refl gb w4).setCell 0 _) (z8m HO4.out HCB4.out (by decide))
  ·exact But.toBelow HB4.out ((But.refl gb w4).setCell 0 _) (Nat.le_of_eq HGB.out) HB4.out.size
 case done =>
  intro D xs W hD hS hI hK
  obtain ⟨v,hcb,hown⟩:=hI.ex
  obtain ⟨ao,c,rfl⟩:=hown.form
  have c0:=hcb.at 0
  simp only [List.getElem?_toArray,List.getElem?_cons_zero] at c0
  have hfin:=hI.kept (grownBy_putObj' W D (.deferred none)) (fun r e=>by cases e;exact ⟨Nat.le_trans HB1.out.size hD,_,hK,rfl⟩)
  obtain ⟨v',hcb',hown'⟩:=hfin.ex
  have hvv:v' = .slice ao (z1t xs).length c:=by
   have h1:=hcb'.at 0
   have h2:(W.putObj D (.deferred none)).cell? ⟨gb,0,none⟩ = W.cell? ⟨gb,0,none⟩:=World.cell?_of_block (World.putObj_heap_other (fun e=>by
    have e:gb = D:=e
    rw [← e] at hK
    rw [show W.heap[gb]? = _ from hcb] at hK
    cases hK))
   rw [h2,c0] at h1
   simp only [List.getElem?_toArray,List.getElem?_cons_zero] at h1
   exact (Option.some.inj h1).symm
  have HF:=Lib.hid (And.intro hS (And.intro (hvv ▸ hown') hfin.below))
  have HK:=Lib.hid hK
  clear hcb hown hI hfin hcb' hown' hvv hK hS
  go_wp2_with fail
  refine ⟨by simp,.inl ⟨_,_,rfl,run_takeDeferred HK.out,?_⟩⟩
  refine ⟨_,results_tmp rfl _ _ _,?_⟩
  exact ⟨_,xs,rfl,HF.out.1,HF.out.2.1,HF.out.2.2⟩
 case stop =>
  rintro D c pre W hD hp h
  exact h.elim
theorem zdv (g:Nat) (lb:Array Value) (eg:∀ args w,(callFunc g args).run Tryz.prog w = .ok (.enter g args) w) (S Sp:List NId → Prop) (N:Nat) (hN:N ≤ 100000) (w:World)
 (hseq:SeqStopsK Fence.wide 2 Tryz.prog g lb (fun x:NId=>#[.agg (z06 .u8 x.val).toArray]) KeepsWalks S Sp N w) :
 Calls Tryz.prog 102 #[.func (.func g) #[] lb] w fun e w'=>∃ v ss,e = .returned v ∧ S ss ∧ OwnI w.heap.size 25 v (z1t ss) w' ∧ Below w.heap.size w w':=by
 have HA:=Lib.hid (zb3 g lb eg S Sp N hN w hseq)
 clear hseq eg
 go_enter Tryz.func102,Tryz.ntmps102
 go_wp2_with (refine HA.out.mono ?_;rintro e w2 ⟨v,ss,rfl,h1,h2,h3⟩)
 go_ret
 exact ⟨v,ss,rfl,h1,h2,h3⟩
end Go.Proofs.YtnbldbbbibpobaaGreatDoor
namespace Go.Proofs.YtnbldbbbibpobaaGreatDoor
open Go.Shelf
def Tryz.sortIds_ren:Go.Shelf.Ren:=⟨fun | 6=>103 | 15=>94 | 14=>133 | 28=>123 | 29=>124 | 20=>153 | 21=>154 | 22=>155 | 23=>156 | 24=>157 | 25=>158 | 26=>159 | 27=>160 | 46=>167 | 47=>145 | 48=>146 | 49=>168 | 50=>169 | 57=>171 | n=>n,fun | 22=>34 | 24=>25 | 25=>86 | 3=>3 | 39=>39 | 0=>0 | 53=>143 | 55=>142 | 4=>4 | 46=>151 | 45=>150 | 50=>156 | 5=>5 | 9=>9 | 66=>187 | 70=>191 | 76=>206 | 77=>207 | n=>n,fun | n=>n⟩
theorem Tryz.sortIds:Go.Proofs.SlLaysF0.n6 Tryz.prog Tryz.sortIds_ren:={
 mixed:=by kernel_rfl
 f6:=⟨Tryz.f103.name,by decide,Tryz.func103.trans (congrArg some (by kernel_rfl))⟩
 f14:=⟨Tryz.f133.name,by decide,Tryz.func133.trans (congrArg some (by kernel_rfl))⟩
 f15:=Tryz.func94.trans (congrArg some (by kernel_rfl))
 f20:=⟨Tryz.f153.name,by decide,Tryz.func153.trans (congrArg some (by kernel_rfl))⟩
 f21:=⟨Tryz.f154.name,by decide,Tryz.func154.trans (congrArg some (by kernel_rfl))⟩
 f22:=⟨Tryz.f155.name,by decide,Tryz.func155.trans (congrArg some (by kernel_rfl))⟩
 f23:=⟨Tryz.f156.name,by decide,Tryz.func156.trans (congrArg some (by kernel_rfl))⟩
 f24:=⟨Tryz.f157.name,by decide,Tryz.func157.trans (congrArg some (by kernel_rfl))⟩
 f25:=⟨Tryz.f158.name,by decide,Tryz.func158.trans (congrArg some (by kernel_rfl))⟩
 f26:=⟨Tryz.f159.name,by decide,Tryz.func159.trans (congrArg some (by kernel_rfl))⟩
 f27:=⟨Tryz.f160.name,by decide,Tryz.func160.trans (congrArg some (by kernel_rfl))⟩
 f28:=Tryz.func123.trans (congrArg some (by kernel_rfl))
 f29:=Tryz.func124.trans (congrArg some (by kernel_rfl))
 f46:=⟨Tryz.f167.name,by decide,Tryz.func167.trans (congrArg some (by kernel_rfl))⟩
 f47:=Tryz.func145.trans (congrArg some (by kernel_rfl))
 f48:=Tryz.func146.trans (congrArg some (by kernel_rfl))
 f49:=⟨Tryz.f168.name,by decide,Tryz.func168.trans (congrArg some (by kernel_rfl))⟩
 f50:=⟨Tryz.f169.name,by decide,Tryz.func169.trans (congrArg some (by kernel_rfl))⟩
 f57:=⟨Tryz.f171.name,by decide,Tryz.func171.trans (congrArg some (by kernel_rfl))⟩
 t0:=Tryz.underlying0
 a0:=Tryz.isAgg0
 z0:=Tryz.sizeOf0
 v0:=Tryz.zeroValue0
 t3:=Tryz.underlying3
 a3:=Tryz.isAgg3
 z3:=Tryz.sizeOf3
 v3:=Tryz.zeroValue3
 t4:=Tryz.underlying4
 a4:=Tryz.isAgg4
 z4:=Tryz.sizeOf4
 v4:=Tryz.zeroValue4
 t5:=Tryz.underlying5
 a5:=Tryz.isAgg5
 z5:=Tryz.sizeOf5
 v5:=Tryz.zeroValue5
 t9:=Tryz.underlying9
 a9:=Tryz.isAgg9
 z9:=Tryz.sizeOf9
 v9:=Tryz.zeroValue9
 t22:=Tryz.underlying34
 a22:=Tryz.isAgg34
 z22:=Tryz.sizeOf34
 v22:=Tryz.zeroValue34
 t25:=Tryz.underlying86
 a25:=Tryz.isAgg86
 z25:=Tryz.sizeOf86
 v25:=Tryz.zeroValue86
 t39:=Tryz.underlying39
 a39:=Tryz.isAgg39
 z39:=Tryz.sizeOf39
 v39:=Tryz.zeroValue39
 t45:=Tryz.underlying150
 a45:=Tryz.isAgg150
 z45:=Tryz.sizeOf150
 v45:=Tryz.zeroValue150
 t46:=Tryz.underlying151
 a46:=Tryz.isAgg151
 z46:=Tryz.sizeOf151
 v46:=Tryz.zeroValue151
 t50:=Tryz.underlying156
 a50:=Tryz.isAgg156
 z50:=Tryz.sizeOf156
 v50:=Tryz.zeroValue156
 t53:=Tryz.underlying143
 a53:=Tryz.isAgg143
 z53:=Tryz.sizeOf143
 v53:=Tryz.zeroValue143
 t55:=Tryz.underlying142
 a55:=Tryz.isAgg142
 z55:=Tryz.sizeOf142
 v55:=Tryz.zeroValue142
 t66:=Tryz.underlying187
 a66:=Tryz.isAgg187
 z66:=Tryz.sizeOf187
 v66:=Tryz.zeroValue187
 t70:=Tryz.underlying191
 a70:=Tryz.isAgg191
 z70:=Tryz.sizeOf191
 v70:=Tryz.zeroValue191
 t76:=Tryz.underlying206
 a76:=Tryz.isAgg206
 z76:=Tryz.sizeOf206
 v76:=Tryz.zeroValue206
 t77:=Tryz.underlying207
 a77:=Tryz.isAgg207
 z77:=Tryz.sizeOf207
 v77:=Tryz.zeroValue207 }
open Go.RowKit Go.BigFrame Go.Sort
theorem grow_of {w w':World} (h:RowKit.Below w.heap.size w w') (hd:w.drawn ≤ w'.drawn):∃ q os,w' = grow (w.drewN q) os:=by
 refine ⟨w'.drawn - w.drawn,w'.heap.extract w.heap.size w'.heap.size,?_⟩
 have hh:w'.heap = w.heap ++ w'.heap.extract w.heap.size w'.heap.size:=by
  refine Array.ext_getElem? fun i=>?_
  by_cases hi:i < w.heap.size
  ·rw [h.block i hi,Array.getElem?_append_left hi]
  ·rw [Array.getElem?_append_right (by omega),Array.getElem?_extract]
   split
   ·congr 1;omega
   ·rw [Array.getElem?_eq_none (by omega)]
 obtain ⟨h1,h2,h3,h4,h5⟩:=h
 unfold grow World.drewN
 cases w
 cases w'
 simp only at h1 h2 h3 hh hd ⊢
 subst h1 h2 h3
 simp only [World.mk.injEq,true_and,and_true]
 exact ⟨hh,by omega⟩
structure Onw (w w':World):Prop where
 below:RowKit.Below w.heap.size w w'
 drawn:w.drawn ≤ w'.drawn
theorem zb5 (a b:List Nat) (ha:IdOk a) (hb:IdOk b) (w:World) :
 Calls Tryz.prog 85 #[.agg (z06 .u8 a).toArray,.agg (z06 .u8 b).toArray] w fun e w'=>e = .returned (.int .i64 (z1s a b)) ∧ ∃ q os,w' = grow (w.drewN q) os:=by
 have b1:RowKit.Below w.heap.size w (w.alloc (.cells (z06 .u8 a).toArray 25)):=(RowKit.Below.refl _ _).alloc (Nat.le_refl _) _
 have x1:Blk w.heap.size 25 .u8 a (w.alloc (.cells (z06 .u8 a).toArray 25)):=heap_alloc_new w _
 have s1:(w.alloc (.cells (z06 .u8 a).toArray 25)).heap.size = w.heap.size + 1:=World.size_alloc _ _
 have b2:RowKit.Below (w.alloc (.cells (z06 .u8 a).toArray 25)).heap.size (w.alloc (.cells (z06 .u8 a).toArray 25)) ((w.alloc (.cells (z06 .u8 a).toArray 25)).alloc (.cells (z06 .u8 b).toArray 25)):=(RowKit.Below.refl _ _).alloc (Nat.le_refl _) _
 have x2:Blk (w.alloc (.cells (z06 .u8 a).toArray 25)).heap.size 25 .u8 b ((w.alloc (.cells (z06 .u8 a).toArray 25)).alloc (.cells (z06 .u8 b).toArray 25)):=heap_alloc_new _ _
 rw [s1] at x2
 have HX1:=Lib.hid (x1.below b2)
 have HX2:=Lib.hid x2
 have HB:=Lib.hid (b1.trans (b2.mono b1.size))
 have HD:=Lib.hid (show w.drawn = ((w.alloc (.cells (z06 .u8 a).toArray 25)).alloc (.cells (z06 .u8 b).toArray 25)).drawn from rfl)
 have HA:=Lib.hid ha
 have HBB:=Lib.hid hb
 clear b1 x1 s1 b2 x2 ha hb
 go_enter Tryz.func85,Tryz.ntmps85
 go_upto_region 1 with (fail)
 obtain ⟨w2,hw2⟩:∃ x,x = ((w.alloc (.cells (z06 .u8 a).toArray 25)).alloc (.cells (z06 .u8 b).toArray 25)):=⟨_,rfl⟩
 rw [← hw2] at HX1 HX2 HB HD ⊢
 clear hw2
 have HC:=Lib.hid (fun w' c d (q:RowKit.Below w2.heap.size w2 w')=>z6z w.heap.size (w.heap.size + 1) c d _ _ a b HA.out HBB.out w' (HX1.out.below q) (HX2.out.below q))
 refine z09 (Onw w2) (by kernel_rfl) (by kernel_rfl) ⟨(RowKit.Below.refl _ _).drew,Nat.le_succ _⟩ ?_
 repeat (first
  | go_big_quiet_skip
  | go_big_quiet_step ((intro hs';first
   | (go_at_call 105;exact (HC.out _ _ _ hs'.below).mono fun e w' h=>⟨h.1,h.2 ▸ hs'⟩)
   | rfl)))
 refine wpQuiet_nil ?_
 intro w4 hb4
 have HF:=Lib.hid (grow_of (HB.out.trans (hb4.below.mono HB.out.size)) (by have:=HD.out;have:=hb4.drawn;omega))
 clear hb4
 go_wp2_with fail
 go_ret
 exact ⟨rfl,HF.out⟩
instance:Inhabited NId:=⟨⟨List.replicate 32 0,by simp,fun x hx=>by rw [(List.mem_replicate.1 hx).2];decide⟩⟩
def zew (x:NId):List Value:=z06 .u8 x.val
def cfI (x y:NId):Int:=z1s x.val y.val
theorem encI_len (x:NId):(zew x).length = 32:=by rw [zew,z0v,x.ok.1]
theorem ltI (x y:NId):ltOf cfI x y = true ↔ z1s x.val y.val = -1:=by
 unfold ltOf cfI
 rw [decide_eq_true_iff]
 rcases z4s x.val y.val with h | h | h <;> rw [h] <;> decide
theorem leI (x y:NId):ltOf cfI x y = false ↔ x.val = y.val ∨ z1s y.val x.val = -1:=by
 rw [← Bool.not_eq_true,ltI]
 constructor
 ·intro h
  by_cases he:x.val = y.val
  ·exact .inl he
  ·rcases z4r (by rw [x.ok.1,y.ok.1]) he with h1 | h1
   ·exact absurd h1 h
   ·exact .inr h1
 ·rintro (h | h) h2
  ·rw [h,z9g] at h2;cases h2
  ·exact z5r h h2
theorem swoI:SWO (ltOf cfI) where
 irrefl x:=(leI x x).2 (.inl rfl)
 trans x y z h1 h2:=(ltI x z).2 (z2x ((ltI x y).1 h1) ((ltI y z).1 h2))
 ntrans x y z h1 h2:=by
  refine (leI x z).2 ?_
  rcases (leI x y).1 h1 with e1 | e1
  ·rcases (leI y z).1 h2 with e2 | e2
   ·exact .inl (e1.trans e2)
   ·exact .inr (by rw [e1];exact e2)
  ·rcases (leI y z).1 h2 with e2 | e2
   ·exact .inr (by rw [← e2];exact e1)
   ·exact .inr (z2x e2 e1)
theorem zdg (d:Array NId):(flatK zew 32 d).toList = z1w (z1t d.toList):=by
 have hI:Ids (z1t d.toList):=fun x hx=>by
  obtain ⟨y,_,rfl⟩:=List.mem_map.1 hx
  exact y.ok
 have hl:=z14 hI
 rw [z1e] at hl
 refine List.ext_getElem? fun t=>?_
 by_cases ht:t < d.size * 32
 ·have h1:=get_flatK zew 32 d t ht
  have hq:t / 32 < d.size:=by omega
  have hs:(flatK zew 32 d).size = d.size * 32:=size_flatK _ _ _
  rw [getElem!_pos _ t (by rw [hs];exact ht)] at h1
  rw [Array.getElem?_toList,Array.getElem?_eq_getElem (by rw [hs];exact ht),h1]
  have h2:=z3x hI (i:=t / 32) (j:=t % 32) (by rw [z1e];exact hq) (Nat.mod_lt _ (by decide))
  rw [show 32 * (t / 32) + t % 32 = t by omega] at h2
  rw [h2]
  have h3:(z1t d.toList).getD (t / 32) [] = (d[t / 32]!).val:=by
   rw [getElem!_pos d _ hq,z1t,List.getD_eq_getElem?_getD,List.getElem?_map,Array.getElem?_toList,Array.getElem?_eq_getElem hq]
   rfl
  rw [h3]
  have h4:t % 32 < (z06 .u8 (d[t / 32]!).val).length:=by rw [z0v,(d[t / 32]!).ok.1];exact Nat.mod_lt _ (by decide)
  rw [List.getElem?_eq_getElem h4]
  show some ((z06 .u8 (d[t / 32]!).val)[t % 32]!) = _
  rw [getElem!_pos (z06 .u8 (d[t / 32]!).val) (t % 32) h4]
 ·rw [List.getElem?_eq_none (by rw [Array.length_toList,size_flatK];omega),List.getElem?_eq_none (by rw [hl,Array.length_toList];omega)]
theorem zcg {w:World} {g n:Nat} {os:Array Obj} {cur:Array Value} {e:TypeId} {fr:Nat × Nat} (d:Array NId) (hb:w.heap[g]? = some (.cells cur e fr)) :
 (sortWorldK zew 32 w g 0 n d os).heap[g]? = some (.cells (putCells id 0 (flatK zew 32 d) cur) e fr):=by
 have hg:g < w.heap.size:=(Array.getElem?_eq_some_iff.1 hb).1
 unfold sortWorldK putRowK
 rw [heap_grow_old _ _ (by simp [putRow,mapBlock,Sort.ahead];exact hg)]
 simp [putRow,mapBlock,Sort.ahead,Array.getElem?_modify,hb,onCells]
theorem za4 {w:World} {g n:Nat} {os:Array Obj} (d:Array NId):w.grownBy (sortWorldK zew 32 w g 0 n d os) (some g):=by
 unfold sortWorldK putRowK
 refine ⟨rfl,rfl,rfl,by simp [grow,putRow,mapBlock,Sort.ahead],fun k hk hne=>?_⟩
 rw [heap_grow_old _ _ (by simp [putRow,mapBlock,Sort.ahead];exact hk)]
 have:g ≠ k:=fun e=>hne (by rw [e])
 simp [putRow,mapBlock,Sort.ahead,Array.getElem?_modify,this]
theorem zag (cur F:Array Value) (h:F.size ≤ cur.size):(putCells id 0 F cur).toList.take F.size = F.toList:=by
 apply List.ext_getElem?
 intro j
 by_cases hj:j < F.size
 ·rw [List.getElem?_take_of_lt hj,Array.getElem?_toList]
  simp [putCells,hj,show j < cur.size by omega]
 ·rw [List.getElem?_take_eq_none (by omega),List.getElem?_eq_none (by simp;omega)]
theorem OwnI.sorted {B g c n q:Nat} {ss ts:List NId} {w:World} {os:Array Obj} (h:OwnI B 25 (.slice (some ⟨g,0,none⟩) n c) (z1t ss) w) (hl:ts.length = ss.length) :
 OwnI B 25 (.slice (some ⟨g,0,none⟩) n c) (z1t ts) (sortWorldK zew 32 w g 0 q ts.toArray os):=by
 have hn:=h.form
 obtain ⟨ao,c',hv⟩:=hn
 injection hv with _ hn' _
 rcases h.2 with ⟨h0,_⟩ | ⟨g',cap,cur,h0,hB,hh,h1,h2,h3,h4⟩
 ·cases h0
 ·injection h0 with h5 h6 h7
  injection h5 with h5
  injection h5 with h5 _ _
  subst h5 h7
  have hs:(flatK zew 32 ts.toArray).size = ts.length * 32:=by rw [size_flatK,List.size_toArray]
  refine ⟨?_,.inr ⟨g,c,_,?_,hB,zcg _ hh,?_,h2,by simp [putCells,h3],?_⟩⟩
  ·rw [z14 (fun x hx=>by obtain ⟨y,_,rfl⟩:=List.mem_map.1 hx;exact y.ok)]
  ·rw [z1e,hl,← z1e,← hn']
  ·rw [z1e,hl,← z1e];exact h1
  ·have h5:=zag cur (flatK zew 32 ts.toArray) (by rw [hs,hl,← z1e,h3];exact Nat.mul_le_mul_right 32 h1)
   rw [hs,zdg] at h5
   rw [z1e]
   exact h5
theorem OwnI.holds {B g c n:Nat} {ss:List NId} {w:World} (h:OwnI B 25 (.slice (some ⟨g,0,none⟩) n c) (z1t ss) w):HoldsK zew 32 w g 0 ss.toArray:=by
 obtain ⟨ao,c',hv⟩:=h.form
 injection hv with _ hn' _
 rcases h.2 with ⟨h0,_⟩ | ⟨g',cap,cur,h0,hB,hh,h1,h2,h3,h4⟩
 ·cases h0
 ·injection h0 with h5 h6 h7
  injection h5 with h5
  injection h5 with h5 _ _
  subst h5 h7
  intro j hj
  rw [size_flatK,List.size_toArray] at hj
  refine ⟨?_,by simp [World.frozen?,hh]⟩
  have h5:(cur.toList.take ((z1t ss).length * 32))[j]? = (z1w (z1t ss))[j]?:=by rw [h4]
  rw [List.getElem?_take_of_lt (by rw [z1e];exact hj)] at h5
  have h6:=zdg ss.toArray
  rw [List.toList_toArray] at h6
  rw [← h6,Array.getElem?_toList,Array.getElem?_toList,Array.getElem?_eq_getElem (i:=j) (xs:=flatK zew 32 ss.toArray) (by rw [size_flatK,List.size_toArray];exact hj)] at h5
  simp only [World.cell?,hh,Nat.zero_add,Option.isSome_none,Bool.false_eq_true,if_false]
  rw [h5,getElem!_pos (flatK zew 32 ss.toArray) j (by rw [size_flatK,List.size_toArray];exact hj)]
  rfl
theorem ze1 {d d':Array NId} (hp:PermIn 0 d.size d d') (hs:SortedIn (ltOf cfI) 0 d.size d') (hd:(z1t d.toList).Nodup):d'.toList.Perm d.toList ∧ Rise (z1t d'.toList):=by
 obtain ⟨h1,_,h2⟩:=hp
 have hperm:d'.toList.Perm d.toList:=by
  rw [← h1] at h2
  have e1:d'.extract 0 d'.size = d':=by simp
  have e2:d.extract 0 d'.size = d:=by rw [h1];simp
  rwa [e1,e2] at h2
 refine ⟨hperm,?_⟩
 have hnd:(z1t d'.toList).Nodup:=(hperm.map NId.val).nodup_iff.2 hd
 unfold Rise
 rw [List.pairwise_iff_getElem]
 intro i j hi hj hij
 rw [z1e,Array.length_toList] at hi hj
 have h3:=hs i j (Nat.zero_le _) hij (by omega)
 rw [getElem!_pos d' j hj,getElem!_pos d' i hi] at h3
 have hne:=List.pairwise_iff_getElem.1 hnd i j (by rw [z1e,Array.length_toList];exact hi) (by rw [z1e,Array.length_toList];exact hj) hij
 simp only [z1t,List.getElem_map,Array.getElem_toList] at hne ⊢
 rcases (leI _ _).1 h3 with h4 | h4
 ·exact absurd h4.symm hne
 ·exact h4
theorem sort_ids {B g c:Nat} {ss:List NId} {w:World} (h:OwnI B 25 (.slice (some ⟨g,0,none⟩) ss.length c) (z1t ss) w) (hn:ss.length ≤ 100000) (hd:(z1t ss).Nodup) (_hB:B ≤ g) :
 Calls Tryz.prog 103 #[.slice (some ⟨g,0,none⟩) ss.length c,.func (.func 85) #[] #[]] w fun e w'=>e = .returned (.tuple #[]) ∧ ∃ ts:List NId,(z1t ts).Perm (z1t ss) ∧ Rise (z1t ts) ∧ ts.length = ss.length ∧ OwnI B 25 (.slice (some ⟨g,0,none⟩) ss.length c) (z1t ts) w' ∧ w.grownBy w' (some g):=by
 have hlt:g < w.heap.size:=(World.ownsRow.lt h g rfl).2
 have hcon:=AnyQ.slices_SortFunc Tryz.sortIds 32 (fun w=>by show (isAgg 25).run Tryz.prog w = _;unfold isAgg;rw [Sem.run_bind,show (underlying 25).run Tryz.prog w = _ from run_underlying Tryz.underlying25 w];rfl) (fun w=>by obtain ⟨ie,hi,_,hz1,_⟩:=info_parts Tryz.infoI32;show (Go.sizeOf 25).run Tryz.prog w = _;simp [Go.sizeOf,typeInfo,hi,hz1]) zew encI_len (fun x v hv=>z4w _ _ v hv) cfI swoI 85 #[] g 0 c ss.toArray w (enters_of Tryz.func85 (by kernel_rfl) rfl)
  (fun m os dk _ x y=>zb5 x.val y.val x.ok y.ok _) h.holds hlt (by rw [List.size_toArray];omega)
 rw [List.size_toArray] at hcon
 refine Calls.mono (f:=103) hcon ?_
 rintro e w' ⟨rfl,d',n,os,hp,hs,rfl⟩
 have hp':PermIn 0 ss.toArray.size ss.toArray d':=by rw [List.size_toArray];exact hp
 have hs':SortedIn (ltOf cfI) 0 ss.toArray.size d':=by rw [List.size_toArray];exact hs
 obtain ⟨h1,h2⟩:=ze1 hp' hs' hd
 have hl:d'.toList.length = ss.length:=by rw [h1.length_eq]
 refine ⟨rfl,d'.toList,h1.map NId.val,h2,hl,?_,za4 d'⟩
 have:=h.sorted (q:=n) (os:=os) hl
 rwa [Array.toArray_toList] at this
end Go.Proofs.YtnbldbbbibpobaaGreatDoor
namespace Go.Proofs.YtnbldbbbibpobaaGreatDoor
open Go.RowKit Go.BigFrame
theorem z6j (g:Nat) (lb:Array Value) (eg:∀ args w,(callFunc g args).run Tryz.prog w = .ok (.enter g args) w) (K:List (List Nat)) (Sp:List NId → Prop) (hK:∀ x ∈ K,x.length = 32) (hd:K.Nodup) (hn:K.length ≤ 100000) (w:World)
 (hseq:SeqStopsK Fence.wide 2 Tryz.prog g lb (fun x:NId=>#[.agg (z06 .u8 x.val).toArray]) KeepsWalks (fun xs=>(z1t xs).Perm K) Sp K.length w) :
 Calls Tryz.prog 83 #[.func (.func g) #[] lb,.func (.func 85) #[] #[]] w fun e w'=>∃ v,e = .returned v ∧ OwnI w.heap.size 25 v (z0e K) w' ∧ Below w.heap.size w w':=by
 have HC:=Lib.hid (zdv g lb eg _ Sp K.length hn w hseq)
 have HKL:=Lib.hid hK
 have HKD:=Lib.hid hd
 have HKN:=Lib.hid hn
 clear hseq eg hK hd hn
 go_enter Tryz.func83,Tryz.ntmps83
 go_wp2_with (refine HC.out.mono ?_;rintro e w2 ⟨v,ss,rfl,hp,ho,hb⟩)
 have hl:ss.length = K.length:=by rw [← z1e,hp.length_eq]
 obtain ⟨ao,c,hv⟩:=ho.form
 rw [z1e] at hv
 subst hv
 have HP:=Lib.hid hp
 have HB:=Lib.hid hb
 have HO:=Lib.hid ho
 have HL:=Shut.mk hl
 clear hp hb hl
 cases ao with
 | none =>
   have h0:ss.length = 0 ∧ c = 0:=by
    rcases ho.2 with ⟨h0,h1⟩ | ⟨g',cap,cur,h0,_⟩
    ·injection h0 with _ h2 h3;exact ⟨h2,h3⟩
    ·cases h0
   have hk0:K = []:=List.length_eq_zero_iff.1 (by rw [← HL.out];exact h0.1)
   have HK0:=Shut.mk hk0
   obtain ⟨n,hn⟩:∃ n,ss.length = n:=⟨_,rfl⟩
   rw [hn] at h0 ⊢
   obtain ⟨rfl,rfl⟩:=h0
   have HS:=Lib.hid (AnyF.slices_SortFunc_none Tryz.sortIds none 0 (.func (.func 85) #[] #[]) w2)
   clear hk0 hn ho HO HP
   go_wp2_with (refine Calls.mono (f:=103) HS.out ?_;rintro e w3 ⟨rfl,rfl⟩)
   go_ret
   exact ⟨_,rfl,by rw [HK0.out];exact OwnI.nil _ _ _,HB.out⟩
 | some a =>
   have ha:∃ gg,a = ⟨gg,0,none⟩ ∧ w.heap.size ≤ gg:=by
    rcases ho.2 with ⟨h0,_⟩ | ⟨g',cap,cur,h0,h1,_⟩
    ·cases h0
    ·injection h0 with h0 _ _
     injection h0 with h0
     exact ⟨g',h0,h1⟩
   obtain ⟨gg,rfl,hgg⟩:=ha
   have HG:=Lib.hid hgg
   have HS:=Lib.hid (sort_ids HO.out (by rw [HL.out];exact HKN.out) (HP.out.nodup_iff.2 HKD.out) hgg)
   clear ho hgg
   obtain ⟨n,hn⟩:∃ n,ss.length = n:=⟨_,rfl⟩
   rw [hn] at HS ⊢
   clear hn
   go_wp2_with (refine HS.out.mono ?_;rintro e w3 ⟨rfl,ts,hp3,hr3,hl3,ho3,hg3⟩)
   go_ret
   have he:z1t ts = z0e K:=zdo hr3 (hp3.trans HP.out) HKL.out HKD.out
   exact ⟨_,rfl,by rw [← he];exact ho3,HB.out.grown hg3 HB.out.size (fun k e=>by
    obtain rfl:gg = k:=by injection e
    exact HG.out)⟩
theorem z9r (b:Nat) (L:List (List Nat × Value)) (w:World) (hM:MapN b L w) (hn:L.length ≤ 100000) :
 Calls Tryz.prog 60 #[.map (some b)] w fun e w'=>∃ v,e = .returned v ∧ OwnI w.heap.size 25 v (z0e (L.map (·.1))) w' ∧ Below w.heap.size w w':=by
 have HK:=Lib.hid (keys_o b w)
 have HM:=Lib.hid hM
 have HN:=Lib.hid hn
 clear hM hn
 go_enter Tryz.func60,Tryz.ntmps60
 go_wp2_with (first
  | (refine HK.out.mono ?_; rintro e w2 ⟨rfl, hc, hz, hb⟩
     have HB:=Lib.hid hb
     have HS:=Lib.hid (z6j _ _ (enters_of Tryz.func104 (by kernel_rfl) rfl) (L.map (·.1)) (fun pre=>pre.length ≤ L.length) (fun x hx=>by
      obtain ⟨p,hp,rfl⟩:=List.mem_map.1 hx
      exact (HM.out.ok p hp).1) HM.out.nodup (by rw [List.length_map];exact HN.out) w2 (by rw [List.length_map];exact zg0 2 w.heap.size b L w2 hc (HM.out.below hb)))
     clear hc hz hb)
  | (refine HS.out.mono ?_;rintro e w3 ⟨v,rfl,ho,hb3⟩))
 go_ret
 exact ⟨v,rfl,ho.mono HB.out.size,HB.out.trans (hb3.mono HB.out.size)⟩
end Go.Proofs.YtnbldbbbibpobaaGreatDoor
