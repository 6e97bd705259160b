/-
  Joined: op.Compare told to the world; slices.SortFunc of names by it.; slices.SortFunc of a row of names by op.Compare.; slices.SortedFunc of names; the developers' ascending.; The developers' knows. Written by dag/gen/gen_know.py.; The document's At, waiting, whole: a set is looked through.; The document's Depth.
-/
import Derived.Shelf.SlSortCmp.NoneTotal
import Derived.Shelf.SlSortCmp.WholeK
import Derived.Sort.Grow
import Derived.Test.YtjomgkiphecljaaGreatDoorJ02
import Derived.Test.YtjomgkiphecljaaGreatDoorJ04
import Derived.Test.YtjomgkiphecljaaGreatDoorJ11
import Derived.Test.YtjomgkiphecljaaGreatDoorJ12
import Derived.Test.YtjomgkiphecljaaGreatDoorJ13
set_option maxRecDepth 100000
set_option maxHeartbeats 4000000
namespace Go.Proofs.YtjomgkiphecljaaGreatDoor
open Go.RowKit Go.BigFrame Go.Sort Go.Shelf
theorem zl9 {w w':World} (h:RowKit.Below w.heap.size w w') (hd:w.drawn ≤ w'.drawn):∃ q os,w' = grow (w.drewN q) os:=by
 refine ⟨w'.drawn - w.drawn,w'.heap.extract w.heap.size w'.heap.size,?_⟩
 have hh:w'.heap = w.heap ++ w'.heap.extract w.heap.size w'.heap.size:=by
  refine Array.ext_getElem? fun i=>?_
  by_cases hi:i < w.heap.size
  ·rw [h.block i hi,Array.getElem?_append_left hi]
  ·rw [Array.getElem?_append_right (by omega),Array.getElem?_extract]
   split
   ·congr 1;omega
   ·rw [Array.getElem?_eq_none (by omega)]
 obtain ⟨h1,h2,h3,h4,h5⟩:=h
 unfold grow World.drewN
 cases w
 cases w'
 simp only at h1 h2 h3 hh hd ⊢
 subst h1 h2 h3
 simp only [World.mk.injEq,true_and,and_true]
 exact ⟨hh,by omega⟩
structure Onw (w w':World):Prop where
 below:RowKit.Below w.heap.size w w'
 drawn:w.drawn ≤ w'.drawn
theorem z83 (a b:List Nat) (ha:IdOk a) (hb:IdOk b) (w:World) :
 Calls Tryz.prog 78 #[.agg (z05 .u8 a).toArray,.agg (z05 .u8 b).toArray] w fun e w'=>e = .returned (.int .i64 (z1o a b)) ∧ ∃ q os,w' = grow (w.drewN q) os:=by
 have b1:RowKit.Below w.heap.size w (w.alloc (.cells (z05 .u8 a).toArray 45)):=(RowKit.Below.refl _ _).alloc (Nat.le_refl _) _
 have x1:Blk w.heap.size 45 .u8 a (w.alloc (.cells (z05 .u8 a).toArray 45)):=heap_alloc_new w _
 have s1:(w.alloc (.cells (z05 .u8 a).toArray 45)).heap.size = w.heap.size + 1:=World.size_alloc _ _
 have b2:RowKit.Below (w.alloc (.cells (z05 .u8 a).toArray 45)).heap.size (w.alloc (.cells (z05 .u8 a).toArray 45)) ((w.alloc (.cells (z05 .u8 a).toArray 45)).alloc (.cells (z05 .u8 b).toArray 45)):=(RowKit.Below.refl _ _).alloc (Nat.le_refl _) _
 have x2:Blk (w.alloc (.cells (z05 .u8 a).toArray 45)).heap.size 45 .u8 b ((w.alloc (.cells (z05 .u8 a).toArray 45)).alloc (.cells (z05 .u8 b).toArray 45)):=heap_alloc_new _ _
 rw [s1] at x2
 have HX1:=Lib.hid (x1.below b2)
 have HX2:=Lib.hid x2
 have HB:=Lib.hid (b1.trans (b2.mono b1.size))
 have HD:=Lib.hid (show w.drawn = ((w.alloc (.cells (z05 .u8 a).toArray 45)).alloc (.cells (z05 .u8 b).toArray 45)).drawn from rfl)
 have HA:=Lib.hid ha
 have HBB:=Lib.hid hb
 clear b1 x1 s1 b2 x2 ha hb
 go_enter Tryz.func78,Tryz.ntmps78
 go_upto_region 1 with (fail)
 obtain ⟨w2,hw2⟩:∃ x,x = ((w.alloc (.cells (z05 .u8 a).toArray 45)).alloc (.cells (z05 .u8 b).toArray 45)):=⟨_,rfl⟩
 rw [← hw2] at HX1 HX2 HB HD ⊢
 clear hw2
 have HC:=Lib.hid (fun w' c d (q:RowKit.Below w2.heap.size w2 w')=>z88 w.heap.size (w.heap.size + 1) c d _ _ a b HA.out HBB.out w' (HX1.out.below q) (HX2.out.below q))
 refine z0h (Onw w2) (by kernel_rfl) (by kernel_rfl) ⟨(RowKit.Below.refl _ _).drew,Nat.le_succ _⟩ ?_
 repeat (first
  | go_big_quiet_skip
  | go_big_quiet_step ((intro hs';first
   | (go_at_call 106;exact (HC.out _ _ _ hs'.below).mono fun e w' h=>⟨h.1,h.2 ▸ hs'⟩)
   | rfl)))
 refine wpQuiet_nil ?_
 intro w4 hb4
 have HF:=Lib.hid (zl9 (HB.out.trans (hb4.below.mono HB.out.size)) (by have:=HD.out;have:=hb4.drawn;omega))
 clear hb4
 go_wp2_with fail
 go_ret
 exact ⟨rfl,HF.out⟩
instance:Inhabited NId:=⟨⟨List.replicate 32 0,by simp,fun x hx=>by rw [(List.mem_replicate.1 hx).2];decide⟩⟩
def zgn (x:NId):List Value:=z05 .u8 x.val
def cfI (x y:NId):Int:=z1o x.val y.val
theorem encI_len (x:NId):(zgn x).length = 32:=by rw [zgn,z0s,x.ok.1]
theorem ltI (x y:NId):ltOf cfI x y = true ↔ z1o x.val y.val = -1:=by
 unfold ltOf cfI
 rw [decide_eq_true_iff]
 rcases z3g x.val y.val with h | h | h <;> rw [h] <;> decide
theorem leI (x y:NId):ltOf cfI x y = false ↔ x.val = y.val ∨ z1o y.val x.val = -1:=by
 rw [← Bool.not_eq_true,ltI]
 constructor
 ·intro h
  by_cases he:x.val = y.val
  ·exact .inl he
  ·rcases z33 (by rw [x.ok.1,y.ok.1]) he with h1 | h1
   ·exact absurd h1 h
   ·exact .inr h1
 ·rintro (h | h) h2
  ·rw [h,z7q] at h2;cases h2
  ·exact z4h h h2
theorem swoI:SWO (ltOf cfI) where
 irrefl x:=(leI x x).2 (.inl rfl)
 trans x y z h1 h2:=(ltI x z).2 (z2e ((ltI x y).1 h1) ((ltI y z).1 h2))
 ntrans x y z h1 h2:=by
  refine (leI x z).2 ?_
  rcases (leI x y).1 h1 with e1 | e1
  ·rcases (leI y z).1 h2 with e2 | e2
   ·exact .inl (e1.trans e2)
   ·exact .inr (by rw [e1];exact e2)
  ·rcases (leI y z).1 h2 with e2 | e2
   ·exact .inr (by rw [← e2];exact e1)
   ·exact .inr (z2e e2 e1)
theorem zer (d:Array NId):(flatK zgn 32 d).toList = z23 (z2b d.toList):=by
 have hI:Ids (z2b d.toList):=fun x hx=>by
  obtain ⟨y,_,rfl⟩:=List.mem_map.1 hx
  exact y.ok
 have hl:=z15 hI
 rw [z1g] at hl
 refine List.ext_getElem? fun t=>?_
 by_cases ht:t < d.size * 32
 ·have h1:=get_flatK zgn 32 d t ht
  have hq:t / 32 < d.size:=by omega
  have hs:(flatK zgn 32 d).size = d.size * 32:=size_flatK _ _ _
  rw [getElem!_pos _ t (by rw [hs];exact ht)] at h1
  rw [Array.getElem?_toList,Array.getElem?_eq_getElem (by rw [hs];exact ht),h1]
  have h2:=z64 hI (i:=t / 32) (j:=t % 32) (by rw [z1g];exact hq) (Nat.mod_lt _ (by decide))
  rw [show 32 * (t / 32) + t % 32 = t by omega] at h2
  rw [h2]
  have h3:(z2b d.toList).getD (t / 32) [] = (d[t / 32]!).val:=by
   rw [getElem!_pos d _ hq,z2b,List.getD_eq_getElem?_getD,List.getElem?_map,Array.getElem?_toList,Array.getElem?_eq_getElem hq]
   rfl
  rw [h3]
  have h4:t % 32 < (z05 .u8 (d[t / 32]!).val).length:=by rw [z0s,(d[t / 32]!).ok.1];exact Nat.mod_lt _ (by decide)
  rw [List.getElem?_eq_getElem h4]
  show some ((z05 .u8 (d[t / 32]!).val)[t % 32]!) = _
  rw [getElem!_pos (z05 .u8 (d[t / 32]!).val) (t % 32) h4]
 ·rw [List.getElem?_eq_none (by rw [Array.length_toList,size_flatK];omega),List.getElem?_eq_none (by rw [hl,Array.length_toList];omega)]
theorem zg0 {w:World} {g n:Nat} {os:Array Obj} {cur:Array Value} {e:TypeId} {fr:Nat × Nat} (d:Array NId) (hb:w.heap[g]? = some (.cells cur e fr)) :
 (sortWorldK zgn 32 w g 0 n d os).heap[g]? = some (.cells (putCells id 0 (flatK zgn 32 d) cur) e fr):=by
 have hg:g < w.heap.size:=(Array.getElem?_eq_some_iff.1 hb).1
 unfold sortWorldK putRowK
 rw [heap_grow_old _ _ (by simp [putRow,mapBlock,Sort.ahead];exact hg)]
 simp [putRow,mapBlock,Sort.ahead,Array.getElem?_modify,hb,onCells]
theorem zaz {w:World} {g n:Nat} {os:Array Obj} (d:Array NId):w.grownBy (sortWorldK zgn 32 w g 0 n d os) (some g):=by
 unfold sortWorldK putRowK
 refine ⟨rfl,rfl,rfl,by simp [grow,putRow,mapBlock,Sort.ahead],fun k hk hne=>?_⟩
 rw [heap_grow_old _ _ (by simp [putRow,mapBlock,Sort.ahead];exact hk)]
 have:g ≠ k:=fun e=>hne (by rw [e])
 simp [putRow,mapBlock,Sort.ahead,Array.getElem?_modify,this]
theorem zbd (cur F:Array Value) (h:F.size ≤ cur.size):(putCells id 0 F cur).toList.take F.size = F.toList:=by
 apply List.ext_getElem?
 intro j
 by_cases hj:j < F.size
 ·rw [List.getElem?_take_of_lt hj,Array.getElem?_toList]
  simp [putCells,hj,show j < cur.size by omega]
 ·rw [List.getElem?_take_eq_none (by omega),List.getElem?_eq_none (by simp;omega)]
theorem OwnI.sorted {B g c n q:Nat} {ss ts:List NId} {w:World} {os:Array Obj} (h:OwnI B 45 (.slice (some ⟨g,0,none⟩) n c) (z2b ss) w) (hl:ts.length = ss.length) :
 OwnI B 45 (.slice (some ⟨g,0,none⟩) n c) (z2b ts) (sortWorldK zgn 32 w g 0 q ts.toArray os):=by
 have hn:=h.form
 obtain ⟨ao,c',hv⟩:=hn
 injection hv with _ hn' _
 rcases h.2 with ⟨h0,_⟩ | ⟨g',cap,cur,h0,hB,hh,h1,h2,h3,h4⟩
 ·cases h0
 ·injection h0 with h5 h6 h7
  injection h5 with h5
  injection h5 with h5 _ _
  subst h5 h7
  have hs:(flatK zgn 32 ts.toArray).size = ts.length * 32:=by rw [size_flatK,List.size_toArray]
  refine ⟨?_,.inr ⟨g,c,_,?_,hB,zg0 _ hh,?_,h2,by simp [putCells,h3],?_⟩⟩
  ·rw [z15 (fun x hx=>by obtain ⟨y,_,rfl⟩:=List.mem_map.1 hx;exact y.ok)]
  ·rw [z1g,hl,← z1g,← hn']
  ·rw [z1g,hl,← z1g];exact h1
  ·have h5:=zbd cur (flatK zgn 32 ts.toArray) (by rw [hs,hl,← z1g,h3];exact Nat.mul_le_mul_right 32 h1)
   rw [hs,zer] at h5
   rw [z1g]
   exact h5
theorem OwnI.holds {B g c n:Nat} {ss:List NId} {w:World} (h:OwnI B 45 (.slice (some ⟨g,0,none⟩) n c) (z2b ss) w):HoldsK zgn 32 w g 0 ss.toArray:=by
 obtain ⟨ao,c',hv⟩:=h.form
 injection hv with _ hn' _
 rcases h.2 with ⟨h0,_⟩ | ⟨g',cap,cur,h0,hB,hh,h1,h2,h3,h4⟩
 ·cases h0
 ·injection h0 with h5 h6 h7
  injection h5 with h5
  injection h5 with h5 _ _
  subst h5 h7
  intro j hj
  rw [size_flatK,List.size_toArray] at hj
  refine ⟨?_,by simp [World.frozen?,hh]⟩
  have h5:(cur.toList.take ((z2b ss).length * 32))[j]? = (z23 (z2b ss))[j]?:=by rw [h4]
  rw [List.getElem?_take_of_lt (by rw [z1g];exact hj)] at h5
  have h6:=zer ss.toArray
  rw [List.toList_toArray] at h6
  rw [← h6,Array.getElem?_toList,Array.getElem?_toList,Array.getElem?_eq_getElem (i:=j) (xs:=flatK zgn 32 ss.toArray) (by rw [size_flatK,List.size_toArray];exact hj)] at h5
  simp only [World.cell?,hh,Nat.zero_add,Option.isSome_none,Bool.false_eq_true,if_false]
  rw [h5,getElem!_pos (flatK zgn 32 ss.toArray) j (by rw [size_flatK,List.size_toArray];exact hj)]
  rfl
theorem zhb {d d':Array NId} (hp:PermIn 0 d.size d d') (hs:SortedIn (ltOf cfI) 0 d.size d') (hd:(z2b d.toList).Nodup):d'.toList.Perm d.toList ∧ Rise (z2b d'.toList):=by
 obtain ⟨h1,_,h2⟩:=hp
 have hperm:d'.toList.Perm d.toList:=by
  rw [← h1] at h2
  have e1:d'.extract 0 d'.size = d':=by simp
  have e2:d.extract 0 d'.size = d:=by rw [h1];simp
  rwa [e1,e2] at h2
 refine ⟨hperm,?_⟩
 have hnd:(z2b d'.toList).Nodup:=(hperm.map NId.val).nodup_iff.2 hd
 unfold Rise
 rw [List.pairwise_iff_getElem]
 intro i j hi hj hij
 rw [z1g,Array.length_toList] at hi hj
 have h3:=hs i j (Nat.zero_le _) hij (by omega)
 rw [getElem!_pos d' j hj,getElem!_pos d' i hi] at h3
 have hne:=List.pairwise_iff_getElem.1 hnd i j (by rw [z1g,Array.length_toList];exact hi) (by rw [z1g,Array.length_toList];exact hj) hij
 simp only [z2b,List.getElem_map,Array.getElem_toList] at hne ⊢
 rcases (leI _ _).1 h3 with h4 | h4
 ·exact absurd h4.symm hne
 ·exact h4
theorem sort_ids {B g c:Nat} {ss:List NId} {w:World} (h:OwnI B 45 (.slice (some ⟨g,0,none⟩) ss.length c) (z2b ss) w) (hn:ss.length ≤ 100000) (hd:(z2b ss).Nodup) (_hB:B ≤ g) :
 Calls Tryz.prog 143 #[.slice (some ⟨g,0,none⟩) ss.length c,.func (.func 78) #[] #[]] w fun e w'=>e = .returned (.tuple #[]) ∧ ∃ ts:List NId,(z2b ts).Perm (z2b ss) ∧ Rise (z2b ts) ∧ ts.length = ss.length ∧ OwnI B 45 (.slice (some ⟨g,0,none⟩) ss.length c) (z2b ts) w' ∧ w.grownBy w' (some g):=by
 have hlt:g < w.heap.size:=(World.ownsRow.lt h g rfl).2
 have hcon:=AnyQ.slices_SortFunc Tryz.sortIds 32 (fun w=>by show (isAgg 45).run Tryz.prog w = _;unfold isAgg;rw [Sem.run_bind,show (underlying 45).run Tryz.prog w = _ from run_underlying Tryz.underlying45 w];rfl) (fun w=>by obtain ⟨ie,hi,_,hz1,_⟩:=info_parts Tryz.infoI32;show (Go.sizeOf 45).run Tryz.prog w = _;simp [Go.sizeOf,typeInfo,hi,hz1]) zgn encI_len (fun x v hv=>z4v _ _ v hv) cfI swoI 78 #[] g 0 c ss.toArray w (enters_of Tryz.func78 (by kernel_rfl) rfl)
  (fun m os dk _ x y=>z83 x.val y.val x.ok y.ok _) h.holds hlt (by rw [List.size_toArray];omega)
 rw [List.size_toArray] at hcon
 refine Calls.mono (f:=143) hcon ?_
 rintro e w' ⟨rfl,d',n,os,hp,hs,rfl⟩
 have hp':PermIn 0 ss.toArray.size ss.toArray d':=by rw [List.size_toArray];exact hp
 have hs':SortedIn (ltOf cfI) 0 ss.toArray.size d':=by rw [List.size_toArray];exact hs
 obtain ⟨h1,h2⟩:=zhb hp' hs' hd
 have hl:d'.toList.length = ss.length:=by rw [h1.length_eq]
 refine ⟨rfl,d'.toList,h1.map NId.val,h2,hl,?_,zaz d'⟩
 have:=h.sorted (q:=n) (os:=os) hl
 rwa [Array.toArray_toList] at this
end Go.Proofs.YtjomgkiphecljaaGreatDoor
namespace Go.Proofs.YtjomgkiphecljaaGreatDoor
open Go.RowKit Go.BigFrame
theorem zbg (g:Nat) (lb:Array Value) (eg:∀ args w,(callFunc g args).run Tryz.prog w = .ok (.enter g args) w) (K:List (List Nat)) (Sp:List NId → Prop) (hK:∀ x ∈ K,x.length = 32) (hd:K.Nodup) (hn:K.length ≤ 100000) (w:World)
 (hseq:SeqStopsK Fence.wide 2 Tryz.prog g lb (fun x:NId=>#[.agg (z05 .u8 x.val).toArray]) KeepsWalks (fun xs=>(z2b xs).Perm K) Sp K.length w) :
 Calls Tryz.prog 127 #[.func (.func g) #[] lb,.func (.func 78) #[] #[]] w fun e w'=>∃ v,e = .returned v ∧ OwnI w.heap.size 45 v (z0g K) w' ∧ Below w.heap.size w w':=by
 have HC:=Lib.hid (zh2 g lb eg _ Sp K.length hn w hseq)
 have HKL:=Lib.hid hK
 have HKD:=Lib.hid hd
 have HKN:=Lib.hid hn
 clear hseq eg hK hd hn
 go_enter Tryz.func127,Tryz.ntmps127
 go_wp2_with (refine HC.out.mono ?_;rintro e w2 ⟨v,ss,rfl,hp,ho,hb⟩)
 have hl:ss.length = K.length:=by rw [← z1g,hp.length_eq]
 obtain ⟨ao,c,hv⟩:=ho.form
 rw [z1g] at hv
 subst hv
 have HP:=Lib.hid hp
 have HB:=Lib.hid hb
 have HO:=Lib.hid ho
 have HL:=Shut.mk hl
 clear hp hb hl
 cases ao with
 | none =>
   have h0:ss.length = 0 ∧ c = 0:=by
    rcases ho.2 with ⟨h0,h1⟩ | ⟨g',cap,cur,h0,_⟩
    ·injection h0 with _ h2 h3;exact ⟨h2,h3⟩
    ·cases h0
   have hk0:K = []:=List.length_eq_zero_iff.1 (by rw [← HL.out];exact h0.1)
   have HK0:=Shut.mk hk0
   obtain ⟨n,hn⟩:∃ n,ss.length = n:=⟨_,rfl⟩
   rw [hn] at h0 ⊢
   obtain ⟨rfl,rfl⟩:=h0
   have HS:=Lib.hid (AnyF.slices_SortFunc_none Tryz.sortIds none 0 (.func (.func 78) #[] #[]) w2)
   clear hk0 hn ho HO HP
   go_wp2_with (refine Calls.mono (f:=143) HS.out ?_;rintro e w3 ⟨rfl,rfl⟩)
   go_ret
   exact ⟨_,rfl,by rw [HK0.out];exact OwnI.nil _ _ _,HB.out⟩
 | some a =>
   have ha:∃ gg,a = ⟨gg,0,none⟩ ∧ w.heap.size ≤ gg:=by
    rcases ho.2 with ⟨h0,_⟩ | ⟨g',cap,cur,h0,h1,_⟩
    ·cases h0
    ·injection h0 with h0 _ _
     injection h0 with h0
     exact ⟨g',h0,h1⟩
   obtain ⟨gg,rfl,hgg⟩:=ha
   have HG:=Lib.hid hgg
   have HS:=Lib.hid (sort_ids HO.out (by rw [HL.out];exact HKN.out) (HP.out.nodup_iff.2 HKD.out) hgg)
   clear ho hgg
   obtain ⟨n,hn⟩:∃ n,ss.length = n:=⟨_,rfl⟩
   rw [hn] at HS ⊢
   clear hn
   go_wp2_with (refine HS.out.mono ?_;rintro e w3 ⟨rfl,ts,hp3,hr3,hl3,ho3,hg3⟩)
   go_ret
   have he:z2b ts = z0g K:=zkp hr3 (hp3.trans HP.out) HKL.out HKD.out
   exact ⟨_,rfl,by rw [← he];exact ho3,HB.out.grown hg3 HB.out.size (fun k e=>by
    obtain rfl:gg = k:=by injection e
    exact HG.out)⟩
theorem zhh (b:Nat) (L:List (List Nat × Value)) (w:World) (hM:MapN b L w) (hn:L.length ≤ 100000) :
 Calls Tryz.prog 93 #[.map (some b)] w fun e w'=>∃ v,e = .returned v ∧ OwnI w.heap.size 45 v (z0g (L.map (·.1))) w' ∧ Below w.heap.size w w':=by
 have HK:=Lib.hid (keys_o b w)
 have HM:=Lib.hid hM
 have HN:=Lib.hid hn
 clear hM hn
 go_enter Tryz.func93,Tryz.ntmps93
 go_wp2_with (first
  | (refine HK.out.mono ?_; rintro e w2 ⟨rfl, hc, hz, hb⟩
     have HB:=Lib.hid hb
     have HS:=Lib.hid (zbg _ _ (enters_of Tryz.func144 (by kernel_rfl) rfl) (L.map (·.1)) (fun pre=>pre.length ≤ L.length) (fun x hx=>by
      obtain ⟨p,hp,rfl⟩:=List.mem_map.1 hx
      exact (HM.out.ok p hp).1) HM.out.nodup (by rw [List.length_map];exact HN.out) w2 (by rw [List.length_map];exact zjz 2 w.heap.size b L w2 hc (HM.out.below hb)))
     clear hc hz hb)
  | (refine HS.out.mono ?_;rintro e w3 ⟨v,rfl,ho,hb3⟩))
 go_ret
 exact ⟨v,rfl,ho.mono HB.out.size,HB.out.trans (hb3.mono HB.out.size)⟩
theorem z4i {X:Nat → Prop} {L:List OpN} {E:List (List Nat × Value)} {w:World} (h:EntsO X L E w) (hd:(E.map (·.1)).Nodup) (hr:∀ x ∈ L,x.d.ref.length = 32) (n:List Nat) :
 ∃ x pa pc, atE E (.agg (opV z04 none 0)) n = .agg (opV x pa pc) ∧ decide (n ∈ E.map (·.1)) = decide (n ∈ L.map z02) ∧ x.d.ref.length = 32 ∧ IAt pa x.preds w ∧
   ((n ∈ L.map z02 ∧ x ∈ L ∧ z02 x = n ∧ OffX X pa x.preds ∧ E.lookup n = some (Value.agg (opV x pa pc)) ∧ ∃ i:Nat,L[i]? = some x ∧ E[i]? = some (n,Value.agg (opV x pa pc))) ∨ (n ∉ L.map z02 ∧ x = z04 ∧ pa = none ∧ pc = 0)):=by
 rw [h.keys]
 by_cases hn:n ∈ L.map z02
 ·obtain ⟨x,hx,rfl⟩:=List.mem_map.1 hn
  obtain ⟨i,hi,he⟩:=List.getElem_of_mem hx
  have hix:L[i]? = some x:=by rw [List.getElem?_eq_getElem hi,he]
  obtain ⟨pa,pc,h1,h2,h3,h4⟩:=h.here hd hix
  exact ⟨x,pa,pc,by rw [atE,h2];rfl,rfl,hr x hx,h3,.inl ⟨hn,hx,rfl,h4,h2,i,hix,h1⟩⟩
 ·exact ⟨z04,none,0,by rw [atE,h.not hn];rfl,rfl,rfl,.inl rfl,.inr ⟨hn,rfl,rfl,rfl⟩⟩
theorem zay (x:OpN) (pa:Option Addr) (pc:Nat):(opV x pa pc).all (·.oneCell') = true:=z1c x pa pc
theorem zkz (X:Nat → Prop) (B:Bs) (T:Ents) (s:DagN) (hs:List (List Nat)) (M:Bh) (n:List Nat) (w:World) (h:SetAt X B T s hs M w) (hn:IdOk n) (hro:∀ x ∈ s.ops,x.d.ref.length = 32) (hrw:∀ x ∈ s.wait,x.d.ref.length = 32) :
 Calls Tryz.prog 28 #[.pointer (some ⟨B.gs,0,none⟩),.agg (z05 .u8 n).toArray] w fun e w'=>e = .returned (.bool (decide (n ∈ s.names) || decide (n ∈ s.waits))) ∧ Below w.heap.size w w':=by
 obtain ⟨x,pa,pc,e1,e2,e3,_⟩:=z4i h.ops h.pm.nodup hro n
 obtain ⟨y,qa,qc,f1,f2,f3,_⟩:=z4i h.wait h.wm.nodup hrw n
 have b1:Below w.heap.size w (w.alloc (.cells (z05 .u8 n).toArray 45)):=(Below.refl _ _).alloc (Nat.le_refl _) _
 have x1:Blk w.heap.size 45 .u8 n (w.alloc (.cells (z05 .u8 n).toArray 45)):=heap_alloc_new w _
 have HB:=Lib.hid b1
 have HC0:=Lib.hid x1
 have HS0:=Lib.hid (h.below b1)
 have HN:=Lib.hid hn
 have HSN:=Lib.hid (show (Tryz.prog.info? 45).map (·.size) = some n.length by rw [hn.1];exact Tryz.sizeI)
 obtain ⟨pb,hp⟩:∃ p,decide (n ∈ s.names) = p:=⟨_,rfl⟩
 obtain ⟨qb,hq⟩:∃ q,decide (n ∈ s.waits) = q:=⟨_,rfl⟩
 rw [hp,hq]
 rw [show decide (n ∈ s.ops.map z02) = pb from hp] at e2
 rw [show decide (n ∈ s.wait.map z02) = qb from hq] at f2
 obtain ⟨Z1,hZ1⟩:∃ Z,opV x pa pc = Z:=⟨_,rfl⟩
 obtain ⟨Z2,hZ2⟩:∃ Z,opV y qa qc = Z:=⟨_,rfl⟩
 have HE1:=Shut.mk (show Value.tuple #[atE T.p (.agg (opV z04 none 0)) n,.bool (decide (n ∈ T.p.map (·.1)))] = .tuple #[.agg Z1,.bool pb] by rw [e1,e2,hZ1])
 have HE2:=Shut.mk (show Value.tuple #[atE T.w (.agg (opV z04 none 0)) n,.bool (decide (n ∈ T.w.map (·.1)))] = .tuple #[.agg Z2,.bool qb] by rw [f1,f2,hZ2])
 have HI1:=Lib.hid (show (Tryz.prog.info? 49).map (·.size) = some Z1.size by rw [← hZ1,z08 e3];exact Tryz.sizeO)
 have HI2:=Lib.hid (show (Tryz.prog.info? 49).map (·.size) = some Z2.size by rw [← hZ2,z08 f3];exact Tryz.sizeO)
 have HL1:=Lib.hid (show (opV z04 none 0).size = Z1.size by rw [← hZ1,z08 e3];rfl)
 have HL2:=Lib.hid (show (opV z04 none 0).size = Z2.size by rw [← hZ2,z08 f3];rfl)
 have HA1:=Lib.hid (show Z1.all (·.oneCell') = true by rw [← hZ1];exact zay _ _ _)
 have HA2:=Lib.hid (show Z2.all (·.oneCell') = true by rw [← hZ2];exact zay _ _ _)
 clear h b1 x1 hn e1 e2 e3 f1 f2 f3 hro hrw hZ1 hZ2 hp hq
 go_enter Tryz.func28,Tryz.ntmps28
 go_upto_region 1 with (fail)
 obtain ⟨w1,hw1⟩:∃ x,x = w.alloc (.cells (z05 .u8 n).toArray 45):=⟨_,rfl⟩
 rw [← hw1] at HB HC0 HS0 ⊢
 clear hw1
 refine z0e 11 (fun q V w'=>Val q V 0 (.pointer (some ⟨B.gs,0,none⟩)) ∧ Val q V 1 (.pointer (some ⟨B.gs,0,none⟩)) ∧ Val q V 2 (.pointer (some ⟨B.gs,0,none⟩)) ∧ Val q V 3 (.map (some B.p)) ∧ Val q V 4 (.agg (z05 .u8 n).toArray) ∧ Val q V 5 (.tuple #[.agg Z1,.bool pb]) ∧ Val q V 6 (.tuple #[.agg Z1,.bool pb]) ∧ Val q V 7 (.agg Z1) ∧ Val q V 8 (.bool pb) ∧ PutC q V w1.heap.size 9 10 49 (opV z04 none 0) (Z1) w' ∧ Below w1.heap.size w1 w' ∧ Late q 9 10) (fun _=>undef) (by kernel_rfl) (by kernel_rfl) (by kernel_rfl) (by simp only [zC,zD,z0f,Act.put,zS,zA,zB]) ⟨Val.none,Val.none,Val.none,Val.none,Val.none,Val.none,Val.none,Val.none,Val.none,PutC.none,(Below.refl _ _).drew,Late.none⟩ ?_ ?_
 ·simp only [zC,zD,z0f,Nat.zero_add,Nat.reduceAdd,Act.put,zS,zA,zB]
  refine zQc ?_ (zQc ?_ (zQc ?_ (zQc ?_ (zQc ?_ (zQc ?_ (zQc ?_ (zQc ?_ (zQc ?_ (zQc ?_ (zQc ?_ (zQn)))))))))))
  all_goals (refine zQf rfl ?_;rintro q V wq hr hu ⟨h0,h1,h2,h3,h4,h5,h6,h7,h8,h9,hb,hl9⟩ K hK)
  ·exact z0j (.tmp 0) rfl _ rfl (hK _ _ ⟨.same,h1.nd,h2.nd,h3.nd,h4.nd,h5.nd,h6.nd,h7.nd,h8.nd,h9.ne (by decide) (by decide) (Below.refl _ _),hb,hl9.nd⟩)
  ·exact z0l (.tmp 10) rfl ⟨B.gs,0,none⟩ (h0 (hr { on:=0,ground:=.data } (by simp) rfl)) (hK _ _ ⟨h0.nd,.same,h2.nd,h3.nd,h4.nd,h5.nd,h6.nd,h7.nd,h8.nd,h9.ne (by decide) (by decide) (Below.refl _ _),hb,hl9.nd⟩)
  ·exact z0k 65 (.tmp 11) 0 rfl _ _ (h1 (hr { on:=1,ground:=.data } (by simp) rfl)) (z5e B.gs 0 (by decide)) (hK _ _ ⟨h0.nd,h1.nd,.same,h3.nd,h4.nd,h5.nd,h6.nd,h7.nd,h8.nd,h9.ne (by decide) (by decide) (Below.refl _ _),hb,hl9.nd⟩)
  ·exact z0o 61 (.tmp 12) rfl _ _ (h2 (hr { on:=2,ground:=.data } (by simp) rfl)) (HS0.out.below hb).cell.1 Tryz.isAgg61 (hK _ _ ⟨h0.nd,h1.nd,h2.nd,.same,h4.nd,h5.nd,h6.nd,h7.nd,h8.nd,h9.ne (by decide) (by decide) (Below.refl _ _),hb,hl9.nd⟩)
  ·exact z1d 45 (.tmp 3) rfl w.heap.size .u8 n 45 _ rfl (HC0.out.below hb) Tryz.underlying45 rfl HSN.out (hK _ _ ⟨h0.nd,h1.nd,h2.nd,h3.nd,.same,h5.nd,h6.nd,h7.nd,h8.nd,h9.ne (by decide) (by decide) (Below.refl _ _),hb,hl9.nd⟩)
  ·exact z3i (.tmp 13) (.tmp 14) 61 45 49 true rfl Tryz.idKey Tryz.underlying61 (.agg (opV z04 none 0)) (z7b wq) B.p T.p (HS0.out.below hb).pm n HN.out (h3 (hr { on:=3,ground:=.data } (by simp) rfl)) (h4 (hr { on:=4,ground:=.data } (by simp) rfl)) _ (by rw [HE1.out];rfl) (hK _ _ ⟨h0.nd,h1.nd,h2.nd,h3.nd,h4.nd,.same,h6.nd,h7.nd,h8.nd,h9.ne (by decide) (by decide) (Below.refl _ _),hb,hl9.nd⟩)
  ·exact z0j (.tmp 15) rfl _ (h5 (hr { on:=5,ground:=.data } (by simp) rfl)) (hK _ _ ⟨h0.nd,h1.nd,h2.nd,h3.nd,h4.nd,h5.nd,.same,h7.nd,h8.nd,h9.ne (by decide) (by decide) (Below.refl _ _),hb,hl9.nd⟩)
  ·exact z27 (.tmp 9) 0 rfl _ _ (h6 (hr { on:=6,ground:=.data } (by simp) rfl)) (z9r _ _) (hK _ _ ⟨h0.nd,h1.nd,h2.nd,h3.nd,h4.nd,h5.nd,h6.nd,.same,h8.nd,h9.ne (by decide) (by decide) (Below.refl _ _),hb,hl9.nd⟩)
  ·exact z27 (.tmp 9) 1 rfl _ _ (h6 (hr { on:=6,ground:=.data } (by simp) rfl)) (z9q _ _) (hK _ _ ⟨h0.nd,h1.nd,h2.nd,h3.nd,h4.nd,h5.nd,h6.nd,h7.nd,.same,h9.ne (by decide) (by decide) (Below.refl _ _),hb,hl9.nd⟩)
  ·exact z2u 49 rfl (opV z04 none 0) z4x (hK _ _ ⟨h0.nd,h1.nd,h2.nd,h3.nd,h4.nd,h5.nd,h6.nd,h7.nd,h8.nd,PutC.made hb.size (hl9.not hu) (by decide),hb.alloc hb.size _,hl9.nd⟩)
  ·obtain ⟨g,hV,hg0,hc0⟩:=h9 (hr { on:=9,ground:=.data } (by simp) rfl)
   rw [if_neg (by rw [hu];decide)] at hc0
   refine z28 49 (.tmp 5) (.tmp 16) rfl g _ (Z1) 49 hV (h7 (hr { on:=7,ground:=.data } (by simp) rfl)) hc0 HI1.out HL1.out HA1.out ?_
   intro w' hc' hbt
   have hbn:=But.toBelow hb hbt hg0 hb.size
   exact (hK _ _ ⟨h0.nd,h1.nd,h2.nd,h3.nd,h4.nd,h5.nd,h6.nd,h7.nd,h8.nd,PutC.stored hV hg0 (by decide) hc',hbn,Late.same (hr { on:=9,ground:=.data } (by simp) rfl)⟩)
 rintro q V wq hall ⟨h0,h1,h2,h3,h4,h5,h6,h7,h8,h9,hb,hl9⟩
 have v0:=h0 (hall 0 (by decide))
 have v1:=h1 (hall 1 (by decide))
 have v2:=h2 (hall 2 (by decide))
 have v3:=h3 (hall 3 (by decide))
 have v4:=h4 (hall 4 (by decide))
 have v5:=h5 (hall 5 (by decide))
 have v6:=h6 (hall 6 (by decide))
 have v7:=h7 (hall 7 (by decide))
 have v8:=h8 (hall 8 (by decide))
 obtain ⟨g9,v9,hg9,hc9⟩:=h9 (hall 9 (by decide))
 rw [if_pos (hall 10 (by decide))] at hc9
 obtain ⟨u10,v10⟩:∃ v,V 10 = v:=⟨_,rfl⟩
 simp only [zC,zD,zE,zF,z0f,Nat.zero_add,Nat.reduceAdd,v0,v1,v2,v3,v4,v5,v6,v7,v8,v9,Act.put,zS,zA,zB]
 clear h0 h1 h2 h3 h4 h5 h6 h7 h8 v0 v1 v2 v3 v4 v5 v6 v7 v8 v9 v10 hall hl9
 have HC2:=Lib.hid (HC0.out.below hb)
 have HS2:=Lib.hid (HS0.out.below hb)
 have HB2:=Lib.hid (HB.out.trans (hb.mono HB.out.size))
 clear hb hc9 hg9 HC0 HS0 HB
 obtain ⟨w2,hw2⟩:∃ x,x = wq:=⟨_,rfl⟩
 rw [← hw2] at HC2 HS2 HB2 ⊢
 clear hw2
 cases pb with
 | true =>
   go_wp2_with fail
   go_ret
   exact ⟨rfl,HB2.out⟩
 | false =>
   go_upto_region 4 with (fail)
   refine z0e 11 (fun q V w'=>Val q V 0 (.pointer (some ⟨B.gs,0,none⟩)) ∧ Val q V 1 (.pointer (some ⟨B.gs,0,none⟩)) ∧ Val q V 2 (.pointer (some ⟨B.gs,1,none⟩)) ∧ Val q V 3 (.map (some B.w)) ∧ Val q V 4 (.agg (z05 .u8 n).toArray) ∧ Val q V 5 (.tuple #[.agg Z2,.bool qb]) ∧ Val q V 6 (.tuple #[.agg Z2,.bool qb]) ∧ Val q V 7 (.agg Z2) ∧ Val q V 8 (.bool qb) ∧ PutC q V w2.heap.size 9 10 49 (opV z04 none 0) (Z2) w' ∧ Below w2.heap.size w2 w' ∧ Late q 9 10) (fun _=>undef) (by kernel_rfl) (by kernel_rfl) (by kernel_rfl) (by simp only [zC,zD,z0f,Act.put,zS,zA,zB]) ⟨Val.none,Val.none,Val.none,Val.none,Val.none,Val.none,Val.none,Val.none,Val.none,PutC.none,(Below.refl _ _).drew,Late.none⟩ ?_ ?_
   ·simp only [zC,zD,z0f,Nat.zero_add,Nat.reduceAdd,Act.put,zS,zA,zB]
    refine zQc ?_ (zQc ?_ (zQc ?_ (zQc ?_ (zQc ?_ (zQc ?_ (zQc ?_ (zQc ?_ (zQc ?_ (zQc ?_ (zQc ?_ (zQn)))))))))))
    all_goals (refine zQf rfl ?_;rintro q V wq hr hu ⟨h0,h1,h2,h3,h4,h5,h6,h7,h8,h9,hb,hl9⟩ K hK)
    ·exact z0j (.tmp 0) rfl _ rfl (hK _ _ ⟨.same,h1.nd,h2.nd,h3.nd,h4.nd,h5.nd,h6.nd,h7.nd,h8.nd,h9.ne (by decide) (by decide) (Below.refl _ _),hb,hl9.nd⟩)
    ·exact z0l (.tmp 20) rfl ⟨B.gs,0,none⟩ (h0 (hr { on:=0,ground:=.data } (by simp) rfl)) (hK _ _ ⟨h0.nd,.same,h2.nd,h3.nd,h4.nd,h5.nd,h6.nd,h7.nd,h8.nd,h9.ne (by decide) (by decide) (Below.refl _ _),hb,hl9.nd⟩)
    ·exact z0k 65 (.tmp 21) 1 rfl _ _ (h1 (hr { on:=1,ground:=.data } (by simp) rfl)) (z5e B.gs 1 (by decide)) (hK _ _ ⟨h0.nd,h1.nd,.same,h3.nd,h4.nd,h5.nd,h6.nd,h7.nd,h8.nd,h9.ne (by decide) (by decide) (Below.refl _ _),hb,hl9.nd⟩)
    ·exact z0o 61 (.tmp 22) rfl _ _ (h2 (hr { on:=2,ground:=.data } (by simp) rfl)) (HS2.out.below hb).cell.2.1 Tryz.isAgg61 (hK _ _ ⟨h0.nd,h1.nd,h2.nd,.same,h4.nd,h5.nd,h6.nd,h7.nd,h8.nd,h9.ne (by decide) (by decide) (Below.refl _ _),hb,hl9.nd⟩)
    ·exact z1d 45 (.tmp 3) rfl w.heap.size .u8 n 45 _ rfl (HC2.out.below hb) Tryz.underlying45 rfl HSN.out (hK _ _ ⟨h0.nd,h1.nd,h2.nd,h3.nd,.same,h5.nd,h6.nd,h7.nd,h8.nd,h9.ne (by decide) (by decide) (Below.refl _ _),hb,hl9.nd⟩)
    ·exact z3i (.tmp 23) (.tmp 24) 61 45 49 true rfl Tryz.idKey Tryz.underlying61 (.agg (opV z04 none 0)) (z7b wq) B.w T.w (HS2.out.below hb).wm n HN.out (h3 (hr { on:=3,ground:=.data } (by simp) rfl)) (h4 (hr { on:=4,ground:=.data } (by simp) rfl)) _ (by rw [HE2.out];rfl) (hK _ _ ⟨h0.nd,h1.nd,h2.nd,h3.nd,h4.nd,.same,h6.nd,h7.nd,h8.nd,h9.ne (by decide) (by decide) (Below.refl _ _),hb,hl9.nd⟩)
    ·exact z0j (.tmp 25) rfl _ (h5 (hr { on:=5,ground:=.data } (by simp) rfl)) (hK _ _ ⟨h0.nd,h1.nd,h2.nd,h3.nd,h4.nd,h5.nd,.same,h7.nd,h8.nd,h9.ne (by decide) (by decide) (Below.refl _ _),hb,hl9.nd⟩)
    ·exact z27 (.tmp 19) 0 rfl _ _ (h6 (hr { on:=6,ground:=.data } (by simp) rfl)) (z9r _ _) (hK _ _ ⟨h0.nd,h1.nd,h2.nd,h3.nd,h4.nd,h5.nd,h6.nd,.same,h8.nd,h9.ne (by decide) (by decide) (Below.refl _ _),hb,hl9.nd⟩)
    ·exact z27 (.tmp 19) 1 rfl _ _ (h6 (hr { on:=6,ground:=.data } (by simp) rfl)) (z9q _ _) (hK _ _ ⟨h0.nd,h1.nd,h2.nd,h3.nd,h4.nd,h5.nd,h6.nd,h7.nd,.same,h9.ne (by decide) (by decide) (Below.refl _ _),hb,hl9.nd⟩)
    ·exact z2u 49 rfl (opV z04 none 0) z4x (hK _ _ ⟨h0.nd,h1.nd,h2.nd,h3.nd,h4.nd,h5.nd,h6.nd,h7.nd,h8.nd,PutC.made hb.size (hl9.not hu) (by decide),hb.alloc hb.size _,hl9.nd⟩)
    ·obtain ⟨g,hV,hg0,hc0⟩:=h9 (hr { on:=9,ground:=.data } (by simp) rfl)
     rw [if_neg (by rw [hu];decide)] at hc0
     refine z28 49 (.tmp 7) (.tmp 26) rfl g _ (Z2) 49 hV (h7 (hr { on:=7,ground:=.data } (by simp) rfl)) hc0 HI2.out HL2.out HA2.out ?_
     intro w' hc' hbt
     have hbn:=But.toBelow hb hbt hg0 hb.size
     exact (hK _ _ ⟨h0.nd,h1.nd,h2.nd,h3.nd,h4.nd,h5.nd,h6.nd,h7.nd,h8.nd,PutC.stored hV hg0 (by decide) hc',hbn,Late.same (hr { on:=9,ground:=.data } (by simp) rfl)⟩)
   rintro q V wq hall ⟨h0,h1,h2,h3,h4,h5,h6,h7,h8,h9,hb,hl9⟩
   have v0:=h0 (hall 0 (by decide))
   have v1:=h1 (hall 1 (by decide))
   have v2:=h2 (hall 2 (by decide))
   have v3:=h3 (hall 3 (by decide))
   have v4:=h4 (hall 4 (by decide))
   have v5:=h5 (hall 5 (by decide))
   have v6:=h6 (hall 6 (by decide))
   have v7:=h7 (hall 7 (by decide))
   have v8:=h8 (hall 8 (by decide))
   obtain ⟨g9,v9,hg9,hc9⟩:=h9 (hall 9 (by decide))
   rw [if_pos (hall 10 (by decide))] at hc9
   obtain ⟨u10,v10⟩:∃ v,V 10 = v:=⟨_,rfl⟩
   simp only [zC,zD,zE,zF,z0f,Nat.zero_add,Nat.reduceAdd,v0,v1,v2,v3,v4,v5,v6,v7,v8,v9,Act.put,zS,zA,zB]
   clear h0 h1 h2 h3 h4 h5 h6 h7 h8 v0 v1 v2 v3 v4 v5 v6 v7 v8 v9 v10 hall hl9
   have HB4:=Lib.hid (HB2.out.trans (hb.mono HB2.out.size))
   clear hb hc9 hg9
   go_wp2_with fail
   go_ret
   exact ⟨by rw [Bool.false_or];rfl,HB4.out⟩
theorem atN_here {L:List (List Nat)} {n:List Nat} {k:Nat} (hk:k < L.length) (he:L.getD k [] = n) (h:∀ j,j < k → L.getD j [] ≠ n):atN L n = k:=by
 have hm:n ∈ L:=by
  rw [← he,List.getD_eq_getElem?_getD,List.getElem?_eq_getElem hk]
  exact List.getElem_mem hk
 have h1:L.idxOf n = k:=by
  have hi:=List.idxOf_lt_length_of_mem hm
  have hg:L[L.idxOf n] = n:=List.getElem_idxOf hi
  rcases Nat.lt_trichotomy (L.idxOf n) k with hlt | heq | hgt
  ·refine absurd ?_ (h _ hlt)
   rw [List.getD_eq_getElem?_getD,List.getElem?_eq_getElem hi]
   exact hg
  ·exact heq
  ·have:=List.not_of_lt_findIdx (p:=(· == n)) (xs:=L) (i:=k) hgt
   rw [List.getD_eq_getElem?_getD,List.getElem?_eq_getElem hk] at he
   simp only [Option.getD_some] at he
   simp [he] at this
 rw [atN,if_pos hm,h1]
theorem zk9 {L:List (List Nat)} {n:List Nat} (h:∀ j,j < L.length → L.getD j [] ≠ n):atN L n = -1 ∧ n ∉ L:=by
 have hm:n ∉ L:=fun hm=>by
  obtain ⟨j,hj,he⟩:=List.getElem_of_mem hm
  refine h j hj ?_
  rw [List.getD_eq_getElem?_getD,List.getElem?_eq_getElem hj]
  exact he
 exact ⟨by rw [atN,if_neg hm],hm⟩
theorem atN_neg {L:List (List Nat)} {n:List Nat}:decide (atN L n < 0) = !decide (n ∈ L):=by
 rw [atN]
 by_cases hm:n ∈ L
 ·rw [if_pos hm]
  simp [hm]
 ·simp [hm]
theorem zcw (X:Nat → Prop) (gs:Nat) (vo vw vn vq:Value) (s:DagN) (n:List Nat) (w:World) (h:RefAt X gs vo vw vn vq s w) (hn:n.length = 32) (hnl:∀ y ∈ n,y < 256) (hb:s.ops.length ≤ 1000000) :
 Calls Tryz.prog 38 #[.pointer (some ⟨gs,0,none⟩),.agg (z05 .u8 n).toArray] w fun e w'=>e = .returned (.int .i64 (atN s.names n)) ∧ Below w.heap.size w w':=by
 obtain ⟨ao,cap,rfl⟩:=h.names.form
 have hm:s.names.length ≤ 1000000:=by rw [DagN.names,List.length_map];exact hb
 have hL:Ids s.names:=z3d
 have hat:=h.names.at hL
 obtain ⟨L,hLE⟩:∃ L,s.names = L:=⟨_,rfl⟩
 rw [hLE] at h hm hL hat ⊢
 have hc:=h.cell.2.2.1
 have hgs:=h.cells.lt
 obtain ⟨m,hme⟩:∃ m,L.length = m:=⟨_,rfl⟩
 rw [hme] at hc hm h
 have HM:=Shut.mk hme
 have HL:=Lib.hid hL
 have b1:Below w.heap.size w (w.alloc (.cells (z05 .u8 n).toArray 45)):=(Below.refl _ _).alloc (Nat.le_refl _) _
 have x1:Blk w.heap.size 45 .u8 n (w.alloc (.cells (z05 .u8 n).toArray 45)):=heap_alloc_new w _
 have HB:=Lib.hid b1
 have HX:=Lib.hid x1
 have HAT:=Lib.hid (hat.below b1)
 have HC:=Lib.hid ((b1.cell (p:=⟨gs,2,none⟩) hgs).trans hc)
 have HG:=Lib.hid (show gs < (w.alloc (.cells (z05 .u8 n).toArray 45)).heap.size from Nat.lt_of_lt_of_le hgs b1.size)
 have HN:=Lib.hid hn
 have HNL:=Lib.hid hnl
 have HSN:=Lib.hid (show (Tryz.prog.info? 45).map (·.size) = some n.length by rw [hn];exact Tryz.sizeI)
 clear h hLE hL hat hc hgs hme b1 x1 hn hnl hb
 go_enter Tryz.func38,Tryz.ntmps38
 go_upto_region 1 with (fail)
 obtain ⟨w1,hw1⟩:∃ x,x = w.alloc (.cells (z05 .u8 n).toArray 45):=⟨_,rfl⟩
 rw [← hw1] at HB HX HAT HC HG ⊢
 clear hw1
 have hc:=HC.out
 go_wp2_with fail
 clear hc
 go_loopw [12] (fun i wr=>∃ k:Nat,k ≤ m ∧ i = .int .i64 k ∧ (∀ j,j < k → L.getD j [] ≠ n) ∧ Below w1.heap.size w1 wr) (fun i _=>m - (intOf i).toNat)
 case atStart=>exact ⟨0,Nat.zero_le _,rfl,fun j hj=>by omega,Below.refl _ _⟩
 case round =>
  obtain ⟨k,hk,rfl,hj,hbw⟩:=hrel
  have HJ:=Lib.hid hj
  have HBW:=Lib.hid hbw
  have HXW:=Lib.hid (HX.out.below hbw)
  have HATW:=Lib.hid (HAT.out.below hbw)
  clear hj hbw
  by_cases hlt:k < m
  ·obtain ⟨b,ob,rfl,hbl⟩:=HATW.out.some (by rw [HM.out];omega)
   have g1:=HATW.out.get (i:=k) (by rw [HM.out];omega)
   have i1:=Ids.getD HL.out (i:=k) (by rw [HM.out];omega)
   obtain ⟨x,hx⟩:∃ x,L.getD k [] = x:=⟨_,rfl⟩
   rw [hx] at g1 i1
   have HXE:=Shut.mk hx
   have HG1:=Lib.hid g1
   have HS1:=Lib.hid (show (Tryz.prog.info? 45).map (·.size) = some x.length by rw [i1.1];exact Tryz.sizeI)
   have HL2:=Lib.hid (show (List.replicate 32 0).length = x.length by rw [i1.1];rfl)
   have HEQ:=Lib.hid (fun w'=>z59 x n i1.1 HN.out i1.2 HNL.out w')
   have HXL:=Lib.hid i1.1
   have hxw:=HXW.out.lt
   have hgw:w.heap.size ≠ wr.heap.size:=by omega
   clear hx g1 i1 hbl hxw
   go_wp2_with (first
    | (refine z0a rfl 45 _ rfl b (ob + k * 32) x _ rfl HG1.out Tryz.underlying45 rfl HS1.out ?_)
    | (refine z06 rfl 45 _ _ rfl rfl wr.heap.size .u8 (List.replicate 32 0) x 45 rfl rfl (heap_alloc_new wr _) HS1.out HL2.out ?_))
   intro w5 hc' hb'
   have HY:=Lib.hid hc'.out
   have HX5:=Lib.hid ((HXW.out.alloc _).but hb'.out hgw)
   have HB5:=Lib.hid (show Below w1.heap.size w1 w5 from But.toBelow (HBW.out.alloc HBW.out.size _) hb'.out HBW.out.size (Nat.le_trans HBW.out.size (by rw [World.size_alloc];exact Nat.le_succ _)))
   clear hc' hb' HL2 hgw
   have heq:=HEQ.out
   have hs1:=HS1.out
   obtain ⟨z,hz⟩:∃ z,(x == n) = z:=⟨_,rfl⟩
   rw [hz] at heq
   have HZ:=Shut.mk hz
   clear hz HEQ
   cases z with
   | true =>
     have HR:=Shut.mk (show atN L n = (k:Int) from atN_here (by rw [HM.out];exact hlt) (by rw [HXE.out];have:=HZ.out;simpa using this) HJ.out)
     go_wp2_with (first
      | (refine z07 rfl 45 (.tmp 6) rfl wr.heap.size .u8 _ 45 _ rfl HY.out Tryz.underlying45 rfl HS1.out ?_)
      | (refine z07 rfl 45 (.tmp 3) rfl w.heap.size .u8 _ 45 _ rfl HX5.out Tryz.underlying45 rfl HSN.out ?_))
     go_ret
     exact ⟨by rw [HR.out];rfl,HB.out.trans (HB5.out.mono HB.out.size)⟩
   | false =>
     have HNE:=Lib.hid (show x ≠ n by have:=HZ.out;simpa using this)
     go_wp2_with (first
      | (refine z07 rfl 45 (.tmp 6) rfl wr.heap.size .u8 _ 45 _ rfl HY.out Tryz.underlying45 rfl HS1.out ?_)
      | (refine z07 rfl 45 (.tmp 3) rfl w.heap.size .u8 _ 45 _ rfl HX5.out Tryz.underlying45 rfl HSN.out ?_))
     refine ⟨⟨k + 1,by omega,by go_num,fun q hq=>?_,HB5.out⟩,by simp [intOf];omega⟩
     by_cases hqj:q = k
     ·subst hqj
      rw [HXE.out]
      exact HNE.out
     ·exact HJ.out q (by omega)
  ·obtain rfl:k = m:=by omega
   have HR:=Shut.mk (show atN L n = -1 from (zk9 (fun j hj=>HJ.out j (by rw [← HM.out];exact hj))).1)
   go_wp2_with fail
   go_ret
   exact ⟨by rw [HR.out];rfl,HB.out.trans (HBW.out.mono HB.out.size)⟩
theorem zh4 (X:Nat → Prop) (gs:Nat) (vo vw vn vq:Value) (s:DagN) (n:List Nat) (w:World) (h:RefAt X gs vo vw vn vq s w) (hn:n.length = 32) (hnl:∀ y ∈ n,y < 256) (hb:s.wait.length ≤ 1000000) :
 Calls Tryz.prog 39 #[.pointer (some ⟨gs,0,none⟩),.agg (z05 .u8 n).toArray] w fun e w'=>e = .returned (.bool (decide (n ∈ s.waits))) ∧ Below w.heap.size w w':=by
 obtain ⟨ao,cap,rfl⟩:=h.waits.form
 have hm:s.waits.length ≤ 1000000:=by rw [DagN.waits,List.length_map];exact hb
 have hL:Ids s.waits:=z3d
 have hat:=h.waits.at hL
 obtain ⟨L,hLE⟩:∃ L,s.waits = L:=⟨_,rfl⟩
 rw [hLE] at h hm hL hat ⊢
 have hc:=h.cell.2.2.2
 have hgs:=h.cells.lt
 obtain ⟨m,hme⟩:∃ m,L.length = m:=⟨_,rfl⟩
 rw [hme] at hc hm h
 have HM:=Shut.mk hme
 have HL:=Lib.hid hL
 have b1:Below w.heap.size w (w.alloc (.cells (z05 .u8 n).toArray 45)):=(Below.refl _ _).alloc (Nat.le_refl _) _
 have x1:Blk w.heap.size 45 .u8 n (w.alloc (.cells (z05 .u8 n).toArray 45)):=heap_alloc_new w _
 have HB:=Lib.hid b1
 have HX:=Lib.hid x1
 have HAT:=Lib.hid (hat.below b1)
 have HC:=Lib.hid ((b1.cell (p:=⟨gs,3,none⟩) hgs).trans hc)
 have HG:=Lib.hid (show gs < (w.alloc (.cells (z05 .u8 n).toArray 45)).heap.size from Nat.lt_of_lt_of_le hgs b1.size)
 have HN:=Lib.hid hn
 have HNL:=Lib.hid hnl
 have HSN:=Lib.hid (show (Tryz.prog.info? 45).map (·.size) = some n.length by rw [hn];exact Tryz.sizeI)
 clear h hLE hL hat hc hgs hme b1 x1 hn hnl hb
 go_enter Tryz.func39,Tryz.ntmps39
 go_upto_region 1 with (fail)
 obtain ⟨w1,hw1⟩:∃ x,x = w.alloc (.cells (z05 .u8 n).toArray 45):=⟨_,rfl⟩
 rw [← hw1] at HB HX HAT HC HG ⊢
 clear hw1
 have hc:=HC.out
 go_wp2_with fail
 clear hc
 go_loopw [12] (fun i wr=>∃ k:Nat,k ≤ m ∧ i = .int .i64 k ∧ (∀ j,j < k → L.getD j [] ≠ n) ∧ Below w1.heap.size w1 wr) (fun i _=>m - (intOf i).toNat)
 case atStart=>exact ⟨0,Nat.zero_le _,rfl,fun j hj=>by omega,Below.refl _ _⟩
 case round =>
  obtain ⟨k,hk,rfl,hj,hbw⟩:=hrel
  have HJ:=Lib.hid hj
  have HBW:=Lib.hid hbw
  have HXW:=Lib.hid (HX.out.below hbw)
  have HATW:=Lib.hid (HAT.out.below hbw)
  clear hj hbw
  by_cases hlt:k < m
  ·obtain ⟨b,ob,rfl,hbl⟩:=HATW.out.some (by rw [HM.out];omega)
   have g1:=HATW.out.get (i:=k) (by rw [HM.out];omega)
   have i1:=Ids.getD HL.out (i:=k) (by rw [HM.out];omega)
   obtain ⟨x,hx⟩:∃ x,L.getD k [] = x:=⟨_,rfl⟩
   rw [hx] at g1 i1
   have HXE:=Shut.mk hx
   have HG1:=Lib.hid g1
   have HS1:=Lib.hid (show (Tryz.prog.info? 45).map (·.size) = some x.length by rw [i1.1];exact Tryz.sizeI)
   have HL2:=Lib.hid (show (List.replicate 32 0).length = x.length by rw [i1.1];rfl)
   have HEQ:=Lib.hid (fun w'=>z59 x n i1.1 HN.out i1.2 HNL.out w')
   have HXL:=Lib.hid i1.1
   have hxw:=HXW.out.lt
   have hgw:w.heap.size ≠ wr.heap.size:=by omega
   clear hx g1 i1 hbl hxw
   go_wp2_with (first
    | (refine z0a rfl 45 _ rfl b (ob + k * 32) x _ rfl HG1.out Tryz.underlying45 rfl HS1.out ?_)
    | (refine z06 rfl 45 _ _ rfl rfl wr.heap.size .u8 (List.replicate 32 0) x 45 rfl rfl (heap_alloc_new wr _) HS1.out HL2.out ?_))
   intro w5 hc' hb'
   have HY:=Lib.hid hc'.out
   have HX5:=Lib.hid ((HXW.out.alloc _).but hb'.out hgw)
   have HB5:=Lib.hid (show Below w1.heap.size w1 w5 from But.toBelow (HBW.out.alloc HBW.out.size _) hb'.out HBW.out.size (Nat.le_trans HBW.out.size (by rw [World.size_alloc];exact Nat.le_succ _)))
   clear hc' hb' HL2 hgw
   have heq:=HEQ.out
   have hs1:=HS1.out
   obtain ⟨z,hz⟩:∃ z,(x == n) = z:=⟨_,rfl⟩
   rw [hz] at heq
   have HZ:=Shut.mk hz
   clear hz HEQ
   cases z with
   | true =>
     have HR:=Shut.mk (show decide (n ∈ L) = true from decide_eq_true (by rw [show n = L.getD k [] by rw [HXE.out];exact (by have:=HZ.out;simpa using this:x = n).symm,List.getD_eq_getElem?_getD,List.getElem?_eq_getElem (by rw [HM.out];exact hlt)];exact List.getElem_mem _))
     go_wp2_with (first
      | (refine z07 rfl 45 (.tmp 6) rfl wr.heap.size .u8 _ 45 _ rfl HY.out Tryz.underlying45 rfl HS1.out ?_)
      | (refine z07 rfl 45 (.tmp 3) rfl w.heap.size .u8 _ 45 _ rfl HX5.out Tryz.underlying45 rfl HSN.out ?_))
     go_ret
     exact ⟨by rw [HR.out];rfl,HB.out.trans (HB5.out.mono HB.out.size)⟩
   | false =>
     have HNE:=Lib.hid (show x ≠ n by have:=HZ.out;simpa using this)
     go_wp2_with (first
      | (refine z07 rfl 45 (.tmp 6) rfl wr.heap.size .u8 _ 45 _ rfl HY.out Tryz.underlying45 rfl HS1.out ?_)
      | (refine z07 rfl 45 (.tmp 3) rfl w.heap.size .u8 _ 45 _ rfl HX5.out Tryz.underlying45 rfl HSN.out ?_))
     refine ⟨⟨k + 1,by omega,by go_num,fun q hq=>?_,HB5.out⟩,by simp [intOf];omega⟩
     by_cases hqj:q = k
     ·subst hqj
      rw [HXE.out]
      exact HNE.out
     ·exact HJ.out q (by omega)
  ·obtain rfl:k = m:=by omega
   have HR:=Shut.mk (show decide (n ∈ L) = false from decide_eq_false (zk9 (fun j hj=>HJ.out j (by rw [← HM.out];exact hj))).2)
   go_wp2_with fail
   go_ret
   exact ⟨by rw [HR.out];rfl,HB.out.trans (HBW.out.mono HB.out.size)⟩
theorem zgl {L P:List (List Nat)}:∀ (n:Nat),P.length = n → (∀ j,j < n → P.getD j [] ∈ L) → (P.all fun p=>decide (p ∈ L)) = true:=by
 intro n hn h
 rw [List.all_eq_true]
 intro p hp
 obtain ⟨j,hj,rfl⟩:=List.getElem_of_mem hp
 have:=h j (by omega)
 rw [List.getD_eq_getElem?_getD,List.getElem?_eq_getElem hj] at this
 exact decide_eq_true this
theorem ziq {L P:List (List Nat)} {k:Nat} (hk:k < P.length) (h:P.getD k [] ∉ L):(P.all fun p=>decide (p ∈ L)) = false:=by
 rw [List.all_eq_false]
 refine ⟨P.getD k [],?_,by simpa using h⟩
 rw [List.getD_eq_getElem?_getD,List.getElem?_eq_getElem hk]
 exact List.getElem_mem hk
theorem zew (X:Nat → Prop) (gs:Nat) (vo vw vn vq:Value) (s:DagN) (o:OpN) (pa:Option Addr) (pc:Nat) (w:World) (h:RefAt X gs vo vw vn vq s w) (ho:o.d.ref.length = 32) (hP:Ids o.preds) (hp:IAt pa o.preds w) (hq:o.preds.length ≤ 1000000) (hb:s.ops.length ≤ 1000000) :
 Calls Tryz.prog 40 #[.pointer (some ⟨gs,0,none⟩),.agg (opV o pa pc)] w fun e w'=>e = .returned (.bool (z1e s.names o)) ∧ Below w.heap.size w w':=by
 obtain ⟨L,hLE⟩:∃ L,s.names = L:=⟨_,rfl⟩
 have HAT:=Lib.hid (fun (n:List Nat) (hn:n.length = 32) (hnl:∀ y ∈ n,y < 256) (w1:World) (b:Below w.heap.size w w1)=>show Calls Tryz.prog 38 #[.pointer (some ⟨gs,0,none⟩),.agg (z05 .u8 n).toArray] w1 fun e w'=>e = .returned (.int .i64 (atN L n)) ∧ Below w1.heap.size w1 w' from hLE ▸ zcw X gs vo vw vn vq s n w1 (h.below b) hn hnl hb)
 have HWE:=Shut.mk (show z1e s.names o = o.preds.all fun p=>decide (p ∈ L) by rw [z1e,hLE])
 obtain ⟨W,hW⟩:∃ W,z1e s.names o = W:=⟨_,rfl⟩
 rw [hW] at HWE ⊢
 have b1:Below w.heap.size w (w.alloc (.cells (opV o pa pc) 49)):=(Below.refl _ _).alloc (Nat.le_refl _) _
 have x1:Cells w.heap.size 49 (opV o pa pc) (w.alloc (.cells (opV o pa pc) 49)):=heap_alloc_new w _
 have HB:=Lib.hid b1
 have HX:=Lib.hid x1
 have HPA:=Lib.hid (hp.below b1)
 have HO:=Lib.hid ho
 have HPI:=Lib.hid hP
 obtain ⟨m,hme⟩:∃ m,o.preds.length = m:=⟨_,rfl⟩
 have HM:=Shut.mk hme
 rw [hme] at hq
 clear h hLE hW b1 x1 hp ho hP hme hb
 go_enter Tryz.func40,Tryz.ntmps40
 go_upto_region 1 with (fail)
 obtain ⟨w1,hw1⟩:∃ x,x = w.alloc (.cells (opV o pa pc) 49):=⟨_,rfl⟩
 rw [← hw1] at HB HX HPA ⊢
 clear hw1
 obtain ⟨_,_,_,c37⟩:=z0d HO.out HX.out
 rw [HM.out] at c37
 go_wp2_with fail
 clear c37
 go_loopw [10] (fun i wr=>∃ k:Nat,k ≤ m ∧ i = .int .i64 k ∧ (∀ j,j < k → o.preds.getD j [] ∈ L) ∧ Below w1.heap.size w1 wr) (fun i _=>m - (intOf i).toNat)
 case atStart=>exact ⟨0,Nat.zero_le _,rfl,fun j hj=>by omega,Below.refl _ _⟩
 case round =>
  obtain ⟨k,hk,rfl,hj,hbw⟩:=hrel
  have HJ:=Lib.hid hj
  have HBW:=Lib.hid hbw
  have HPW:=Lib.hid (HPA.out.below hbw)
  clear hj hbw
  by_cases hlt:k < m
  ·obtain ⟨b,ob,rfl,hbl⟩:=HPW.out.some (by rw [HM.out];omega)
   have g1:=HPW.out.get (i:=k) (by rw [HM.out];omega)
   have i1:=Ids.getD HPI.out (i:=k) (by rw [HM.out];omega)
   obtain ⟨x,hx⟩:∃ x,o.preds.getD k [] = x:=⟨_,rfl⟩
   rw [hx] at g1 i1
   have HXE:=Shut.mk hx
   have HG1:=Lib.hid g1
   have HS1:=Lib.hid (show (Tryz.prog.info? 45).map (·.size) = some x.length by rw [i1.1];exact Tryz.sizeI)
   have HL2:=Lib.hid (show (List.replicate 32 0).length = x.length by rw [i1.1];rfl)
   have HC:=Lib.hid (fun w1 b=>HAT.out x i1.1 i1.2 w1 b)
   obtain ⟨q,hq2⟩:∃ q,atN L x = q:=⟨_,rfl⟩
   rw [hq2] at HC
   have HQ:=Shut.mk (show decide (q < 0) = !decide (x ∈ L) by rw [← hq2,atN_neg])
   clear hx g1 i1 hbl hq2
   go_wp2_with (first
    | (refine z0a rfl 45 _ rfl b (ob + k * 32) x _ rfl HG1.out Tryz.underlying45 rfl HS1.out ?_)
    | (refine z06 rfl 45 _ _ rfl rfl wr.heap.size .u8 (List.replicate 32 0) x 45 rfl rfl (heap_alloc_new wr _) HS1.out HL2.out ?_))
   intro w5 hc' hb'
   have HY:=Lib.hid hc'.out
   have HB5:=Lib.hid (show Below w1.heap.size w1 w5 from But.toBelow (HBW.out.alloc HBW.out.size _) hb'.out HBW.out.size (Nat.le_trans HBW.out.size (by rw [World.size_alloc];exact Nat.le_succ _)))
   clear hc' hb' HL2
   go_wp2_with (refine z07 rfl 45 (.tmp 6) rfl wr.heap.size .u8 _ 45 _ rfl HY.out Tryz.underlying45 rfl HS1.out ?_)
   refine (HC.out _ (HB.out.trans (HB5.out.mono HB.out.size))).mono ?_
   rintro e w6 ⟨rfl,hb6⟩
   have HB6:=Lib.hid (HB5.out.trans (hb6.mono HB5.out.size))
   clear hb6
   by_cases hin:x ∈ L
   ·have hqn:¬ q < 0:=by have:=HQ.out;simpa [hin] using this
    have HIN:=Lib.hid hin
    clear hin
    go_wp2_with fail
    refine ⟨⟨k + 1,by omega,by go_num,fun i hi=>?_,HB6.out⟩,by simp [intOf];omega⟩
    by_cases hqj:i = k
    ·subst hqj
     rw [HXE.out]
     exact HIN.out
    ·exact HJ.out i (by omega)
   ·have hqn:q < 0:=by have:=HQ.out;simpa [hin] using this
    have HR:=Shut.mk (show W = false by rw [HWE.out];exact ziq (by rw [HM.out];exact hlt) (by rw [HXE.out];exact hin))
    clear hin
    go_wp2_with fail
    go_ret
    exact ⟨by rw [HR.out];rfl,HB.out.trans (HB6.out.mono HB.out.size)⟩
  ·obtain rfl:k = m:=by omega
   have HR:=Shut.mk (show W = true by rw [HWE.out];exact zgl k HM.out HJ.out)
   go_wp2_with fail
   go_ret
   exact ⟨by rw [HR.out];rfl,HB.out.trans (HBW.out.mono HB.out.size)⟩
theorem zfa {ops:List OpN} {P:List (List Nat)} {k:Nat} (hk:k < P.length):z6u ops (P.take (k + 1)) = if z6u ops (P.take k) < z1m ops (P.getD k []) then z1m ops (P.getD k []) else z6u ops (P.take k):=by
 rw [z6u,z6u,List.take_succ_eq_append_getElem hk,List.foldl_append,List.foldl_cons,List.foldl_nil,List.getD_eq_getElem?_getD,List.getElem?_eq_getElem hk]
 rfl
theorem zla {ops:List OpN} {x:List Nat} (h:x ∈ ops.map z02):∃ (q:Nat) (y:OpN),q < ops.length ∧ atN (ops.map z02) x = (q:Int) ∧ ops[q]? = some y ∧ z02 y = x ∧ z1m ops x = y.depth:=by
 have hi:=List.idxOf_lt_length_of_mem h
 have hl:(ops.map z02).length = ops.length:=List.length_map _
 have hg:(ops.map z02)[(ops.map z02).idxOf x] = x:=List.getElem_idxOf hi
 rw [hl] at hi
 refine ⟨(ops.map z02).idxOf x,ops[(ops.map z02).idxOf x],hi,by rw [atN,if_pos h],List.getElem?_eq_getElem hi,?_,?_⟩
 ·rw [List.getElem_map] at hg
  exact hg
 ·rw [z1m,List.getElem?_eq_getElem hi]
  rfl
theorem zfo {x:OpN} {pa:Option Addr} {pc:Nat} (hr:x.d.ref.length = 32):(opL x pa pc)[36]? = some (.int .i64 x.depth):=by
 rw [opL,List.getElem?_append_right (by rw [z0r hr];omega),z0r hr]
 rfl
theorem zb3 (X:Nat → Prop) (gs:Nat) (vo vw vn vq:Value) (s:DagN) (o:OpN) (pa:Option Addr) (pc:Nat) (w:World) (h:RefAt X gs vo vw vn vq s w) (hrr:∀ x ∈ s.ops,x.d.ref.length = 32) (ho:o.d.ref.length = 32) (hP:Ids o.preds) (hp:IAt pa o.preds w) (hq:o.preds.length ≤ 1000000) (hb:s.ops.length ≤ 1000000)
 (hsh:s.Shallow) (hwh:∀ x ∈ o.preds,x ∈ s.names) :
 Calls Tryz.prog 41 #[.pointer (some ⟨gs,0,none⟩),.agg (opV o pa pc)] w fun e w'=>e = .returned (.int .i64 (z1h s.ops o)) ∧ Below w.heap.size w w':=by
 obtain ⟨vb,cap,rfl⟩:=h.ops.form
 have hat:=h.ops.at
 have HAT:=Lib.hid (fun (n:List Nat) (hn:n.length = 32) (hnl:∀ y ∈ n,y < 256) (w1:World) (b:Below w.heap.size w w1)=>zcw X gs _ vw vn vq s n w1 (h.below b) hn hnl hb)
 have HMD:=Lib.hid (fun P:List (List Nat)=>show 0 ≤ z6u s.ops P ∧ z6u s.ops P ≤ 1000000 from ⟨(z8f hsh (by omega) P).1,Int.le_trans (z8f hsh (by omega) P).2 (by omega)⟩)
 have hc:=h.cell.1
 have hgs:=h.cells.lt
 have b1:Below w.heap.size w (w.alloc (.cells (opV o pa pc) 49)):=(Below.refl _ _).alloc (Nat.le_refl _) _
 have x1:Cells w.heap.size 49 (opV o pa pc) (w.alloc (.cells (opV o pa pc) 49)):=heap_alloc_new w _
 have HB:=Lib.hid b1
 have HX:=Lib.hid x1
 have HPA:=Lib.hid (hp.below b1)
 have HO:=Lib.hid ho
 have HPI:=Lib.hid hP
 have HRR:=Lib.hid hrr
 have HWH:=Lib.hid hwh
 obtain ⟨N,hN⟩:∃ N,s.ops.length = N:=⟨_,rfl⟩
 have HN:=Shut.mk hN
 rw [hN] at hc
 have HC:=Lib.hid (fun (w1:World) (b:Below w.heap.size w w1)=>(b.cell (p:=⟨gs,0,none⟩) hgs).trans hc)
 have HOA:=Lib.hid (fun (w1:World) (b:Below w.heap.size w w1)=>hat.below b)
 obtain ⟨m,hme⟩:∃ m,o.preds.length = m:=⟨_,rfl⟩
 have HM:=Shut.mk hme
 rw [hme] at hq
 rw [hN] at hb
 have HDE:=Shut.mk (show z1h s.ops o = z6u s.ops o.preds + 1 from rfl)
 obtain ⟨DD,hDD⟩:∃ DD,z1h s.ops o = DD:=⟨_,rfl⟩
 rw [hDD] at HDE ⊢
 clear h hat b1 x1 hp ho hP hme hrr hwh hsh hc hgs hN hDD
 go_enter Tryz.func41,Tryz.ntmps41
 go_upto_region 1 with (fail)
 obtain ⟨w1,hw1⟩:∃ x,x = w.alloc (.cells (opV o pa pc) 49):=⟨_,rfl⟩
 rw [← hw1] at HB HX HPA ⊢
 clear hw1
 obtain ⟨_,_,_,c37⟩:=z0d HO.out HX.out
 rw [HM.out] at c37
 go_wp2_with fail
 clear c37
 go_loopw [5,12] (fun v i wr=>∃ k:Nat,k ≤ m ∧ i = .int .i64 k ∧ v = .int .i64 (z6u s.ops (o.preds.take k)) ∧ Below w1.heap.size w1 wr) (fun _ i _=>m - (intOf i).toNat)
 case atStart=>exact ⟨0,Nat.zero_le _,rfl,rfl,Below.refl _ _⟩
 case round =>
  obtain ⟨k,hk,rfl,rfl,hbw⟩:=hrel
  have HBW:=Lib.hid hbw
  have HPW:=Lib.hid (HPA.out.below hbw)
  clear hbw
  by_cases hlt:k < m
  ·obtain ⟨b,ob,rfl,hbl⟩:=HPW.out.some (by rw [HM.out];omega)
   have g1:=HPW.out.get (i:=k) (by rw [HM.out];omega)
   have i1:=Ids.getD HPI.out (i:=k) (by rw [HM.out];omega)
   have HST:=Shut.mk (zfa (ops:=s.ops) (P:=o.preds) (k:=k) (by rw [HM.out];omega))
   have hmem:o.preds.getD k [] ∈ s.names:=HWH.out _ (by rw [List.getD_eq_getElem?_getD,List.getElem?_eq_getElem (by rw [HM.out];exact hlt)];exact List.getElem_mem _)
   obtain ⟨x,hx⟩:∃ x,o.preds.getD k [] = x:=⟨_,rfl⟩
   rw [hx] at g1 i1 HST hmem
   obtain ⟨q,y,hqN,haq,hy,_,hdy⟩:=zla hmem
   rw [HN.out] at hqN
   obtain ⟨bo,oo,rfl,hbo,hO⟩:=(HOA.out w (Below.refl _ _)).get hy
   obtain ⟨py,cy,hr1,_,_⟩:=hO
   have hd0:=hr1 36 _ (zfo (HRR.out y (List.mem_of_getElem? hy)))
   rw [hdy] at HST
   obtain ⟨D,hD⟩:∃ D,y.depth = D:=⟨_,rfl⟩
   rw [hD] at HST hd0
   obtain ⟨M,hM⟩:∃ M,z6u s.ops (o.preds.take k) = M:=⟨_,rfl⟩
   rw [hM] at HST ⊢
   have HD0:=Lib.hid (fun (w1:World) (b:Below w.heap.size w w1)=>(b.cell (p:=⟨bo,oo + q * 38 + 36,none⟩) hbo).trans hd0)
   have HG1:=Lib.hid g1
   have HS1:=Lib.hid (show (Tryz.prog.info? 45).map (·.size) = some x.length by rw [i1.1];exact Tryz.sizeI)
   have HL2:=Lib.hid (show (List.replicate 32 0).length = x.length by rw [i1.1];rfl)
   have HCA:=Lib.hid (fun w1 b=>show Calls Tryz.prog 38 #[.pointer (some ⟨gs,0,none⟩),.agg (z05 .u8 x).toArray] w1 fun e w'=>e = .returned (.int .i64 (q:Int)) ∧ Below w1.heap.size w1 w' from haq ▸ HAT.out x i1.1 i1.2 w1 b)
   clear hx g1 i1 hbl hmem haq hy hdy hr1 hd0 hD hM
   go_wp2_with (first
    | (refine z0a rfl 45 _ rfl b (ob + k * 32) x _ rfl HG1.out Tryz.underlying45 rfl HS1.out ?_)
    | (refine z06 rfl 45 _ _ rfl rfl wr.heap.size .u8 (List.replicate 32 0) x 45 rfl rfl (heap_alloc_new wr _) HS1.out HL2.out ?_))
   intro w5 hc' hb'
   have HY:=Lib.hid hc'.out
   have HB5:=Lib.hid (show Below w1.heap.size w1 w5 from But.toBelow (HBW.out.alloc HBW.out.size _) hb'.out HBW.out.size (Nat.le_trans HBW.out.size (by rw [World.size_alloc];exact Nat.le_succ _)))
   clear hc' hb' HL2
   have HB0:=Lib.hid (HB.out.trans (HB5.out.mono HB.out.size))
   have HC5:=Lib.hid (fun (w':World) (b:Below w5.heap.size w5 w')=>HC.out w' (HB0.out.trans (b.mono HB0.out.size)))
   have HD5:=Lib.hid (fun (w':World) (b:Below w5.heap.size w5 w')=>HD0.out w' (HB0.out.trans (b.mono HB0.out.size)))
   have HY5:=Lib.hid (fun (w':World) (b:Below w5.heap.size w5 w')=>HY.out.below b)
   have HCA5:=Lib.hid (fun (w':World) (b:Below w5.heap.size w5 w')=>HCA.out w' (HB0.out.trans (b.mono HB0.out.size)))
   clear HCA HD0 HY
   go_upto_region 5 with (fail)
   refine z0h (fun w'=>Below w5.heap.size w5 w') (by kernel_rfl) (by kernel_rfl) (Below.refl _ _).drew ?_
   repeat (first
    | go_big_quiet_skip
    | (go_big_quiet_want;refine z03 50 _ rfl ⟨gs,0,none⟩ _ rfl HC5.out Tryz.isAgg50 ?_;go_big_quiet_on;simp only [Act.put,zS,zA,zB])
    | (go_big_quiet_want;refine z0y 45 _ rfl wr.heap.size .u8 x 45 _ rfl HY5.out Tryz.underlying45 rfl HS1.out ?_;go_big_quiet_on;simp only [Act.put,zS,zA,zB])
    | (go_big_quiet_want;refine z03 3 _ rfl ⟨bo,oo + q * 38 + 36,none⟩ _ rfl HD5.out Tryz.isAgg3 ?_;go_big_quiet_on;simp only [Act.put,zS,zA,zB])
    | go_big_quiet_step ((intro hs';first
     | (go_at_call 38;exact (HCA5.out _ hs').mono fun e w' h=>⟨h.1,hs'.trans (h.2.mono hs'.size)⟩)
     | rfl)))
   refine wpQuiet_nil ?_
   intro w6 hb6
   have HB6:=Lib.hid (HB5.out.trans (hb6.mono HB5.out.size))
   clear hb6 HC5 HD5 HY5 HCA5
   by_cases hmd:M < D
   ·rw [if_pos hmd] at HST
    go_wp2_with fail
    exact ⟨⟨k + 1,by omega,by go_num,by rw [HST.out],HB6.out⟩,by simp [intOf];omega⟩
   ·rw [if_neg hmd] at HST
    go_wp2_with fail
    exact ⟨⟨k + 1,by omega,by go_num,by rw [HST.out],HB6.out⟩,by simp [intOf];omega⟩
  ·obtain rfl:k = m:=by omega
   have HR:=Shut.mk (show DD = z6u s.ops (o.preds.take k) + 1 by rw [HDE.out,List.take_of_length_le (Nat.le_of_eq HM.out)])
   have hmd:=HMD.out (o.preds.take k)
   obtain ⟨M,hM⟩:∃ M,z6u s.ops (o.preds.take k) = M:=⟨_,rfl⟩
   rw [hM] at HR hmd ⊢
   obtain ⟨hm1,hm2⟩:=hmd
   clear hM
   go_wp2_with fail
   go_ret
   exact ⟨by rw [HR.out];rfl,HB.out.trans (HBW.out.mono HB.out.size)⟩
end Go.Proofs.YtjomgkiphecljaaGreatDoor
