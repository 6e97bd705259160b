/-
  Joined: Name, the developers' and the document's.; Rows of operations whose names lie off certain blocks (X: what may yet turn): read, pushed, appended.; Rows of operations with their names (layer 11's 'placed'); a row of operations made whole, and filled one by one.; Rows of operations in their places (layer 12's 'placed'): an operation, the places of its Preds, a number, whether it is dropped.
-/
import Derived.Sort.Grow
import Derived.Test.YtjomgkiphecljaaGreatDoorJ01
import Derived.Test.YtjomgkiphecljaaGreatDoorJ03
import Derived.Test.YtjomgkiphecljaaGreatDoorJ04
import Derived.Test.YtjomgkiphecljaaGreatDoorJ05
import Derived.Test.YtjomgkiphecljaaGreatDoorJ06
import Derived.Test.YtjomgkiphecljaaGreatDoorJ09
set_option maxRecDepth 100000
set_option maxHeartbeats 4000000
namespace Go.Proofs.YtjomgkiphecljaaGreatDoor
open Go.RowKit Go.BigFrame
theorem z2y (o:OpN):IdOk (z02 o):=⟨z3z _,shaN_lt _⟩
theorem zl5 (w:World) (r:List UInt8):StrsAt (some ⟨w.heap.size,0,none⟩) [r] (w.alloc (.cells #[.string ⟨r.toArray⟩] 9)):=by
 refine z1r (B:=w.heap.size) (c:=1) ?_
 exact World.ownsRow_lit (base:=w.heap.size) (e:=9) (size:=1) w #[.string ⟨r.toArray⟩] 1 (Nat.le_refl _) (by unfold maxLen;omega) rfl
theorem zbz {o:OpN} (h:o.Fit):(z2q [[111,112],opB o]).length ≤ 10000:=by
 have h1:=zhe h
 rw [z3j]
 simp only [List.length_cons,List.length_nil,Nat.zero_add,Nat.reduceAdd,z5q,List.length_append]
 have e2:(z1p []).length = 0:=rfl
 have a0:=z62 (n:=2) (by decide)
 have a1:=z2s (t:=[111,112]) (by simp)
 have a2:=z2s (t:=opB o) (by omega)
 simp only [List.length_cons,List.length_nil,Nat.zero_add,Nat.reduceAdd] at a1
 omega
theorem zkt (o:OpN) (pa:Option Addr) (pc:Nat) (w:World) (ho:o.Fit) (hp:IAt pa o.preds w) (hk:KAt w) :
 Calls Tryz.prog 27 #[.agg (opV o pa pc)] w fun e w'=>e = .returned (.agg (z05 .u8 (z02 o)).toArray) ∧ Below w.heap.size w w':=by
 have hb1:Below w.heap.size w (w.alloc (.cells (opV o pa pc) 49)):=(Below.refl _ _).alloc (Nat.le_refl _) _
 have hx1:Cells w.heap.size 49 (opV o pa pc) (w.alloc (.cells (opV o pa pc) 49)):=heap_alloc_new w _
 have hs1:(w.alloc (.cells (opV o pa pc) 49)).heap.size = w.heap.size + 1:=World.size_alloc _ _
 have hb2:Below (w.alloc (.cells (opV o pa pc) 49)).heap.size (w.alloc (.cells (opV o pa pc) 49)) ((w.alloc (.cells (opV o pa pc) 49)).alloc (.cells (z05 .u8 zeroI).toArray 45)):=(Below.refl _ _).alloc (Nat.le_refl _) _
 have hx2:Blk (w.alloc (.cells (opV o pa pc) 49)).heap.size 45 .u8 zeroI ((w.alloc (.cells (opV o pa pc) 49)).alloc (.cells (z05 .u8 zeroI).toArray 45)):=heap_alloc_new _ _
 rw [hs1] at hx2
 have hbb:=hb1.trans (hb2.mono hb1.size)
 have HX:=Lib.hid (hx1.below hb2)
 have HY:=Lib.hid hx2
 have HB:=Lib.hid hbb
 have HP:=Lib.hid (hp.below hbb)
 have HK:=Lib.hid (hk.below hbb)
 have HF:=Lib.hid ho
 have HSV:=Lib.hid (show (Tryz.prog.info? 49).map (·.size) = some (opV o pa pc).size by rw [z08 ho.ok.ref.1];exact Tryz.sizeO)
 clear hb1 hx1 hs1 hb2 hx2 hbb hp hk ho
 go_enter Tryz.func27,Tryz.ntmps27
 go_upto_region 1 with (fail)
 change Code.wp _ _ _ _ ((w.alloc (.cells (opV o pa pc) 49)).alloc (.cells (z05 .u8 zeroI).toArray 45))
 obtain ⟨w1,hw1⟩:∃ x,x = (w.alloc (.cells (opV o pa pc) 49)).alloc (.cells (z05 .u8 zeroI).toArray 45):=⟨_,rfl⟩
 rw [← hw1] at HX HY HB HP HK ⊢
 clear hw1
 go_wp2_with (refine z01 rfl 49 _ rfl w.heap.size (opV o pa pc) 49 _ rfl HX.out Tryz.underlying49 rfl HSV.out ?_)
 refine (zlh o pa pc w1 HF.out HP.out).mono ?_
 rintro e w2 ⟨rfl,hb⟩
 have HY2:=Lib.hid (HY.out.below hb)
 have HB2:=Lib.hid (HB.out.trans (hb.mono HB.out.size))
 have HK2:=Lib.hid (HK.out.below hb)
 clear hb HX HY HB HP HK
 have HSM:=Lib.hid (dev_sum [111,112] (some ⟨w2.heap.size,0,none⟩) 1 [opB o] _ (zl5 w2 (opB o)) (fun h=>by cases h) (by simp) (by have:=zbz HF.out;omega) (HK2.out.below ((Below.refl _ _).alloc (Nat.le_refl _) _)))
 rw [show z7k (z2q [[111,112],opB o]) = z02 o from rfl] at HSM
 have HNL:=Lib.hid (z2y o).1
 obtain ⟨N,hN⟩:∃ N,z02 o = N:=⟨_,rfl⟩
 have HNE:=Shut.mk hN
 rw [hN] at HSM HNL
 clear hN
 go_wp2_with fail
 refine HSM.out.mono ?_
 rintro e w3 ⟨rfl,hb3⟩
 have hb:Below w2.heap.size w2 w3:=((Below.refl _ w2).alloc (Nat.le_refl _) _).trans (hb3.mono (by simp))
 have HY3:=Lib.hid (HY2.out.below hb)
 have HB3:=Lib.hid (HB2.out.trans (hb.mono HB2.out.size))
 have HI:=Lib.hid (show (Tryz.prog.info? 45).map (·.size) = some N.length by rw [HNL.out];exact Tryz.sizeI)
 have HL2:=Lib.hid (show zeroI.length = N.length by rw [HNL.out];rfl)
 clear hb hb3 HY2 HB2 HK2 HSM
 go_wp2_with (refine z06 rfl 45 _ _ rfl rfl (w.heap.size + 1) .u8 zeroI N 45 rfl rfl HY3.out HI.out HL2.out ?_)
 intro w4 hc hb
 have HC4:=Lib.hid (show Blk (w.heap.size + 1) 45 .u8 N w4 from hc.out)
 have HB4:=Lib.hid (show Below w.heap.size w w4 from But.toBelow HB3.out hb.out (by omega) HB3.out.size)
 clear hc hb HY3 HB3
 go_wp2_with fail
 exact bodyPost_ret (z2c rfl _ _ (w.heap.size + 1) .u8 _ 45 _ rfl HC4.out Tryz.underlying45 rfl HI.out) rfl ⟨by rw [HNE.out],HB4.out⟩
theorem z4a (o:OpN) (pa:Option Addr) (pc:Nat) (w:World) (ho:o.Fit) (hp:IAt pa o.preds w) :
 Calls Tryz.prog 35 #[.agg (opV o pa pc)] w fun e w'=>e = .returned (.agg (z05 .u8 (z02 o)).toArray) ∧ Below w.heap.size w w':=by
 have hb1:Below w.heap.size w (w.alloc (.cells (opV o pa pc) 49)):=(Below.refl _ _).alloc (Nat.le_refl _) _
 have hx1:Cells w.heap.size 49 (opV o pa pc) (w.alloc (.cells (opV o pa pc) 49)):=heap_alloc_new w _
 have hs1:(w.alloc (.cells (opV o pa pc) 49)).heap.size = w.heap.size + 1:=World.size_alloc _ _
 have hb2:Below (w.alloc (.cells (opV o pa pc) 49)).heap.size (w.alloc (.cells (opV o pa pc) 49)) ((w.alloc (.cells (opV o pa pc) 49)).alloc (.cells (z05 .u8 zeroI).toArray 45)):=(Below.refl _ _).alloc (Nat.le_refl _) _
 have hx2:Blk (w.alloc (.cells (opV o pa pc) 49)).heap.size 45 .u8 zeroI ((w.alloc (.cells (opV o pa pc) 49)).alloc (.cells (z05 .u8 zeroI).toArray 45)):=heap_alloc_new _ _
 rw [hs1] at hx2
 have hbb:=hb1.trans (hb2.mono hb1.size)
 have HX:=Lib.hid (hx1.below hb2)
 have HY:=Lib.hid hx2
 have HB:=Lib.hid hbb
 have HP:=Lib.hid (hp.below hbb)
 have HF:=Lib.hid ho
 have HSV:=Lib.hid (show (Tryz.prog.info? 49).map (·.size) = some (opV o pa pc).size by rw [z08 ho.ok.ref.1];exact Tryz.sizeO)
 clear hb1 hx1 hs1 hb2 hx2 hbb hp ho
 go_enter Tryz.func35,Tryz.ntmps35
 go_upto_region 1 with (fail)
 change Code.wp _ _ _ _ ((w.alloc (.cells (opV o pa pc) 49)).alloc (.cells (z05 .u8 zeroI).toArray 45))
 obtain ⟨w1,hw1⟩:∃ x,x = (w.alloc (.cells (opV o pa pc) 49)).alloc (.cells (z05 .u8 zeroI).toArray 45):=⟨_,rfl⟩
 rw [← hw1] at HX HY HB HP ⊢
 clear hw1
 go_wp2_with (refine z01 rfl 49 _ rfl w.heap.size (opV o pa pc) 49 _ rfl HX.out Tryz.underlying49 rfl HSV.out ?_)
 refine (zk5 o pa pc w1 HF.out HP.out).mono ?_
 rintro e w2 ⟨rfl,hb⟩
 have HY2:=Lib.hid (HY.out.below hb)
 have HB2:=Lib.hid (HB.out.trans (hb.mono HB.out.size))
 clear hb HX HY HB HP
 have HSM:=Lib.hid (ref_sum [111,112] (some ⟨w2.heap.size,0,none⟩) 1 [opB o] _ (zl5 w2 (opB o)) (fun h=>by cases h) (by simp) (by have:=zbz HF.out;omega))
 rw [show z7k (z2q [[111,112],opB o]) = z02 o from rfl] at HSM
 have HNL:=Lib.hid (z2y o).1
 obtain ⟨N,hN⟩:∃ N,z02 o = N:=⟨_,rfl⟩
 have HNE:=Shut.mk hN
 rw [hN] at HSM HNL
 clear hN
 go_wp2_with fail
 refine HSM.out.mono ?_
 rintro e w3 ⟨rfl,hb3⟩
 have hb:Below w2.heap.size w2 w3:=((Below.refl _ w2).alloc (Nat.le_refl _) _).trans (hb3.mono (by simp))
 have HY3:=Lib.hid (HY2.out.below hb)
 have HB3:=Lib.hid (HB2.out.trans (hb.mono HB2.out.size))
 have HI:=Lib.hid (show (Tryz.prog.info? 45).map (·.size) = some N.length by rw [HNL.out];exact Tryz.sizeI)
 have HL2:=Lib.hid (show zeroI.length = N.length by rw [HNL.out];rfl)
 clear hb hb3 HY2 HB2 HSM
 go_wp2_with (refine z06 rfl 45 _ _ rfl rfl (w.heap.size + 1) .u8 zeroI N 45 rfl rfl HY3.out HI.out HL2.out ?_)
 intro w4 hc hb
 have HC4:=Lib.hid (show Blk (w.heap.size + 1) 45 .u8 N w4 from hc.out)
 have HB4:=Lib.hid (show Below w.heap.size w w4 from But.toBelow HB3.out hb.out (by omega) HB3.out.size)
 clear hc hb HY3 HB3
 go_wp2_with fail
 exact bodyPost_ret (z2c rfl _ _ (w.heap.size + 1) .u8 _ 45 _ rfl HC4.out Tryz.underlying45 rfl HI.out) rfl ⟨by rw [HNE.out],HB4.out⟩
def OffX (X:Nat → Prop) (pa:Option Addr) (L:List (List Nat)):Prop:=∀ a,pa = some a → L ≠ [] → ¬ X a.block
theorem OffX.mono {X Y:Nat → Prop} {pa:Option Addr} {L:List (List Nat)} (h:OffX X pa L) (k:∀ b,Y b → X b):OffX Y pa L:=fun a ha h0 hy=>h a ha h0 (k _ hy)
theorem OffX.fresh {X:Nat → Prop} {pa:Option Addr} {L:List (List Nat)} {w:World} (h:OffX X pa L) (hi:IAt pa L w):OffX (fun b=>X b ∨ w.heap.size ≤ b) pa L:=fun a ha h0 hy=>by
 rcases hy with hy | hy
 ·exact h a ha h0 hy
 ·have:=hi.lt h0 ha
  omega
theorem IAt.only {O:Nat → Prop} {pa:Option Addr} {L:List (List Nat)} {w w':World} (h:IAt pa L w) (k:Only O w w') (hO:OffX O pa L):IAt pa L w':=by
 rcases h with h | ⟨b,o,rfl,h2,h3⟩
 ·exact .inl h
 ·by_cases h0:L = []
  ·exact .inl h0
  ·exact .inr ⟨b,o,rfl,Nat.lt_of_lt_of_le h2 k.size,fun i hi j v hv=>(World.cell?_of_block (a:=⟨b,o + 32 * i + j,none⟩) (k.block b h2 (hO _ rfl h0))).trans (h3 i hi j v hv)⟩
def OpX (X:Nat → Prop) (b o:Nat) (x:OpN) (w:World):Prop:=∃ pa pc,w.rangeAt b o (opL x pa pc) ∧ IAt pa x.preds w ∧ OffX X pa x.preds
def OpsX (X:Nat → Prop) (ao:Option Addr) (L:List OpN) (w:World):Prop :=
 L = [] ∨ ∃ b o,ao = some ⟨b,o,none⟩ ∧ b < w.heap.size ∧ ∀ (i:Nat) (x:OpN),L[i]? = some x → OpX X b (o + i * 38) x w
theorem OpsX.below {X:Nat → Prop} {ao:Option Addr} {L:List OpN} {w w':World} (h:OpsX X ao L w) (hb:Below w.heap.size w w'):OpsX X ao L w':=by
 rcases h with h | ⟨b,o,h1,h2,h3⟩
 ·exact .inl h
 ·refine .inr ⟨b,o,h1,Nat.lt_of_lt_of_le h2 hb.size,fun i x hx=>?_⟩
  obtain ⟨pa,pc,q1,q2,q3⟩:=h3 i x hx
  exact ⟨pa,pc,z0c q1 hb h2,q2.below hb,q3⟩
theorem OpsX.get {X:Nat → Prop} {ao:Option Addr} {L:List OpN} {w:World} (h:OpsX X ao L w) {i:Nat} {x:OpN} (hx:L[i]? = some x):∃ b o,ao = some ⟨b,o,none⟩ ∧ b < w.heap.size ∧ OpX X b (o + i * 38) x w:=by
 rcases h with rfl | ⟨b,o,h1,h2,h3⟩
 ·cases hx
 ·exact ⟨b,o,h1,h2,h3 i x hx⟩
theorem OpsX.mono {X Y:Nat → Prop} {ao:Option Addr} {L:List OpN} {w:World} (h:OpsX X ao L w) (k:∀ b,Y b → X b):OpsX Y ao L w:=by
 rcases h with h | ⟨b,o,h1,h2,h3⟩
 ·exact .inl h
 ·refine .inr ⟨b,o,h1,h2,fun i x hx=>?_⟩
  obtain ⟨pa,pc,q1,q2,q3⟩:=h3 i x hx
  exact ⟨pa,pc,q1,q2,q3.mono k⟩
theorem OpsX.cells {X:Nat → Prop} {ad:Addr} {L:List OpN} {w:World} (h:OpsX X (some ad) L w) (hd:∀ x ∈ L,x.d.ref.length = 32) :
 ∃ C:List (List Value),Wide 38 C ∧ C.length = L.length ∧ (∀ j u,C.flatten[j]? = some u → w.cell? (ad.add j) = some u) ∧ ∀ (i:Nat) (x:OpN),L[i]? = some x → ∃ pa pc,C[i]? = some (opL x pa pc) ∧ IAt pa x.preds w ∧ OffX X pa x.preds:=by
 rcases h with rfl | ⟨b,o,h1,h2,h3⟩
 ·exact ⟨[],Wide.nil _,rfl,fun j u hu=>(by cases hu),fun i x hx=>(by cases hx)⟩
 ·cases h1
  have hE:∀ i,i < L.length → ∃ p:Option Addr × Nat,w.rangeAt b (o + i * 38) (opL (L.getD i z04) p.1 p.2) ∧ IAt p.1 (L.getD i z04).preds w ∧ OffX X p.1 (L.getD i z04).preds:=fun i hi=>by
   obtain ⟨pa,pc,hq⟩:=h3 i (L.getD i z04) (by rw [List.getD_eq_getElem?_getD,List.getElem?_eq_getElem hi];rfl)
   exact ⟨(pa,pc),hq⟩
  let F:Nat → List Value:=fun i=>if h:i < L.length then opL (L.getD i z04) (hE i h).choose.1 (hE i h).choose.2 else []
  have hF:∀ i (h:i < L.length),F i = opL (L.getD i z04) (hE i h).choose.1 (hE i h).choose.2:=fun i h=>by simp only [F,dif_pos h]
  have hW:Wide 38 ((List.range L.length).map F):=fun x hx=>by
   obtain ⟨i,hi,rfl⟩:=List.mem_map.1 hx
   have hi:=List.mem_range.1 hi
   rw [hF i hi]
   exact z14 (hd _ (by rw [List.getD_eq_getElem?_getD,List.getElem?_eq_getElem hi];exact List.getElem_mem hi))
  refine ⟨(List.range L.length).map F,hW,by simp,fun j u hu=>?_,fun i x hx=>?_⟩
  ·have hj:=(List.getElem?_eq_some_iff.1 hu).1
   rw [z40 hW,List.length_map,List.length_range] at hj
   obtain ⟨i,m,rfl,hm,hi⟩:=z9x (K:=38) (q:=j) (n:=L.length) (by decide)
   have hi:=hi hj
   rw [z3x hW (by simpa using hi) hm,List.getD_eq_getElem?_getD,List.getElem?_map,List.getElem?_range hi,Option.map_some,Option.getD_some,hF i hi] at hu
   have:=(hE i hi).choose_spec.1 m u hu
   rw [Addr.add_mid,show o + (38 * i + m) = o + i * 38 + m by omega]
   exact this
  ·have hi:=(List.getElem?_eq_some_iff.1 hx).1
   have hxi:L.getD i z04 = x:=by rw [List.getD_eq_getElem?_getD,hx];rfl
   have hsp:=(hE i hi).choose_spec
   have hFi:=hF i hi
   obtain ⟨p,hp⟩:∃ p,(hE i hi).choose = p:=⟨_,rfl⟩
   rw [hp] at hsp hFi
   rw [hxi] at hsp hFi
   exact ⟨p.1,p.2,by rw [List.getElem?_map,List.getElem?_range hi,Option.map_some,hFi],hsp.2.1,hsp.2.2⟩
def OwnX (X:Nat → Prop) (B:Nat) (e:TypeId) (v:Value) (L:List OpN) (w:World):Prop :=
 ∃ C:List (List Value),w.ownsRow B e 38 v L.length C.flatten ∧ Wide 38 C ∧ C.length = L.length ∧ ∀ (i:Nat) (x:OpN),L[i]? = some x → ∃ pa pc,C[i]? = some (opL x pa pc) ∧ IAt pa x.preds w ∧ OffX X pa x.preds
theorem OwnX.nil (X:Nat → Prop) (B:Nat) (e:TypeId) (w:World):OwnX X B e (.slice none 0 0) [] w:=⟨[],World.ownsRow_nil _ _ _ _,Wide.nil _,rfl,fun i x hx=>by cases hx⟩
theorem OwnX.lit (X:Nat → Prop) (e:TypeId) (w:World):OwnX X w.heap.size e (.slice (some ⟨w.heap.size,0,none⟩) 0 0) [] (w.alloc (.cells #[] e)) :=
 ⟨[],World.ownsRow_lit w #[] 0 (Nat.le_refl _) (by unfold maxLen;omega) rfl,Wide.nil _,rfl,fun i x hx=>by cases hx⟩
theorem OwnX.form {X:Nat → Prop} {B:Nat} {e:TypeId} {v:Value} {L:List OpN} {w:World} (h:OwnX X B e v L w):∃ ao cap,v = .slice ao L.length cap:=by
 obtain ⟨C,h,_⟩:=h
 rcases h.2 with ⟨hv,h0⟩ | ⟨g,cap,cur,hv,_⟩
 ·exact ⟨none,0,by rw [hv,h0]⟩
 ·exact ⟨some ⟨g,0,none⟩,cap,hv⟩
theorem OwnX.formB {X:Nat → Prop} {B:Nat} {e:TypeId} {v:Value} {L:List OpN} {w:World} (h:OwnX X B e v L w):v = .slice none 0 0 ∧ L = [] ∨ ∃ g cap,v = .slice (some ⟨g,0,none⟩) L.length cap ∧ L.length ≤ cap ∧ B ≤ g ∧ g < w.heap.size:=by
 obtain ⟨C,h,_⟩:=h
 rcases h.2 with ⟨hv,h0⟩ | ⟨g,cap,cur,hv,hB,hg,hc,_⟩
 ·exact .inl ⟨hv,List.length_eq_zero_iff.1 h0⟩
 ·exact .inr ⟨g,cap,hv,hc,hB,lt_of_block hg⟩
theorem OwnX.lt {X:Nat → Prop} {B:Nat} {e:TypeId} {v:Value} {L:List OpN} {w:World} (h:OwnX X B e v L w) {g:Nat} (hg:v.ownBlock = some g):B ≤ g ∧ g < w.heap.size:=by
 obtain ⟨C,h1,_⟩:=h
 exact World.ownsRow.lt h1 g hg
theorem OwnX.mono {X Y:Nat → Prop} {B B':Nat} {e:TypeId} {v:Value} {L:List OpN} {w:World} (h:OwnX X B e v L w) (k:∀ b,Y b → X b) (hB:B' ≤ B):OwnX Y B' e v L w:=by
 obtain ⟨C,h1,h2,h3,h4⟩:=h
 refine ⟨C,⟨h1.1,?_⟩,h2,h3,fun i x hx=>?_⟩
 ·rcases h1.2 with h0 | ⟨g,cap,cur,hv,hg,r⟩
  ·exact Or.inl h0
  ·exact Or.inr ⟨g,cap,cur,hv,Nat.le_trans hB hg,r⟩
 ·obtain ⟨pa,pc,q1,q2,q3⟩:=h4 i x hx
  exact ⟨pa,pc,q1,q2,q3.mono k⟩
theorem OwnX.below {X:Nat → Prop} {B:Nat} {e:TypeId} {v:Value} {L:List OpN} {w w':World} (h:OwnX X B e v L w) (k:Below w.heap.size w w'):OwnX X B e v L w':=by
 obtain ⟨C,h1,h2,h3,h4⟩:=h
 refine ⟨C,World.ownsRow.kept (row:=none) h1 ⟨k.os,k.tape,k.output,k.size,fun i hi _=>k.block i hi⟩ (Classical.em _),h2,h3,fun i x hx=>?_⟩
 obtain ⟨pa,pc,q1,q2,q3⟩:=h4 i x hx
 exact ⟨pa,pc,q1,q2.below k,q3⟩
theorem OwnX.only {X O:Nat → Prop} {B:Nat} {e:TypeId} {v:Value} {L:List OpN} {w w':World} (h:OwnX X B e v L w) (k:Only O w w') (hO:∀ b,O b → X b) (hv:∀ g,v.ownBlock = some g → ¬ O g):OwnX X B e v L w':=by
 obtain ⟨C,h1,h2,h3,h4⟩:=h
 refine ⟨C,⟨h1.1,?_⟩,h2,h3,fun i x hx=>?_⟩
 ·rcases h1.2 with h0 | ⟨g,cap,cur,he,hB,hg,r⟩
  ·exact .inl h0
  ·exact .inr ⟨g,cap,cur,he,hB,(k.block g (lt_of_block hg) (hv g (by rw [he];rfl))).trans hg,r⟩
 ·obtain ⟨pa,pc,q1,q2,q3⟩:=h4 i x hx
  exact ⟨pa,pc,q1,q2.only k (q3.mono hO),q3⟩
theorem OwnX.at {X:Nat → Prop} {B:Nat} {e:TypeId} {ao:Option Addr} {n c:Nat} {L:List OpN} {w:World} (h:OwnX X B e (.slice ao n c) L w):OpsX X ao L w:=by
 obtain ⟨C,h1,h2,h3,h4⟩:=h
 by_cases h0:L = []
 ·exact .inl h0
 ·rcases h1.2 with ⟨hv,hz⟩ | ⟨g,cap,cur,hv,hB,hcell,_⟩
  ·exact absurd (List.length_eq_zero_iff.1 hz) h0
  ·obtain rfl:ao = some ⟨g,0,none⟩:=by injection hv
   refine .inr ⟨g,0,rfl,lt_of_block hcell,fun i x hx=>?_⟩
   obtain ⟨pa,pc,q1,q2,q3⟩:=h4 i x hx
   refine ⟨pa,pc,fun j v hj=>?_,q2,q3⟩
   have hi:i < C.length:=(List.getElem?_eq_some_iff.1 q1).1
   have hcd:C.getD i [] = opL x pa pc:=by rw [List.getD_eq_getElem?_getD,q1];rfl
   have hj38:j < 38:=by
    have h5:=(List.getElem?_eq_some_iff.1 hj).1
    have h6:=h2.getD hi
    rw [hcd] at h6
    omega
   have hc:=World.ownsRow.cells h1 (g:=g) rfl (38 * i + j) v
   rw [z3x h2 hi hj38,hcd,Addr.add_lit,Nat.zero_add] at hc
   rw [Nat.zero_add,Nat.mul_comm]
   exact hc hj
theorem z1i {P:Program} {w:World} {ops:Array Oper} {rest:List Oper} {o:Oper} {a:Act} {Q:Exit → Act → World → Prop} (hgd:o.guard = none) (s x:Operand) (t e:TypeId)
 (ho:o.op = .call { callee:=.builtin .append,args:=#[s,x],argTypes:=#[t,t] })
 (B bytes:Nat) (z:Value) (hzs:z.cells.size = 38) (hby:bytes ≤ 1024) (ht:P.underlying t = some (.slice e)) (hinfo:(P.info? e).map (fun i=>(i.zero,i.size,i.bytes)) = some (some z,38,bytes))
 (X:Nat → Prop) (v:Value) (L M:List OpN) (hM:∀ x ∈ M,x.d.ref.length = 32) (ad:Addr) (n c:Nat) (hn:n = M.length) (hs:a.eval s = v) (hown:OwnX X B e v L w) (hX:∀ g,v.ownBlock = some g → X g) (hx:a.eval x = .slice (some ad) n c)
 (hsrc:OpsX X (some ad) M w) (h63:L.length + M.length ≤ 1000000) (hB:B ≤ w.heap.size)
 (h:∀ v' w',Hid (OwnX (fun b=>X b ∨ w.heap.size ≤ b) B e v' (L ++ M) w') → Hid (w.grownBy w' v.ownBlock) → Hid (v'.ownBlock = v.ownBlock ∨ v'.ownBlock = some w.heap.size) → wpList P ops Q rest (a.put o.dst v') w'):wpList P ops Q (o :: rest) a w:=by
 obtain ⟨i,hi,hz0,hz1,hz2⟩:=info_parts hinfo
 obtain ⟨C,h1,h2,h3,h4⟩:=hown
 obtain ⟨D,d1,d2,d3,d4⟩:=hsrc.cells hM
 subst hn
 refine wpList_append_own_at w hgd s x _ ho B e i z 38 bytes ht hi hz0 hz1 hz2 hzs (by decide) v L.length C.flatten hs h1 ad M.length c D.flatten hx (by rw [z40 d1,d2]) d3 (fun u hu=>?_) (by unfold maxLen;omega)
  (Nat.le_trans (Nat.mul_le_mul (show L.length + M.length ≤ 1000000 by omega) hby) (by decide)) hB ?_
 ·obtain ⟨r,hr,hur⟩:=List.mem_flatten.1 hu
  obtain ⟨q,hq,rfl⟩:=List.getElem_of_mem hr
  obtain ⟨pa,pc,e1,_⟩:=d4 q (M[q]'(by omega)) (List.getElem?_eq_getElem _)
  rw [List.getElem?_eq_getElem hq] at e1
  rw [Option.some.inj e1] at hur
  exact z79 _ _ _ u hur
 ·intro v' w' q1 q2 _ q3
  refine h v' w' ⟨C ++ D,?_,?_,by rw [List.length_append,List.length_append,h3,d2],fun j y hj=>?_⟩ q2 q3
  ·rw [List.length_append,List.flatten_append]
   exact q1
  ·intro y hy
   exact (List.mem_append.1 hy).elim (h2 y) (d1 y)
  ·have hoff:∀ (pa:Option Addr) (K:List (List Nat)),IAt pa K w → OffX X pa K → IAt pa K w' ∧ OffX (fun b=>X b ∨ w.heap.size ≤ b) pa K:=fun pa K hk hx=>by
    refine ⟨hk.grown q2 (fun a ha h0 e=>hx a ha h0 (hX a.block e)),hx.fresh hk⟩
   by_cases hjl:j < L.length
   ·rw [List.getElem?_append_left hjl] at hj
    obtain ⟨pa,pc,r1,r2,r3⟩:=h4 j y hj
    exact ⟨pa,pc,by rw [List.getElem?_append_left (by omega)];exact r1,hoff pa _ r2 r3⟩
   ·rw [List.getElem?_append_right (by omega)] at hj
    obtain ⟨pa,pc,r1,r2,r3⟩:=d4 _ y hj
    exact ⟨pa,pc,by rw [List.getElem?_append_right (by omega),h3];exact r1,hoff pa _ r2 r3⟩
open Go.Sort Go.Shelf
def plL (x:OpN) (pa:Option Addr) (pc:Nat):List Value:=opL x pa pc ++ z05 .u8 (z02 x)
def plV (x:OpN) (pa:Option Addr) (pc:Nat):Array Value:=(plL x pa pc).toArray
theorem z3m {x:OpN} {pa:Option Addr} {pc:Nat} (h:x.d.ref.length = 32):(plL x pa pc).length = 70:=by
 rw [plL,List.length_append,z14 h,z0s,z0z]
theorem zat (x:OpN) (pa:Option Addr) (pc:Nat):∀ u ∈ plL x pa pc,u.oneCell' = true:=fun u hu=>by
 rcases List.mem_append.1 hu with hu | hu
 ·exact z79 _ _ _ u hu
 ·exact z4v _ _ u hu
theorem zi5 {b o:Nat} {x:OpN} {pa:Option Addr} {pc:Nat} {w:World} (hr:x.d.ref.length = 32) (h:w.rangeAt b o (plL x pa pc)):w.rangeAt b o (opL x pa pc) ∧ w.rangeAt b (o + 38) (z05 .u8 (z02 x)):=by
 have hl:=z14 (pa:=pa) (pc:=pc) hr
 refine ⟨fun j v hj=>h j v ?_,fun j v hj=>?_⟩
 ·have hjl:=(List.getElem?_eq_some_iff.1 hj).1
  rw [plL,List.getElem?_append_left hjl]
  exact hj
 ·have:=h (38 + j) v (by rw [plL,List.getElem?_append_right (by omega),hl,Nat.add_sub_cancel_left];exact hj)
  rwa [show o + 38 + j = o + (38 + j) by omega]
theorem zc4 {b o:Nat} {x:OpN} {pa:Option Addr} {pc:Nat} {w:World} (hr:x.d.ref.length = 32) (h:w.rangeAt b o (opL x pa pc)):w.cell? ⟨b,o + 36,none⟩ = some (.int .i64 x.depth):=by
 have hl:=z0r hr
 exact h 36 _ (by rw [opL,List.getElem?_append_right (by omega),hl];rfl)
def OwnP (B:Nat) (e:TypeId) (v:Value) (L:List OpN) (w:World):Prop :=
 ∃ C:List (List Value),w.ownsRow B e 70 v L.length C.flatten ∧ Wide 70 C ∧ C.length = L.length ∧ ∀ (i:Nat) (x:OpN),L[i]? = some x → ∃ pa pc,C[i]? = some (plL x pa pc) ∧ IAt pa x.preds w ∧ ∀ a,pa = some a → x.preds ≠ [] → v.ownBlock ≠ some a.block
theorem OwnP.nil (B:Nat) (e:TypeId) (w:World):OwnP B e (.slice none 0 0) [] w:=⟨[],World.ownsRow_nil _ _ _ _,Wide.nil _,rfl,fun i x hx=>by cases hx⟩
theorem OwnP.form {B:Nat} {e:TypeId} {v:Value} {L:List OpN} {w:World} (h:OwnP B e v L w):∃ ao cap,v = .slice ao L.length cap:=by
 obtain ⟨C,h,_⟩:=h
 rcases h.2 with ⟨hv,h0⟩ | ⟨g,cap,cur,hv,_⟩
 ·exact ⟨none,0,by rw [hv,h0]⟩
 ·exact ⟨some ⟨g,0,none⟩,cap,hv⟩
theorem OwnP.formB {B:Nat} {e:TypeId} {v:Value} {L:List OpN} {w:World} (h:OwnP B e v L w):v = .slice none 0 0 ∧ L = [] ∨ ∃ g cap,v = .slice (some ⟨g,0,none⟩) L.length cap ∧ L.length ≤ cap ∧ B ≤ g ∧ g < w.heap.size:=by
 obtain ⟨C,h,_⟩:=h
 rcases h.2 with ⟨hv,h0⟩ | ⟨g,cap,cur,hv,hB,hg,hc,_⟩
 ·exact .inl ⟨hv,List.length_eq_zero_iff.1 h0⟩
 ·exact .inr ⟨g,cap,hv,hc,hB,lt_of_block hg⟩
theorem OwnP.lt {B:Nat} {e:TypeId} {v:Value} {L:List OpN} {w:World} (h:OwnP B e v L w) {g:Nat} (hg:v.ownBlock = some g):B ≤ g ∧ g < w.heap.size:=by
 obtain ⟨C,h1,_⟩:=h
 exact World.ownsRow.lt h1 g hg
theorem OwnP.below {B:Nat} {e:TypeId} {v:Value} {L:List OpN} {w w':World} (h:OwnP B e v L w) (k:Below w.heap.size w w'):OwnP B e v L w':=by
 obtain ⟨C,h1,h2,h3,h4⟩:=h
 refine ⟨C,World.ownsRow.kept (row:=none) h1 ⟨k.os,k.tape,k.output,k.size,fun i hi _=>k.block i hi⟩ (Classical.em _),h2,h3,fun i x hx=>?_⟩
 obtain ⟨pa,pc,q1,q2,q3⟩:=h4 i x hx
 exact ⟨pa,pc,q1,q2.below k,q3⟩
theorem OwnP.mono {B B':Nat} {e:TypeId} {v:Value} {L:List OpN} {w:World} (h:OwnP B e v L w) (hB:B' ≤ B):OwnP B' e v L w:=by
 obtain ⟨C,h1,h2,h3,h4⟩:=h
 refine ⟨C,⟨h1.1,?_⟩,h2,h3,h4⟩
 rcases h1.2 with h0 | ⟨g,cap,cur,hv,hg,r⟩
 ·exact Or.inl h0
 ·exact Or.inr ⟨g,cap,cur,hv,Nat.le_trans hB hg,r⟩
theorem OwnP.get {B g n c:Nat} {e:TypeId} {L:List OpN} {w:World} (h:OwnP B e (.slice (some ⟨g,0,none⟩) n c) L w) {i:Nat} {x:OpN} (hx:L[i]? = some x):g < w.heap.size ∧ ∃ pa pc,w.rangeAt g (70 * i) (plL x pa pc) ∧ IAt pa x.preds w ∧ ∀ a,pa = some a → x.preds ≠ [] → g ≠ a.block:=by
 obtain ⟨C,h1,h2,h3,h4⟩:=h
 obtain ⟨pa,pc,q1,q2,q3⟩:=h4 i x hx
 refine ⟨(World.ownsRow.lt h1 g rfl).2,pa,pc,fun j v hj=>?_,q2,fun a ha h0 e=>q3 a ha h0 (by rw [← e];rfl)⟩
 have hi:i < C.length:=(List.getElem?_eq_some_iff.1 q1).1
 have hcd:C.getD i [] = plL x pa pc:=by rw [List.getD_eq_getElem?_getD,q1];rfl
 have hj70:j < 70:=by
  have h5:=(List.getElem?_eq_some_iff.1 hj).1
  have h6:=h2.getD hi
  rw [hcd] at h6
  omega
 have hc:=World.ownsRow.cells h1 (g:=g) rfl (70 * i + j) v
 rw [z3x h2 hi hj70,hcd,Addr.add_lit,Nat.zero_add] at hc
 exact hc hj
theorem z9j {P:Program} {w:World} {ops:Array Oper} {rest:List Oper} {o:Oper} {a:Act} {Q:Exit → Act → World → Prop} (hgd:o.guard = none) (s x:Operand) (t e:TypeId)
 (ho:o.op = .call { callee:=.builtin .append,args:=#[s,x],argTypes:=#[t,t] })
 (B bytes:Nat) (z:Value) (hzs:z.cells.size = 70) (hby:bytes ≤ 1024) (ht:P.underlying t = some (.slice e)) (hinfo:(P.info? e).map (fun i=>(i.zero,i.size,i.bytes)) = some (some z,70,bytes))
 (v:Value) (L:List OpN) (y:OpN) (pa:Option Addr) (pc:Nat) (hy:y.d.ref.length = 32) (hpa:IAt pa y.preds w) (hne:∀ a,pa = some a → y.preds ≠ [] → v.ownBlock ≠ some a.block) (ad:Addr) (c:Nat) (hs:a.eval s = v) (hown:OwnP B e v L w) (hx:a.eval x = .slice (some ad) 1 c)
 (hnews:∀ j u,(plL y pa pc)[j]? = some u → w.cell? (ad.add j) = some u) (h63:L.length ≤ 1000000) (hB:B ≤ w.heap.size)
 (h:∀ v' w',Hid (OwnP B e v' (L ++ [y]) w') → Hid (Below B w w') → Hid (w.grownBy w' v.ownBlock) → wpList P ops Q rest (a.put o.dst v') w'):wpList P ops Q (o :: rest) a w:=by
 obtain ⟨i,hi,hz0,hz1,hz2⟩:=info_parts hinfo
 obtain ⟨C,h1,h2,h3,h4⟩:=hown
 have hul:(plL y pa pc).length = 70:=z3m hy
 refine wpList_append_own_at w hgd s x _ ho B e i z 70 bytes ht hi hz0 hz1 hz2 hzs (by decide) v L.length C.flatten hs h1 ad 1 c (plL y pa pc) hx (by rw [hul]) hnews (zat y pa pc) (by unfold maxLen;omega)
  (Nat.le_trans (Nat.mul_le_mul (show L.length + 1 ≤ 1000001 by omega) hby) (by decide)) hB ?_
 intro v' w' q1 q2 _ q3
 refine h v' w' ⟨C ++ [plL y pa pc],?_,h2.snoc hul,by rw [List.length_append,List.length_append,h3];rfl,fun j x' hj=>?_⟩ ((Below.refl B w).grown q2 hB (fun k hk=>(World.ownsRow.lt h1 k hk).1)) q2
 ·rw [List.length_append,List.flatten_append,List.flatten_cons,List.flatten_nil,List.append_nil]
  exact q1
 ·have hold:∀ (a:Addr) (M:List (List Nat)),IAt (some a) M w → M ≠ [] → v.ownBlock ≠ some a.block → v'.ownBlock ≠ some a.block:=fun a M hM h0 hv e=>by
   rcases q3 with q3 | q3
   ·exact hv (q3 ▸ e)
   ·rw [q3] at e
    have:=hM.lt h0 rfl
    simp only [Option.some.injEq] at e
    omega
  by_cases hjl:j < L.length
  ·rw [List.getElem?_append_left hjl] at hj
   obtain ⟨pa',pc',r1,r2,r3⟩:=h4 j x' hj
   refine ⟨pa',pc',by rw [List.getElem?_append_left (by omega)];exact r1,r2.grown q2 r3,?_⟩
   rintro a rfl h0
   exact hold a _ r2 h0 (r3 a rfl h0)
  ·rw [List.getElem?_append_right (by omega)] at hj
   obtain rfl:j = L.length:=by
    have:=(List.getElem?_eq_some_iff.1 hj).1
    simp only [List.length_singleton] at this
    omega
   simp only [Nat.sub_self,List.getElem?_cons_zero,Option.some.injEq] at hj
   subst hj
   refine ⟨pa,pc,by rw [List.getElem?_append_right (by omega),h3];simp,hpa.grown q2 hne,?_⟩
   rintro a rfl h0
   exact hold a _ hpa h0 (hne a rfl h0)
theorem z34 {P:Program} {w:World} {ops:Array Oper} {rest:List Oper} {o:Oper} {a:Act} {Q:Exit → Act → World → Prop} (hgd:o.guard = none) (t e:TypeId) (x:Operand) (ho:o.op = .buildSlice t 1 #[(0,x)]) (us:List Value) (hx:a.eval x = .agg us.toArray)
 (hr:∀ w,(Instr.buildSlice t 1 #[(0,.agg us.toArray)]).run P w = .ok (.slice (some ⟨w.heap.size,0,none⟩) 1 1) (w.alloc (.cells us.toArray e)))
 (h:∀ w',Hid (Cells w.heap.size e us.toArray w') → Hid (Below w.heap.size w w') → wpList P ops Q rest (a.put o.dst (.slice (some ⟨w.heap.size,0,none⟩) 1 1)) w'):wpList P ops Q (o :: rest) a w :=
 wpList_plain hgd fun _ hK=>(z7n t e x ho us hx hr (hK _ _ (h _ (Lib.hid (heap_alloc_new w _)) (Lib.hid ((Below.refl _ _).alloc (Nat.le_refl _) _))))).out
theorem Cells.news {g:Nat} {t:TypeId} {us:List Value} {w:World} (h:Cells g t us.toArray w):∀ j u,us[j]? = some u → w.cell? ((⟨g,0,none⟩:Addr).add j) = some u:=fun j u hj=>by
 rw [Addr.add_lit,Nat.zero_add,h.at,List.getElem?_toArray]
 exact hj
theorem OwnO.mono {B B':Nat} {e:TypeId} {v:Value} {L:List OpN} {w:World} (h:OwnO B e v L w) (hB:B' ≤ B):OwnO B' e v L w:=by
 obtain ⟨C,h1,h2,h3,h4⟩:=h
 refine ⟨C,⟨h1.1,?_⟩,h2,h3,h4⟩
 rcases h1.2 with h0 | ⟨g,cap,cur,hv,hg,r⟩
 ·exact Or.inl h0
 ·exact Or.inr ⟨g,cap,cur,hv,Nat.le_trans hB hg,r⟩
theorem ze8 (n:Nat):(madeCells (Value.agg (opV z04 none 0)).cells (n * 38)).toList = (List.replicate n (opL z04 none 0)).flatten:=by
 have hW:Wide 38 (List.replicate n (opL z04 none 0)):=fun x hx=>by
  rw [(List.mem_replicate.1 hx).2];rfl
 have hl:=z40 hW
 rw [List.length_replicate] at hl
 refine List.ext_getElem? fun j=>?_
 by_cases hj:j < n * 38
 ·obtain ⟨q,m,rfl,hm,hq⟩:=z9x (K:=38) (q:=j) (n:=n) (by decide)
  rw [z3x hW (by rw [List.length_replicate];exact hq hj) hm,List.getD_eq_getElem?_getD,List.getElem?_replicate,if_pos (hq hj),Option.getD_some]
  simp only [madeCells,Array.getElem?_toList]
  rw [Array.getElem?_eq_getElem (by simpa using hj)]
  simp only [Array.getElem_map,Array.getElem_range]
  rw [show (38 * q + m) % (Value.agg (opV z04 none 0)).cells.size = m from by
   show (38 * q + m) % 38 = m
   omega]
  have hm':m < (opL z04 none 0).length:=hm
  rw [List.getElem?_eq_getElem hm']
  show some ((opV z04 none 0)[m]!) = _
  rw [getElem!_pos (opV z04 none 0) m hm]
  rfl
 ·rw [List.getElem?_eq_none (by simp [madeCells];omega),List.getElem?_eq_none (by omega)]
theorem OwnO.made {B g n:Nat} {e:TypeId} {w:World} (h:w.ownsRow B e 38 (.slice (some ⟨g,0,none⟩) n n) n (madeCells (Value.agg (opV z04 none 0)).cells (n * 38)).toList) :
 OwnO B e (.slice (some ⟨g,0,none⟩) n n) (List.replicate n z04) w:=by
 refine ⟨List.replicate n (opL z04 none 0),?_,fun x hx=>?_,by rw [List.length_replicate,List.length_replicate],fun i x hx=>?_⟩
 ·rw [List.length_replicate,← ze8]
  exact h
 ·rw [(List.mem_replicate.1 hx).2];rfl
 ·have hi:=(List.getElem?_eq_some_iff.1 hx).1
  rw [List.length_replicate] at hi
  rw [List.getElem?_replicate,if_pos hi] at hx
  cases hx
  exact ⟨none,0,by rw [List.getElem?_replicate,if_pos hi],.inl rfl,fun a ha=>by cases ha⟩
theorem OwnO.there {B g n c i:Nat} {e:TypeId} {L:List OpN} {w:World} (hn:n = L.length) (h:OwnO B e (.slice (some ⟨g,0,none⟩) n c) L w) (hi:i < n):w.there g (38 * i) 38:=by
 subst hn
 obtain ⟨C,h1,h2,h3,h4⟩:=h
 have hf:=z40 h2
 intro j hj
 exact ⟨by rw [World.ownsRow.cellAt h1 (38 * i + j) (by omega),List.getElem?_eq_getElem (by rw [hf,h3];omega)];rfl,World.ownsRow.frozenAt h1 (38 * i + j)⟩
theorem OwnO.set {B g n c i:Nat} {e:TypeId} {L:List OpN} {w:World} (hn:n = L.length) (h:OwnO B e (.slice (some ⟨g,0,none⟩) n c) L w) (hi:i < n) {x:OpN} {pa:Option Addr} {pc:Nat} (hx:x.d.ref.length = 32) (hpa:IAt pa x.preds w) (hoff:∀ a,pa = some a → x.preds ≠ [] → g ≠ a.block) :
 OwnO B e (.slice (some ⟨g,0,none⟩) n c) (L.set i x) (w.setCells g (38 * i) (opL x pa pc)):=by
 subst hn
 obtain ⟨C,h1,h2,h3,h4⟩:=h
 have hl:=z14 (pa:=pa) (pc:=pc) hx
 have hb:But g w (w.setCells g (38 * i) (opL x pa pc)):=But.cells _ _ _ (But.refl _ _)
 have hk:∀ (qa:Option Addr) (K:List (List Nat)),IAt qa K w → (∀ a,qa = some a → K ≠ [] → g ≠ a.block) → IAt qa K (w.setCells g (38 * i) (opL x pa pc)):=fun qa K hq ho =>
  hq.only ((Only.refl (fun b=>b = g) w).but hb (.inl rfl)) (fun a ha h0 e=>ho a ha h0 e.symm)
 refine ⟨C.set i (opL x pa pc),?_,h2.set i hl,by rw [List.length_set,List.length_set,h3],fun j y hj=>?_⟩
 ·rw [List.length_set,flat_set (by decide) h2 (by omega) hl]
  exact z6m (opL x pa pc) _ (38 * i) w h1
 ·by_cases hji:i = j
  ·subst hji
   rw [List.getElem?_set_self (by omega)] at hj
   cases hj
   exact ⟨pa,pc,by rw [List.getElem?_set_self (by omega)],hk pa _ hpa hoff,fun a ha h0 e=>hoff a ha h0 (by injection e)⟩
  ·rw [List.getElem?_set_ne hji] at hj
   obtain ⟨qa,qc,r1,r2,r3⟩:=h4 j y hj
   exact ⟨qa,qc,by rw [List.getElem?_set_ne hji];exact r1,hk qa _ r2 (fun a ha h0 e=>r3 a ha h0 (by rw [← e];rfl)),r3⟩
theorem zb2 {P:Program} {w:World} {ops:Array Oper} {rest:List Oper} {o:Oper} {a:Act} {Q:Exit → Act → World → Prop} (hgd:o.guard = none) (ty:TypeId) (x y:Operand) (ho:o.op = .store ty x y) (hd:o.dst = none)
 (B g n c i off:Nat) (e:TypeId) (L:List OpN) (z:OpN) (pa:Option Addr) (pc:Nat) (hn:n = L.length) (hoff:off = 38 * i) (hx:a.eval x = .pointer (some ⟨g,off,none⟩)) (hy:a.eval y = .agg (opV z pa pc))
 (hO:OwnO B e (.slice (some ⟨g,0,none⟩) n c) L w) (hi:i < n) (hz:z.d.ref.length = 32) (hpa:IAt pa z.preds w) (ho':∀ a,pa = some a → z.preds ≠ [] → g ≠ a.block) (hty:(P.info? ty).map (·.size) = some 38)
 (h:∀ w',Hid (OwnO B e (.slice (some ⟨g,0,none⟩) n c) (L.set i z) w') → Hid (But g w w') → wpList P ops Q rest a w'):wpList P ops Q (o :: rest) a w:=by
 subst hoff
 have hs:(opV z pa pc).size = 38:=by rw [opV,List.size_toArray,z14 hz]
 refine wpList_store_mid hgd ty x y ho g (38 * i) _ hx hy (by rw [hs];exact hO.there hn hi) (by rw [hs];exact hty) (all_oneCell_toArray (z79 z pa pc)) ?_
 rw [hd]
 refine h _ ?_ ?_
 ·exact (hO.set hn hi hz hpa ho')
 ·exact (But.cells _ _ _ (But.refl _ _))
structure VpN where
 op:OpN
 pr:List Nat
 num:Nat
 dr:Bool
def vpL (x:VpN) (pa:Option Addr) (pc:Nat) (qa:Option Addr) (qc:Nat):List Value:=opL x.op pa pc ++ [.slice qa x.pr.length qc,.int .i64 (x.num:Int),.bool x.dr]
theorem z4o {x:VpN} {pa qa:Option Addr} {pc qc:Nat} (h:x.op.d.ref.length = 32):(vpL x pa pc qa qc).length = 41:=by
 rw [vpL,List.length_append,z14 h];rfl
theorem zcz (x:VpN) (pa qa:Option Addr) (pc qc:Nat):∀ u ∈ vpL x pa pc qa qc,u.oneCell' = true:=fun u hu=>by
 rcases List.mem_append.1 hu with hu | hu
 ·exact z79 _ _ _ u hu
 ·simp only [List.mem_cons,List.not_mem_nil,or_false] at hu
  rcases hu with rfl | rfl | rfl <;> rfl
def PrAt (qa:Option Addr) (L:List Nat) (w:World):Prop:=L = [] ∨ ∃ g,qa = some ⟨g,0,none⟩ ∧ g < w.heap.size ∧ ∀ i,i < L.length → w.cell? ⟨g,i,none⟩ = some (.int .i64 ((L.getD i 0:Nat):Int))
theorem PrAt.only {O:Nat → Prop} {qa:Option Addr} {L:List Nat} {w w':World} (h:PrAt qa L w) (k:Only O w w') (hO:∀ a,qa = some a → L ≠ [] → ¬ O a.block):PrAt qa L w':=by
 rcases h with h | ⟨g,rfl,h2,h3⟩
 ·exact .inl h
 ·by_cases h0:L = []
  ·exact .inl h0
  ·exact .inr ⟨g,rfl,Nat.lt_of_lt_of_le h2 k.size,fun i hi=>(World.cell?_of_block (a:=⟨g,i,none⟩) (k.block g h2 (hO _ rfl h0))).trans (h3 i hi)⟩
theorem PrAt.lt {qa:Option Addr} {L:List Nat} {w:World} (h:PrAt qa L w) (h0:L ≠ []) {a:Addr} (ha:qa = some a):a.block < w.heap.size:=by
 rcases h with h | ⟨g,h1,h2,_⟩
 ·exact absurd h h0
 ·rw [h1] at ha
  cases ha
  exact h2
def VIts (Z:Nat) (r:Option Nat) (x:VpN) (cs:List Value) (w:World):Prop :=
 ∃ pa pc qa qc,cs = vpL x pa pc qa qc ∧ IAt pa x.op.preds w ∧ PrAt qa x.pr w ∧ (∀ a,pa = some a → x.op.preds ≠ [] → r ≠ some a.block ∧ a.block < Z) ∧ ∀ a,qa = some a → x.pr ≠ [] → r ≠ some a.block ∧ a.block < Z
theorem VIts.only {O:Nat → Prop} {Z:Nat} {r:Option Nat} {x:VpN} {cs:List Value} {w w':World} (h:VIts Z r x cs w) (k:Only O w w') (hO:∀ b,O b → b < Z → r = some b):VIts Z r x cs w':=by
 obtain ⟨pa,pc,qa,qc,h1,h2,h3,h4,h5⟩:=h
 exact ⟨pa,pc,qa,qc,h1,h2.only k (fun a ha h0 e=>(h4 a ha h0).1 (hO _ e (h4 a ha h0).2)),h3.only k (fun a ha h0 e=>(h5 a ha h0).1 (hO _ e (h5 a ha h0).2)),h4,h5⟩
def OwnQ (B Z:Nat) (e:TypeId) (v:Value) (L:List VpN) (w:World):Prop :=
 ∃ C:List (List Value),w.ownsRow B e 41 v L.length C.flatten ∧ Wide 41 C ∧ C.length = L.length ∧ (∀ g,v.ownBlock = some g → g < Z) ∧ ∀ (i:Nat) (x:VpN),L[i]? = some x → ∃ cs,C[i]? = some cs ∧ VIts Z v.ownBlock x cs w
theorem OwnQ.nil (B Z:Nat) (e:TypeId) (w:World):OwnQ B Z e (.slice none 0 0) [] w:=⟨[],World.ownsRow_nil _ _ _ _,Wide.nil _,rfl,(fun g hg=>by cases hg),fun i x hx=>by cases hx⟩
theorem OwnQ.form {B Z:Nat} {e:TypeId} {v:Value} {L:List VpN} {w:World} (h:OwnQ B Z e v L w):∃ ao cap,v = .slice ao L.length cap:=by
 obtain ⟨C,h,_⟩:=h
 rcases h.2 with ⟨hv,h0⟩ | ⟨g,cap,cur,hv,_⟩
 ·exact ⟨none,0,by rw [hv,h0]⟩
 ·exact ⟨some ⟨g,0,none⟩,cap,hv⟩
theorem OwnQ.formB {B Z:Nat} {e:TypeId} {v:Value} {L:List VpN} {w:World} (h:OwnQ B Z e v L w):v = .slice none 0 0 ∧ L = [] ∨ ∃ g cap,v = .slice (some ⟨g,0,none⟩) L.length cap ∧ L.length ≤ cap ∧ B ≤ g ∧ g < Z ∧ g < w.heap.size:=by
 obtain ⟨C,h,_,_,hz,_⟩:=h
 rcases h.2 with ⟨hv,h0⟩ | ⟨g,cap,cur,hv,hB,hg,hc,_⟩
 ·exact .inl ⟨hv,List.length_eq_zero_iff.1 h0⟩
 ·exact .inr ⟨g,cap,hv,hc,hB,hz g (by rw [hv];rfl),lt_of_block hg⟩
theorem OwnQ.lt {B Z:Nat} {e:TypeId} {v:Value} {L:List VpN} {w:World} (h:OwnQ B Z e v L w) {g:Nat} (hg:v.ownBlock = some g):B ≤ g ∧ g < w.heap.size:=by
 obtain ⟨C,h1,_⟩:=h
 exact World.ownsRow.lt h1 g hg
theorem OwnQ.only {O:Nat → Prop} {B Z:Nat} {e:TypeId} {v:Value} {L:List VpN} {w w':World} (h:OwnQ B Z e v L w) (k:Only O w w') (hO:∀ b,O b → Z ≤ b):OwnQ B Z e v L w':=by
 obtain ⟨C,h1,h2,h3,hz,h4⟩:=h
 refine ⟨C,⟨h1.1,?_⟩,h2,h3,hz,fun i x hx=>?_⟩
 ·rcases h1.2 with h0 | ⟨g,cap,cur,he,hB,hg,r⟩
  ·exact .inl h0
  ·have hgz:=hz g (by rw [he];rfl)
   exact .inr ⟨g,cap,cur,he,hB,(k.block g (lt_of_block hg) (fun e=>by have:=hO g e;omega)).trans hg,r⟩
 ·obtain ⟨cs,q1,q2⟩:=h4 i x hx
  exact ⟨cs,q1,q2.only k (fun b e hb=>by have:=hO b e;omega)⟩
theorem OwnQ.below {B Z:Nat} {e:TypeId} {v:Value} {L:List VpN} {w w':World} (h:OwnQ B Z e v L w) (k:Below w.heap.size w w'):OwnQ B Z e v L w':=h.only (Only.of (O:=fun _=>False) k) fun _=>False.elim
theorem OwnQ.but {b B Z:Nat} {e:TypeId} {v:Value} {L:List VpN} {w w':World} (h:OwnQ B Z e v L w) (k:But b w w') (hb:Z ≤ b):OwnQ B Z e v L w':=h.only ((Only.refl (fun x=>x = b) w).but k (.inl rfl)) fun x e=>by rw [e];exact hb
theorem OwnQ.mono {B B' Z Z':Nat} {e:TypeId} {v:Value} {L:List VpN} {w:World} (h:OwnQ B Z e v L w) (hB:B' ≤ B) (hZ:Z ≤ Z'):OwnQ B' Z' e v L w:=by
 obtain ⟨C,h1,h2,h3,hz,h4⟩:=h
 refine ⟨C,⟨h1.1,?_⟩,h2,h3,fun g hg=>Nat.lt_of_lt_of_le (hz g hg) hZ,fun i x hx=>?_⟩
 ·rcases h1.2 with h0 | ⟨g,cap,cur,hv,hg,r⟩
  ·exact Or.inl h0
  ·exact Or.inr ⟨g,cap,cur,hv,Nat.le_trans hB hg,r⟩
 ·obtain ⟨cs,q1,pa,pc,qa,qc,q2,q3,q4,q5,q6⟩:=h4 i x hx
  exact ⟨cs,q1,pa,pc,qa,qc,q2,q3,q4,fun a ha h0=>⟨(q5 a ha h0).1,Nat.lt_of_lt_of_le (q5 a ha h0).2 hZ⟩,fun a ha h0=>⟨(q6 a ha h0).1,Nat.lt_of_lt_of_le (q6 a ha h0).2 hZ⟩⟩
theorem OwnQ.get {B Z g n c:Nat} {e:TypeId} {L:List VpN} {w:World} (h:OwnQ B Z e (.slice (some ⟨g,0,none⟩) n c) L w) {i:Nat} {x:VpN} (hx:L[i]? = some x) :
 B ≤ g ∧ g < Z ∧ ∃ pa pc qa qc,w.rangeAt g (41 * i) (vpL x pa pc qa qc) ∧ IAt pa x.op.preds w ∧ PrAt qa x.pr w ∧ (∀ a,pa = some a → x.op.preds ≠ [] → g ≠ a.block ∧ a.block < Z) ∧ ∀ a,qa = some a → x.pr ≠ [] → g ≠ a.block ∧ a.block < Z:=by
 obtain ⟨C,h1,h2,h3,hz,h4⟩:=h
 obtain ⟨cs,q1,pa,pc,qa,qc,q2,q3,q4,q5,q6⟩:=h4 i x hx
 refine ⟨(World.ownsRow.lt h1 g rfl).1,hz g rfl,pa,pc,qa,qc,fun j v hj=>?_,q3,q4,fun a ha h0=>⟨fun e=>(q5 a ha h0).1 (by rw [← e];rfl),(q5 a ha h0).2⟩,fun a ha h0=>⟨fun e=>(q6 a ha h0).1 (by rw [← e];rfl),(q6 a ha h0).2⟩⟩
 have hi:i < C.length:=(List.getElem?_eq_some_iff.1 q1).1
 have hcd:C.getD i [] = vpL x pa pc qa qc:=by rw [List.getD_eq_getElem?_getD,q1];exact q2
 have hj41:j < 41:=by
  have h5:=(List.getElem?_eq_some_iff.1 hj).1
  have h6:=h2.getD hi
  rw [hcd] at h6
  omega
 have hc:=World.ownsRow.cells h1 (g:=g) rfl (41 * i + j) v
 rw [z3x h2 hi hj41,hcd,Addr.add_lit,Nat.zero_add] at hc
 exact hc hj
theorem z9t {b o:Nat} {x:VpN} {pa qa:Option Addr} {pc qc:Nat} {w:World} (hr:x.op.d.ref.length = 32) (h:w.rangeAt b o (vpL x pa pc qa qc)) :
 w.rangeAt b o (opL x.op pa pc) ∧ w.cell? ⟨b,o + 38,none⟩ = some (.slice qa x.pr.length qc) ∧ w.cell? ⟨b,o + 39,none⟩ = some (.int .i64 (x.num:Int)) ∧ w.cell? ⟨b,o + 40,none⟩ = some (.bool x.dr):=by
 have hl:=z14 (pa:=pa) (pc:=pc) hr
 have hx:∀ i,(vpL x pa pc qa qc)[38 + i]? = ([Value.slice qa x.pr.length qc,.int .i64 (x.num:Int),.bool x.dr]:List Value)[i]?:=fun i=>by
  rw [vpL,List.getElem?_append_right (by omega),hl,Nat.add_sub_cancel_left]
 refine ⟨fun j v hj=>h j v ?_,h 38 _ (hx 0),h 39 _ (hx 1),h 40 _ (hx 2)⟩
 have hjl:=(List.getElem?_eq_some_iff.1 hj).1
 rw [vpL,List.getElem?_append_left hjl]
 exact hj
theorem zez {K:Nat}:∀ {L:List (List Value)} {i j:Nat},Wide K L → i < L.length → j < K → ∀ v:Value,(L.set i ((L.getD i []).set j v)).flatten = L.flatten.set (K * i + j) v
 | [],_,_,_,hi,_,_=>by cases hi
 | x :: L, 0, j, hW, _, hj, v => by
   have hx:x.length = K:=hW x (by simp)
   show x.set j v ++ L.flatten = (x ++ L.flatten).set (K * 0 + j) v
   rw [List.set_append_left _ _ (by omega),Nat.mul_zero,Nat.zero_add]
 | x :: L, i + 1, j, hW, hi, hj, v => by
   have hx:x.length = K:=hW x (by simp)
   have ih:=zez (L:=L) (i:=i) (j:=j) (fun y hy=>hW y (by simp [hy])) (by simpa using hi) hj v
   have hm:K * (i + 1) + j = x.length + (K * i + j):=by rw [hx,Nat.mul_succ];omega
   show x ++ (L.set i ((L.getD i []).set j v)).flatten = (x ++ L.flatten).set (K * (i + 1) + j) v
   rw [ih,hm,List.set_append_right _ _ (by omega),Nat.add_sub_cancel_left]
theorem OwnQ.setAt {B Z g n c i j:Nat} {e:TypeId} {L:List VpN} {w:World} (hn:n = L.length) (h:OwnQ B Z e (.slice (some ⟨g,0,none⟩) n c) L w) {x y:VpN} (hx:L[i]? = some x) (hj:j < 41) (v:Value)
 (hy:∀ pa pc qa qc,(vpL x pa pc qa qc).set j v = vpL y pa pc qa qc) (h1:y.op = x.op) (h2:y.pr = x.pr) :
 OwnQ B Z e (.slice (some ⟨g,0,none⟩) n c) (L.set i y) (w.setCell ⟨g,41 * i + j,none⟩ v):=by
 subst hn
 obtain ⟨C,k1,k2,k3,hz,k4⟩:=h
 have hi:=(List.getElem?_eq_some_iff.1 hx).1
 have hb:But g w (w.setCell ⟨g,41 * i + j,none⟩ v):=(But.refl _ w).setCell _ _
 have ho:Only (fun b=>b = g) w (w.setCell ⟨g,41 * i + j,none⟩ v):=(Only.refl _ w).but hb (.inl rfl)
 refine ⟨C.set i ((C.getD i []).set j v),?_,k2.set i (by rw [List.length_set];exact k2.getD (by omega)),by rw [List.length_set,List.length_set,k3],hz,fun t z hz2=>?_⟩
 ·rw [List.length_set,zez k2 (by omega) hj]
  exact z6m [v] _ (41 * i + j) w k1
 ·by_cases hti:i = t
  ·subst hti
   rw [List.getElem?_set_self (by omega)] at hz2
   cases hz2
   obtain ⟨cs,q1,pa,pc,qa,qc,q2,q3,q4,q5,q6⟩:=k4 i x hx
   refine ⟨vpL y pa pc qa qc,?_,pa,pc,qa,qc,rfl,?_,?_,?_,?_⟩
   ·rw [List.getElem?_set_self (by omega),List.getD_eq_getElem?_getD,q1,Option.getD_some,q2,hy]
   ·rw [h1];exact q3.only ho (fun a ha h0 e=>(q5 a ha h0).1 (by rw [e];rfl))
   ·rw [h2];exact q4.only ho (fun a ha h0 e=>(q6 a ha h0).1 (by rw [e];rfl))
   ·rw [h1];exact q5
   ·rw [h2];exact q6
  ·rw [List.getElem?_set_ne hti] at hz2
   obtain ⟨cs,q1,q2⟩:=k4 t z hz2
   exact ⟨cs,by rw [List.getElem?_set_ne hti];exact q1,q2.only ho (fun b e _=>by rw [e];rfl)⟩
theorem zm2 (x:VpN) (hr:x.op.d.ref.length = 32) (k:Nat) (pa qa:Option Addr) (pc qc:Nat):(vpL x pa pc qa qc).set 39 (.int .i64 (k:Int)) = vpL { x with num:=k } pa pc qa qc:=by
 have hl:=z14 (pa:=pa) (pc:=pc) hr
 rw [vpL,List.set_append_right _ _ (by omega),hl]
 rfl
theorem vp_setDr (x:VpN) (hr:x.op.d.ref.length = 32) (k:Bool) (pa qa:Option Addr) (pc qc:Nat):(vpL x pa pc qa qc).set 40 (.bool k) = vpL { x with dr:=k } pa pc qa qc:=by
 have hl:=z14 (pa:=pa) (pc:=pc) hr
 rw [vpL,List.set_append_right _ _ (by omega),hl]
 rfl
theorem OwnQ.frozen {B Z g n c:Nat} {e:TypeId} {L:List VpN} {w:World} (hn:n = L.length) (h:OwnQ B Z e (.slice (some ⟨g,0,none⟩) n c) L w) (o:Nat):w.frozen? ⟨g,o,none⟩ = false:=by
 subst hn
 obtain ⟨C,h1,_⟩:=h
 exact World.ownsRow.frozenAt h1 o
theorem z9n {P:Program} {w:World} {ops:Array Oper} {rest:List Oper} {o:Oper} {a:Act} {Q:Exit → Act → World → Prop} (hgd:o.guard = none) (s x:Operand) (t e:TypeId)
 (ho:o.op = .call { callee:=.builtin .append,args:=#[s,x],argTypes:=#[t,t] })
 (B bytes:Nat) (z:Value) (hzs:z.cells.size = 41) (hby:bytes ≤ 1024) (ht:P.underlying t = some (.slice e)) (hinfo:(P.info? e).map (fun i=>(i.zero,i.size,i.bytes)) = some (some z,41,bytes))
 (v:Value) (L:List VpN) (y:VpN) (pa qa:Option Addr) (pc qc:Nat) (hy:y.op.d.ref.length = 32) (hpa:IAt pa y.op.preds w) (hqa:PrAt qa y.pr w) (hne:∀ a,pa = some a → y.op.preds ≠ [] → v.ownBlock ≠ some a.block) (hnq:∀ a,qa = some a → y.pr ≠ [] → v.ownBlock ≠ some a.block)
 (ad:Addr) (c:Nat) (hs:a.eval s = v) (hown:OwnQ B w.heap.size e v L w) (hx:a.eval x = .slice (some ad) 1 c)
 (hnews:∀ j u,(vpL y pa pc qa qc)[j]? = some u → w.cell? (ad.add j) = some u) (h63:L.length ≤ 1000000) (hB:B ≤ w.heap.size)
 (h:∀ v' w',Hid (OwnQ B w'.heap.size e v' (L ++ [y]) w') → Hid (Below B w w') → Hid (w.grownBy w' v.ownBlock) → wpList P ops Q rest (a.put o.dst v') w'):wpList P ops Q (o :: rest) a w:=by
 obtain ⟨i,hi,hz0,hz1,hz2⟩:=info_parts hinfo
 obtain ⟨C,h1,h2,h3,hzz,h4⟩:=hown
 have hul:(vpL y pa pc qa qc).length = 41:=z4o hy
 refine wpList_append_own_at w hgd s x _ ho B e i z 41 bytes ht hi hz0 hz1 hz2 hzs (by decide) v L.length C.flatten hs h1 ad 1 c (vpL y pa pc qa qc) hx (by rw [hul]) hnews (zcz y pa qa pc qc) (by unfold maxLen;omega)
  (Nat.le_trans (Nat.mul_le_mul (show L.length + 1 ≤ 1000001 by omega) hby) (by decide)) hB ?_
 intro v' w' q1 q2 _ q3
 have hsz:=q2.size
 have hot:Only (fun b=>v.ownBlock = some b) w w':=(Only.refl _ w).grown q2 (fun b hb=>.inl hb)
 have hnew:∀ b,b < w.heap.size → v.ownBlock ≠ some b → v'.ownBlock ≠ some b:=fun b hb hv e=>by
  rcases q3 with q3 | q3
  ·exact hv (q3 ▸ e)
  ·rw [q3] at e
   simp only [Option.some.injEq] at e
   omega
 refine h v' w' ⟨C ++ [vpL y pa pc qa qc],?_,h2.snoc hul,by rw [List.length_append,List.length_append,h3];rfl,fun g hg=>(World.ownsRow.lt q1 g hg).2,fun j x' hj=>?_⟩ ((Below.refl B w).grown q2 hB (fun k hk=>(World.ownsRow.lt h1 k hk).1)) q2
 ·rw [List.length_append,List.flatten_append,List.flatten_cons,List.flatten_nil,List.append_nil]
  exact q1
 ·by_cases hjl:j < L.length
  ·rw [List.getElem?_append_left hjl] at hj
   obtain ⟨cs,r0,pa',pc',qa',qc',r1,r2,r3,r4,r5⟩:=h4 j x' hj
   refine ⟨cs,by rw [List.getElem?_append_left (by omega)];exact r0,pa',pc',qa',qc',r1,r2.only hot (fun a ha h0 e=>(r4 a ha h0).1 e),r3.only hot (fun a ha h0 e=>(r5 a ha h0).1 e),fun a ha h0=>⟨hnew _ (r4 a ha h0).2 (r4 a ha h0).1,?_⟩,fun a ha h0=>⟨hnew _ (r5 a ha h0).2 (r5 a ha h0).1,?_⟩⟩
   ·have:=(r4 a ha h0).2;omega
   ·have:=(r5 a ha h0).2;omega
  ·rw [List.getElem?_append_right (by omega)] at hj
   obtain rfl:j = L.length:=by
    have:=(List.getElem?_eq_some_iff.1 hj).1
    simp only [List.length_singleton] at this
    omega
   simp only [Nat.sub_self,List.getElem?_cons_zero,Option.some.injEq] at hj
   subst hj
   refine ⟨vpL y pa pc qa qc,by rw [List.getElem?_append_right (by omega),h3];simp,pa,pc,qa,qc,rfl,hpa.only hot (fun a ha h0 e=>hne a ha h0 e),hqa.only hot (fun a ha h0 e=>hnq a ha h0 e),fun a ha h0=>?_,fun a ha h0=>?_⟩
   ·have:=hpa.lt h0 ha
    exact ⟨hnew _ this (hne a ha h0),by omega⟩
   ·have:=hqa.lt h0 ha
    exact ⟨hnew _ this (hnq a ha h0),by omega⟩
end Go.Proofs.YtjomgkiphecljaaGreatDoor
