/-
  Joined: Both sets in one world, through takes; what Take answers are names.; The laws' both of layer 12: the developers' set and the document's, of what is made.; The developers' Of.; The developers' Value and Registers of layer 12; at nil.; Texts appended: a slice that need not be anybody's row, onto a row of one's own; one text onto a full slice; slices of texts cut.; The document's Value of layer 12; the laws' real.; The table of the round constants, laid; what a law's arguments are.
-/
import Derived.Deep.DeepHandedRow
import Derived.Lib.LaidTab
import Derived.Test.YtjomgkiphecljaaGreatDoorCards
import Derived.Test.YtjomgkiphecljaaGreatDoorTie
import Derived.Test.YtjomgkiphecljaaGreatDoorJ03
import Derived.Test.YtjomgkiphecljaaGreatDoorJ04
import Derived.Test.YtjomgkiphecljaaGreatDoorJ05
import Derived.Test.YtjomgkiphecljaaGreatDoorJ06
import Derived.Test.YtjomgkiphecljaaGreatDoorJ10
import Derived.Test.YtjomgkiphecljaaGreatDoorJ11
import Derived.Test.YtjomgkiphecljaaGreatDoorJ12
import Derived.Test.YtjomgkiphecljaaGreatDoorJ18
import Derived.Test.YtjomgkiphecljaaGreatDoorJ19
import Derived.Test.YtjomgkiphecljaaGreatDoorJ21
import Derived.Test.YtjomgkiphecljaaGreatDoorJ23
import Derived.Test.YtjomgkiphecljaaGreatDoorJ24
import Derived.Test.YtjomgkiphecljaaGreatDoorJ26
set_option maxRecDepth 100000
set_option maxHeartbeats 20000000
namespace Go.Proofs.YtjomgkiphecljaaGreatDoor
open Go.RowKit Go.BigFrame
structure TwoAt (Z:Nat → Prop) (B:Bs) (gs:Nat) (w4:World) (k:Nat) (X:Nat → Prop) (T:Ents) (s t:DagN) (hs:List (List Nat)) (M:Bh) (vo vw vn vq:Value) (wr:World):Prop where
 set:SetAt X B T s hs M wr
 inv:DInv s hs M [] []
 tameS:Tame s
 tameT:Tame t
 ref:RefAt Z gs vo vw vn vq t wr
 cntS:s.ops.length + s.wait.length ≤ k
 cntT:t.ops.length + t.wait.length ≤ k
 xz:∀ b,X b → Z b
 hi:∀ b,wr.heap.size ≤ b → X b
 dis:∀ b,SetO B T b → ¬ RefX gs vo vw vn vq b
 mine:∀ b,RefX gs vo vw vn vq b → X b
 only:Only Z w4 wr
section
variable {Z:Nat → Prop} {B:Bs} {gs:Nat} {w4:World} {k:Nat} {X:Nat → Prop} {T:Ents} {s t:DagN} {hs:List (List Nat)} {M:Bh} {vo vw vn vq:Value} {wr w':World} {x:OpN}
theorem TwoAt.below (h:TwoAt Z B gs w4 k X T s t hs M vo vw vn vq wr) (b:Below wr.heap.size wr w'):TwoAt Z B gs w4 k X T s t hs M vo vw vn vq w' :=
 ⟨h.set.below b,h.inv,h.tameS,h.tameT,h.ref.below b,h.cntS,h.cntT,h.xz,fun c hc=>h.hi c (Nat.le_trans b.size hc),h.dis,h.mine,h.only.below b⟩
theorem TwoAt.dev (h:TwoAt Z B gs w4 k X T s t hs M vo vw vn vq wr) {e:Ending} (hd:DevTake X B T (z2i s x) wr e w') :
 ∃ v X' T' hs' M',e = .returned (.tuple #[v,.int .i64 (z2i s x).2.1]) ∧ OwnI wr.heap.size 45 v (z2i s x).1 w' ∧ TwoAt Z B gs w4 (k + 1) X' T' (z2i s x).2.2 t hs' M' vo vw vn vq w' ∧ Turn (SetO B T) (SetO B T') wr w' ∧ (∀ b,b < wr.heap.size → X b → X' b):=by
 obtain ⟨v,X',T',hs',M',he,hv,h1,h2,h3,h4,_,h5,h6,h7⟩:=hd
 have hc:=(z6f h.tameS.shallow x).2
 have hs':=h.cntS
 refine ⟨v,X',T',_,M',he,hv,⟨h1,h2,h3,h.tameT,h.ref.only h4.only (fun b hb=>h.xz b (SetO.x h.set hb).1) (fun b hb e=>h.dis b e hb),by omega,Nat.le_succ_of_le h.cntT,fun b hb=>h.xz b (h5 b hb),h7,fun b hb e=>?_,fun b hb=>h6 b (h.ref.lt hb) (h.mine b hb),h.only.trans h4.only (fun b hb=>.inl (h.xz b (SetO.x h.set hb).1))⟩,h4,h6⟩
 rcases h4.own b hb with e' | e'
 ·exact h.dis b e' e
 ·have:=h.ref.lt e
  omega
theorem TwoAt.doc (h:TwoAt Z B gs w4 (k + 1) X T s t hs M vo vw vn vq wr) (ht:t.ops.length + t.wait.length ≤ k) {e:Ending} (hd:TakePost Z gs wr.heap.size (RefX gs vo vw vn vq) wr (z2i t x) e w') :
 ∃ v vo' vw' vn' vq',e = .returned (.tuple #[v,.int .i64 (z2i t x).2.1]) ∧ OwnI wr.heap.size 45 v (z2i t x).1 w' ∧ TwoAt Z B gs w4 (k + 1) X T s (z2i t x).2.2 hs M vo' vw' vn' vq' w' ∧ Turn (RefX gs vo vw vn vq) (RefX gs vo' vw' vn' vq') wr w':=by
 obtain ⟨v,vo',vw',vn',vq',he,hv,h1,h2,h3⟩:=hd
 have hc:=(z6f h.tameT.shallow x).2
 refine ⟨v,vo',vw',vn',vq',he,hv,⟨h.set.only h2.only h.mine (fun b hb=>h.dis b hb),h.inv,h.tameS,h3,h1,h.cntS,by omega,h.xz,fun b hb=>h.hi b (Nat.le_trans h2.only.size hb),fun b hb e=>?_,fun b hb=>?_,h.only.trans h2.only (fun b hb=>.inl (h.ref.mine b hb))⟩,h2⟩
 ·rcases h2.own b e with e' | e'
  ·exact h.dis b hb e'
  ·have:=(SetO.x h.set hb).2
   omega
 ·rcases h2.own b hb with e' | e'
  ·exact h.mine b e'
  ·exact h.hi b e'
end
theorem OpsX.only {X O:Nat → Prop} {ao:Option Addr} {L:List OpN} {w w':World} (h:OpsX X ao L w) (k:Only O w w') (hO:∀ b,O b → X b) (hb:∀ a,ao = some a → ¬ O a.block):OpsX X ao L w':=by
 rcases h with h | ⟨b,o,h1,h2,h3⟩
 ·exact .inl h
 ·refine .inr ⟨b,o,h1,Nat.lt_of_lt_of_le h2 k.size,fun i x hx=>?_⟩
  obtain ⟨pa,pc,q1,q2,q3⟩:=h3 i x hx
  exact ⟨pa,pc,fun j v hj=>(World.cell?_of_block (a:=⟨b,o + i * 38 + j,none⟩) (k.block b h2 (hb _ h1))).trans (q1 j v hj),q2.only k (q3.mono hO),q3⟩
theorem own_of {X:Nat → Prop} {B:Nat} {e:TypeId} {a:Addr} {n c:Nat} {L:List OpN} {w:World} (h:OwnX X B e (.slice (some a) n c) L w):Value.ownBlock (.slice (some a) n c) = some a.block:=by
 rcases h.formB with ⟨h1,_⟩ | ⟨g,cap,h1,_⟩
 ·cases h1
 ·injection h1 with h1
  injection h1 with h1
  subst h1
  rfl
theorem SetAt.place0 {X Y:Nat → Prop} {B:Bs} {w:World} (h:SetAt X B ⟨[],[],[]⟩ DagN.new [] [] w) (k:∀ b,X b → b < w.heap.size → Y b):SetAt Y B ⟨[],[],[]⟩ DagN.new [] [] w:=by
 have hx:∀ b,SetO B ⟨[],[],[]⟩ b → Y b:=fun b hb=>k b (SetO.x h hb).1 (SetO.x h hb).2
 exact ⟨h.cells,h.pm,h.wm,h.hm,h.bm,⟨rfl,fun i x hx=>by simp [DagN.new] at hx⟩,⟨rfl,fun i x hx=>by simp [DagN.new] at hx⟩,⟨rfl,fun i q hq=>by simp at hq,fun i j p q u v hi=>by simp at hi,fun q hq=>by cases hq⟩,
  ⟨hx _ (.inl rfl),hx _ (.inr (.inl rfl)),hx _ (.inr (.inr (.inl rfl))),hx _ (.inr (.inr (.inr (.inl rfl)))),hx _ (.inr (.inr (.inr (.inr (.inl rfl)))))⟩,h.apart⟩
def BothPost (w:World) (e:Ending) (w':World):Prop :=
 ∃ (Z X:Nat → Prop) (B:Bs) (gs:Nat) (T:Ents) (s:DagN) (hs:List (List Nat)) (M:Bh) (vo vw vn vq:Value),e = .returned (.tuple #[.pointer (some ⟨B.gs,0,none⟩),.pointer (some ⟨gs,0,none⟩)]) ∧ SetAt X B T s hs M w' ∧ DInv s hs M [] [] ∧ Tame s ∧ Deep s ∧ Goods s ∧ RefAt Z gs vo vw vn vq s w' ∧ Below w.heap.size w w'
theorem both12 (W:World) (ao:Option Addr) (l:List MakeN) (c:Nat) (w:World) (hat:MksAt ao l W) (hin:∀ x ∈ l,x.In) (hl:l.length ≤ 140737488351232) (hw:Below W.heap.size W w) (hk:KAt w) :
 Calls Tryz.prog 6 #[.slice ao l.length c] w fun e w'=>BothPost w e w':=by
 have HK:=Lib.hid hk
 have HMD:=Lib.hid (fun w1 (b:Below w.heap.size w w1)=>ref_made W ao l c w1 hat hin hl (hw.trans (b.mono hw.size)))
 have HWW:=Lib.hid hw.size
 obtain ⟨nl,hnl⟩:∃ i,l.length = i:=⟨_,rfl⟩
 rw [hnl] at HMD ⊢
 have HSO:=Lib.hid (show (Tryz.prog.info? 49).bind (·.zero) = some (.agg (opL z04 none 0).toArray) by kernel_rfl)
 clear hat hin hl hw hk hnl
 go_enter Tryz.func6,Tryz.ntmps6
 go_wp2_with fail
 refine (zle (fun b=>w.heap.size ≤ b) w (fun b h=>h)).mono ?_
 rintro e w3 ⟨B,rfl,hs3,hb3⟩
 have HS3:=Lib.hid hs3
 have HB3:=Lib.hid hb3
 clear hs3 hb3
 have b4:Below w3.heap.size w3 (w3.alloc (.cells #[.slice none 0 0,.slice none 0 0,.slice none 0 0,.slice none 0 0] 52)):=(Below.refl _ _).alloc (Nat.le_refl _) _
 have s4:(w3.alloc (.cells #[.slice none 0 0,.slice none 0 0,.slice none 0 0,.slice none 0 0] 52)).heap.size = w3.heap.size + 1:=World.size_alloc _ _
 have HB4:=Lib.hid (HB3.out.trans (b4.mono HB3.out.size))
 have HS4:=Lib.hid (HS3.out.below b4)
 have HR4:=Lib.hid (fun (Z:Nat → Prop) (h:Z w3.heap.size)=>ze0 Z w3 h)
 have HL4:=Lib.hid (show w.heap.size ≤ w3.heap.size ∧ w3.heap.size < (w3.alloc (.cells #[.slice none 0 0,.slice none 0 0,.slice none 0 0,.slice none 0 0] 52)).heap.size from ⟨HB3.out.size,by omega⟩)
 have HD4:=Lib.hid (show ∀ b,SetO B ⟨[],[],[]⟩ b → b < w3.heap.size from fun b h=>(SetO.x HS3.out h).2)
 clear b4 s4 HS3 HB3
 go_wp2_with fail
 obtain ⟨w4,hw4⟩:∃ z,z = w3.alloc (.cells #[.slice none 0 0,.slice none 0 0,.slice none 0 0,.slice none 0 0] 52):=⟨_,rfl⟩
 rw [← hw4] at HB4 HS4 HR4 HL4 ⊢
 obtain ⟨gs,hgs⟩:∃ g,w3.heap.size = g:=⟨_,rfl⟩
 rw [hgs] at HR4 HL4 HD4 ⊢
 clear hw4 hgs
 refine (HMD.out w4 HB4.out).mono ?_
 rintro e w5 ⟨v5,L,rfl,ho5,hf5,hl5,hb5⟩
 obtain ⟨oa,oc,rfl⟩:=ho5.form
 obtain ⟨N,hN⟩:∃ i,L.length = i:=⟨_,rfl⟩
 have HNL:=Shut.mk hN
 rw [hN] at hl5 ho5 ⊢
 obtain ⟨Z,hZ⟩:∃ Z:Nat → Prop,Z = fun b=>W.heap.size ≤ b ∧ (b < w4.heap.size ∨ w5.heap.size ≤ b):=⟨_,rfl⟩
 rw [← hZ] at ho5
 obtain ⟨Y,hY⟩:∃ Y:Nat → Prop,Y = fun b=>w.heap.size ≤ b ∧ (b < w4.heap.size ∨ w5.heap.size ≤ b):=⟨_,rfl⟩
 have hYZ:∀ b,Y b → Z b:=fun b h=>by
  rw [hY] at h
  rw [hZ]
  exact ⟨Nat.le_trans HWW.out h.1,h.2⟩
 have hYg:Y gs:=by rw [hY];exact ⟨HL4.out.1,.inl HL4.out.2⟩
 have hYi:∀ b,w5.heap.size ≤ b → Y b:=fun b h=>by
  rw [hY]
  exact ⟨Nat.le_trans HB4.out.size (Nat.le_trans hb5.size h),.inr h⟩
 have HTW:=Lib.hid (show TwoAt Y B gs w5 0 Y ⟨[],[],[]⟩ DagN.new DagN.new [] [] (.slice none 0 0) (.slice none 0 0) (.slice none 0 0) (.slice none 0 0) w5 from
  ⟨(HS4.out.place0 (fun b h1 h2 => by rw [hY]; exact ⟨h1, .inl h2⟩)).below hb5, DInv.new, zcq, zcq, (HR4.out Y hYg).below hb5, Nat.le_refl _, Nat.le_refl _, fun _ h => h, hYi, fun b h e => (by
    have h1:=HD4.out b h
    rcases e with rfl | e | e | e | e
    ·omega
    all_goals cases e),(fun b e=>by
    rcases e with rfl | e | e | e | e
    ·exact hYg
    all_goals cases e),Only.refl _ _⟩)
 have HO5:=Lib.hid (show OpsX Y oa L w5 from (ho5.at).mono hYZ)
 have HNY:=Lib.hid (show ∀ a,oa = some a → ¬ Y a.block from fun a ha e=>by
  rw [hY] at e
  have h1:=ho5.lt (g:=a.block) (by rw [ha];exact own_of (ha ▸ ho5))
  rcases e.2 with h | h <;> omega)
 have HF5:=Lib.hid hf5
 have HB5:=Lib.hid (HB4.out.trans (hb5.mono HB4.out.size))
 have HYL:=Lib.hid (show ∀ b,Y b → w.heap.size ≤ b from fun b h=>by rw [hY] at h;exact h.1)
 clear ho5 hf5 hb5 hN hZ hY hYZ hYg hYi HMD HS4 HR4 HD4 HL4 HB4
 go_wp2_with fail
 go_loopw [14] (fun i wr=>∃ (k:Nat) (X:Nat → Prop) (T:Ents) (s:DagN) (hs:List (List Nat)) (M:Bh) (vo vw vn vq:Value),k ≤ N ∧ i = .int .i64 k ∧ TwoAt Y B gs w5 k X T s s hs M vo vw vn vq wr ∧ Deep s ∧ Goods s) (fun i _=>N - (intOf i).toNat)
 case atStart=>exact ⟨0,_,_,_,_,_,_,_,_,_,Nat.zero_le _,rfl,HTW.out,Deep.new,Goods.new⟩
 case round =>
  clear HTW
  obtain ⟨k,X,T,s,hs,M,vo,vw,vn,vq,hkn,rfl,htw,hdp,hgd⟩:=hrel
  have HTW:=Lib.hid htw
  have HDP:=Lib.hid hdp
  have HGD:=Lib.hid hgd
  have HBR:=Lib.hid (show Below w.heap.size w wr from Only.toBelow HB5.out htw.only HYL.out HB5.out.size)
  clear htw hdp hgd
  by_cases hlt:k < N
  ·obtain ⟨y,hy⟩:∃ y,L[k]? = some y:=⟨_,List.getElem?_eq_getElem (by rw [HNL.out];exact hlt)⟩
   have HY:=Lib.hid (HF5.out y (List.mem_of_getElem? hy))
   have hro:=HO5.out.only HTW.out.only (fun _ h=>h) HNY.out
   obtain ⟨bL,oL,rfl,hbL,pa,pc,hrow,hia,hoff⟩:=hro.get hy
   have HRW:=Lib.hid hrow
   have HIA:=Lib.hid hia
   have HOF:=Lib.hid hoff
   have HSL:=Lib.hid (show (Tryz.prog.info? 49).map (·.size) = some (opL y pa pc).length by rw [z14 HY.out.d.ref.1];exact Tryz.sizeO)
   have HSV17:=Lib.hid (show (Tryz.prog.info? 49).map (·.size) = some (opV y pa pc).size by rw [z08 HY.out.d.ref.1];exact Tryz.sizeO)
   have HSZ17:=Lib.hid (show (opL z04 none 0).toArray.size = (opV y pa pc).size by rw [z08 HY.out.d.ref.1];rfl)
   clear hy hbL hrow hia hoff hro
   go_wp2_with (first
    | (refine wpList_load_mid rfl 49 _ rfl bL (oL + k * 38) rfl (opL y pa pc) _ HRW.out Tryz.underlying49 rfl HSL.out ?_)
    | (refine z0b rfl 49 rfl (opL z04 none 0) HSO.out ?_)
    | (refine z00 rfl 49 _ _ rfl rfl wr.heap.size (opL z04 none 0).toArray (opV y pa pc) 49 rfl rfl (heap_alloc_new wr _) HSV17.out HSZ17.out (z1c y pa pc) ?_))
   intro w6 hcs hbs
   have hbb:Below wr.heap.size wr w6:=But.toBelow ((Below.refl _ wr).alloc (Nat.le_refl _) _) hbs.out (Nat.le_refl _) (by rw [World.size_alloc];exact Nat.le_succ _)
   have HC17:=Lib.hid hcs.out
   have HTW5:=Lib.hid (HTW.out.below hbb)
   have HIA5:=Lib.hid (HIA.out.below hbb)
   have HBR5:=Lib.hid (HBR.out.trans (hbb.mono HBR.out.size))
   obtain ⟨g17,hgg⟩:∃ g,wr.heap.size = g:=⟨_,rfl⟩
   have HG17:=Lib.hid (show wr.heap.size ≤ g17 from hgg ▸ Nat.le_refl _)
   rw [hgg] at HC17 ⊢
   clear hcs hbs hbb hgg HSZ17
   have HTK:=Lib.hid (zcu X B T s hs M y pa pc w6 HTW5.out.set HTW5.out.hi HTW5.out.inv HTW5.out.tameS HY.out HIA5.out (HK.out.below HBR5.out) (by have:=HTW5.out.cntS;omega))
   go_wp2_with (refine z01 rfl 49 (.tmp 7) rfl g17 (opV y pa pc) 49 _ rfl HC17.out Tryz.underlying49 rfl HSV17.out ?_)
   refine HTK.out.mono ?_
   intro e w7 hdt
   obtain ⟨v7,X7,T7,hs7,M7,rfl,ho7,htw7,htu7,_⟩:=HTW5.out.dev hdt
   have HTW7:=Lib.hid htw7
   have HC177:=Lib.hid (HC17.out.only htu7.only (fun e=>by have h1:=(SetO.x HTW.out.set e).2;have h2:=HG17.out;omega))
   have HIA7:=Lib.hid (HIA5.out.only htu7.only (HOF.out.mono (fun b hb=>HTW5.out.xz b (SetO.x HTW5.out.set hb).1)))
   clear hdt htw7 ho7 htu7 HTK HC17
   have HTK2:=Lib.hid (z8m Y gs vo vw vn vq s y pa pc w7 HTW7.out.ref (fun b hb=>HTW7.out.xz b (HTW7.out.hi b hb)) HTW7.out.tameT HY.out HIA7.out HOF.out (by have:=HTW7.out.cntT;have:=HTW.out.cntT;omega))
   go_wp2_with (refine z01 rfl 49 (.tmp 7) rfl g17 (opV y pa pc) 49 _ rfl HC177.out Tryz.underlying49 rfl HSV17.out ?_)
   refine HTK2.out.mono ?_
   intro e w8 hdt
   obtain ⟨v8,vo8,vw8,vn8,vq8,rfl,ho8,htw8,htu8⟩:=HTW7.out.doc HTW.out.cntT hdt
   have HTW8:=Lib.hid htw8
   clear hdt htw8 ho8 htu8 HTK2 HC177 HIA7
   go_wp2_with fail
   exact ⟨⟨k + 1,X7,T7,_,hs7,M7,vo8,vw8,vn8,vq8,by omega,by go_num,HTW8.out,HDP.out.take y,HGD.out.take y⟩,by simp [intOf];omega⟩
  ·obtain rfl:k = N:=by omega
   go_wp2_with fail
   go_ret2
   exact ⟨Y,X,B,gs,T,s,hs,M,vo,vw,vn,vq,rfl,HTW.out.set,HTW.out.inv,HTW.out.tameS,HDP.out,HGD.out,HTW.out.ref,HBR.out⟩
theorem dev_of11 (X:Nat → Prop) (B:Bs) (T:Ents) (s:DagN) (hs:List (List Nat)) (M:Bh) (key:List UInt8) (ao:Option Addr) (L:List Int) (m c:Nat) (w:World) (h:SetAt X B T s hs M w) (hn:s.names.Nodup) (ht:Tame s) (hg:Goods s) (hI:IntsIn ao L w) (hm:L.length = m) (hl:m ≤ 140737488351232) :
 Calls Tryz.prog 20 #[.pointer (some ⟨B.gs,0,none⟩),.string ⟨key.toArray⟩,.slice ao m c] w fun e w'=>∃ v,e = .returned v ∧ OwnO w.heap.size 49 v (ofN s.ops key L) w' ∧ Below w.heap.size w w':=by
 have HS0:=Lib.hid h
 have HND:=Lib.hid hn
 have HT:=Lib.hid ht
 have HGD:=Lib.hid hg
 have HSK:=Lib.hid (show (Tryz.prog.info? 80).map (·.size) = some (z10 L).size from Tryz.sizeK)
 have HSV:=Lib.hid (show [Value.bool false,.bool false,.bool false,.bool false,.bool false,.bool false].toArray.size = (z10 L).size from rfl)
 have b1:Below w.heap.size w (w.alloc (.cells #[.string ⟨key.toArray⟩] 9)):=(Below.refl _ _).alloc (Nat.le_refl _) _
 have x1:Cells w.heap.size 9 #[.string ⟨key.toArray⟩] (w.alloc (.cells #[.string ⟨key.toArray⟩] 9)):=heap_alloc_new w _
 have HA:=Lib.hid (z89 ao L m c _ (hI.below b1) hm hl)
 have HB1:=Lib.hid b1
 have HX1:=Lib.hid x1
 clear h hn ht hg hI b1 x1
 go_enter Tryz.func20,Tryz.ntmps20
 go_wp2_with (first
  | (refine HA.out.mono ?_;rintro e w3 ⟨rfl,hb3⟩;have HB3:=Lib.hid hb3;clear hb3)
  | (refine z0b rfl 80 rfl _ Tryz.zeroK ?_)
  | (refine z00 rfl 80 _ _ rfl rfl w3.heap.size _ (z10 L) 80 rfl rfl (heap_alloc_new w3 _) HSK.out HSV.out (z5c L) ?_))
 intro w5 hc5 hb5
 have hb35:Below w3.heap.size w3 w5:=But.toBelow ((Below.refl _ w3).alloc (Nat.le_refl _) _) hb5.out (Nat.le_refl _) (by rw [World.size_alloc];exact Nat.le_succ _)
 have hb15:=HB3.out.trans (hb35.mono HB3.out.size)
 have HC5:=Lib.hid hc5.out
 have HB5:=Lib.hid (HB1.out.trans (hb15.mono HB1.out.size))
 have HX5:=Lib.hid (HX1.out.below hb15)
 have HAR:=Lib.hid (z8z X B T s hs M (fun o=>decide (o.d.key = key ∧ o.d.kind ∈ L)) 46 _ #[.pointer (some ⟨w.heap.size,0,none⟩),.pointer (some ⟨w3.heap.size,0,none⟩)] w5 (HS0.out.below HB5.out) HND.out HT.out Tryz.func46 rfl rfl (fun x hx pa pc w' hb=>zjk x pa pc w.heap.size w3.heap.size key L w' (HT.out.ops x hx).d.ref.1 (HGD.out.kind hx) (by rw [(HX5.out.below hb).at];rfl) (HC5.out.below hb)))
 have hpm:=z24 (s.ops.filter fun o=>decide (o.d.key = key ∧ o.d.kind ∈ L))
 have HR:=Lib.hid (show ∀ x ∈ z47 (s.ops.filter fun o=>decide (o.d.key = key ∧ o.d.kind ∈ L)),x.d.ref.length = 32 from fun x hx=>(HT.out.ops x (List.mem_filter.1 (hpm.mem_iff.1 hx)).1).d.ref.1)
 have HL:=Lib.hid (show (z47 (s.ops.filter fun o=>decide (o.d.key = key ∧ o.d.kind ∈ L))).length ≤ 1000 from by
  rw [hpm.length_eq]
  have:=List.length_filter_le (fun o=>decide (o.d.key = key ∧ o.d.kind ∈ L)) s.ops
  have:=HT.out.many
  omega)
 have HE:=Lib.hid (zj8 (K:=fun o=>decide (o.d.key = key ∧ o.d.kind ∈ L)) HND.out)
 clear hc5 hb5 hb35 hb15 hpm
 go_wp2_with (first
  | (refine HAR.out.mono ?_;rintro e w6 ⟨v6,rfl,ho6,hb6⟩;have HB6:=Lib.hid (HB5.out.trans (hb6.mono HB5.out.size));have HBR:=Lib.hid (zcx ho6 HR.out HL.out);clear ho6 hb6)
  | (refine HBR.out.mono ?_;rintro e w7 ⟨v7,rfl,ho7,hb7⟩;have HO7:=Lib.hid ho7;have HB7:=Lib.hid hb7;clear ho7 hb7))
 go_ret
 exact ⟨_,rfl,by rw [ofN,← HE.out];exact HO7.out.mono HB6.out.size,HB6.out.trans (HB7.out.mono HB6.out.size)⟩
open Go.Sort Go.Shelf
theorem zl8 {key:List UInt8} {L:List OpN} (hd:(L.map z02).Nodup) (hl:∀ o ∈ L,(z02 o).length = 32):z2o key L = match (ofN L key [3]).getLast? with
 | none=>([],false)
 | some x=>(x.d.val,true):=by
 unfold z2o
 rw [zj5 key hd hl]
 cases (ofN L key [3]).getLast? <;> rfl
theorem ofN_fit {s:DagN} (ht:Tame s) (key:List UInt8) (ks:List Int):(ofN s.ops key ks).length ≤ 1000 ∧ ∀ x ∈ ofN s.ops key ks,x.Fit:=by
 have hp:=z24 s.ops
 refine ⟨?_,fun x hx=>ht.ops x (hp.mem_iff.1 (List.mem_filter.1 hx).1)⟩
 have h1:=List.length_filter_le (fun o:OpN=>decide (o.d.key = key ∧ o.d.kind ∈ ks)) (z47 s.ops)
 have h2:=ht.many
 rw [hp.length_eq] at h1
 exact Nat.le_trans h1 (by omega)
theorem z86 {g:Nat} {z:Int} {w:World} (h:w.cell? ⟨g,0,none⟩ = some (.int .i64 z)):IntsIn (some ⟨g,0,none⟩) [z] w:=fun i hi=>⟨_,rfl,by
 obtain rfl:i = 0:=by simpa using hi
 rw [Addr.add_lit]
 exact h⟩
theorem zhj (X:Nat → Prop) (B:Bs) (T:Ents) (s:DagN) (hs:List (List Nat)) (M:Bh) (key:List UInt8) (w:World) (h:SetAt X B T s hs M w) (hn:s.names.Nodup) (ht:Tame s) (hg:Goods s) :
 Calls Tryz.prog 8 #[.pointer (some ⟨B.gs,0,none⟩),.string ⟨key.toArray⟩] w fun e w'=>e = .returned (.tuple #[.string ⟨(z2o key s.ops).1.toArray⟩,.bool (z2o key s.ops).2]) ∧ Below w.heap.size w w':=by
 have b1:Below w.heap.size w (w.alloc (.cells #[.int .i64 3] 3)):=(Below.refl _ _).alloc (Nat.le_refl _) _
 have HOF:=Lib.hid (dev_of11 X B T s hs M key (some ⟨w.heap.size,0,none⟩) [3] 1 1 _ (h.below b1) hn ht hg (z86 (by rw [Lib.cell_of_heap (heap_alloc_new w _)];rfl)) rfl (by decide))
 have hv:=zl8 (key:=key) (L:=s.ops) hn fun o _=>z0z o
 obtain ⟨hl,hF⟩:=ofN_fit ht key [3]
 obtain ⟨F,hFe⟩:∃ z,ofN s.ops key [3] = z:=⟨_,rfl⟩
 rw [hFe] at HOF hv hl hF
 obtain ⟨V,hV⟩:∃ z,z2o key s.ops = z:=⟨_,rfl⟩
 rw [hV] at hv ⊢
 obtain ⟨n,hne⟩:∃ z,F.length = z:=⟨_,rfl⟩
 have HN:=Shut.mk hne
 rw [hne] at hl
 have HV:=Shut.mk hv
 have HF:=Lib.hid hF
 have HB1:=Lib.hid b1
 clear h hn ht hg b1 hFe hV hne hv hF
 go_enter Tryz.func8,Tryz.ntmps8
 go_wp2_with fail
 refine HOF.out.mono ?_
 rintro e w2 ⟨v2,rfl,ho2,hb2⟩
 obtain ⟨ar,cr,rfl⟩:=ho2.form
 rw [HN.out] at ho2 ⊢
 have HO2:=Lib.hid ho2.at
 have HB2:=Lib.hid (HB1.out.trans (hb2.mono HB1.out.size))
 clear ho2 hb2 HOF
 cases n with
 | zero =>
   have HE:=Lib.hid (show V = ([],false) from by
    rw [HV.out,List.length_eq_zero_iff.1 HN.out]
    rfl)
   go_wp2_with fail
   go_ret2
   exact ⟨by rw [HE.out];rfl,HB2.out⟩
 | succ m =>
   obtain ⟨x,hx⟩:∃ x,F[m]? = some x:=⟨_,List.getElem?_eq_getElem (by rw [HN.out];exact Nat.lt_succ_self m)⟩
   have HE:=Lib.hid (show V = (x.d.val,true) from by
    rw [HV.out,List.getLast?_eq_getElem?,HN.out,Nat.add_sub_cancel,hx])
   obtain ⟨b,ob,rfl,hbl,pa,pc,q1,_⟩:=HO2.out.get hx
   have c2:w2.cell? ⟨b,ob + m * 38 + 2,none⟩ = some (.string ⟨x.d.val.toArray⟩):=q1 2 _ rfl
   obtain ⟨k,hk⟩:∃ k,m + 1 = k:=⟨_,rfl⟩
   rw [hk] at hl ⊢
   have hk1:(k:Int) - 1 = (m:Int):=by omega
   have g1:((k:Int) == 0) = false:=by
    rw [beq_eq_false_iff_ne]
    omega
   have g2:(k == 0) = false:=by
    rw [beq_eq_false_iff_ne]
    omega
   have g3:¬ k = 0:=by omega
   have g4:(m:Int) < (k:Int):=by omega
   clear hx q1 hbl hk
   go_wp2_with fail
   go_ret2
   exact ⟨by rw [HE.out];rfl,HB2.out⟩
end Go.Proofs.YtjomgkiphecljaaGreatDoor
namespace Go.Proofs.YtjomgkiphecljaaGreatDoor
open Go.RowKit Go.BigFrame
theorem zhu (n:List UInt8):∀ L:List (List UInt8),(zga n L).length ≤ L.length + 1
 | []=>Nat.le_refl _
 | x :: r => by
   rw [zga]
   split
   ·have:=zhu n r
    simp only [List.length_cons]
    omega
   ·split
    ·simp only [List.length_cons];omega
    ·simp only [List.length_cons];omega
theorem z99 {L:List (List UInt8)} {k:Nat} (h:k < L.length):z1a (L.take (k + 1)) = zga L[k] (z1a (L.take k)):=by
 rw [List.take_succ_eq_append_getElem h,zec]
theorem z5n (L:List (List UInt8)):∀ k,k ≤ L.length → (z1a (L.take k)).length ≤ k
 | 0,_=>Nat.le_refl _
 | k + 1, h => by
   rw [z99 (by omega)]
   have:=zhu L[k] (z1a (L.take k))
   have:=z5n L k (by omega)
   omega
theorem zjh {L:List OpN} {kind:Int} {key value:List UInt8} {k:Nat} {x:OpN} (hx:L[k]? = some x):z61 (L.take (k + 1)) kind key value = (z61 (L.take k) kind key value || (decide (x.d.kind = kind) && (decide (x.d.key = key) && decide (x.d.val = value)))):=by
 rw [z61,List.take_add_one,hx,Option.toList_some,List.any_append]
 simp [z61]
theorem real_any (Z:Nat → Prop) (gs:Nat) (vo vw vn vq:Value) (s:DagN) (kind:Int) (key value:List UInt8) (w:World) (h:RefAt Z gs vo vw vn vq s w) (hF:∀ x ∈ s.ops,x.Fit) (hN:s.ops.length ≤ 1000) :
 Calls Tryz.prog 13 #[.pointer (some ⟨gs,0,none⟩),.int .i64 kind,.string ⟨key.toArray⟩,.string ⟨value.toArray⟩] w fun e w'=>e = .returned (.bool (z61 s.ops kind key value)) ∧ Below w.heap.size w w':=by
 obtain ⟨ro,rc,hvo⟩:=h.ops.form
 have c0:=h.cells.at 0
 simp only [List.getElem?_toArray,List.getElem?_cons_zero] at c0
 rw [hvo] at c0
 have HAT:=Lib.hid (show OpsX Z ro s.ops w from (hvo ▸ h.ops:OwnX Z 0 49 (.slice ro s.ops.length rc) s.ops w).at)
 have HFR:=Lib.hid hF
 have HZO:=Lib.hid (show (Tryz.prog.info? 49).bind (·.zero) = some (.agg (opL z04 none 0).toArray) by kernel_rfl)
 obtain ⟨n,hn⟩:∃ n,s.ops.length = n:=⟨_,rfl⟩
 rw [hn] at c0 hN
 have HN:=Shut.mk hn
 clear h hF hvo hn
 go_enter Tryz.func13,Tryz.ntmps13
 go_wp2_with fail
 go_loopw [16] (fun iv wr=>∃ k:Nat,iv = .int .i64 k ∧ k ≤ n ∧ z61 (s.ops.take k) kind key value = false ∧ Below w.heap.size w wr) (fun iv _=>n - (intOf iv).toNat)
 case atStart=>exact ⟨0,rfl,Nat.zero_le _,rfl,Below.refl _ _⟩
 case round =>
  obtain ⟨wi,rfl⟩:∃ z,z = wr:=⟨_,rfl⟩
  obtain ⟨k,rfl,hk,hr,hb⟩:=hrel
  have HB:=Lib.hid hb
  have HR:=Shut.mk hr
  have HATW:=Lib.hid (HAT.out.below hb)
  clear hb hr
  by_cases hlt:k < n
  ·obtain ⟨x,hx⟩:∃ x,s.ops[k]? = some x:=⟨_,List.getElem?_eq_getElem (by rw [HN.out];exact hlt)⟩
   have hxm:=List.mem_of_getElem? hx
   have HF:=Lib.hid (HFR.out x hxm)
   have hnx:=zjh (kind:=kind) (key:=key) (value:=value) hx
   rw [HR.out,Bool.false_or] at hnx
   have HYES:=Lib.hid (show x.d.kind = kind → x.d.key = key → x.d.val = value → z61 s.ops kind key value = true from fun h1 h2 h3=>realN_iff.2 ⟨x,hxm,h1,h2,h3⟩)
   obtain ⟨br,rr,rfl,hbr,pa,pc,r1,i1,f1⟩:=HATW.out.get hx
   have HRX:=Lib.hid r1
   have HSL:=Lib.hid (show (Tryz.prog.info? 49).map (·.size) = some (opL x pa pc).length by rw [z14 HF.out.d.ref.1];exact Tryz.sizeO)
   have HSV:=Lib.hid (show (Tryz.prog.info? 49).map (·.size) = some (opV x pa pc).size by rw [z08 HF.out.d.ref.1];exact Tryz.sizeO)
   have HSZ:=Lib.hid (show (opL z04 none 0).toArray.size = (opV x pa pc).size by rw [z08 HF.out.d.ref.1];rfl)
   have HNX:=Shut.mk hnx
   clear hx hxm hnx hbr r1 i1 f1
   go_wp2_with (first
    | (refine wpList_load_mid rfl 49 _ rfl br (rr + k * 38) rfl (opL x pa pc) _ HRX.out Tryz.underlying49 rfl HSL.out ?_)
    | (refine z0b rfl 49 rfl (opL z04 none 0) HZO.out ?_)
    | (refine z00 rfl 49 _ _ rfl rfl wi.heap.size (opL z04 none 0).toArray (opV x pa pc) 49 rfl rfl (heap_alloc_new wi _) HSV.out HSZ.out (z1c x pa pc) ?_))
   intro w5 hcs hbs
   have hb5:Below wi.heap.size wi w5:=But.toBelow ((Below.refl _ wi).alloc (Nat.le_refl _) _) hbs.out (Nat.le_refl _) (by rw [World.size_alloc];exact Nat.le_succ _)
   have HB5:=Lib.hid (HB.out.trans (hb5.mono HB.out.size))
   obtain ⟨c0,c1,c2,_⟩:=z1l (z0d HF.out.d.ref.1 hcs.out).1
   obtain ⟨g9,hg9⟩:∃ z,wi.heap.size = z:=⟨_,rfl⟩
   rw [hg9] at c0 c1 c2 ⊢
   obtain ⟨kd,hkd⟩:∃ z,x.d.kind = z:=⟨_,rfl⟩
   obtain ⟨ky,hky⟩:∃ z,x.d.key = z:=⟨_,rfl⟩
   obtain ⟨vl,hvl⟩:∃ z,x.d.val = z:=⟨_,rfl⟩
   rw [hkd] at c0 HNX HYES
   rw [hky] at c1 HNX HYES
   rw [hvl] at c2 HNX HYES
   clear hcs hbs hb5 hg9 hkd hky hvl
   by_cases h1:kd = kind
   ·subst h1
    by_cases h2:ky = key
    ·subst h2
     by_cases h3:vl = value
     ·subst h3
      have HY:=Lib.hid (HYES.out (by first | rfl | trivial) (by first | rfl | trivial) (by first | rfl | trivial))
      go_wp2_with fail
      go_ret
      exact ⟨by rw [HY.out];rfl,HB5.out⟩
     ·have g3:(vl == value) = false:=by rw [beq_eq_false_iff_ne];exact h3
      have HN0:=Lib.hid (show z61 (s.ops.take (k + 1)) kd ky value = false from by rw [HNX.out,decide_eq_false h3];simp)
      go_wp2_with fail
      exact ⟨⟨k + 1,by go_num,by omega,HN0.out,HB5.out⟩,by simp [intOf];omega⟩
    ·have g2:(ky == key) = false:=by rw [beq_eq_false_iff_ne];exact h2
     have HN0:=Lib.hid (show z61 (s.ops.take (k + 1)) kd key value = false from by rw [HNX.out,decide_eq_false h2];simp)
     go_wp2_with fail
     exact ⟨⟨k + 1,by go_num,by omega,HN0.out,HB5.out⟩,by simp [intOf];omega⟩
   ·have g1:(kd == kind) = false:=by rw [beq_eq_false_iff_ne];exact h1
    have HN0:=Lib.hid (show z61 (s.ops.take (k + 1)) kind key value = false from by rw [HNX.out,decide_eq_false h1];simp)
    go_wp2_with fail
    exact ⟨⟨k + 1,by go_num,by omega,HN0.out,HB5.out⟩,by simp [intOf];omega⟩
  ·obtain rfl:k = n:=by omega
   have HE:=Lib.hid (show z61 s.ops kind key value = false from by
    have:=HR.out
    rwa [List.take_of_length_le (by rw [HN.out];exact Nat.le_refl _)] at this)
   go_wp2_with fail
   go_ret
   exact ⟨by rw [HE.out];rfl,HB.out⟩
end Go.Proofs.YtjomgkiphecljaaGreatDoor
namespace Go.Proofs.YtjomgkiphecljaaGreatDoor
open Go.ChangeShapes Go.WideShapes Go.ChangeAt Go.RowKit
theorem gK : Tryz.prog.globalNamed "tribunal/sha.roundConstants" = some 0 := by kernel_rfl
theorem gKType:(Tryz.prog.globals[0]?).map (·.type) = some 196:=by kernel_rfl
theorem cellsK:Tryz.prog.cellsOf 196 = 64:=by kernel_rfl
theorem cellsU32:Tryz.prog.cellsOf 151 = 1:=by kernel_rfl
def kInts:List Int:=shaK.map fun (n:Nat)=>(n:Int)
theorem k_laid {W : World} (h : laidMetH Tryz.prog [("tribunal/sha.roundConstants", Rows.laid_tribunal_sha_roundConstants)] W) : KAt W := by
 have ht : Lib.TabIs Tryz.prog W "tribunal/sha.roundConstants" .u32 kInts := Lib.tabIs_of_head (rest := []) gK gKType Tryz.underlying196 Tryz.underlying151 cellsU32 cellsK h
 intro j hj
 have hc:=ht.cell gK j (by unfold kInts;rw [List.length_map,shaK_len];exact hj)
 rw [hc]
 have e:kInts.getD j 0 = ((shaK.getD j 0:Nat):Int):=by
  unfold kInts
  rw [List.getD_eq_getElem?_getD,List.getElem?_map,List.getD_eq_getElem?_getD,List.getElem?_eq_getElem (by rw [shaK_len];exact hj)]
  rfl
 rw [e]
noncomputable def z5a (os:Os):World :=
 { World.holding Tryz.prog os ⟨#[],#[],[]⟩ with heap:=(World.holding Tryz.prog os ⟨#[],#[],[]⟩).heap.modify 0 fun
  | .cells _ t frozen=>.cells (z05 .u32 shaK).toArray t frozen
  | o=>o }
end Go.Proofs.YtjomgkiphecljaaGreatDoor
