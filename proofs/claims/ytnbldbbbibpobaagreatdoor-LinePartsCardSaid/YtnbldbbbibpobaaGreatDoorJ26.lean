/-
  Joined: Both sets in one world, through takes; what Take answers are names.; The laws' both of layer 11: the developers' set and the document's, of what is made.; The table of the round constants, laid; what a law's arguments are.
-/
import Derived.Deep.DeepHandedRow
import Derived.Lib.LaidTab
import Derived.Test.YtnbldbbbibpobaaGreatDoorCards
import Derived.Test.YtnbldbbbibpobaaGreatDoorTie
import Derived.Test.YtnbldbbbibpobaaGreatDoorJ04
import Derived.Test.YtnbldbbbibpobaaGreatDoorJ05
import Derived.Test.YtnbldbbbibpobaaGreatDoorJ14
import Derived.Test.YtnbldbbbibpobaaGreatDoorJ18
import Derived.Test.YtnbldbbbibpobaaGreatDoorJ22
import Derived.Test.YtnbldbbbibpobaaGreatDoorJ23
import Derived.Test.YtnbldbbbibpobaaGreatDoorJ25
set_option maxRecDepth 100000
set_option maxHeartbeats 20000000
namespace Go.Proofs.YtnbldbbbibpobaaGreatDoor
open Go.RowKit Go.BigFrame
structure TwoAt (Z:Nat → Prop) (B:Bs) (gs:Nat) (w4:World) (k:Nat) (X:Nat → Prop) (T:Ents) (s t:DagN) (hs:List (List Nat)) (M:Bh) (vo vw vn vq:Value) (wr:World):Prop where
 set:SetAt X B T s hs M wr
 inv:DInv s hs M [] []
 tameS:Tame s
 tameT:Tame t
 ref:RefAt Z gs vo vw vn vq t wr
 cntS:s.ops.length + s.wait.length ≤ k
 cntT:t.ops.length + t.wait.length ≤ k
 xz:∀ b,X b → Z b
 hi:∀ b,wr.heap.size ≤ b → X b
 dis:∀ b,SetO B T b → ¬ RefX gs vo vw vn vq b
 mine:∀ b,RefX gs vo vw vn vq b → X b
 only:Only Z w4 wr
section
variable {Z:Nat → Prop} {B:Bs} {gs:Nat} {w4:World} {k:Nat} {X:Nat → Prop} {T:Ents} {s t:DagN} {hs:List (List Nat)} {M:Bh} {vo vw vn vq:Value} {wr w':World} {x:OpN}
theorem TwoAt.below (h:TwoAt Z B gs w4 k X T s t hs M vo vw vn vq wr) (b:Below wr.heap.size wr w'):TwoAt Z B gs w4 k X T s t hs M vo vw vn vq w' :=
 ⟨h.set.below b,h.inv,h.tameS,h.tameT,h.ref.below b,h.cntS,h.cntT,h.xz,fun c hc=>h.hi c (Nat.le_trans b.size hc),h.dis,h.mine,h.only.below b⟩
theorem TwoAt.dev (h:TwoAt Z B gs w4 k X T s t hs M vo vw vn vq wr) {e:Ending} (hd:DevTake X B T (z2u s x) wr e w') :
 ∃ v X' T' hs' M',e = .returned (.tuple #[v,.int .i64 (z2u s x).2.1]) ∧ OwnI wr.heap.size 25 v (z2u s x).1 w' ∧ TwoAt Z B gs w4 (k + 1) X' T' (z2u s x).2.2 t hs' M' vo vw vn vq w' ∧ Turn (SetO B T) (SetO B T') wr w' ∧ (∀ b,b < wr.heap.size → X b → X' b):=by
 obtain ⟨v,X',T',hs',M',he,hv,h1,h2,h3,h4,_,h5,h6,h7⟩:=hd
 have hc:=(z6p h.tameS.shallow x).2
 have hs':=h.cntS
 refine ⟨v,X',T',_,M',he,hv,⟨h1,h2,h3,h.tameT,h.ref.only h4.only (fun b hb=>h.xz b (SetO.x h.set hb).1) (fun b hb e=>h.dis b e hb),by omega,Nat.le_succ_of_le h.cntT,fun b hb=>h.xz b (h5 b hb),h7,fun b hb e=>?_,fun b hb=>h6 b (h.ref.lt hb) (h.mine b hb),h.only.trans h4.only (fun b hb=>.inl (h.xz b (SetO.x h.set hb).1))⟩,h4,h6⟩
 rcases h4.own b hb with e' | e'
 ·exact h.dis b e' e
 ·have:=h.ref.lt e
  omega
theorem TwoAt.doc (h:TwoAt Z B gs w4 (k + 1) X T s t hs M vo vw vn vq wr) (ht:t.ops.length + t.wait.length ≤ k) {e:Ending} (hd:TakePost Z gs wr.heap.size (RefX gs vo vw vn vq) wr (z2u t x) e w') :
 ∃ v vo' vw' vn' vq',e = .returned (.tuple #[v,.int .i64 (z2u t x).2.1]) ∧ OwnI wr.heap.size 25 v (z2u t x).1 w' ∧ TwoAt Z B gs w4 (k + 1) X T s (z2u t x).2.2 hs M vo' vw' vn' vq' w' ∧ Turn (RefX gs vo vw vn vq) (RefX gs vo' vw' vn' vq') wr w':=by
 obtain ⟨v,vo',vw',vn',vq',he,hv,h1,h2,h3⟩:=hd
 have hc:=(z6p h.tameT.shallow x).2
 refine ⟨v,vo',vw',vn',vq',he,hv,⟨h.set.only h2.only h.mine (fun b hb=>h.dis b hb),h.inv,h.tameS,h3,h1,h.cntS,by omega,h.xz,fun b hb=>h.hi b (Nat.le_trans h2.only.size hb),fun b hb e=>?_,fun b hb=>?_,h.only.trans h2.only (fun b hb=>.inl (h.ref.mine b hb))⟩,h2⟩
 ·rcases h2.own b e with e' | e'
  ·exact h.dis b hb e'
  ·have:=(SetO.x h.set hb).2
   omega
 ·rcases h2.own b hb with e' | e'
  ·exact h.mine b e'
  ·exact h.hi b e'
end
theorem OpsX.only {X O:Nat → Prop} {ao:Option Addr} {L:List OpN} {w w':World} (h:OpsX X ao L w) (k:Only O w w') (hO:∀ b,O b → X b) (hb:∀ a,ao = some a → ¬ O a.block):OpsX X ao L w':=by
 rcases h with h | ⟨b,o,h1,h2,h3⟩
 ·exact .inl h
 ·refine .inr ⟨b,o,h1,Nat.lt_of_lt_of_le h2 k.size,fun i x hx=>?_⟩
  obtain ⟨pa,pc,q1,q2,q3⟩:=h3 i x hx
  exact ⟨pa,pc,fun j v hj=>(World.cell?_of_block (a:=⟨b,o + i * 38 + j,none⟩) (k.block b h2 (hb _ h1))).trans (q1 j v hj),q2.only k (q3.mono hO),q3⟩
theorem own_of {X:Nat → Prop} {B:Nat} {e:TypeId} {a:Addr} {n c:Nat} {L:List OpN} {w:World} (h:OwnX X B e (.slice (some a) n c) L w):Value.ownBlock (.slice (some a) n c) = some a.block:=by
 rcases h.formB with ⟨h1,_⟩ | ⟨g,cap,h1,_⟩
 ·cases h1
 ·injection h1 with h1
  injection h1 with h1
  subst h1
  rfl
theorem SetAt.place0 {X Y:Nat → Prop} {B:Bs} {w:World} (h:SetAt X B ⟨[],[],[]⟩ DagN.new [] [] w) (k:∀ b,X b → b < w.heap.size → Y b):SetAt Y B ⟨[],[],[]⟩ DagN.new [] [] w:=by
 have hx:∀ b,SetO B ⟨[],[],[]⟩ b → Y b:=fun b hb=>k b (SetO.x h hb).1 (SetO.x h hb).2
 exact ⟨h.cells,h.pm,h.wm,h.hm,h.bm,⟨rfl,fun i x hx=>by simp [DagN.new] at hx⟩,⟨rfl,fun i x hx=>by simp [DagN.new] at hx⟩,⟨rfl,fun i q hq=>by simp at hq,fun i j p q u v hi=>by simp at hi,fun q hq=>by cases hq⟩,
  ⟨hx _ (.inl rfl),hx _ (.inr (.inl rfl)),hx _ (.inr (.inr (.inl rfl))),hx _ (.inr (.inr (.inr (.inl rfl)))),hx _ (.inr (.inr (.inr (.inr (.inl rfl)))))⟩,h.apart⟩
def BothPost (w:World) (e:Ending) (w':World):Prop :=
 ∃ (Z X:Nat → Prop) (B:Bs) (gs:Nat) (T:Ents) (s:DagN) (hs:List (List Nat)) (M:Bh) (vo vw vn vq:Value),e = .returned (.tuple #[.pointer (some ⟨B.gs,0,none⟩),.pointer (some ⟨gs,0,none⟩)]) ∧ SetAt X B T s hs M w' ∧ DInv s hs M [] [] ∧ Tame s ∧ Deep s ∧ Goods s ∧ RefAt Z gs vo vw vn vq s w' ∧ Below w.heap.size w w'
theorem zi6 (W:World) (ao:Option Addr) (l:List MakeN) (c:Nat) (w:World) (hat:MksAt ao l W) (hin:∀ x ∈ l,x.In) (hl:l.length ≤ 140737488351232) (hw:Below W.heap.size W w) (hk:KAt w) :
 Calls Tryz.prog 29 #[.slice ao l.length c] w fun e w'=>BothPost w e w':=by
 have HK:=Lib.hid hk
 have HMD:=Lib.hid (fun w1 (b:Below w.heap.size w w1)=>ref_made W ao l c w1 hat hin hl (hw.trans (b.mono hw.size)))
 have HWW:=Lib.hid hw.size
 obtain ⟨nl,hnl⟩:∃ i,l.length = i:=⟨_,rfl⟩
 rw [hnl] at HMD ⊢
 have HSO:=Lib.hid (show (Tryz.prog.info? 38).bind (·.zero) = some (.agg (opL z05 none 0).toArray) by kernel_rfl)
 clear hat hin hl hw hk hnl
 go_enter Tryz.func29,Tryz.ntmps29
 go_wp2_with fail
 refine (zlz (fun b=>w.heap.size ≤ b) w (fun b h=>h)).mono ?_
 rintro e w3 ⟨B,rfl,hs3,hb3⟩
 have HS3:=Lib.hid hs3
 have HB3:=Lib.hid hb3
 clear hs3 hb3
 have b4:Below w3.heap.size w3 (w3.alloc (.cells #[.slice none 0 0,.slice none 0 0,.slice none 0 0,.slice none 0 0] 36)):=(Below.refl _ _).alloc (Nat.le_refl _) _
 have s4:(w3.alloc (.cells #[.slice none 0 0,.slice none 0 0,.slice none 0 0,.slice none 0 0] 36)).heap.size = w3.heap.size + 1:=World.size_alloc _ _
 have HB4:=Lib.hid (HB3.out.trans (b4.mono HB3.out.size))
 have HS4:=Lib.hid (HS3.out.below b4)
 have HR4:=Lib.hid (fun (Z:Nat → Prop) (h:Z w3.heap.size)=>zep Z w3 h)
 have HL4:=Lib.hid (show w.heap.size ≤ w3.heap.size ∧ w3.heap.size < (w3.alloc (.cells #[.slice none 0 0,.slice none 0 0,.slice none 0 0,.slice none 0 0] 36)).heap.size from ⟨HB3.out.size,by omega⟩)
 have HD4:=Lib.hid (show ∀ b,SetO B ⟨[],[],[]⟩ b → b < w3.heap.size from fun b h=>(SetO.x HS3.out h).2)
 clear b4 s4 HS3 HB3
 go_wp2_with fail
 obtain ⟨w4,hw4⟩:∃ z,z = w3.alloc (.cells #[.slice none 0 0,.slice none 0 0,.slice none 0 0,.slice none 0 0] 36):=⟨_,rfl⟩
 rw [← hw4] at HB4 HS4 HR4 HL4 ⊢
 obtain ⟨gs,hgs⟩:∃ g,w3.heap.size = g:=⟨_,rfl⟩
 rw [hgs] at HR4 HL4 HD4 ⊢
 clear hw4 hgs
 refine (HMD.out w4 HB4.out).mono ?_
 rintro e w5 ⟨v5,L,rfl,ho5,hf5,hl5,hb5⟩
 obtain ⟨oa,oc,rfl⟩:=ho5.form
 obtain ⟨N,hN⟩:∃ i,L.length = i:=⟨_,rfl⟩
 have HNL:=Shut.mk hN
 rw [hN] at hl5 ho5 ⊢
 obtain ⟨Z,hZ⟩:∃ Z:Nat → Prop,Z = fun b=>W.heap.size ≤ b ∧ (b < w4.heap.size ∨ w5.heap.size ≤ b):=⟨_,rfl⟩
 rw [← hZ] at ho5
 obtain ⟨Y,hY⟩:∃ Y:Nat → Prop,Y = fun b=>w.heap.size ≤ b ∧ (b < w4.heap.size ∨ w5.heap.size ≤ b):=⟨_,rfl⟩
 have hYZ:∀ b,Y b → Z b:=fun b h=>by
  rw [hY] at h
  rw [hZ]
  exact ⟨Nat.le_trans HWW.out h.1,h.2⟩
 have hYg:Y gs:=by rw [hY];exact ⟨HL4.out.1,.inl HL4.out.2⟩
 have hYi:∀ b,w5.heap.size ≤ b → Y b:=fun b h=>by
  rw [hY]
  exact ⟨Nat.le_trans HB4.out.size (Nat.le_trans hb5.size h),.inr h⟩
 have HTW:=Lib.hid (show TwoAt Y B gs w5 0 Y ⟨[],[],[]⟩ DagN.new DagN.new [] [] (.slice none 0 0) (.slice none 0 0) (.slice none 0 0) (.slice none 0 0) w5 from
  ⟨(HS4.out.place0 (fun b h1 h2 => by rw [hY]; exact ⟨h1, .inl h2⟩)).below hb5, DInv.new, zd9, zd9, (HR4.out Y hYg).below hb5, Nat.le_refl _, Nat.le_refl _, fun _ h => h, hYi, fun b h e => (by
    have h1:=HD4.out b h
    rcases e with rfl | e | e | e | e
    ·omega
    all_goals cases e),(fun b e=>by
    rcases e with rfl | e | e | e | e
    ·exact hYg
    all_goals cases e),Only.refl _ _⟩)
 have HO5:=Lib.hid (show OpsX Y oa L w5 from (ho5.at).mono hYZ)
 have HNY:=Lib.hid (show ∀ a,oa = some a → ¬ Y a.block from fun a ha e=>by
  rw [hY] at e
  have h1:=ho5.lt (g:=a.block) (by rw [ha];exact own_of (ha ▸ ho5))
  rcases e.2 with h | h <;> omega)
 have HF5:=Lib.hid hf5
 have HB5:=Lib.hid (HB4.out.trans (hb5.mono HB4.out.size))
 have HYL:=Lib.hid (show ∀ b,Y b → w.heap.size ≤ b from fun b h=>by rw [hY] at h;exact h.1)
 clear ho5 hf5 hb5 hN hZ hY hYZ hYg hYi HMD HS4 HR4 HD4 HL4 HB4
 go_wp2_with fail
 go_loopw [14] (fun i wr=>∃ (k:Nat) (X:Nat → Prop) (T:Ents) (s:DagN) (hs:List (List Nat)) (M:Bh) (vo vw vn vq:Value),k ≤ N ∧ i = .int .i64 k ∧ TwoAt Y B gs w5 k X T s s hs M vo vw vn vq wr ∧ Deep s ∧ Goods s) (fun i _=>N - (intOf i).toNat)
 case atStart=>exact ⟨0,_,_,_,_,_,_,_,_,_,Nat.zero_le _,rfl,HTW.out,Deep.new,Goods.new⟩
 case round =>
  clear HTW
  obtain ⟨k,X,T,s,hs,M,vo,vw,vn,vq,hkn,rfl,htw,hdp,hgd⟩:=hrel
  have HTW:=Lib.hid htw
  have HDP:=Lib.hid hdp
  have HGD:=Lib.hid hgd
  have HBR:=Lib.hid (show Below w.heap.size w wr from Only.toBelow HB5.out htw.only HYL.out HB5.out.size)
  clear htw hdp hgd
  by_cases hlt:k < N
  ·obtain ⟨y,hy⟩:∃ y,L[k]? = some y:=⟨_,List.getElem?_eq_getElem (by rw [HNL.out];exact hlt)⟩
   have HY:=Lib.hid (HF5.out y (List.mem_of_getElem? hy))
   have hro:=HO5.out.only HTW.out.only (fun _ h=>h) HNY.out
   obtain ⟨bL,oL,rfl,hbL,pa,pc,hrow,hia,hoff⟩:=hro.get hy
   have HRW:=Lib.hid hrow
   have HIA:=Lib.hid hia
   have HOF:=Lib.hid hoff
   have HSL:=Lib.hid (show (Tryz.prog.info? 38).map (·.size) = some (opL y pa pc).length by rw [z16 HY.out.d.ref.1];exact Tryz.sizeO)
   have HSV17:=Lib.hid (show (Tryz.prog.info? 38).map (·.size) = some (opV y pa pc).size by rw [z0b HY.out.d.ref.1];exact Tryz.sizeO)
   have HSZ17:=Lib.hid (show (opL z05 none 0).toArray.size = (opV y pa pc).size by rw [z0b HY.out.d.ref.1];rfl)
   clear hy hbL hrow hia hoff hro
   go_wp2_with (first
    | (refine wpList_load_mid rfl 38 _ rfl bL (oL + k * 38) rfl (opL y pa pc) _ HRW.out Tryz.underlying38 rfl HSL.out ?_)
    | (refine z0d rfl 38 rfl (opL z05 none 0) HSO.out ?_)
    | (refine z02 rfl 38 _ _ rfl rfl wr.heap.size (opL z05 none 0).toArray (opV y pa pc) 38 rfl rfl (heap_alloc_new wr _) HSV17.out HSZ17.out (z1i y pa pc) ?_))
   intro w6 hcs hbs
   have hbb:Below wr.heap.size wr w6:=But.toBelow ((Below.refl _ wr).alloc (Nat.le_refl _) _) hbs.out (Nat.le_refl _) (by rw [World.size_alloc];exact Nat.le_succ _)
   have HC17:=Lib.hid hcs.out
   have HTW5:=Lib.hid (HTW.out.below hbb)
   have HIA5:=Lib.hid (HIA.out.below hbb)
   have HBR5:=Lib.hid (HBR.out.trans (hbb.mono HBR.out.size))
   obtain ⟨g17,hgg⟩:∃ g,wr.heap.size = g:=⟨_,rfl⟩
   have HG17:=Lib.hid (show wr.heap.size ≤ g17 from hgg ▸ Nat.le_refl _)
   rw [hgg] at HC17 ⊢
   clear hcs hbs hbb hgg HSZ17
   have HTK:=Lib.hid (ze8 X B T s hs M y pa pc w6 HTW5.out.set HTW5.out.hi HTW5.out.inv HTW5.out.tameS HY.out HIA5.out (HK.out.below HBR5.out) (by have:=HTW5.out.cntS;omega))
   go_wp2_with (refine z01 rfl 38 (.tmp 7) rfl g17 (opV y pa pc) 38 _ rfl HC17.out Tryz.underlying38 rfl HSV17.out ?_)
   refine HTK.out.mono ?_
   intro e w7 hdt
   obtain ⟨v7,X7,T7,hs7,M7,rfl,ho7,htw7,htu7,_⟩:=HTW5.out.dev hdt
   have HTW7:=Lib.hid htw7
   have HC177:=Lib.hid (HC17.out.only htu7.only (fun e=>by have h1:=(SetO.x HTW.out.set e).2;have h2:=HG17.out;omega))
   have HIA7:=Lib.hid (HIA5.out.only htu7.only (HOF.out.mono (fun b hb=>HTW5.out.xz b (SetO.x HTW5.out.set hb).1)))
   clear hdt htw7 ho7 htu7 HTK HC17
   have HTK2:=Lib.hid (z9l Y gs vo vw vn vq s y pa pc w7 HTW7.out.ref (fun b hb=>HTW7.out.xz b (HTW7.out.hi b hb)) HTW7.out.tameT HY.out HIA7.out HOF.out (by have:=HTW7.out.cntT;have:=HTW.out.cntT;omega))
   go_wp2_with (refine z01 rfl 38 (.tmp 7) rfl g17 (opV y pa pc) 38 _ rfl HC177.out Tryz.underlying38 rfl HSV17.out ?_)
   refine HTK2.out.mono ?_
   intro e w8 hdt
   obtain ⟨v8,vo8,vw8,vn8,vq8,rfl,ho8,htw8,htu8⟩:=HTW7.out.doc HTW.out.cntT hdt
   have HTW8:=Lib.hid htw8
   clear hdt htw8 ho8 htu8 HTK2 HC177 HIA7
   go_wp2_with fail
   exact ⟨⟨k + 1,X7,T7,_,hs7,M7,vo8,vw8,vn8,vq8,by omega,by go_num,HTW8.out,HDP.out.take y,HGD.out.take y⟩,by simp [intOf];omega⟩
  ·obtain rfl:k = N:=by omega
   go_wp2_with fail
   go_ret2
   exact ⟨Y,X,B,gs,T,s,hs,M,vo,vw,vn,vq,rfl,HTW.out.set,HTW.out.inv,HTW.out.tameS,HDP.out,HGD.out,HTW.out.ref,HBR.out⟩
end Go.Proofs.YtnbldbbbibpobaaGreatDoor
namespace Go.Proofs.YtnbldbbbibpobaaGreatDoor
open Go.ChangeShapes Go.WideShapes Go.ChangeAt Go.RowKit
theorem gK : Tryz.prog.globalNamed "tribunal/sha.roundConstants" = some 0 := by kernel_rfl
theorem gKType:(Tryz.prog.globals[0]?).map (·.type) = some 195:=by kernel_rfl
theorem cellsK:Tryz.prog.cellsOf 195 = 64:=by kernel_rfl
theorem cellsU32:Tryz.prog.cellsOf 143 = 1:=by kernel_rfl
def kInts:List Int:=shaK.map fun (n:Nat)=>(n:Int)
theorem zit {W : World} (h : laidMetH Tryz.prog [("tribunal/sha.roundConstants", Rows.laid_tribunal_sha_roundConstants)] W) : KAt W := by
 have ht : Lib.TabIs Tryz.prog W "tribunal/sha.roundConstants" .u32 kInts := Lib.tabIs_of_head (rest := []) gK gKType Tryz.underlying195 Tryz.underlying143 cellsU32 cellsK h
 intro j hj
 have hc:=ht.cell gK j (by unfold kInts;rw [List.length_map,shaK_len];exact hj)
 rw [hc]
 have e:kInts.getD j 0 = ((shaK.getD j 0:Nat):Int):=by
  unfold kInts
  rw [List.getD_eq_getElem?_getD,List.getElem?_map,List.getD_eq_getElem?_getD,List.getElem?_eq_getElem (by rw [shaK_len];exact hj)]
  rfl
 rw [e]
noncomputable def z2a (os:Os):World :=
 { World.holding Tryz.prog os ⟨#[],#[],[]⟩ with heap:=(World.holding Tryz.prog os ⟨#[],#[],[]⟩).heap.modify 0 fun
  | .cells _ t frozen=>.cells (z07 .u32 shaK).toArray t frozen
  | o=>o }
end Go.Proofs.YtnbldbbbibpobaaGreatDoor
