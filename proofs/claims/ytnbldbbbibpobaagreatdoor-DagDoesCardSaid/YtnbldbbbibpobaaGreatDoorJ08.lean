/-
  Joined: The document's num, DraftText, Text.; The document's Of: what its walk's loops share.; Blocks of numbers; copying into them.; The developers' schedule: a block's words.; The rounds over a block.
-/
import Derived.BigRegion
import Derived.Deep.RegionWith
import Derived.Great.BuildSlice
import Derived.Laws.CopyOwn
import Derived.Laws.Rows
import Derived.Lib.BufferWrite
import Derived.StillTailTactics
import Derived.Test.YtnbldbbbibpobaaGreatDoorJ01
import Derived.Test.YtnbldbbbibpobaaGreatDoorJ07
set_option maxRecDepth 100000
set_option maxHeartbeats 4000000
namespace Go.Proofs.YtnbldbbbibpobaaGreatDoor
open Go.RowKit Go.BigFrame
theorem zb8 (n:Int) (w:World) (h2:n ≤ 9223372036854775807) :
 Calls Tryz.prog 89 #[.int .i64 n] w fun e w'=>e = .returned (.string ⟨(z2h n.toNat).toArray⟩) ∧ Below w.heap.size w w':=by
 by_cases h0:n < 0
 ·have HN:=Lib.hid (z57 0 w (by decide))
  have HE:=Shut.mk (show n.toNat = 0 by omega)
  go_enter Tryz.func89,Tryz.ntmps89
  go_wp2_with fail
  refine HN.out.mono ?_
  rintro e w1 ⟨rfl,hb⟩
  have HB:=Lib.hid hb
  clear hb
  go_wp2_with fail
  go_ret
  exact ⟨by rw [HE.out];rfl,HB.out⟩
 ·obtain ⟨m,rfl⟩:=Int.eq_ofNat_of_zero_le (show 0 ≤ n by omega)
  have HN:=Lib.hid (z57 m w (by omega))
  have hnl:¬ (m:Int) < 0:=h0
  go_enter Tryz.func89,Tryz.ntmps89
  go_wp2_with fail
  refine HN.out.mono ?_
  rintro e w1 ⟨rfl,hb⟩
  have HB:=Lib.hid hb
  clear hb
  go_wp2_with fail
  go_ret
  exact ⟨by rw [Int.toNat_natCast];rfl,HB.out⟩
theorem zbm (d:DraftN) (hd:d.Fit) (w:World) :
 Calls Tryz.prog 90 #[.agg (z0d d)] w fun e w'=>e = .returned (.string ⟨(z3j d).toArray⟩) ∧ Below w.heap.size w w':=by
 have hx:Cells w.heap.size 27 (z0d d) (w.alloc (.cells (z0d d) 27)):=heap_alloc_new w _
 have hb:Below w.heap.size w (w.alloc (.cells (z0d d) 27)):=(Below.refl _ _).alloc (Nat.le_refl _) _
 have HX:=Lib.hid hx
 have HB:=Lib.hid hb
 have HD:=Lib.hid hd
 have HLEN:=Lib.hid (zau hd)
 clear hx hb hd
 go_enter Tryz.func90,Tryz.ntmps90
 go_upto_region 1 with (fail)
 obtain ⟨w1,hw1⟩:∃ x,x = w.alloc (.cells (z0d d) 27):=⟨_,rfl⟩
 rw [← hw1] at HX HB ⊢
 clear hw1
 obtain ⟨c0,c1,c2,c3⟩:=z2z HX.out
 have hg:=HX.out.lt
 obtain ⟨k,hk⟩:∃ k,d.kind = k:=⟨_,rfl⟩
 have HK:=Shut.mk hk
 rw [hk] at c0
 have HC0:=Lib.hid (fun (w':World) (q:Below w1.heap.size w1 w')=>(q.cell (p:=⟨w.heap.size,0,none⟩) hg).trans c0)
 have HC1:=Lib.hid (fun (w':World) (q:Below w1.heap.size w1 w')=>(q.cell (p:=⟨w.heap.size,1,none⟩) hg).trans c1)
 have HC2:=Lib.hid (fun (w':World) (q:Below w1.heap.size w1 w')=>(q.cell (p:=⟨w.heap.size,2,none⟩) hg).trans c2)
 have HC3:=Lib.hid (fun (w':World) (q:Below w1.heap.size w1 w')=>zfh (P:=Tryz.prog) (src:=121) (dst:=9) (c:=32) Tryz.underlying121 Tryz.underlying5 Tryz.underlying9 HD.out.ref.1.symm HD.out.ref.2 (z0g c3 q hg))
 have HN:=Lib.hid (fun w'=>zb8 k w' (by have:=HD.out.high;rw [hk] at this;exact this))
 clear c0 c1 c2 c3 hg hk
 refine z08 (fun w'=>Below w1.heap.size w1 w') 10 (by kernel_rfl) (by kernel_rfl) (Below.refl _ _).drew ?_
 simp only [zC,zD,zE,zF]
 repeat (first
  | (go_big_quiet_want;refine z02 3 _ rfl ⟨w.heap.size,0,none⟩ _ rfl HC0.out Tryz.isAgg3 ?_;go_big_quiet_on;simp only [Act.put,zS,zA,zB])
  | (go_big_quiet_want;refine z02 9 _ rfl ⟨w.heap.size,1,none⟩ _ rfl HC1.out Tryz.isAgg9 ?_;go_big_quiet_on;simp only [Act.put,zS,zA,zB])
  | (go_big_quiet_want;refine z02 9 _ rfl ⟨w.heap.size,2,none⟩ _ rfl HC2.out Tryz.isAgg9 ?_;go_big_quiet_on;simp only [Act.put,zS,zA,zB])
  | (go_big_quiet_want;refine zar 121 9 _ rfl (.slice (some ⟨w.heap.size,3,none⟩) 32 32) _ rfl HC3.out ?_;go_big_quiet_on;simp only [Act.put,zS,zA,zB])
  | go_big_quiet_step ((intro hs';first
   | (go_at_call 89;exact (HN.out _).mono fun e w' h=>⟨h.1,hs'.trans (h.2.mono hs'.size)⟩)
   | rfl)))
 refine wpQuiet_nil ?_
 intro w2 hs2
 have HB2:=Lib.hid (HB.out.trans (hs2.mono HB.out.size))
 clear hs2 HX HB HC0 HC1 HC2 HC3 HN
 go_wp2_with fail
 refine (z5j (some ⟨w2.heap.size,0,none⟩) 4 [z2h k.toNat,d.key,d.val,txt d.ref] _ (z91 w2 _ _ _ _) (by simp) (by have:=HLEN.out;rw [z3j,HK.out] at this;omega)).mono ?_
 rintro e w3 ⟨rfl,hb⟩
 have HB3:=Lib.hid (HB2.out.trans (((Below.refl _ w2).alloc (Nat.le_refl _) _).trans (hb.mono (by simp)) |>.mono HB2.out.size))
 clear hb HB2
 go_wp2_with fail
 go_ret
 exact ⟨by rw [z3j,HK.out];rfl,HB3.out⟩
theorem zi8 (o:OpN) (pa:Option Addr) (pc:Nat) (w:World) (ho:o.Fit) (hp:IAt pa o.preds w) :
 Calls Tryz.prog 63 #[.agg (opV o pa pc)] w fun e w'=>e = .returned (.string ⟨(opB o).toArray⟩) ∧ Below w.heap.size w w':=by
 have hx:Cells w.heap.size 38 (opV o pa pc) (w.alloc (.cells (opV o pa pc) 38)):=heap_alloc_new w _
 have hb:Below w.heap.size w (w.alloc (.cells (opV o pa pc) 38)):=(Below.refl _ _).alloc (Nat.le_refl _) _
 have HX:=Lib.hid hx
 have HB:=Lib.hid hb
 have HP:=Lib.hid (hp.below hb)
 have HD:=Lib.hid ho
 have HLEN:=Lib.hid (zeh ho)
 clear hx hb ho hp
 go_enter Tryz.func63,Tryz.ntmps63
 go_upto_region 1 with (fail)
 obtain ⟨w1,hw1⟩:∃ x,x = w.alloc (.cells (opV o pa pc) 38):=⟨_,rfl⟩
 rw [← hw1] at HX HB HP ⊢
 clear hw1
 obtain ⟨c0,c35,c36,c37⟩:=z0k HD.out.ok.ref.1 HX.out
 have hg:=HX.out.lt
 obtain ⟨n,hn⟩:∃ x,o.preds.length = x:=⟨_,rfl⟩
 have HNN:=Shut.mk hn
 have hn70:n ≤ 70:=by rw [← hn];exact HD.out.many
 rw [hn] at c37
 have HCC:=Lib.hid (And.intro c0 (And.intro c35 c36))
 clear hn c0 c35 c36
 have HR0:=Lib.hid (show ∀ k,k ≤ n → (z3l o.preds k).length = 32 * k from fun k hk=>zdb HD.out.preds (by rw [HNN.out];exact hk))
 go_wp2_with fail
 go_loopw [3,9] (fun v i wr=>∃ k:Nat,k ≤ n ∧ i = .int .i64 k ∧ v = .string ⟨(txt (z3l o.preds k)).toArray⟩ ∧ Below w1.heap.size w1 wr) (fun _ i _=>n - (intOf i).toNat)
 case atStart=>exact ⟨0,Nat.zero_le _,rfl,rfl,Below.refl _ _⟩
 case round =>
  obtain ⟨k,hk,rfl,rfl,hb⟩:=hrel
  have HBW:=Lib.hid hb
  have HLK:=Shut.mk (HR0.out k hk)
  have HPW:=Lib.hid (HP.out.below hb)
  clear hb
  by_cases hlt:k < n
  ·obtain ⟨b,ob,rfl,hbl⟩:=HPW.out.some (by rw [HNN.out];omega)
   have g1:=HPW.out.get (i:=k) (by rw [HNN.out];omega)
   have i1:=Ids.getD HD.out.preds (i:=k) (by rw [HNN.out];omega)
   have HNX:=Shut.mk (show txt (z3l o.preds (k + 1)) = txt (z3l o.preds k) ++ txt (o.preds.getD k []) by rw [zam (by rw [HNN.out];exact hlt),zg4])
   obtain ⟨x,hx⟩:∃ x,o.preds.getD k [] = x:=⟨_,rfl⟩
   have HLT:=Lib.hid (show (txt (z3l o.preds k)).length = 32 * k by rw [z2f];exact HLK.out)
   obtain ⟨R,hR⟩:∃ R,txt (z3l o.preds k) = R:=⟨_,rfl⟩
   rw [hx] at g1 i1 HNX
   rw [hR] at HNX HLT ⊢
   have HG1:=Lib.hid g1
   have HS1:=Lib.hid (show (Tryz.prog.info? 25).map (·.size) = some x.length by rw [i1.1];exact Tryz.sizeI)
   have HL2:=Lib.hid (show (List.replicate 32 0).length = x.length by rw [i1.1];rfl)
   have HXO:=Lib.hid i1
   clear hx hR g1 i1
   go_wp2_with (first
    | (refine z0b rfl 25 _ rfl b (ob + k * 32) x _ rfl HG1.out Tryz.underlying25 rfl HS1.out ?_)
    | (refine z04 rfl 25 _ _ rfl rfl wr.heap.size .u8 (List.replicate 32 0) x 25 rfl rfl (heap_alloc_new wr _) HS1.out HL2.out ?_))
   intro w5 hc' hb'
   have hconv:=conv_blk (P:=Tryz.prog) w5 121 9 5 wr.heap.size 32 32 x 25 HXO.out.1.symm HXO.out.2 hc'.out Tryz.underlying121 Tryz.underlying5 Tryz.underlying9
   have HB5:=Lib.hid (show Below w1.heap.size w1 w5 from But.toBelow (HBW.out.alloc HBW.out.size _) hb'.out HBW.out.size (Nat.le_trans HBW.out.size (by rw [World.size_alloc];exact Nat.le_succ _)))
   have hcat:=cat2 R (txt x)
   have hl1:=HLT.out
   have hl2:(txt x).length = 32:=by rw [z2f];exact HXO.out.1
   clear hc' hb' HL2
   go_wp2_with fail
   exact ⟨⟨k + 1,by omega,by go_num,by rw [HNX.out],HB5.out⟩,by simp [intOf];omega⟩
  ·obtain rfl:k = n:=by omega
   have HTX:=Shut.mk (show txt (z3l o.preds k) = z3k o.preds by rw [← HNN.out,zcw])
   rw [HTX.out]
   have hgw:w.heap.size < wr.heap.size:=Nat.lt_of_lt_of_le hg HBW.out.size
   have HSD:=Lib.hid (show (Tryz.prog.info? 27).map (·.size) = some (z18 o.d).length by rw [z0s HD.out.ok.ref.1];exact Tryz.sizeD)
   have HT:=Lib.hid (fun w'=>zbm o.d HD.out.d w')
   obtain ⟨A,hA⟩:∃ x,o.author = x:=⟨_,rfl⟩
   obtain ⟨D,hD⟩:∃ x,o.depth = x:=⟨_,rfl⟩
   have HE:=Shut.mk (show opB o = z2l [z2h A.toNat,z2h D.toNat,z3k o.preds,z3j o.d] by rw [opB,hA,hD])
   have c35:=HCC.out.2.1
   have c36:=HCC.out.2.2
   rw [hA] at c35
   rw [hD] at c36
   have HNA:=Lib.hid (fun w'=>zb8 A w' (by have:=HD.out.ahigh;rw [hA] at this;exact this))
   have HND:=Lib.hid (fun w'=>zb8 D w' (by have:=HD.out.dhigh;rw [hD] at this;exact this))
   have HC0:=Lib.hid (fun (w':World) (q:Below wr.heap.size wr w')=>show w'.rangeAt w.heap.size 0 (z18 o.d) from z0g (z0g HCC.out.1 HBW.out hg) q hgw)
   have HC5:=Lib.hid (fun (w':World) (q:Below wr.heap.size wr w')=>(q.cell (p:=⟨w.heap.size,35,none⟩) hgw).trans ((HBW.out.cell (p:=⟨w.heap.size,35,none⟩) hg).trans c35))
   have HC6:=Lib.hid (fun (w':World) (q:Below wr.heap.size wr w')=>(q.cell (p:=⟨w.heap.size,36,none⟩) hgw).trans ((HBW.out.cell (p:=⟨w.heap.size,36,none⟩) hg).trans c36))
   obtain ⟨PB,hPB⟩:∃ x,z3k o.preds = x:=⟨_,rfl⟩
   obtain ⟨DB,hDB⟩:∃ x,z3j o.d = x:=⟨_,rfl⟩
   rw [hPB] at HE ⊢
   rw [hDB] at HT HE
   have HLN:=Lib.hid (show (z2l [z2h A.toNat,z2h D.toNat,PB,DB]).length ≤ 4000 by rw [← HE.out];exact HLEN.out)
   have HBR:=Lib.hid (HB.out.trans (HBW.out.mono HB.out.size))
   clear c35 c36 hg hA hD hPB hDB HX HLEN hgw HCC HTX HR0 HLK HP HPW
   go_upto_region 7 with (fail)
   refine z08 (fun w'=>Below wr.heap.size wr w') 10 (by kernel_rfl) (by kernel_rfl) (Below.refl _ _).drew ?_
   simp only [zC,zD,zE,zF]
   repeat (first
    | (go_big_quiet_want;refine z02 3 _ rfl ⟨w.heap.size,35,none⟩ _ rfl HC5.out Tryz.isAgg3 ?_;go_big_quiet_on;simp only [Act.put,zS,zA,zB])
    | (go_big_quiet_want;refine z02 3 _ rfl ⟨w.heap.size,36,none⟩ _ rfl HC6.out Tryz.isAgg3 ?_;go_big_quiet_on;simp only [Act.put,zS,zA,zB])
    | (go_big_quiet_want;refine z36 27 _ rfl w.heap.size 0 (z18 o.d) _ rfl HC0.out Tryz.underlying27 rfl HSD.out ?_;go_big_quiet_on;simp only [Act.put,zS,zA,zB])
    | go_big_quiet_step ((intro hs';first
     | (go_at_call_of 89 (Value.int .i64 A);exact (HNA.out _).mono fun e w' h=>⟨h.1,hs'.trans (h.2.mono hs'.size)⟩)
     | (go_at_call_of 89 (Value.int .i64 D);exact (HND.out _).mono fun e w' h=>⟨h.1,hs'.trans (h.2.mono hs'.size)⟩)
     | (go_at_call 90;exact (HT.out _).mono fun e w' h=>⟨h.1,hs'.trans (h.2.mono hs'.size)⟩)
     | rfl)))
   refine wpQuiet_nil ?_
   intro w2 hs2
   have HB2:=Lib.hid (HBR.out.trans (hs2.mono HBR.out.size))
   clear hs2 HB HBR HC0 HC5 HC6 HNA HND HT
   go_wp2_with fail
   refine (z5j (some ⟨w2.heap.size,0,none⟩) 4 [z2h A.toNat,z2h D.toNat,PB,DB] _ (z91 w2 _ _ _ _) (by simp) (by have:=HLN.out;omega)).mono ?_
   rintro e w3 ⟨rfl,hb⟩
   have HB3:=Lib.hid (HB2.out.trans (((Below.refl _ w2).alloc (Nat.le_refl _) _).trans (hb.mono (by simp)) |>.mono HB2.out.size))
   clear hb HB2
   go_wp2_with fail
   go_ret
   exact ⟨by rw [HE.out];rfl,HB3.out⟩
end Go.Proofs.YtnbldbbbibpobaaGreatDoor
namespace Go.Proofs.YtnbldbbbibpobaaGreatDoor
open Go.RowKit
def z5o:Code → List Code
 | .loop c=>c :: z5o c
 | .seq a b=>z5o a ++ z5o b
 | .block _ c=>z5o c
 | .scope c=>z5o c
 | .cond _ a b=>z5o a ++ z5o b
 | _=>[]
noncomputable def z5c (f:Func) (n:Nat):Code:=((f.body.map z5o).getD []).getD n .skip
def Ends (k:Nat) (R:Act → World → Prop):Exit → Act → World → Prop
 | .exit j,a,w=>j = k ∧ R a w
 | _,_,_=>False
theorem z1y {k:Nat} {R:Act → World → Prop} {a:Act} {w:World} (h:R a w):Ends k R (.exit k) a w:=⟨rfl,h⟩
theorem z30 {P:Program} {c:Code} {k:Nat} {Q:Exit → Act → World → Prop} {a:Act} {w:World} (h:c.wp P (Ends k (fun a w=>Q (.exit k) a w)) a w):c.wp P Q a w:=by
 refine wp_mono h ?_
 intro e a w he
 cases e with
 | exit j=>obtain ⟨rfl,hr⟩:=he;exact hr
 | _=>exact absurd he (by simp [Ends])
def z38 (s:List UInt8) (q:Nat):List Nat:=z10 s ++ [128] ++ List.replicate q 0
theorem z84 (s:List UInt8) (q:Nat):(z38 s q).length = s.length + 1 + q:=by simp [z38,z0w];omega
theorem ze6 (s:List UInt8) (q:Nat):z38 s (q + 1) = z38 s q ++ [0]:=by simp [z38,List.replicate_succ']
theorem zfx (s:List UInt8):z3y s = z38 s (z1m s.length) ++ l8 (s.length * 8) 8:=rfl
structure OfSt (w:World) (bv:Value) (p:List Nat) (v:S8) (wr:World):Prop where
 h:OwnN (w.heap.size + 1) 143 .u32 (.slice (some ⟨w.heap.size + 1,0,none⟩) 8 8) v.list wr
 k:OwnN (w.heap.size + 1) 143 .u32 (.slice (some ⟨w.heap.size + 1 + 1,0,none⟩) 64 64) shaK wr
 b:OwnT (w.heap.size + 3) 5 .u8 bv p wr
 r:wr.heap[w.heap.size]? = some (.cells (z06 .u8 (List.replicate 32 0)).toArray 25 (0,0))
 bel:Below w.heap.size w wr
theorem OfSt.below {w:World} {bv:Value} {p:List Nat} {v:S8} {wr w':World} (h:OfSt w bv p v wr) (b:Below wr.heap.size wr w'):OfSt w bv p v w' :=
 ⟨h.h.below b,h.k.below b,h.b.below b,(b.block _ (lt_of_block h.r)).trans h.r,h.bel.trans (b.mono (h.bel.size))⟩
theorem z3r (x k:Nat) (w:World) (hx:x < 4294967296) (hk1:1 ≤ k) (hk:k ≤ 31) :
 Calls Tryz.prog 108 #[.int .u32 x,.int .u32 k] w fun e w'=>e = .returned (.int .u32 (z6e x k)) ∧ w' = w :=
 (turn_any x k w hx hk1 hk).mono fun _ _ h=>⟨h.1,h.2.symm⟩
def z5g (b:Nat → Nat) (i:Nat):List Nat:=wl b i ++ List.replicate (64 - i) 0
theorem z7k (b:Nat → Nat) {i:Nat} (h:i ≤ 64):(z5g b i).length = 64:=by unfold z5g;rw [List.length_append,z5e,List.length_replicate];omega
theorem zdl (b:Nat → Nat):z5g b 64 = wl b 64:=by unfold z5g;rw [show 64 - 64 = 0 from rfl,List.replicate_zero,List.append_nil]
theorem zb4 (b:Nat → Nat) {i x:Nat} (h:i < 64):(z5g b i).set i x = wl b i ++ [x] ++ List.replicate (64 - (i + 1)) 0:=by
 unfold z5g
 rw [List.set_append_right _ _ (by rw [z5e];exact Nat.le_refl _),z5e,Nat.sub_self,show 64 - i = (64 - (i + 1)) + 1 by omega,List.replicate_succ,List.set_cons_zero,List.append_assoc]
 rfl
theorem zd0 {b:Nat → Nat} {i:Nat} (h:i < 16):(z5g b i).set i (z9a b i) = z5g b (i + 1):=by rw [zb4 b (by omega)];unfold z5g;rw [zez h]
theorem zc1 {b:Nat → Nat} {i:Nat} (h:¬ i < 16) (h2:i < 64):(z5g b i).set i (zdi (wl b i) i) = z5g b (i + 1):=by rw [zb4 b h2];unfold z5g;rw [ze8 h]
theorem arrW_at {b:Nat → Nat} {i:Nat} (h:i < 64):(z5g b i).set i 0 = z5g b i:=by
 rw [zb4 b h]
 unfold z5g
 rw [show 64 - i = (64 - (i + 1)) + 1 by omega,List.replicate_succ,List.append_assoc]
 rfl
def zhy (b:Nat → Nat) (i:Nat):Nat → Nat
 | 0=>0
 | q + 1=>256 * zhy b i q + b (4 * i + q)
theorem accN_lt {b:Nat → Nat} (hb:∀ j,b j < 256) (i q:Nat) (hq:q ≤ 3):zhy b i q < 16777216:=by
 have h0:=hb (4 * i + 0)
 have h1:=hb (4 * i + 1)
 have h2:=hb (4 * i + 2)
 match q,hq with
 | 0,_=>show 0 < _;omega
 | 1,_=>show 256 * 0 + b (4 * i + 0) < _;omega
 | 2,_=>show 256 * (256 * 0 + b (4 * i + 0)) + b (4 * i + 1) < _;omega
 | 3,_=>show 256 * (256 * (256 * 0 + b (4 * i + 0)) + b (4 * i + 1)) + b (4 * i + 2) < _;omega
theorem zhe (b:Nat → Nat) (i:Nat):zhy b i 4 = z9a b i:=by
 show 256 * (256 * (256 * (256 * 0 + b (4 * i + 0)) + b (4 * i + 1)) + b (4 * i + 2)) + b (4 * i + 3) = _
 unfold z9a
 rw [Nat.add_zero]
 omega
def wAt (p:List Nat) (m:Nat):Nat → Nat:=fun j=>p.getD (64 * m + j) 0
theorem OfSt.next {w:World} {bv:Value} {p:List Nat} {v v':S8} {wr w':World} (h:OfSt w bv p v wr) (b:But (w.heap.size + 1) wr w') (hh:OwnN (w.heap.size + 1) 143 .u32 (.slice (some ⟨w.heap.size + 1,0,none⟩) 8 8) v'.list w'):OfSt w bv p v' w':=by
 have hsz:=h.bel.size
 have hl:=(h.h.lt _ rfl).2
 refine ⟨hh,h.k.but b (by rintro g hg rfl;simp [Value.ownBlock] at hg),h.b.but b (by intro g hg e;have:=(h.b.lt g hg).1;omega),(b.block _ (lt_of_block h.r) (by omega)).trans h.r,?_⟩
 exact But.toBelow h.bel b (by omega) hsz
theorem S8.list_len (v:S8):v.list.length = 8:=rfl
theorem S8.Ok.lt {v:S8} (h:v.Ok):∀ x ∈ v.list,x < 4294967296:=by
 intro x hx
 simp only [S8.list,List.mem_cons,List.not_mem_nil,or_false] at hx
 rcases hx with rfl | rfl | rfl | rfl | rfl | rfl | rfl | rfl
 ·exact h.a
 ·exact h.b
 ·exact h.c
 ·exact h.d
 ·exact h.e
 ·exact h.f
 ·exact h.g
 ·exact h.h
def zgw (a b:List Nat):Nat → List Nat
 | 0=>a
 | q + 1=>(zgw a b q).set q ((a.getD q 0 + b.getD q 0) % 4294967296)
theorem zf5 (a b:List Nat) (q:Nat):(zgw a b q).length = a.length:=by
 induction q with
 | zero=>rfl
 | succ q ih=>rw [zgw,List.length_set,ih]
theorem zhx (a b:List Nat) (q j:Nat) (h:q ≤ j):(zgw a b q).getD j 0 = a.getD j 0:=by
 induction q with
 | zero=>rfl
 | succ q ih =>
   rw [zgw,List.getD_eq_getElem?_getD,List.getElem?_set_ne (by omega),← List.getD_eq_getElem?_getD,ih (by omega)]
theorem zak (h v:S8):zgw h.list v.list 8 = (addS h v).list:=rfl
def outB (l:List Nat) (i:Nat):Nat:=l.getD (i / 4) 0 / 2 ^ (24 - 8 * (i % 4)) % 256
def zff (l:List Nat) (q:Nat):List Nat:=(List.range q).map (outB l) ++ List.replicate (32 - q) 0
theorem zd9 (l:List Nat):zff l 32 = zbx l:=by simp [zff,zbx,outB]
theorem zfs (l:List Nat) (q:Nat) (h:q < 32):(zff l q).set q (outB l q) = zff l (q + 1):=by
 unfold zff
 rw [List.set_append_right _ _ (by simp),List.length_map,List.length_range,Nat.sub_self,show 32 - q = (32 - (q + 1)) + 1 by omega,List.replicate_succ,List.set_cons_zero,List.range_succ,List.map_append,List.append_assoc]
 rfl
theorem zfu (l:List Nat) (q:Nat) (h:q ≤ 32):(zff l q).length = 32:=by simp [zff];omega
theorem left_or (x k:Nat) (hx:x < 4294967296):bits BinOp.or IntKind.u32 ((x:Int) * 2 ^ (32 - k) % 4294967296) ((x:Int) / 2 ^ k) = ((z6e x k:Nat):Int):=by
 have h1:x / 2 ^ k < 4294967296:=Nat.lt_of_le_of_lt (Nat.div_le_self _ _) hx
 have h2:x * 2 ^ (32 - k) % 4294967296 < 4294967296:=Nat.mod_lt _ (by decide)
 have:=u32_or_nat (x * 2 ^ (32 - k) % 4294967296) (x / 2 ^ k) h2 h1
 unfold z6e
 rw [Nat.or_comm,← this]
 simp
theorem back_31:∀ k:Fin 32,1 ≤ k.val → bits BinOp.and IntKind.u64 (18446744073709551616 - (k.val:Int)) 31 = ((32 - k.val:Nat):Int):=by decide +kernel
theorem rotl_any (x k:Nat) (w:World) (hx:x < 4294967296) (hk1:1 ≤ k) (hk:k ≤ 31) :
 Calls Tryz.prog 165 #[.int .u32 x,.int .i64 (-(k:Int))] w fun e w'=>e = .returned (.int .u32 (z6e x k)) ∧ w = w':=by
 have h:=left_or x k hx
 have hb:=back_31 ⟨k,by omega⟩ hk1
 have hw:IntKind.u64.wrap (-(k:Int)) = 18446744073709551616 - (k:Int):=by rw [IntKind.wrap_u64];omega
 simp only at hb
 obtain ⟨j,hj⟩:∃ j,j = 32 - k:=⟨_,rfl⟩
 rw [← hj] at hb h
 have hj2:(32:Int) - (j:Int) = (k:Int):=by omega
 have b1:(j:Int) ≤ 31:=by omega
 have b2:1 ≤ (j:Int):=by omega
 clear hj
 go_enter Tryz.func165,Tryz.ntmps165
 go_wp2_with fail
 go_ret
 exact ⟨rfl,rfl⟩
theorem zi6 (x k:Nat) (w:World) (hx:x < 4294967296) (hk1:1 ≤ k) (hk:k ≤ 31) :
 Calls Tryz.prog 151 #[.int .u32 x,.int .i64 k] w fun e w'=>e = .returned (.int .u32 (z6e x k)) ∧ w = w':=by
 go_enter Tryz.func151,Tryz.ntmps151
 go_wp2_with fail
 refine (rotl_any x k _ hx hk1 hk).mono ?_
 rintro e w1 ⟨rfl,rfl⟩
 go_wp2_with fail
 go_ret
 exact ⟨rfl,rfl⟩
theorem z9m (x k:Nat) (w:World) (hx:x < 4294967296) (hk1:1 ≤ k) (hk:k ≤ 31) :
 Calls Tryz.prog 151 #[.int .u32 x,.int .i64 k] w fun e w'=>e = .returned (.int .u32 (z6e x k)) ∧ w' = w :=
 (zi6 x k w hx hk1 hk).mono fun _ _ h=>⟨h.1,h.2.symm⟩
theorem z47 (x:Nat) (i:Int) (k:Nat) (w:World) (hx:x < 4294967296) (e:i = (k:Int)) (hk1:1 ≤ k) (hk:k ≤ 31) :
 Calls Tryz.prog 151 #[.int .u32 x,.int .i64 i] w fun e w'=>e = .returned (.int .u32 (z6e x k)) ∧ w' = w:=by
 subst e
 exact z9m x k w hx hk1 hk
theorem zib (x:Nat) (i:Int) (w:World) (hx:x < 4294967296) (h1:1 ≤ i) (h2:i ≤ 31) :
 Calls Tryz.prog 151 #[.int .u32 x,.int .i64 i] w fun e w'=>e = .returned (.int .u32 (z6e x i.toNat)) ∧ w' = w:=by
 have h:=z9m x i.toNat w hx (by omega) (by omega)
 rwa [show ((i.toNat:Nat):Int) = i by omega] at h
theorem z3m (s:List UInt8):(z6x s).length = 32:=by simp [z6x,zbx]
theorem Tryz.infoId:(Tryz.prog.info? 25).map (fun i=>i.size) = some 32:=by kernel_rfl
theorem Tryz.infoW:(Tryz.prog.info? 195).map (fun i=>i.size) = some 64:=by kernel_rfl
theorem Tryz.infoB:(Tryz.prog.info? 163).map (fun i=>i.size) = some 64:=by kernel_rfl
theorem Tryz.infoS:(Tryz.prog.info? 161).map (fun i=>i.size) = some 8:=by kernel_rfl
theorem arrW_get (b:Nat → Nat) {j k:Nat} (h:j < k) (_hk:k ≤ 64):(z5g b k).getD j 0 = (wl b k).getD j 0:=by
 unfold z5g
 rw [List.getD_eq_getElem?_getD,List.getElem?_append_left (by rw [z5e];exact h),← List.getD_eq_getElem?_getD]
def KAt (w:World):Prop:=∀ j,j < 64 → w.cell? ⟨0,j,none⟩ = some (.int .u32 ((shaK.getD j 0:Nat):Int))
theorem KAt.lt {w:World} (h:KAt w):0 < w.heap.size:=block_lt_of_cell (h 0 (by decide))
theorem KAt.below {w w':World} (h:KAt w) (hb:Below w.heap.size w w'):KAt w':=fun j hj=>(hb.cell (p:=⟨0,j,none⟩) h.lt).trans (h j hj)
theorem KAt.but {g:Nat} {w w':World} (h:KAt w) (hb:But g w w') (hne:0 ≠ g):KAt w':=fun j hj=>(World.cell?_of_block (w:=w) (a:=⟨0,j,none⟩) (hb.block _ h.lt hne)).trans (h j hj)
def bAt (l:List Nat):Nat → Nat:=fun j=>l.getD j 0
theorem bAt_lt {l:List Nat} (h:∀ x ∈ l,x < 256) (j:Nat):bAt l j < 256:=z1v h (by decide) j
theorem word_or (a b c d:Nat) (ha:a < 256) (hb:b < 256) (hc:c < 256) (hd:d < 256) :
 bits BinOp.or IntKind.u32 (bits BinOp.or IntKind.u32 (bits BinOp.or IntKind.u32 ((a:Int) * 16777216) ((b:Int) * 65536)) ((c:Int) * 256)) (d:Int) = ((a * 16777216 + b * 65536 + c * 256 + d:Nat):Int):=by
 have e1:(a:Int) * 16777216 = ((a * 16777216:Nat):Int):=by omega
 have e2:(b:Int) * 65536 = ((b * 65536:Nat):Int):=by omega
 have e3:(c:Int) * 256 = ((c * 256:Nat):Int):=by omega
 have h1:a * 16777216 ||| b * 65536 = a * 16777216 + b * 65536:=by
  have:=Nat.two_pow_add_eq_or_of_lt (i:=24) (show b * 65536 < 2 ^ 24 by omega) a
  rw [Nat.mul_comm] at this
  exact this.symm
 have h2:(a * 16777216 + b * 65536) ||| c * 256 = a * 16777216 + b * 65536 + c * 256:=by
  have:=Nat.two_pow_add_eq_or_of_lt (i:=16) (show c * 256 < 2 ^ 16 by omega) (a * 256 + b)
  rw [show 2 ^ 16 * (a * 256 + b) = a * 16777216 + b * 65536 by omega] at this
  exact this.symm
 have h3:(a * 16777216 + b * 65536 + c * 256) ||| d = a * 16777216 + b * 65536 + c * 256 + d:=by
  have:=Nat.two_pow_add_eq_or_of_lt (i:=8) (show d < 2 ^ 8 by omega) (a * 65536 + b * 256 + c)
  rw [show 2 ^ 8 * (a * 65536 + b * 256 + c) = a * 16777216 + b * 65536 + c * 256 by omega] at this
  exact this.symm
 rw [e1,e2,e3,u32_or_nat _ _ (by omega) (by omega),h1,u32_or_nat _ _ (by omega) (by omega),h2,u32_or_nat _ _ (by omega) (by omega),h3]
def z5u (r:List UInt8):List Nat:=(z10 (r.take 64) ++ (List.replicate 64 0).drop r.length).set r.length 128
theorem z5q {r:List UInt8} (h:r.length < 64):(z5u r).length = 64:=by
 simp [z5u,z0w]
 omega
theorem zf1 {r:List UInt8} (h:r.length < 64) (j:Nat) (hj:j < 64):(z5u r).getD j 0 = if j < r.length then (z10 r).getD j 0 else if j = r.length then 128 else 0:=by
 unfold z5u
 rw [List.take_of_length_le (by omega),List.getD_eq_getElem?_getD,List.getElem?_set]
 by_cases h1:r.length = j
 ·subst h1
  rw [if_pos rfl,if_pos (by simp [z0w];omega),if_neg (by omega),if_pos rfl]
  rfl
 ·rw [if_neg h1,if_neg (show ¬ j = r.length from fun e=>h1 e.symm)]
  by_cases h2:j < r.length
  ·rw [if_pos h2,List.getElem?_append_left (by rw [z0w];exact h2),List.getD_eq_getElem?_getD]
  ·rw [if_neg h2,List.getElem?_append_right (by rw [z0w];omega),List.getElem?_drop,List.getElem?_replicate]
   split <;> rfl
theorem zfk (r:List UInt8):∀ x ∈ z5u r,x < 256:=by
 intro x hx
 rcases List.mem_or_eq_of_mem_set hx with h | rfl
 ·rcases List.mem_append.1 h with h | h
  ·exact zct _ x h
  ·have:=List.eq_of_mem_replicate (List.mem_of_mem_drop h)
   omega
 ·decide
def z5k (l:List Nat) (N:Nat):Nat → List Nat
 | 0=>l
 | i + 1=>(z5k l N i).set (63 - i) (N / 2 ^ (8 * i) % 256)
theorem z7m (l:List Nat) (N i:Nat):(z5k l N i).length = l.length:=by
 induction i with
 | zero=>rfl
 | succ i ih=>rw [z5k,List.length_set,ih]
theorem zfo (l:List Nat) (N i j:Nat) (hl:l.length = 64) (hj:j < 64) (hi:i ≤ 8):(z5k l N i).getD j 0 = if 63 - j < i then N / 2 ^ (8 * (63 - j)) % 256 else l.getD j 0:=by
 induction i with
 | zero=>rfl
 | succ i ih =>
   rw [z5k,List.getD_eq_getElem?_getD,List.getElem?_set,z7m,hl]
   by_cases h:63 - i = j
   ·subst h
    rw [if_pos rfl,if_pos (by omega),if_pos (by omega),show 63 - (63 - i) = i by omega]
    rfl
   ·rw [if_neg h,← List.getD_eq_getElem?_getD,ih (by omega)]
    by_cases h2:63 - j < i
    ·rw [if_pos h2,if_pos (by omega)]
    ·rw [if_neg h2,if_neg (by omega)]
theorem zfq {l:List Nat} (h:∀ x ∈ l,x < 256) (N i:Nat):∀ x ∈ z5k l N i,x < 256:=by
 induction i with
 | zero=>exact h
 | succ i ih =>
   intro x hx
   rcases List.mem_or_eq_of_mem_set hx with h | rfl
   ·exact ih x h
   ·exact Nat.mod_lt _ (by decide)
theorem wl_congr {b c:Nat → Nat} (h:∀ j,j < 64 → b j = c j):∀ i,wl b i = wl c i:=by
 intro i
 induction i with
 | zero=>rfl
 | succ i ih =>
   by_cases hi:i < 16
   ·rw [zez hi,zez hi,ih]
    unfold z9a
    rw [h _ (by omega),h _ (by omega),h _ (by omega),h _ (by omega)]
   ·rw [ze8 hi,ze8 hi,ih]
theorem z56 (v:S8) {b c:Nat → Nat} (h:∀ j,j < 64 → b j = c j):block v b = block v c:=by
 show addS v (rl v (wl b 64) 64) = addS v (rl v (wl c 64) 64)
 rw [wl_congr h 64]
theorem block_ok (v:S8) (b:Nat → Nat):(block v b).Ok:=zhz _ _
theorem zcv (bb:Nat) (t:TypeId) (bl:List Nat) (w:World) (hlen:bl.length = 64) (hbl:∀ x ∈ bl,x < 256) (hc:Blk bb t .u8 bl w) :
 Calls Tryz.prog 150 #[.pointer (some ⟨bb,0,none⟩)] w fun e w'=>e = .returned (.agg (z06 .u32 (wl (bAt bl) 64)).toArray) ∧ Below w.heap.size w w':=by
 have HC:=Lib.hid hc
 have HBY:=Lib.hid (bAt_lt hbl)
 have HL:=Lib.hid hlen
 clear hlen hbl hc
 go_enter Tryz.func150,Tryz.ntmps150
 go_wp2_with fail
 go_loopw [10] (fun i wq=>∃ k:Nat,k ≤ 16 ∧ i = .int .i64 k ∧ Blk (w.heap.size + 1) 195 .u32 (z5g (bAt bl) k) wq ∧ Blk w.heap.size 195 .u32 (List.replicate 64 0) wq ∧ Below w.heap.size w wq) (fun i _=>16 - (intOf i).toNat)
 case atStart=>
  refine ⟨0,by omega,rfl,?_,?_,((Below.refl _ w).alloc (Nat.le_refl _) _).alloc (by simp) _⟩
  ·have h:=heap_alloc_new (w.alloc (.cells (z06 .u32 (List.replicate 64 0)).toArray 195)) (.cells (z06 .u32 (List.replicate 64 0)).toArray 195)
   rw [World.size_alloc] at h
   exact h
  ·exact Blk.alloc (show Blk w.heap.size 195 .u32 (List.replicate 64 0) (w.alloc (.cells (z06 .u32 (List.replicate 64 0)).toArray 195)) from heap_alloc_new w _) _
 case round =>
  obtain ⟨k,hk,rfl,hw,hr,hb⟩:=hrel
  have HW:=Lib.hid hw
  have HR:=Lib.hid hr
  have HB:=Lib.hid hb
  clear hw hr hb
  by_cases hlk:k < 16
  ·have hC:=HC.out.below HB.out
   have c0:=hC.cell (4 * k) (by rw [HL.out];omega)
   have c1:=hC.cell (4 * k + 1) (by rw [HL.out];omega)
   have c2:=hC.cell (4 * k + 2) (by rw [HL.out];omega)
   have c3:=hC.cell (4 * k + 3) (by rw [HL.out];omega)
   have x0:=HBY.out (4 * k)
   have x1:=HBY.out (4 * k + 1)
   have x2:=HBY.out (4 * k + 2)
   have x3:=HBY.out (4 * k + 3)
   have HX:=Lib.hid (show z9a (bAt bl) k = bAt bl (4 * k) * 16777216 + bAt bl (4 * k + 1) * 65536 + bAt bl (4 * k + 2) * 256 + bAt bl (4 * k + 3) from rfl)
   change wr.cell? _ = some (.int .u8 ((bAt bl (4 * k):Nat):Int)) at c0
   change wr.cell? _ = some (.int .u8 ((bAt bl (4 * k + 1):Nat):Int)) at c1
   change wr.cell? _ = some (.int .u8 ((bAt bl (4 * k + 2):Nat):Int)) at c2
   change wr.cell? _ = some (.int .u8 ((bAt bl (4 * k + 3):Nat):Int)) at c3
   generalize bAt bl (4 * k) = b0 at c0 x0 HX
   generalize bAt bl (4 * k + 1) = b1 at c1 x1 HX
   generalize bAt bl (4 * k + 2) = b2 at c2 x2 HX
   generalize bAt bl (4 * k + 3) = b3 at c3 x3 HX
   have hal:=z7k (bAt bl) (show k ≤ 64 by omega)
   have c4:=HW.out.cell k (by omega)
   have hf:=HW.out.frozen k
   have HS:=Lib.hid (HW.out.set k (z9a (bAt bl) k))
   rw [zd0 hlk] at HS
   generalize (z5g (bAt bl) k).getD k 0 = y at c4
   clear hC hal
   have HV:=Lib.hid (word_or b0 b1 b2 b3 x0 x1 x2 x3)
   rw [← HX.out] at HV
   obtain ⟨j0,h0⟩:∃ j,j = 4 * k:=⟨_,rfl⟩
   obtain ⟨j1,h1⟩:∃ j,j = 4 * k + 1:=⟨_,rfl⟩
   obtain ⟨j2,h2⟩:∃ j,j = 4 * k + 2:=⟨_,rfl⟩
   obtain ⟨j3,h3⟩:∃ j,j = 4 * k + 3:=⟨_,rfl⟩
   rw [← h0] at c0
   rw [← h1] at c1
   rw [← h2] at c2
   rw [← h3] at c3
   have s0:IntKind.i64.wrap (j0:Int) = (j0:Int):=by rw [IntKind.wrap_i64];omega
   have s1:IntKind.i64.wrap (j1:Int) = (j1:Int):=by rw [IntKind.wrap_i64];omega
   have s2:IntKind.i64.wrap (j2:Int) = (j2:Int):=by rw [IntKind.wrap_i64];omega
   have s3:IntKind.i64.wrap (j3:Int) = (j3:Int):=by rw [IntKind.wrap_i64];omega
   have n0:4 * (k:Int) = (j0:Int):=by omega
   have n1:(j0:Int) + 1 = (j1:Int):=by omega
   have n2:(j0:Int) + 2 = (j2:Int):=by omega
   have n3:(j0:Int) + 3 = (j3:Int):=by omega
   have l0:(j0:Int) < 64:=by omega
   have l1:(j1:Int) < 64:=by omega
   have l2:(j2:Int) < 64:=by omega
   have l3:(j3:Int) < 64:=by omega
   clear h0 h1 h2 h3
   have l4:(k:Int) < 64:=by omega
   go_wp2_with fail
   obtain ⟨w9,hw9⟩:∃ x,x = wr.drew:=⟨_,rfl⟩
   refine wp_region_still_tail 39 (by kernel_rfl) (by kernel_rfl) ?_
   simp only [zC,zD,zE,zF]
   change wpStill _ _ wr.drew (fun a'=>wpList _ _ _ _ a' wr.drew) _ _
   rw [← hw9]
   replace c0:w9.cell? ⟨bb,j0,none⟩ = some (.int .u8 (b0:Int)):=by rw [hw9];exact c0
   replace c1:w9.cell? ⟨bb,j1,none⟩ = some (.int .u8 (b1:Int)):=by rw [hw9];exact c1
   replace c2:w9.cell? ⟨bb,j2,none⟩ = some (.int .u8 (b2:Int)):=by rw [hw9];exact c2
   replace c3:w9.cell? ⟨bb,j3,none⟩ = some (.int .u8 (b3:Int)):=by rw [hw9];exact c3
   replace c4:w9.cell? ⟨w.heap.size + 1,k,none⟩ = some (.int .u32 (y:Int)):=by rw [hw9];exact c4
   replace hf:w9.frozen? ⟨w.heap.size + 1,k,none⟩ = false:=by rw [hw9];exact hf
   have HS9:=Lib.hid (show Blk (w.heap.size + 1) 195 .u32 (z5g (bAt bl) (k + 1)) (w9.setCell ⟨w.heap.size + 1,k,none⟩ (.int .u32 ((z9a (bAt bl) k:Nat):Int))) by rw [hw9];exact HS.out)
   have HR9:=Lib.hid (show Blk w.heap.size 195 .u32 (List.replicate 64 0) w9 by rw [hw9];exact HR.out)
   have HB9:=Lib.hid (show Below w.heap.size w w9 by rw [hw9];exact HB.out.drew)
   clear hw9 HS HR HB HW
   repeat still_step
   refine wpStill_nil ?_
   go_wp2_with fail
   rw [HV.out]
   exact ⟨⟨k + 1,by omega,by go_num,HS9.out,HR9.out.but ((But.refl _ _).setCell _ _) (by omega),HB9.out.setCell (by simp) _⟩,by simp [intOf];omega⟩
  ·obtain rfl:k = 16:=by omega
   rw [show ((16:Nat):Int) = 16 from rfl]
   go_wp2_with fail
   go_loopw [5] (fun i wq=>∃ k:Nat,16 ≤ k ∧ k ≤ 64 ∧ i = .int .i64 k ∧ Blk (w.heap.size + 1) 195 .u32 (z5g (bAt bl) k) wq ∧ Blk w.heap.size 195 .u32 (List.replicate 64 0) wq ∧ Below w.heap.size w wq) (fun i _=>64 - (intOf i).toNat)
   case atStart=>exact ⟨16,by omega,by omega,rfl,HW.out,HR.out,HB.out⟩
   case round =>
    clear HW HR HB
    obtain ⟨k,hk16,hk,rfl,hw,hr,hb⟩:=hrel
    have HW:=Lib.hid hw
    have HR:=Lib.hid hr
    have HB:=Lib.hid hb
    clear hw hr hb
    by_cases hlk:k < 64
    ·have hwl:=wl_lt HBY.out k
     have hal:=z7k (bAt bl) hk
     obtain ⟨j16,hj16⟩:∃ j,j = k - 16:=⟨_,rfl⟩
     obtain ⟨j7,hj7⟩:∃ j,j = k - 7:=⟨_,rfl⟩
     obtain ⟨j15,hj15⟩:∃ j,j = k - 15:=⟨_,rfl⟩
     obtain ⟨j2,hj2⟩:∃ j,j = k - 2:=⟨_,rfl⟩
     have a16:=HW.out.cell j16 (by omega)
     have a7:=HW.out.cell j7 (by omega)
     have a15:=HW.out.cell j15 (by omega)
     have a2:=HW.out.cell j2 (by omega)
     rw [arrW_get _ (by omega) hk] at a16 a7 a15 a2
     have x15:=z1v hwl (by decide) j15
     have x2:=z1v hwl (by decide) j2
     have x16:=z1v hwl (by decide) j16
     have x7:=z1v hwl (by decide) j7
     have hnx:zdi (wl (bAt bl) k) k = ((wl (bAt bl) k).getD (k - 16) 0 + (wl (bAt bl) k).getD (k - 7) 0 + s0 ((wl (bAt bl) k).getD (k - 15) 0) + s1 ((wl (bAt bl) k).getD (k - 2) 0)) % 4294967296:=rfl
     rw [← hj16,← hj7,← hj15,← hj2] at hnx
     generalize (wl (bAt bl) k).getD j16 0 = y16 at a16 x16 hnx
     generalize (wl (bAt bl) k).getD j7 0 = y7 at a7 x7 hnx
     generalize (wl (bAt bl) k).getD j15 0 = y15 at a15 x15 hnx
     generalize (wl (bAt bl) k).getD j2 0 = y2 at a2 x2 hnx
     have HNX:=Lib.hid hnx
     have ak:=HW.out.cell k (by omega)
     have hf:=HW.out.frozen k
     have HS:=Lib.hid (HW.out.set k (zdi (wl (bAt bl) k) k))
     rw [zc1 (by omega) hlk] at HS
     generalize (z5g (bAt bl) k).getD k 0 = y at ak
     have e16:IntKind.i64.wrap ((k:Int) - 16) = (j16:Int):=by rw [IntKind.wrap_i64];omega
     have e7:IntKind.i64.wrap ((k:Int) - 7) = (j7:Int):=by rw [IntKind.wrap_i64];omega
     have e15:IntKind.i64.wrap ((k:Int) - 15) = (j15:Int):=by rw [IntKind.wrap_i64];omega
     have e2:IntKind.i64.wrap ((k:Int) - 2) = (j2:Int):=by rw [IntKind.wrap_i64];omega
     have d16:(k:Int) - 16 = (j16:Int):=by omega
     have d7:(k:Int) - 7 = (j7:Int):=by omega
     have d15:(k:Int) - 15 = (j15:Int):=by omega
     have d2:(k:Int) - 2 = (j2:Int):=by omega
     have q16:IntKind.i64.wrap (j16:Int) = (j16:Int):=by rw [IntKind.wrap_i64];omega
     have q7:IntKind.i64.wrap (j7:Int) = (j7:Int):=by rw [IntKind.wrap_i64];omega
     have q15:IntKind.i64.wrap (j15:Int) = (j15:Int):=by rw [IntKind.wrap_i64];omega
     have q2:IntKind.i64.wrap (j2:Int) = (j2:Int):=by rw [IntKind.wrap_i64];omega
     have b16:(j16:Int) < 64:=by omega
     have b7:(j7:Int) < 64:=by omega
     have b15:(j15:Int) < 64:=by omega
     have b2:(j2:Int) < 64:=by omega
     have bk:(k:Int) < 64:=by omega
     clear hwl hal hnx hj16 hj7 hj15 hj2
     go_wp2_with fail
     go_quiet (fail)
     go_wp2_with fail
     refine (z47 y15 _ 7 _ x15 rfl (by decide) (by decide)).mono ?_
     rintro e w5 ⟨rfl,rfl⟩
     go_wp2_with fail
     refine (z47 y15 _ 18 _ x15 rfl (by decide) (by decide)).mono ?_
     rintro e w5 ⟨rfl,rfl⟩
     go_wp2_with fail
     refine (z47 y2 _ 17 _ x2 rfl (by decide) (by decide)).mono ?_
     rintro e w5 ⟨rfl,rfl⟩
     go_wp2_with fail
     refine (z47 y2 _ 19 _ x2 rfl (by decide) (by decide)).mono ?_
     rintro e w5 ⟨rfl,rfl⟩
     go_wp2_with fail
     obtain ⟨w9,hw9⟩:∃ x,x = (wr.drewN nq).drew:=⟨_,rfl⟩
     refine wp_region_still_tail 15 (by kernel_rfl) (by kernel_rfl) ?_
     simp only [zC,zD,zE,zF]
     change wpStill _ _ (wr.drewN nq).drew (fun a'=>wpList _ _ _ _ a' (wr.drewN nq).drew) _ _
     rw [← hw9]
     replace a16:w9.cell? ⟨w.heap.size + 1,j16,none⟩ = some (.int .u32 (y16:Int)):=by rw [hw9];exact a16
     replace a7:w9.cell? ⟨w.heap.size + 1,j7,none⟩ = some (.int .u32 (y7:Int)):=by rw [hw9];exact a7
     replace ak:w9.cell? ⟨w.heap.size + 1,k,none⟩ = some (.int .u32 (y:Int)):=by rw [hw9];exact ak
     replace hf:w9.frozen? ⟨w.heap.size + 1,k,none⟩ = false:=by rw [hw9];exact hf
     have HS9:=Lib.hid (show Blk (w.heap.size + 1) 195 .u32 (z5g (bAt bl) (k + 1)) (w9.setCell ⟨w.heap.size + 1,k,none⟩ (.int .u32 ((zdi (wl (bAt bl) k) k:Nat):Int))) by rw [hw9];exact HS.out)
     have HR9:=Lib.hid (show Blk w.heap.size 195 .u32 (List.replicate 64 0) w9 by rw [hw9];exact HR.out)
     have HB9:=Lib.hid (show Below w.heap.size w w9 by rw [hw9];exact z11 HB.out (nq + 1))
     clear hw9 HS HR HB HW a15 a2
     repeat still_step
     refine wpStill_nil ?_
     go_wp2_with fail
     have hv:=w_int y16 y7 y15 y2 x15 x2 (by omega) (by omega)
     rw [← HNX.out,show ((y15 / 8:Nat):Int) = (y15:Int) / 8 by omega,show ((y2 / 1024:Nat):Int) = (y2:Int) / 1024 by omega] at hv
     rw [hv]
     exact ⟨⟨k + 1,by omega,by omega,by go_num,HS9.out,HR9.out.but ((But.refl _ _).setCell _ _) (by omega),HB9.out.setCell (by simp) _⟩,by simp [intOf];omega⟩
    ·obtain rfl:k = 64:=by omega
     rw [show ((64:Nat):Int) = 64 from rfl]
     rw [zdl] at HW
     have HI:=Lib.hid (show (Tryz.prog.info? 195).map (·.size) = some (z06 .u32 (wl (bAt bl) 64)).toArray.size by rw [z13,z5e];exact Tryz.infoW)
     have HL2:=Lib.hid (show (z06 .u32 (List.replicate 64 0)).toArray.size = (z06 .u32 (wl (bAt bl) 64)).toArray.size by rw [z13,z13,z5e,List.length_replicate])
     go_wp2_with (first | (refine wpList_load_row rfl 195 _ rfl (w.heap.size + 1) rfl 195 _ _ _ HW.out Tryz.underlying195 rfl HI.out ?_) | (refine wpList_store_rowTo rfl 195 _ _ rfl rfl w.heap.size (z06 .u32 (wl (bAt bl) 64)).toArray rfl rfl 195 _ HR.out HI.out HL2.out (z78 _ _) ?_))
     exact bodyPost_ret (results_cell_row rfl _ _ w.heap.size 195 _ (0,0) _ rfl (setRow_heap _ _ _ _ _ _ HR.out) Tryz.underlying195 rfl HI.out) rfl ⟨rfl,below_setRow HB.out (Nat.le_refl _) _⟩
theorem zh7 {q0 q1 q2 q3 q4 q5 q6 q7 wb:Nat} {t:TypeId} {Wl:List Nat} {w:World}
 {ca0 ca1 ca2 ca3 ub13 ub14 ub15 ca16 ca17 ca18 ca19 ca20 ca21 ca22 ca23 ca24 ca25 ca26 ca27 ca28 ca29 ca30 ca31 ca32 ca33 ca34 ca35 ca36 ca37 ca38
 ca39 ca40 ca41 ca42 ca43 ca44 ca45 ca46 ca47 ca48 ca49 ca50 ca51 ub53 ub54 ub55 ub56 ub57 ub58 ub59 ub60 ub61 ub62 ub63 ub64 ub65 ub66 ub67 ub68 ub69
 ub70 ub71 ub72 ub73 ub74 ub75 ub76 ub77 ub78 ub79 ub80 ub81 ub82 ub83 ub84 ub85 ub86 ub87 ub88 ub89 ub90 ub91 ub92 ub93 ub94 ub95 ub96 ub97 ub98 ub99
 ub100 ub101 ub102 ub103 ub104 ub105 ub106 ub107 ub108 ub109 ub110 ub111 ub112 ub113 ub114 ca115 ca116 ca117 ca118 ca119 ca120 ca121 ca122 ca123 ca124 ca125 ca126 ca127 ca128 ca129
 ca130 ca131 ca132 ca133 ca134 ca135 ca136 ca137:Value}
 (HOK:Hid (S8.Ok ⟨q0,q1,q2,q3,q4,q5,q6,q7⟩)) (HWl:Hid (∀ x ∈ Wl,x < 4294967296)) (HWL:Hid (Wl.length = 64)) (HW:Hid (Blk wb t .u32 Wl w)) (HK:Hid (KAt w))
 (R:Act → World → Prop)
 (hexit:Hid (∀ (p0 p1 p2 p3 p4 p5 p6 p7:Nat) (w1:World),rl ⟨q0,q1,q2,q3,q4,q5,q6,q7⟩ Wl 64 = ⟨p0,p1,p2,p3,p4,p5,p6,p7⟩ ∧ Below w.heap.size w w1 → ∀ {vb13 vb14 vb15 vb52 vb53 vb54 vb55 vb56 vb57 vb58 vb59 vb60 vb61 vb62 vb63 vb64 vb65 vb66 vb67 vb68 vb69 vb70 vb71 vb72 vb73 vb74 vb75 vb76 vb77 vb78
 vb79 vb80 vb81 vb82 vb83 vb84 vb85 vb86 vb87 vb88 vb89 vb90 vb91 vb92 vb93 vb94 vb95 vb96 vb97 vb98 vb99 vb100 vb101 vb102 vb103 vb104 vb105 vb106 vb107 vb108
 vb109 vb110 vb111 vb112 vb113 vb114:Value},
  R ⟨List.toArray (ca0 :: ca1 :: ca2 :: ca3 :: .pointer (some ⟨wb,0,none⟩) :: .int .u32 (p0:Int) :: .int .u32 (p1:Int) :: .int .u32 (p2:Int) :: .int .u32 (p3:Int) :: .int .u32 (p4:Int) :: .int .u32 (p5:Int) :: .int .u32 (p6:Int) ::
  .int .u32 (p7:Int) :: vb13 :: vb14 :: vb15 :: ca16 :: ca17 :: ca18 :: ca19 :: ca20 :: ca21 :: ca22 :: ca23 :: ca24 :: ca25 :: ca26 :: ca27 :: ca28 :: ca29 :: ca30 :: ca31 :: ca32 :: ca33 :: ca34 :: ca35 :: ca36 :: ca37 ::
  ca38 :: ca39 :: ca40 :: ca41 :: ca42 :: ca43 :: ca44 :: ca45 :: ca46 :: ca47 :: ca48 :: ca49 :: ca50 :: ca51 :: vb52 :: vb53 :: vb54 :: vb55 :: vb56 :: vb57 :: vb58 :: vb59 :: vb60 :: vb61 :: vb62 :: vb63 :: vb64 :: vb65 ::
  vb66 :: vb67 :: vb68 :: vb69 :: vb70 :: vb71 :: vb72 :: vb73 :: vb74 :: vb75 :: vb76 :: vb77 :: vb78 :: vb79 :: vb80 :: vb81 :: vb82 :: vb83 :: vb84 :: vb85 :: vb86 :: vb87 :: vb88 :: vb89 :: vb90 :: vb91 :: vb92 :: vb93 ::
  vb94 :: vb95 :: vb96 :: vb97 :: vb98 :: vb99 :: vb100 :: vb101 :: vb102 :: vb103 :: vb104 :: vb105 :: vb106 :: vb107 :: vb108 :: vb109 :: vb110 :: vb111 :: vb112 :: vb113 :: vb114 :: ca115 :: ca116 :: ca117 :: ca118 :: ca119 ::
  ca120 :: ca121 :: ca122 :: ca123 :: ca124 :: ca125 :: ca126 :: ca127 :: ca128 :: ca129 :: ca130 :: ca131 :: ca132 :: ca133 :: ca134 :: ca135 :: ca136 :: ca137 :: []),[]⟩ w1)) :
 Code.wp Tryz.prog (Code.loop (z5c Tryz.f126 0)) (Ends 0 R) ⟨List.toArray (ca0 :: ca1 :: ca2 :: ca3 :: .pointer (some ⟨wb,0,none⟩) :: .int .u32 (q0:Int) :: .int .u32 (q1:Int) :: .int .u32 (q2:Int) :: .int .u32 (q3:Int) :: .int .u32 (q4:Int) :: .int .u32 (q5:Int) :: .int .u32 (q6:Int) ::
  .int .u32 (q7:Int) :: ub13 :: ub14 :: ub15 :: ca16 :: ca17 :: ca18 :: ca19 :: ca20 :: ca21 :: ca22 :: ca23 :: ca24 :: ca25 :: ca26 :: ca27 :: ca28 :: ca29 :: ca30 :: ca31 :: ca32 :: ca33 :: ca34 :: ca35 :: ca36 :: ca37 ::
  ca38 :: ca39 :: ca40 :: ca41 :: ca42 :: ca43 :: ca44 :: ca45 :: ca46 :: ca47 :: ca48 :: ca49 :: ca50 :: ca51 :: .int .i64 0 :: ub53 :: ub54 :: ub55 :: ub56 :: ub57 :: ub58 :: ub59 :: ub60 :: ub61 :: ub62 :: ub63 :: ub64 ::
  ub65 :: ub66 :: ub67 :: ub68 :: ub69 :: ub70 :: ub71 :: ub72 :: ub73 :: ub74 :: ub75 :: ub76 :: ub77 :: ub78 :: ub79 :: ub80 :: ub81 :: ub82 :: ub83 :: ub84 :: ub85 :: ub86 :: ub87 :: ub88 :: ub89 :: ub90 :: ub91 :: ub92 ::
  ub93 :: ub94 :: ub95 :: ub96 :: ub97 :: ub98 :: ub99 :: ub100 :: ub101 :: ub102 :: ub103 :: ub104 :: ub105 :: ub106 :: ub107 :: ub108 :: ub109 :: ub110 :: ub111 :: ub112 :: ub113 :: ub114 :: ca115 :: ca116 :: ca117 :: ca118 ::
  ca119 :: ca120 :: ca121 :: ca122 :: ca123 :: ca124 :: ca125 :: ca126 :: ca127 :: ca128 :: ca129 :: ca130 :: ca131 :: ca132 :: ca133 :: ca134 :: ca135 :: ca136 :: ca137 :: []),[]⟩ w:=by
 conv=>arg 2;arg 1;whnf
 go_loopw [5,6,7,8,9,10,11,12,52] (fun s0 s1 s2 s3 s4 s5 s6 s7 i wq=>∃ k p0 p1 p2 p3 p4 p5 p6 p7:Nat,k ≤ 64 ∧ i = .int .i64 k ∧ rl ⟨q0,q1,q2,q3,q4,q5,q6,q7⟩ Wl k = ⟨p0,p1,p2,p3,p4,p5,p6,p7⟩ ∧ Below w.heap.size w wq ∧ s0 = .int .u32 (p0:Int) ∧ s1 = .int .u32 (p1:Int) ∧ s2 = .int .u32 (p2:Int) ∧ s3 = .int .u32 (p3:Int) ∧ s4 = .int .u32 (p4:Int) ∧ s5 = .int .u32 (p5:Int) ∧ s6 = .int .u32 (p6:Int) ∧ s7 = .int .u32 (p7:Int)) (fun _ _ _ _ _ _ _ _ i _=>64 - (intOf i).toNat)
 case atStart=>exact ⟨0,q0,q1,q2,q3,q4,q5,q6,q7,by omega,rfl,rfl,Below.refl _ _,rfl,rfl,rfl,rfl,rfl,rfl,rfl,rfl⟩
 case round =>
  obtain ⟨k,p0,p1,p2,p3,p4,p5,p6,p7,hk,rfl,hr,hb,rfl,rfl,rfl,rfl,rfl,rfl,rfl,rfl⟩:=hrel
  have hok:=rl_ok HOK.out Wl k
  rw [hr] at hok
  have HR:=Lib.hid hr
  have HB:=Lib.hid hb
  clear hr hb
  by_cases hlk:k < 64
  ·have cK:=HK.out.below HB.out k hlk
   have cW:=(HW.out.below HB.out).cell k (by rw [HWL.out];exact hlk)
   have xK:=z1v zio (by decide) k
   have xW:=z1v HWl.out (by decide) k
   have HX:=Lib.hid (show rl ⟨q0,q1,q2,q3,q4,q5,q6,q7⟩ Wl (k + 1) = rnd (rl ⟨q0,q1,q2,q3,q4,q5,q6,q7⟩ Wl k) (shaK.getD k 0) (Wl.getD k 0) from rfl)
   rw [HR.out] at HX
   generalize shaK.getD k 0 = kk at cK xK HX
   generalize Wl.getD k 0 = ww at cW xW HX
   obtain ⟨b0,b1,b2,b3,b4,b5,b6,b7⟩:=hok
   simp only at b0 b1 b2 b3 b4 b5 b6 b7
   have bk:(k:Int) < 64:=by omega
   go_wp2_with fail
   go_quiet (first | (go_at_call 151;refine Calls.quiet_of_same (zib _ _ _ (by assumption) (by decide) (by decide))))
   go_wp2_with fail
   rw [t_int p0 p1 p2 p3 p4 p5 p6 p7 kk ww b4 b5 b6]
   have HT:=Lib.hid (show rnd ⟨p0,p1,p2,p3,p4,p5,p6,p7⟩ kk ww = ⟨(tN ⟨p0,p1,p2,p3,p4,p5,p6,p7⟩ kk ww + uN ⟨p0,p1,p2,p3,p4,p5,p6,p7⟩) % 4294967296,p0,p1,p2,(p3 + tN ⟨p0,p1,p2,p3,p4,p5,p6,p7⟩ kk ww) % 4294967296,p4,p5,p6⟩ from rfl)
   rw [HT.out] at HX
   have ht:=tN_lt ⟨p0,p1,p2,p3,p4,p5,p6,p7⟩ kk ww
   have hu:=uN_lt ⟨p0,p1,p2,p3,p4,p5,p6,p7⟩
   have HU:=Lib.hid (u_int p0 p1 p2 p3 p4 p5 p6 p7 b0 b1 b2)
   clear HT
   generalize tN ⟨p0,p1,p2,p3,p4,p5,p6,p7⟩ kk ww = tt at ht HX ⊢
   generalize uN ⟨p0,p1,p2,p3,p4,p5,p6,p7⟩ = uu at hu HX HU
   refine (z47 p0 _ 2 _ b0 rfl (by decide) (by decide)).mono ?_
   rintro e w5 ⟨rfl,rfl⟩
   go_wp2_with fail
   refine (z47 p0 _ 13 _ b0 rfl (by decide) (by decide)).mono ?_
   rintro e w5 ⟨rfl,rfl⟩
   go_wp2_with fail
   refine (z47 p0 _ 22 _ b0 rfl (by decide) (by decide)).mono ?_
   rintro e w5 ⟨rfl,rfl⟩
   go_wp2_with fail
   rw [HU.out]
   exact ⟨⟨k + 1,(tt + uu) % 4294967296,p0,p1,p2,(p3 + tt) % 4294967296,p4,p5,p6,by omega,by go_num,HX.out,z11 HB.out nq,
    by rw [show (((tt + uu) % 4294967296:Nat):Int) = ((tt:Int) + (uu:Int)) % 4294967296 by omega],rfl,rfl,rfl,
    by rw [show (((p3 + tt) % 4294967296:Nat):Int) = ((p3:Int) + (tt:Int)) % 4294967296 by omega],rfl,rfl,rfl⟩,by simp [intOf];omega⟩
  ·obtain rfl:k = 64:=by omega
   rw [show ((64:Nat):Int) = 64 from rfl]
   go_wp2_with fail
   exact z1y (hexit.out _ _ _ _ _ _ _ _ _ ⟨HR.out,HB.out⟩)
theorem zhb {bs:Nat} {t:TypeId} {h0 vv:S8} {w:World}
 {ca1 ca2 ca3 ca4 ca5 ca6 ca7 ca8 ca9 ca10 ca11 ca12 ca13 ca14 ca15 ub16 ub17 ca18 ca19 ca20 ca21 ca22 ca23 ca24 ca25 ca26 ca27 ca28 ca29 ca30
 ca31 ca32 ca33 ca34 ca35 ca36 ca37 ca38 ca39 ca40 ca41 ca42 ca43 ca44 ca45 ca46 ca47 ca48 ca49 ca50 ca51 ca52 ca53 ca54 ca55 ca56 ca57 ca58 ca59 ca60
 ca61 ca62 ca63 ca64 ca65 ca66 ca67 ca68 ca69 ca70 ca71 ca72 ca73 ca74 ca75 ca76 ca77 ca78 ca79 ca80 ca81 ca82 ca83 ca84 ca85 ca86 ca87 ca88 ca89 ca90
 ca91 ca92 ca93 ca94 ca95 ca96 ca97 ca98 ca99 ca100 ca101 ca102 ca103 ca104 ca105 ca106 ca107 ca108 ca109 ca110 ca111 ca112 ca113 ca114 ca115 ca116 ca117 ca118 ca119 ca120
 ca121 ca122 ub125 ub126 ub127 ub128 ub129 ub130 ub131 ub132 ub133 ub134 ub135 ub136 ub137:Value}
 (HOH:Hid h0.Ok) (HOV:Hid vv.Ok) (HH:Hid (Blk bs t .u32 h0.list w))
 (R:Act → World → Prop)
 (hexit:Hid (∀  (w1:World),Blk bs t .u32 (addS h0 vv).list w1 ∧ But bs w w1 → ∀ {vb16 vb17 vb124 vb125 vb126 vb127 vb128 vb129 vb130 vb131 vb132 vb133 vb134 vb135 vb136 vb137:Value},
  R ⟨List.toArray (.pointer (some ⟨bs,0,none⟩) :: ca1 :: ca2 :: ca3 :: ca4 :: ca5 :: ca6 :: ca7 :: ca8 :: ca9 :: ca10 :: ca11 :: ca12 :: ca13 :: ca14 :: ca15 :: vb16 :: vb17 :: ca18 :: ca19 :: ca20 :: ca21 :: ca22 :: ca23 :: ca24 :: ca25 ::
  ca26 :: ca27 :: ca28 :: ca29 :: ca30 :: ca31 :: ca32 :: ca33 :: ca34 :: ca35 :: ca36 :: ca37 :: ca38 :: ca39 :: ca40 :: ca41 :: ca42 :: ca43 :: ca44 :: ca45 :: ca46 :: ca47 :: ca48 :: ca49 :: ca50 :: ca51 :: ca52 :: ca53 ::
  ca54 :: ca55 :: ca56 :: ca57 :: ca58 :: ca59 :: ca60 :: ca61 :: ca62 :: ca63 :: ca64 :: ca65 :: ca66 :: ca67 :: ca68 :: ca69 :: ca70 :: ca71 :: ca72 :: ca73 :: ca74 :: ca75 :: ca76 :: ca77 :: ca78 :: ca79 :: ca80 :: ca81 ::
  ca82 :: ca83 :: ca84 :: ca85 :: ca86 :: ca87 :: ca88 :: ca89 :: ca90 :: ca91 :: ca92 :: ca93 :: ca94 :: ca95 :: ca96 :: ca97 :: ca98 :: ca99 :: ca100 :: ca101 :: ca102 :: ca103 :: ca104 :: ca105 :: ca106 :: ca107 :: ca108 ::
  ca109 :: ca110 :: ca111 :: ca112 :: ca113 :: ca114 :: ca115 :: ca116 :: ca117 :: ca118 :: ca119 :: ca120 :: ca121 :: ca122 :: .agg (z06 .u32 vv.list).toArray :: vb124 :: vb125 :: vb126 :: vb127 :: vb128 :: vb129 :: vb130 ::
  vb131 :: vb132 :: vb133 :: vb134 :: vb135 :: vb136 :: vb137 :: []),[]⟩ w1)) :
 Code.wp Tryz.prog (Code.loop (z5c Tryz.f126 1)) (Ends 2 R) ⟨List.toArray (.pointer (some ⟨bs,0,none⟩) :: ca1 :: ca2 :: ca3 :: ca4 :: ca5 :: ca6 :: ca7 :: ca8 :: ca9 :: ca10 :: ca11 :: ca12 :: ca13 :: ca14 :: ca15 :: ub16 :: ub17 :: ca18 :: ca19 :: ca20 :: ca21 :: ca22 :: ca23 :: ca24 :: ca25 ::
  ca26 :: ca27 :: ca28 :: ca29 :: ca30 :: ca31 :: ca32 :: ca33 :: ca34 :: ca35 :: ca36 :: ca37 :: ca38 :: ca39 :: ca40 :: ca41 :: ca42 :: ca43 :: ca44 :: ca45 :: ca46 :: ca47 :: ca48 :: ca49 :: ca50 :: ca51 :: ca52 :: ca53 ::
  ca54 :: ca55 :: ca56 :: ca57 :: ca58 :: ca59 :: ca60 :: ca61 :: ca62 :: ca63 :: ca64 :: ca65 :: ca66 :: ca67 :: ca68 :: ca69 :: ca70 :: ca71 :: ca72 :: ca73 :: ca74 :: ca75 :: ca76 :: ca77 :: ca78 :: ca79 :: ca80 :: ca81 ::
  ca82 :: ca83 :: ca84 :: ca85 :: ca86 :: ca87 :: ca88 :: ca89 :: ca90 :: ca91 :: ca92 :: ca93 :: ca94 :: ca95 :: ca96 :: ca97 :: ca98 :: ca99 :: ca100 :: ca101 :: ca102 :: ca103 :: ca104 :: ca105 :: ca106 :: ca107 :: ca108 ::
  ca109 :: ca110 :: ca111 :: ca112 :: ca113 :: ca114 :: ca115 :: ca116 :: ca117 :: ca118 :: ca119 :: ca120 :: ca121 :: ca122 :: .agg (z06 .u32 vv.list).toArray :: .int .i64 0 :: ub125 :: ub126 :: ub127 :: ub128 :: ub129 ::
  ub130 :: ub131 :: ub132 :: ub133 :: ub134 :: ub135 :: ub136 :: ub137 :: []),[]⟩ w:=by
 conv=>arg 2;arg 1;whnf
 go_loopw [124] (fun i wq=>∃ k:Nat,k ≤ 8 ∧ i = .int .i64 k ∧ Blk bs t .u32 (zgw h0.list vv.list k) wq ∧ But bs w wq) (fun i _=>8 - (intOf i).toNat)
 case atStart=>exact ⟨0,by omega,rfl,HH.out,But.refl _ _⟩
 case round =>
  clear HH
  obtain ⟨k,hk,rfl,ho,hb2⟩:=hrel
  have HH:=Lib.hid ho
  have HB:=Lib.hid hb2
  clear ho hb2
  by_cases hlk:k < 8
  ·have hlen:=zf5 h0.list vv.list k
   rw [S8.list_len] at hlen
   have c1:=HH.out.cell k (by omega)
   have hf:=HH.out.frozen k
   rw [zhx _ _ _ _ (Nat.le_refl k)] at c1
   have hx:=z1v HOH.out.lt (by decide) k
   have hy:=z1v HOV.out.lt (by decide) k
   have HS:=Lib.hid (HH.out.set k ((h0.list.getD k 0 + vv.list.getD k 0) % 4294967296))
   have HA:=Lib.hid (show zgw h0.list vv.list (k + 1) = (zgw h0.list vv.list k).set k ((h0.list.getD k 0 + vv.list.getD k 0) % 4294967296) from rfl)
   have hix:=fun w=>zah (P:=Tryz.prog) 160 143 8 .u32 vv.list k w Tryz.underlying160 (S8.list_len vv) Tryz.sizeOf143 Tryz.isAgg143 hlk
   generalize h0.list.getD k 0 = x at c1 hx HS HA
   generalize vv.list.getD k 0 = y at hix hy HS HA
   have bk:(k:Int) < 8:=by omega
   clear hlen
   go_wp2_with fail
   clear hix
   go_region
   go_wp2_with fail
   have hv:(((x + y) % 4294967296:Nat):Int) = ((x:Int) + (y:Int)) % 4294967296:=by omega
   exact ⟨⟨k + 1,by omega,by go_num,by
    rw [HA.out]
    have h:=HS.out
    rw [hv] at h
    exact h,(HB.out.setCell _ _).drew⟩,by simp [intOf];omega⟩
  ·obtain rfl:k = 8:=by omega
   rw [show ((8:Nat):Int) = 8 from rfl]
   go_wp2_with fail
   exact z1y (hexit.out _ ⟨by have:=HH.out;rwa [zak] at this,HB.out⟩)
theorem zb7 (bs bb:Nat) (ts tb:TypeId) (v:S8) (bl:List Nat) (w:World) (hv:v.Ok) (hlen:bl.length = 64) (hbl:∀ x ∈ bl,x < 256)
 (hs:Blk bs ts .u32 v.list w) (hc:Blk bb tb .u8 bl w) (hk:KAt w) :
 Calls Tryz.prog 126 #[.pointer (some ⟨bs,0,none⟩),.pointer (some ⟨bb,0,none⟩)] w fun e w'=>e = .returned (.tuple #[]) ∧ Blk bs ts .u32 (block v (bAt bl)).list w' ∧ But bs w w':=by
 have HV:=Lib.hid hv
 have HS:=Lib.hid hs
 have HK:=Lib.hid hk
 have HSC:=Lib.hid (zcv bb tb bl w hlen hbl hc)
 have HWl:=Lib.hid (wl_lt (bAt_lt hbl) 64)
 have HWL:=Lib.hid (z5e (bAt bl) 64)
 have HBL:=Lib.hid (show block v (bAt bl) = addS v (rl v (wl (bAt bl) 64) 64) from rfl)
 clear hv hs hk hlen hbl hc
 go_enter Tryz.func126,Tryz.ntmps126
 go_wp2_with fail
 refine HSC.out.mono ?_
 rintro e w1 ⟨rfl,hb⟩
 generalize wl (bAt bl) 64 = Wl at HWl HWL HBL ⊢
 clear HSC
 have HI:=Lib.hid (show (Tryz.prog.info? 195).map (·.size) = some (z06 .u32 Wl).toArray.size by rw [z13,HWL.out];exact Tryz.infoW)
 have HL2:=Lib.hid (show (z06 .u32 (List.replicate 64 0)).toArray.size = (z06 .u32 Wl).toArray.size by rw [z13,z13,HWL.out,List.length_replicate])
 have HZ:=Lib.hid (show Blk w1.heap.size 195 .u32 (List.replicate 64 0) (w1.alloc (.cells (z06 .u32 (List.replicate 64 0)).toArray 195)) from heap_alloc_new w1 _)
 have HB:=Lib.hid hb
 clear hb
 go_wp2_with (refine wpList_store_rowTo rfl 195 _ _ rfl rfl w1.heap.size (z06 .u32 Wl).toArray rfl rfl 195 _ HZ.out HI.out HL2.out (z78 _ _) ?_)
 change Code.wp _ _ _ _ ((w1.alloc (.cells (z06 .u32 (List.replicate 64 0)).toArray 195)).setRow w1.heap.size (z06 .u32 Wl).toArray)
 obtain ⟨w2,hw2⟩:∃ x,x = (w1.alloc (.cells (z06 .u32 (List.replicate 64 0)).toArray 195)).setRow w1.heap.size (z06 .u32 Wl).toArray:=⟨_,rfl⟩
 rw [← hw2]
 have hsz:=HB.out.size
 have HW:=Lib.hid (show Blk w1.heap.size 195 .u32 Wl w2 by rw [hw2];exact HZ.out.row)
 have hb2:Below w.heap.size w w2:=by rw [hw2];exact below_setRow (HB.out.alloc hsz _) hsz _
 have HS2:=Lib.hid (HS.out.below hb2)
 have HK2:=Lib.hid (HK.out.below hb2)
 have HB2:=Lib.hid hb2
 have hlt:=HS.out.lt
 clear hw2 hb2 HS HK HB HZ HI HL2
 obtain ⟨q0,q1,q2,q3,q4,q5,q6,q7⟩:=v
 have c0:w2.cell? ⟨bs,0,none⟩ = some (.int .u32 (q0:Int)):=HS2.out.cell 0 (by rw [S8.list_len];omega)
 have c1:w2.cell? ⟨bs,1,none⟩ = some (.int .u32 (q1:Int)):=HS2.out.cell 1 (by rw [S8.list_len];omega)
 have c2:w2.cell? ⟨bs,2,none⟩ = some (.int .u32 (q2:Int)):=HS2.out.cell 2 (by rw [S8.list_len];omega)
 have c3:w2.cell? ⟨bs,3,none⟩ = some (.int .u32 (q3:Int)):=HS2.out.cell 3 (by rw [S8.list_len];omega)
 have c4:w2.cell? ⟨bs,4,none⟩ = some (.int .u32 (q4:Int)):=HS2.out.cell 4 (by rw [S8.list_len];omega)
 have c5:w2.cell? ⟨bs,5,none⟩ = some (.int .u32 (q5:Int)):=HS2.out.cell 5 (by rw [S8.list_len];omega)
 have c6:w2.cell? ⟨bs,6,none⟩ = some (.int .u32 (q6:Int)):=HS2.out.cell 6 (by rw [S8.list_len];omega)
 have c7:w2.cell? ⟨bs,7,none⟩ = some (.int .u32 (q7:Int)):=HS2.out.cell 7 (by rw [S8.list_len];omega)
 go_quiet (fail)
 clear c0 c1 c2 c3 c4 c5 c6 c7
 go_wp2_with fail
 refine z30 (zh7 HV HWl HWL (Lib.hid (HW.out.drawn nq)) (Lib.hid (show KAt (w2.drewN nq) from HK2.out)) _ (Lib.hid ?_))
 rintro p0 p1 p2 p3 p4 p5 p6 p7 w3 ⟨hr,hb3⟩
 intros
 have hok:=rl_ok HV.out Wl 64
 rw [hr] at hok
 have HOK:=Lib.hid hok
 have HR:=Lib.hid hr
 have hb4:Below w.heap.size w w3:=(z11 HB2.out nq).trans (hb3.mono HB2.out.size)
 have HS3:=Lib.hid ((HS2.out.drawn nq).below hb3)
 have HB3:=Lib.hid hb4
 clear hr hb3 hb4 hok HS2 HK2 HB2 HW HWl HWL
 go_wp2_with fail
 refine z30 (zhb (vv:=⟨p0,p1,p2,p3,p4,p5,p6,p7⟩) HV HOK HS3 _ (Lib.hid ?_))
 rintro w4 ⟨ho,hb4⟩
 intros
 have HO:=Lib.hid (show Blk bs ts .u32 (block ⟨q0,q1,q2,q3,q4,q5,q6,q7⟩ (bAt bl)).list w4 by rw [HBL.out,HR.out];exact ho)
 have HB4:=Lib.hid ((But.refl bs w).below HB3.out |>.trans hb4)
 clear ho hb4
 go_wp2_with fail
 exact bodyPost_end (results_none rfl _ _ _) rfl ⟨rfl,HO.out,HB4.out⟩
end Go.Proofs.YtnbldbbbibpobaaGreatDoor
