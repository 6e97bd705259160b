/-
  Joined: The developers' joined.; The developers' Text.; The document's own Num, Text and List, walked.; The document's num, DraftText, Text.; The document's Of: what its walk's loops share.; Blocks of numbers; copying into them.; The developers' schedule: a block's words.
-/
import Derived.BigRegion
import Derived.Deep.RegionWith
import Derived.Great.BuildSlice
import Derived.Laws.CopyOwn
import Derived.Laws.Rows
import Derived.Lib.BufferWrite
import Derived.StillTailTactics
import Derived.Test.YtjomgkiphecljaaGreatDoorJ01
import Derived.Test.YtjomgkiphecljaaGreatDoorJ04
import Derived.Test.YtjomgkiphecljaaGreatDoorJ05
set_option maxRecDepth 100000
set_option maxHeartbeats 4000000
namespace Go.Proofs.YtjomgkiphecljaaGreatDoor
open Go.RowKit Go.BigFrame
def z42 (L:List (List Nat)) (k:Nat):List Nat:=(L.take k).flatten
theorem zeb {L:List (List Nat)} (h:∀ p ∈ L,IdOk p) {k:Nat} (hk:k ≤ L.length):(z42 L k).length = 32 * k:=by
 rw [z42,z40 (K:=32) (fun x hx=>(h x (List.mem_of_mem_take hx)).1),List.length_take]
 omega
theorem joinN_lt {L:List (List Nat)} (h:∀ p ∈ L,IdOk p) (k:Nat):∀ y ∈ z42 L k,y < 256:=fun y hy=>by
 obtain ⟨p,hp,hyp⟩:=List.mem_flatten.1 hy
 exact (h p (List.mem_of_mem_take hp)).2 y hyp
theorem zcd {L:List (List Nat)} {k:Nat} (hk:k < L.length):z42 L (k + 1) = z42 L k ++ L.getD k []:=by
 rw [z42,z42,List.take_succ_eq_append_getElem hk,List.flatten_append,List.getD_eq_getElem?_getD,List.getElem?_eq_getElem hk]
 simp
theorem zey (L:List (List Nat)):txt (z42 L L.length) = z3u L:=by
 rw [z42,List.take_length,z3u,txt,List.map_flatten]
 rfl
theorem zjd (L:List (List Nat)) (pa:Option Addr) (pc:Nat) (w:World) (hL:∀ p ∈ L,IdOk p) (hp:IAt pa L w) (hn:L.length ≤ 1000000) :
 Calls Tryz.prog 82 #[.slice pa L.length pc] w fun e w'=>e = .returned (.string ⟨(z3u L).toArray⟩) ∧ Below w.heap.size w w':=by
 obtain ⟨i0,hi2,hz0,hz1,hz2⟩:=info_parts Tryz.infoU8
 have HY:=Lib.hid hi2
 have HY0:=Lib.hid hz0
 have HY1:=Lib.hid hz1
 have HY2:=Lib.hid hz2
 have HP:=Lib.hid hp
 have HO:=Lib.hid hL
 obtain ⟨n,hnn⟩:∃ n,L.length = n:=⟨_,rfl⟩
 have HNN:=Shut.mk hnn
 rw [hnn] at hn ⊢
 clear hnn hp hL hi2 hz0 hz1 hz2
 have HR0:=Lib.hid (show ∀ k,k ≤ n → (z42 L k).length = 32 * k from fun k hk=>zeb HO.out (by rw [HNN.out];exact hk))
 go_enter Tryz.func82,Tryz.ntmps82
 go_wp2_with (at_make;refine wpList_make_own _ rfl _ _ 136 rfl w.heap.size 5 i0 (.int .u8 0) 1 Tryz.underlying136 HY.out HY0.out HY1.out .i64 .i64 _ (32 * n) rfl rfl (by first | rfl | omega | (go_num)) (by rw [HY2.out];omega) (by unfold maxLen;omega) (Nat.le_refl _) ?_)
 intro w2 ho hgrow
 have hb2:Below w.heap.size w w2:=(Below.refl w.heap.size w).grown hgrow (Nat.le_refl _) (by intro g hg;cases hg)
 have HOW:=Lib.hid (show OwnN w.heap.size 5 .u8 (.slice (some ⟨w.heap.size,0,none⟩) 0 (32 * n)) [] w2 from ho)
 have HB2:=Lib.hid hb2
 clear ho hgrow hb2
 go_wp2_with fail
 go_loopw [3,12] (fun v i wr=>∃ k:Nat,k ≤ n ∧ i = .int .i64 k ∧ OwnN w.heap.size 5 .u8 v (z42 L k) wr ∧ Below w.heap.size w wr) (fun _ i _=>n - (intOf i).toNat)
 case atStart=>exact ⟨0,Nat.zero_le _,rfl,HOW.out,HB2.out⟩
 case round =>
  clear HOW HB2
  obtain ⟨k,hk,rfl,ho,hb⟩:=hrel
  obtain ⟨ao,cp,rfl⟩:=ho.form
  have HLK:=Shut.mk (HR0.out k hk)
  have HOW:=Lib.hid ho
  have HB:=Lib.hid hb
  have HW:=Lib.hid hb.size
  have HPW:=Lib.hid (HP.out.below hb)
  clear ho hb
  by_cases hlt:k < n
  ·obtain ⟨b,ob,rfl,hbl⟩:=HPW.out.some (by rw [HNN.out];omega)
   have g1:=HPW.out.get (i:=k) (by rw [HNN.out];omega)
   have i1:=Ids.getD HO.out (i:=k) (by rw [HNN.out];omega)
   have HNX:=Shut.mk (show z42 L (k + 1) = z42 L k ++ L.getD k [] from zcd (by rw [HNN.out];exact hlt))
   obtain ⟨x,hx⟩:∃ x,L.getD k [] = x:=⟨_,rfl⟩
   obtain ⟨R,hR⟩:∃ R,z42 L k = R:=⟨_,rfl⟩
   rw [hx] at g1 i1 HNX
   rw [hR] at HOW HLK HNX ⊢
   have HG1:=Lib.hid g1
   have HS1:=Lib.hid (show (Tryz.prog.info? 45).map (·.size) = some x.length by rw [i1.1];exact Tryz.sizeI)
   have HL2:=Lib.hid (show (List.replicate 32 0).length = x.length by rw [i1.1];rfl)
   have HXL:=Shut.mk i1.1
   have HAP:=Lib.hid (show ∀ g,(Value.slice ao R.length cp).ownBlock = some g → wr.heap.size ≠ g from fun g hg e=>by have:=(World.ownsRow.lt HOW.out g hg).2;omega)
   have HOA:=Lib.hid (fun o=>HOW.out.alloc o)
   clear hx hR g1 i1
   go_wp2_with (first
    | (refine z0a rfl 45 _ rfl b (ob + k * 32) x _ rfl HG1.out Tryz.underlying45 rfl HS1.out ?_)
    | (refine z06 rfl 45 _ _ rfl rfl wr.heap.size .u8 (List.replicate 32 0) x 45 rfl rfl (heap_alloc_new wr _) HS1.out HL2.out ?_))
   intro w5 hc' hb'
   have HX5:=Lib.hid (show Blk wr.heap.size 45 .u8 x w5 from hc'.out)
   have HB5:=Lib.hid (show Below w.heap.size w w5 from But.toBelow (HB.out.alloc HW.out _) hb'.out HW.out (Nat.le_trans HW.out (by rw [World.size_alloc];exact Nat.le_succ _)))
   have HO5:=Lib.hid ((HOA.out _).but hb'.out HAP.out)
   have HLA:=Lib.hid (show R.length + x.length ≤ maxLen by rw [HLK.out,HXL.out];unfold maxLen;omega)
   have HLB:=Lib.hid (show (R.length + x.length) * 1 ≤ 140737488355328 by rw [HLK.out,HXL.out];omega)
   clear hc' hb' HOW HB HOA HL2
   go_wp2_with (refine z7x rfl (.tmp 16) (.tmp 17) 136 5 rfl w.heap.size .u8 1 Tryz.underlying136 Tryz.infoU8 (.slice ao R.length cp) R x ⟨wr.heap.size,0,none⟩ 32 32 HXL.out.symm rfl HO5.out rfl (blk_news HX5.out) HLA.out HLB.out HB5.out.size ?_)
   intro v6 w6 ho6 hb6
   have HB6:=Lib.hid (show Below w.heap.size w w6 from HB5.out.trans hb6.out)
   clear hb6
   go_wp2_with fail
   exact ⟨⟨k + 1,by omega,by go_num,by rw [HNX.out];exact ho6.out,HB6.out⟩,by simp [intOf];omega⟩
  ·obtain rfl:k = n:=by omega
   have hat:=HOW.out.at
   have hconv:=fun ql=>conv_in (P:=Tryz.prog) (src:=136) (dst:=9) (c:=cp) (ao:=ao) (b:=z3u L) (w:=ql) Tryz.underlying136 Tryz.underlying5 Tryz.underlying9
   have e:z12 (z3u L) = z42 L k:=by rw [← zey,HNN.out,z49 (joinN_lt HO.out k)]
   have e2:(z3u L).length = (z42 L k).length:=by rw [← e,z0t]
   rw [e,e2] at hconv
   have hconv:=hconv wr hat
   obtain ⟨R,hR⟩:∃ R,z42 L k = R:=⟨_,rfl⟩
   rw [hR] at hconv ⊢
   clear hat e e2 hR
   go_wp2_with fail
   go_ret
   exact ⟨rfl,HB.out⟩
theorem zhe {o:OpN} (h:o.Fit):(opB o).length ≤ 4000:=opB_le (by have:=h.d.high;omega) (by have:=h.ahigh;omega) (by have:=h.dhigh;omega) h.d.key h.d.val h.ok h.many
theorem zlh (o:OpN) (pa:Option Addr) (pc:Nat) (w:World) (ho:o.Fit) (hp:IAt pa o.preds w) :
 Calls Tryz.prog 58 #[.agg (opV o pa pc)] w fun e w'=>e = .returned (.string ⟨(opB o).toArray⟩) ∧ Below w.heap.size w w':=by
 have hx:Cells w.heap.size 49 (opV o pa pc) (w.alloc (.cells (opV o pa pc) 49)):=heap_alloc_new w _
 have hb:Below w.heap.size w (w.alloc (.cells (opV o pa pc) 49)):=(Below.refl _ _).alloc (Nat.le_refl _) _
 have HX:=Lib.hid hx
 have HB:=Lib.hid hb
 have HP:=Lib.hid (hp.below hb)
 have HD:=Lib.hid ho
 have HLEN:=Lib.hid (zhe ho)
 clear hx hb ho hp
 go_enter Tryz.func58,Tryz.ntmps58
 go_upto_region 1 with (fail)
 obtain ⟨w1,hw1⟩:∃ x,x = w.alloc (.cells (opV o pa pc) 49):=⟨_,rfl⟩
 rw [← hw1] at HX HB HP ⊢
 clear hw1
 obtain ⟨c0,c35,c36,c37⟩:=z0d HD.out.ok.ref.1 HX.out
 have hg:=HX.out.lt
 have HSD:=Lib.hid (show (Tryz.prog.info? 47).map (·.size) = some (z1b o.d).length by rw [z0r HD.out.ok.ref.1];exact Tryz.sizeD)
 have HJ:=Lib.hid (fun w' (q:Below w1.heap.size w1 w')=>zjd o.preds pa pc w' HD.out.preds (HP.out.below q) (by have:=HD.out.many;omega))
 have HT:=Lib.hid (fun w'=>zd9 o.d HD.out.d w')
 obtain ⟨A,hA⟩:∃ x,o.author = x:=⟨_,rfl⟩
 obtain ⟨D,hD⟩:∃ x,o.depth = x:=⟨_,rfl⟩
 obtain ⟨n,hn⟩:∃ x,o.preds.length = x:=⟨_,rfl⟩
 have HE:=Shut.mk (show opB o = z2q [z2n A.toNat,z2n D.toNat,z3u o.preds,z3s o.d] by rw [opB,hA,hD])
 rw [hA] at c35
 rw [hD] at c36
 rw [hn] at c37 HJ
 have HNA:=Lib.hid (fun w'=>zgj A w' (by have:=HD.out.alow;rw [hA] at this;exact this) (by have:=HD.out.ahigh;rw [hA] at this;exact this))
 have HND:=Lib.hid (fun w'=>zgj D w' (by have:=HD.out.dlow;rw [hD] at this;exact this) (by have:=HD.out.dhigh;rw [hD] at this;exact this))
 have HC0:=Lib.hid (fun (w':World) (q:Below w1.heap.size w1 w')=>show w'.rangeAt w.heap.size 0 (z1b o.d) from z0c c0 q hg)
 have HC5:=Lib.hid (fun (w':World) (q:Below w1.heap.size w1 w')=>(q.cell (p:=⟨w.heap.size,35,none⟩) hg).trans c35)
 have HC6:=Lib.hid (fun (w':World) (q:Below w1.heap.size w1 w')=>(q.cell (p:=⟨w.heap.size,36,none⟩) hg).trans c36)
 have HC7:=Lib.hid (fun (w':World) (q:Below w1.heap.size w1 w')=>(q.cell (p:=⟨w.heap.size,37,none⟩) hg).trans c37)
 obtain ⟨PB,hPB⟩:∃ x,z3u o.preds = x:=⟨_,rfl⟩
 obtain ⟨DB,hDB⟩:∃ x,z3s o.d = x:=⟨_,rfl⟩
 rw [hPB] at HJ HE
 rw [hDB] at HT HE
 have HLN:=Lib.hid (show (z2q [z2n A.toNat,z2n D.toNat,PB,DB]).length ≤ 4000 by rw [← HE.out];exact HLEN.out)
 clear c0 c35 c36 c37 hg hA hD hn hPB hDB HX HLEN
 refine z09 (fun w'=>Below w1.heap.size w1 w') 12 (by kernel_rfl) (by kernel_rfl) (Below.refl _ _).drew ?_
 simp only [zC,zD,zE,zF]
 repeat (first
  | (go_big_quiet_want;refine z03 3 _ rfl ⟨w.heap.size,35,none⟩ _ rfl HC5.out Tryz.isAgg3 ?_;go_big_quiet_on;simp only [Act.put,zS,zA,zB])
  | (go_big_quiet_want;refine z03 3 _ rfl ⟨w.heap.size,36,none⟩ _ rfl HC6.out Tryz.isAgg3 ?_;go_big_quiet_on;simp only [Act.put,zS,zA,zB])
  | (go_big_quiet_want;refine z03 40 _ rfl ⟨w.heap.size,37,none⟩ _ rfl HC7.out Tryz.isAgg40 ?_;go_big_quiet_on;simp only [Act.put,zS,zA,zB])
  | (go_big_quiet_want;refine z74 47 _ rfl w.heap.size 0 (z1b o.d) _ rfl HC0.out Tryz.underlying47 rfl HSD.out ?_;go_big_quiet_on;simp only [Act.put,zS,zA,zB])
  | go_big_quiet_step ((intro hs';first
   | (go_at_call_of 81 (Value.int .i64 A);exact (HNA.out _).mono fun e w' h=>⟨h.1,hs'.trans (h.2.mono hs'.size)⟩)
   | (go_at_call_of 81 (Value.int .i64 D);exact (HND.out _).mono fun e w' h=>⟨h.1,hs'.trans (h.2.mono hs'.size)⟩)
   | (go_at_call 82;exact (HJ.out _ hs').mono fun e w' h=>⟨h.1,hs'.trans (h.2.mono hs'.size)⟩)
   | (go_at_call 83;exact (HT.out _).mono fun e w' h=>⟨h.1,hs'.trans (h.2.mono hs'.size)⟩)
   | rfl)))
 refine wpQuiet_nil ?_
 intro w2 hs2
 have HB2:=Lib.hid (HB.out.trans (hs2.mono HB.out.size))
 clear hs2 HB HC0 HC5 HC6 HC7 HNA HND HJ HT
 go_wp2_with fail
 refine (zd5 (some ⟨w2.heap.size,0,none⟩) 4 [z2n A.toNat,z2n D.toNat,PB,DB] _ (z9u w2 _ _ _ _) (by simp) (by have:=HLN.out;omega)).mono ?_
 rintro e w3 ⟨rfl,hb⟩
 have HB3:=Lib.hid (HB2.out.trans (((Below.refl _ w2).alloc (Nat.le_refl _) _).trans (hb.mono (by simp)) |>.mono HB2.out.size))
 clear hb HB2
 go_wp2_with fail
 go_ret
 exact ⟨by rw [HE.out];rfl,HB3.out⟩
end Go.Proofs.YtjomgkiphecljaaGreatDoor
namespace Go.Proofs.YtjomgkiphecljaaGreatDoor
open Go.RowKit
theorem conv1 (w:World) (d:UInt8):(convert 136 9 (.slice (some ⟨w.heap.size,0,none⟩) 1 1)).run Tryz.prog (w.alloc (.cells #[.int .u8 (d.toNat:Int)] 5)) = .ok (.string ⟨#[d]⟩) (w.alloc (.cells #[.int .u8 (d.toNat:Int)] 5)):=by
 refine run_convert_bytes_back _ _ _ 5 ⟨w.heap.size,0,none⟩ _ [d] Tryz.underlying136 Tryz.underlying5 Tryz.underlying9 ?_
 intro j hj
 have:j = 0:=by simpa using hj
 subst this
 simp [Addr.add]
theorem zhq (d:UInt8) (r:List UInt8):(({ data:=#[d] }:ByteArray) ++ { data:=r.toArray }) = { data:=(d :: r).toArray }:=by
 apply ByteArray.ext;rw [ByteArray.data_append];simp
theorem zd6 (m:Nat):((UInt8.ofNat (m % 256)).toNat:Int) = (m:Int) % 256:=by
 rw [zal];omega
theorem z5r (n:Nat) (w:World) (hn:n < 9223372036854775808) :
 Calls Tryz.prog 116 #[.int .i64 n] w fun e w'=>e = .returned (.string ⟨(z2n n).toArray⟩) ∧ Below w.heap.size w w':=by
 have h8:=z6j hn
 go_enter Tryz.func116,Tryz.ntmps116
 go_wp2_with fail
 go_loopw [0,3,4] (fun a s k wr=>∃ (m:Nat) (r:List UInt8),m < 9223372036854775808 ∧ dig m ++ r = dig n ∧ a = .int .i64 m ∧ s = .string ⟨r.toArray⟩ ∧ k = .int .i64 r.length ∧ Below w.heap.size w wr) (fun a _ _ _=>(intOf a).toNat)
 case atStart=>exact ⟨n,[],hn,by simp,rfl,rfl,rfl,Below.refl _ _⟩
 case round =>
  obtain ⟨m,r,hm,hd,rfl,rfl,rfl,hbel⟩:=hrel
  have hr:r.length ≤ 8:=by have:=congrArg List.length hd;simp at this;omega
  have HD:=Lib.hid hd
  have HB:=Lib.hid hbel
  clear hd hbel
  by_cases h0:0 < m
  ·have hconv:=conv1 wr (UInt8.ofNat (m % 256))
   rw [zd6] at hconv
   have hcat:=zhq (UInt8.ofNat (m % 256)) r
   go_wp2_with fail
   refine ⟨⟨m / 256,UInt8.ofNat (m % 256) :: r,by omega,?_,by go_num,rfl,by go_num,HB.out.alloc HB.out.size _⟩,by simp [intOf];omega⟩
   rw [← HD.out,za4 (n:=m) (by omega),List.append_assoc];rfl
  ·have e0:m = 0:=by omega
   subst e0
   have hconv:=conv1 wr (UInt8.ofNat r.length)
   rw [show ((UInt8.ofNat r.length).toNat:Int) = (r.length:Int) by simp;omega] at hconv
   have hcat:=zhq (UInt8.ofNat r.length) r
   go_wp2_with fail
   go_ret
   refine ⟨?_,HB.out.alloc HB.out.size _⟩
   have e:r = dig n:=by have:=HD.out;rwa [z6r,List.nil_append] at this
   rw [z2n,← e];rfl
theorem zfy (s:List UInt8) (w:World) (hs:s.length ≤ 9223372036854775000) :
 Calls Tryz.prog 117 #[.string ⟨s.toArray⟩] w fun e w'=>e = .returned (.string ⟨(z6e s).toArray⟩) ∧ Below w.heap.size w w':=by
 have hcat:(({ data:=(z2n s.length).toArray }:ByteArray) ++ { data:=s.toArray }) = { data:=(z6e s).toArray }:=by
  apply ByteArray.ext;rw [ByteArray.data_append];simp [z6e]
 go_enter Tryz.func117,Tryz.ntmps117
 go_wp2_with fail
 refine (z5r s.length _ (by omega)).mono ?_
 rintro e w1 ⟨rfl,hb⟩
 have HB:=Lib.hid hb
 have hn:=z5h (n:=s.length) (by omega)
 clear hb
 go_wp2_with fail
 go_ret
 exact ⟨rfl,HB.out⟩
theorem z68 (ao:Option Addr) (cap:Nat) (l:List (List UInt8)) (w:World) (h:StrsAt ao l w) (hl:l.length ≤ 9223372036854775807) (hlen:(z2q l).length ≤ 9223372036854775000) :
 Calls Tryz.prog 87 #[.slice ao l.length cap] w fun e w'=>e = .returned (.string ⟨(z2q l).toArray⟩) ∧ Below w.heap.size w w':=by
 have HS:=Lib.hid h
 have hlb:=z3j l
 have HL:=Lib.hid hlb
 clear h hlb
 go_enter Tryz.func87,Tryz.ntmps87
 go_wp2_with fail
 refine (z5r l.length _ (by omega)).mono ?_
 rintro e w1 ⟨rfl,hb1⟩
 have HB1:=Lib.hid hb1
 clear hb1
 go_wp2_with fail
 go_loopw [3,11] (fun s i wr=>∃ q:Nat,q ≤ l.length ∧ i = .int .i64 q ∧ s = .string ⟨(z2n l.length ++ z1p (l.take q)).toArray⟩ ∧ Below w.heap.size w wr) (fun _ i _=>l.length - (intOf i).toNat)
 case atStart=>exact ⟨0,Nat.zero_le _,rfl,by simp [z1p],HB1.out⟩
 case round =>
  obtain ⟨q,hq,rfl,rfl,hbel⟩:=hrel
  by_cases hlt:q < l.length
  ·have hparts:=z97 l q hlt
   have hlist:=HL.out
   have hcell:∃ b o,ao = some ⟨b,o,none⟩ ∧ wr.cell? ⟨b,o + q,none⟩ = some (.string ⟨l[q].toArray⟩):=by
    rcases HS.out.below hbel with h | ⟨b,o,ha,hb,hc⟩
    ·subst h;simp at hlt
    ·exact ⟨b,o,ha,hc q hlt⟩
   obtain ⟨cb,co,hao,hc⟩:=hcell
   have htl:=z4z l[q]
   have hlq:l[q].length ≤ 9223372036854775000:=by omega
   have hsum:(z2n l.length).length + (z1p (l.take q)).length + (z6e l[q]).length ≤ 9223372036854775000:=by omega
   have hcat:(({ data:=(z2n l.length ++ z1p (l.take q)).toArray }:ByteArray) ++ { data:=(z6e l[q]).toArray }) = { data:=(z2n l.length ++ z1p (l.take (q + 1))).toArray }:=by
    apply ByteArray.ext;rw [ByteArray.data_append,z5w l q hlt];simp [z6e,List.append_assoc]
   have HB:=Lib.hid hbel
   subst hao
   clear hbel hparts htl hlist
   go_wp2_with fail
   refine (zfy l[q] _ hlq).mono ?_
   rintro e w3 ⟨rfl,hb3⟩
   have HB3:=Lib.hid (HB.out.trans (hb3.mono HB.out.size))
   clear hb3 HB hc
   go_wp2_with fail
   exact ⟨⟨q + 1,by omega,by go_num,rfl,HB3.out⟩,by simp [intOf];omega⟩
  ·obtain rfl:q = l.length:=by omega
   have HB:=Lib.hid hbel
   clear hbel
   go_wp2_with fail
   go_ret
   exact ⟨by rw [List.take_length];rfl,HB.out⟩
open Go.BigFrame
theorem zcn (n:Int) (w:World) (h2:n ≤ 9223372036854775807) :
 Calls Tryz.prog 88 #[.int .i64 n] w fun e w'=>e = .returned (.string ⟨(z2n n.toNat).toArray⟩) ∧ Below w.heap.size w w':=by
 by_cases h0:n < 0
 ·have HN:=Lib.hid (z5r 0 w (by decide))
  have HE:=Shut.mk (show n.toNat = 0 by omega)
  go_enter Tryz.func88,Tryz.ntmps88
  go_wp2_with fail
  refine HN.out.mono ?_
  rintro e w1 ⟨rfl,hb⟩
  have HB:=Lib.hid hb
  clear hb
  go_wp2_with fail
  go_ret
  exact ⟨by rw [HE.out];rfl,HB.out⟩
 ·obtain ⟨m,rfl⟩:=Int.eq_ofNat_of_zero_le (show 0 ≤ n by omega)
  have HN:=Lib.hid (z5r m w (by omega))
  have hnl:¬ (m:Int) < 0:=h0
  go_enter Tryz.func88,Tryz.ntmps88
  go_wp2_with fail
  refine HN.out.mono ?_
  rintro e w1 ⟨rfl,hb⟩
  have HB:=Lib.hid hb
  clear hb
  go_wp2_with fail
  go_ret
  exact ⟨by rw [Int.toNat_natCast];rfl,HB.out⟩
theorem zcy (d:DraftN) (hd:d.Fit) (w:World) :
 Calls Tryz.prog 89 #[.agg (z0p d)] w fun e w'=>e = .returned (.string ⟨(z3s d).toArray⟩) ∧ Below w.heap.size w w':=by
 have hx:Cells w.heap.size 47 (z0p d) (w.alloc (.cells (z0p d) 47)):=heap_alloc_new w _
 have hb:Below w.heap.size w (w.alloc (.cells (z0p d) 47)):=(Below.refl _ _).alloc (Nat.le_refl _) _
 have HX:=Lib.hid hx
 have HB:=Lib.hid hb
 have HD:=Lib.hid hd
 have HLEN:=Lib.hid (zbu hd)
 clear hx hb hd
 go_enter Tryz.func89,Tryz.ntmps89
 go_upto_region 1 with (fail)
 obtain ⟨w1,hw1⟩:∃ x,x = w.alloc (.cells (z0p d) 47):=⟨_,rfl⟩
 rw [← hw1] at HX HB ⊢
 clear hw1
 obtain ⟨c0,c1,c2,c3⟩:=z4c HX.out
 have hg:=HX.out.lt
 obtain ⟨k,hk⟩:∃ k,d.kind = k:=⟨_,rfl⟩
 have HK:=Shut.mk hk
 rw [hk] at c0
 have HC0:=Lib.hid (fun (w':World) (q:Below w1.heap.size w1 w')=>(q.cell (p:=⟨w.heap.size,0,none⟩) hg).trans c0)
 have HC1:=Lib.hid (fun (w':World) (q:Below w1.heap.size w1 w')=>(q.cell (p:=⟨w.heap.size,1,none⟩) hg).trans c1)
 have HC2:=Lib.hid (fun (w':World) (q:Below w1.heap.size w1 w')=>(q.cell (p:=⟨w.heap.size,2,none⟩) hg).trans c2)
 have HC3:=Lib.hid (fun (w':World) (q:Below w1.heap.size w1 w')=>zia (P:=Tryz.prog) (src:=136) (dst:=9) (c:=32) Tryz.underlying136 Tryz.underlying5 Tryz.underlying9 HD.out.ref.1.symm HD.out.ref.2 (z0c c3 q hg))
 have HN:=Lib.hid (fun w'=>zcn k w' (by have:=HD.out.high;rw [hk] at this;exact this))
 clear c0 c1 c2 c3 hg hk
 refine z09 (fun w'=>Below w1.heap.size w1 w') 10 (by kernel_rfl) (by kernel_rfl) (Below.refl _ _).drew ?_
 simp only [zC,zD,zE,zF]
 repeat (first
  | (go_big_quiet_want;refine z03 3 _ rfl ⟨w.heap.size,0,none⟩ _ rfl HC0.out Tryz.isAgg3 ?_;go_big_quiet_on;simp only [Act.put,zS,zA,zB])
  | (go_big_quiet_want;refine z03 9 _ rfl ⟨w.heap.size,1,none⟩ _ rfl HC1.out Tryz.isAgg9 ?_;go_big_quiet_on;simp only [Act.put,zS,zA,zB])
  | (go_big_quiet_want;refine z03 9 _ rfl ⟨w.heap.size,2,none⟩ _ rfl HC2.out Tryz.isAgg9 ?_;go_big_quiet_on;simp only [Act.put,zS,zA,zB])
  | (go_big_quiet_want;refine zbx 136 9 _ rfl (.slice (some ⟨w.heap.size,3,none⟩) 32 32) _ rfl HC3.out ?_;go_big_quiet_on;simp only [Act.put,zS,zA,zB])
  | go_big_quiet_step ((intro hs';first
   | (go_at_call 88;exact (HN.out _).mono fun e w' h=>⟨h.1,hs'.trans (h.2.mono hs'.size)⟩)
   | rfl)))
 refine wpQuiet_nil ?_
 intro w2 hs2
 have HB2:=Lib.hid (HB.out.trans (hs2.mono HB.out.size))
 clear hs2 HX HB HC0 HC1 HC2 HC3 HN
 go_wp2_with fail
 refine (z68 (some ⟨w2.heap.size,0,none⟩) 4 [z2n k.toNat,d.key,d.val,txt d.ref] _ (z9u w2 _ _ _ _) (by simp) (by have:=HLEN.out;rw [z3s,HK.out] at this;omega)).mono ?_
 rintro e w3 ⟨rfl,hb⟩
 have HB3:=Lib.hid (HB2.out.trans (((Below.refl _ w2).alloc (Nat.le_refl _) _).trans (hb.mono (by simp)) |>.mono HB2.out.size))
 clear hb HB2
 go_wp2_with fail
 go_ret
 exact ⟨by rw [z3s,HK.out];rfl,HB3.out⟩
theorem zk5 (o:OpN) (pa:Option Addr) (pc:Nat) (w:World) (ho:o.Fit) (hp:IAt pa o.preds w) :
 Calls Tryz.prog 67 #[.agg (opV o pa pc)] w fun e w'=>e = .returned (.string ⟨(opB o).toArray⟩) ∧ Below w.heap.size w w':=by
 have hx:Cells w.heap.size 49 (opV o pa pc) (w.alloc (.cells (opV o pa pc) 49)):=heap_alloc_new w _
 have hb:Below w.heap.size w (w.alloc (.cells (opV o pa pc) 49)):=(Below.refl _ _).alloc (Nat.le_refl _) _
 have HX:=Lib.hid hx
 have HB:=Lib.hid hb
 have HP:=Lib.hid (hp.below hb)
 have HD:=Lib.hid ho
 have HLEN:=Lib.hid (zhe ho)
 clear hx hb ho hp
 go_enter Tryz.func67,Tryz.ntmps67
 go_upto_region 1 with (fail)
 obtain ⟨w1,hw1⟩:∃ x,x = w.alloc (.cells (opV o pa pc) 49):=⟨_,rfl⟩
 rw [← hw1] at HX HB HP ⊢
 clear hw1
 obtain ⟨c0,c35,c36,c37⟩:=z0d HD.out.ok.ref.1 HX.out
 have hg:=HX.out.lt
 obtain ⟨n,hn⟩:∃ x,o.preds.length = x:=⟨_,rfl⟩
 have HNN:=Shut.mk hn
 have hn70:n ≤ 70:=by rw [← hn];exact HD.out.many
 rw [hn] at c37
 have HCC:=Lib.hid (And.intro c0 (And.intro c35 c36))
 clear hn c0 c35 c36
 have HR0:=Lib.hid (show ∀ k,k ≤ n → (z42 o.preds k).length = 32 * k from fun k hk=>zeb HD.out.preds (by rw [HNN.out];exact hk))
 go_wp2_with fail
 go_loopw [3,9] (fun v i wr=>∃ k:Nat,k ≤ n ∧ i = .int .i64 k ∧ v = .string ⟨(txt (z42 o.preds k)).toArray⟩ ∧ Below w1.heap.size w1 wr) (fun _ i _=>n - (intOf i).toNat)
 case atStart=>exact ⟨0,Nat.zero_le _,rfl,rfl,Below.refl _ _⟩
 case round =>
  obtain ⟨k,hk,rfl,rfl,hb⟩:=hrel
  have HBW:=Lib.hid hb
  have HLK:=Shut.mk (HR0.out k hk)
  have HPW:=Lib.hid (HP.out.below hb)
  clear hb
  by_cases hlt:k < n
  ·obtain ⟨b,ob,rfl,hbl⟩:=HPW.out.some (by rw [HNN.out];omega)
   have g1:=HPW.out.get (i:=k) (by rw [HNN.out];omega)
   have i1:=Ids.getD HD.out.preds (i:=k) (by rw [HNN.out];omega)
   have HNX:=Shut.mk (show txt (z42 o.preds (k + 1)) = txt (z42 o.preds k) ++ txt (o.preds.getD k []) by rw [zcd (by rw [HNN.out];exact hlt),zjt])
   obtain ⟨x,hx⟩:∃ x,o.preds.getD k [] = x:=⟨_,rfl⟩
   have HLT:=Lib.hid (show (txt (z42 o.preds k)).length = 32 * k by rw [z2m];exact HLK.out)
   obtain ⟨R,hR⟩:∃ R,txt (z42 o.preds k) = R:=⟨_,rfl⟩
   rw [hx] at g1 i1 HNX
   rw [hR] at HNX HLT ⊢
   have HG1:=Lib.hid g1
   have HS1:=Lib.hid (show (Tryz.prog.info? 45).map (·.size) = some x.length by rw [i1.1];exact Tryz.sizeI)
   have HL2:=Lib.hid (show (List.replicate 32 0).length = x.length by rw [i1.1];rfl)
   have HXO:=Lib.hid i1
   clear hx hR g1 i1
   go_wp2_with (first
    | (refine z0a rfl 45 _ rfl b (ob + k * 32) x _ rfl HG1.out Tryz.underlying45 rfl HS1.out ?_)
    | (refine z06 rfl 45 _ _ rfl rfl wr.heap.size .u8 (List.replicate 32 0) x 45 rfl rfl (heap_alloc_new wr _) HS1.out HL2.out ?_))
   intro w5 hc' hb'
   have hconv:=conv_blk (P:=Tryz.prog) w5 136 9 5 wr.heap.size 32 32 x 45 HXO.out.1.symm HXO.out.2 hc'.out Tryz.underlying136 Tryz.underlying5 Tryz.underlying9
   have HB5:=Lib.hid (show Below w1.heap.size w1 w5 from But.toBelow (HBW.out.alloc HBW.out.size _) hb'.out HBW.out.size (Nat.le_trans HBW.out.size (by rw [World.size_alloc];exact Nat.le_succ _)))
   have hcat:=cat2 R (txt x)
   have hl1:=HLT.out
   have hl2:(txt x).length = 32:=by rw [z2m];exact HXO.out.1
   clear hc' hb' HL2
   go_wp2_with fail
   exact ⟨⟨k + 1,by omega,by go_num,by rw [HNX.out],HB5.out⟩,by simp [intOf];omega⟩
  ·obtain rfl:k = n:=by omega
   have HTX:=Shut.mk (show txt (z42 o.preds k) = z3u o.preds by rw [← HNN.out,zey])
   rw [HTX.out]
   have hgw:w.heap.size < wr.heap.size:=Nat.lt_of_lt_of_le hg HBW.out.size
   have HSD:=Lib.hid (show (Tryz.prog.info? 47).map (·.size) = some (z1b o.d).length by rw [z0r HD.out.ok.ref.1];exact Tryz.sizeD)
   have HT:=Lib.hid (fun w'=>zcy o.d HD.out.d w')
   obtain ⟨A,hA⟩:∃ x,o.author = x:=⟨_,rfl⟩
   obtain ⟨D,hD⟩:∃ x,o.depth = x:=⟨_,rfl⟩
   have HE:=Shut.mk (show opB o = z2q [z2n A.toNat,z2n D.toNat,z3u o.preds,z3s o.d] by rw [opB,hA,hD])
   have c35:=HCC.out.2.1
   have c36:=HCC.out.2.2
   rw [hA] at c35
   rw [hD] at c36
   have HNA:=Lib.hid (fun w'=>zcn A w' (by have:=HD.out.ahigh;rw [hA] at this;exact this))
   have HND:=Lib.hid (fun w'=>zcn D w' (by have:=HD.out.dhigh;rw [hD] at this;exact this))
   have HC0:=Lib.hid (fun (w':World) (q:Below wr.heap.size wr w')=>show w'.rangeAt w.heap.size 0 (z1b o.d) from z0c (z0c HCC.out.1 HBW.out hg) q hgw)
   have HC5:=Lib.hid (fun (w':World) (q:Below wr.heap.size wr w')=>(q.cell (p:=⟨w.heap.size,35,none⟩) hgw).trans ((HBW.out.cell (p:=⟨w.heap.size,35,none⟩) hg).trans c35))
   have HC6:=Lib.hid (fun (w':World) (q:Below wr.heap.size wr w')=>(q.cell (p:=⟨w.heap.size,36,none⟩) hgw).trans ((HBW.out.cell (p:=⟨w.heap.size,36,none⟩) hg).trans c36))
   obtain ⟨PB,hPB⟩:∃ x,z3u o.preds = x:=⟨_,rfl⟩
   obtain ⟨DB,hDB⟩:∃ x,z3s o.d = x:=⟨_,rfl⟩
   rw [hPB] at HE ⊢
   rw [hDB] at HT HE
   have HLN:=Lib.hid (show (z2q [z2n A.toNat,z2n D.toNat,PB,DB]).length ≤ 4000 by rw [← HE.out];exact HLEN.out)
   have HBR:=Lib.hid (HB.out.trans (HBW.out.mono HB.out.size))
   clear c35 c36 hg hA hD hPB hDB HX HLEN hgw HCC HTX HR0 HLK HP HPW
   go_upto_region 7 with (fail)
   refine z09 (fun w'=>Below wr.heap.size wr w') 10 (by kernel_rfl) (by kernel_rfl) (Below.refl _ _).drew ?_
   simp only [zC,zD,zE,zF]
   repeat (first
    | (go_big_quiet_want;refine z03 3 _ rfl ⟨w.heap.size,35,none⟩ _ rfl HC5.out Tryz.isAgg3 ?_;go_big_quiet_on;simp only [Act.put,zS,zA,zB])
    | (go_big_quiet_want;refine z03 3 _ rfl ⟨w.heap.size,36,none⟩ _ rfl HC6.out Tryz.isAgg3 ?_;go_big_quiet_on;simp only [Act.put,zS,zA,zB])
    | (go_big_quiet_want;refine z74 47 _ rfl w.heap.size 0 (z1b o.d) _ rfl HC0.out Tryz.underlying47 rfl HSD.out ?_;go_big_quiet_on;simp only [Act.put,zS,zA,zB])
    | go_big_quiet_step ((intro hs';first
     | (go_at_call_of 88 (Value.int .i64 A);exact (HNA.out _).mono fun e w' h=>⟨h.1,hs'.trans (h.2.mono hs'.size)⟩)
     | (go_at_call_of 88 (Value.int .i64 D);exact (HND.out _).mono fun e w' h=>⟨h.1,hs'.trans (h.2.mono hs'.size)⟩)
     | (go_at_call 89;exact (HT.out _).mono fun e w' h=>⟨h.1,hs'.trans (h.2.mono hs'.size)⟩)
     | rfl)))
   refine wpQuiet_nil ?_
   intro w2 hs2
   have HB2:=Lib.hid (HBR.out.trans (hs2.mono HBR.out.size))
   clear hs2 HB HBR HC0 HC5 HC6 HNA HND HT
   go_wp2_with fail
   refine (z68 (some ⟨w2.heap.size,0,none⟩) 4 [z2n A.toNat,z2n D.toNat,PB,DB] _ (z9u w2 _ _ _ _) (by simp) (by have:=HLN.out;omega)).mono ?_
   rintro e w3 ⟨rfl,hb⟩
   have HB3:=Lib.hid (HB2.out.trans (((Below.refl _ w2).alloc (Nat.le_refl _) _).trans (hb.mono (by simp)) |>.mono HB2.out.size))
   clear hb HB2
   go_wp2_with fail
   go_ret
   exact ⟨by rw [HE.out];rfl,HB3.out⟩
end Go.Proofs.YtjomgkiphecljaaGreatDoor
namespace Go.Proofs.YtjomgkiphecljaaGreatDoor
open Go.RowKit
def z6i:Code → List Code
 | .loop c=>c :: z6i c
 | .seq a b=>z6i a ++ z6i b
 | .block _ c=>z6i c
 | .scope c=>z6i c
 | .cond _ a b=>z6i a ++ z6i b
 | _=>[]
noncomputable def z5v (f:Func) (n:Nat):Code:=((f.body.map z6i).getD []).getD n .skip
def Ends (k:Nat) (R:Act → World → Prop):Exit → Act → World → Prop
 | .exit j,a,w=>j = k ∧ R a w
 | _,_,_=>False
theorem z26 {k:Nat} {R:Act → World → Prop} {a:Act} {w:World} (h:R a w):Ends k R (.exit k) a w:=⟨rfl,h⟩
theorem z3b {P:Program} {c:Code} {k:Nat} {Q:Exit → Act → World → Prop} {a:Act} {w:World} (h:c.wp P (Ends k (fun a w=>Q (.exit k) a w)) a w):c.wp P Q a w:=by
 refine wp_mono h ?_
 intro e a w he
 cases e with
 | exit j=>obtain ⟨rfl,hr⟩:=he;exact hr
 | _=>exact absurd he (by simp [Ends])
def z3l (s:List UInt8) (q:Nat):List Nat:=z12 s ++ [128] ++ List.replicate q 0
theorem z8g (s:List UInt8) (q:Nat):(z3l s q).length = s.length + 1 + q:=by simp [z3l,z0t];omega
theorem zgu (s:List UInt8) (q:Nat):z3l s (q + 1) = z3l s q ++ [0]:=by simp [z3l,List.replicate_succ']
theorem zip (s:List UInt8):z4b s = z3l s (z1t s.length) ++ l8 (s.length * 8) 8:=rfl
structure OfSt (w:World) (bv:Value) (p:List Nat) (v:S8) (wr:World):Prop where
 h:OwnN (w.heap.size + 1) 151 .u32 (.slice (some ⟨w.heap.size + 1,0,none⟩) 8 8) v.list wr
 k:OwnN (w.heap.size + 1) 151 .u32 (.slice (some ⟨w.heap.size + 1 + 1,0,none⟩) 64 64) shaK wr
 b:OwnT (w.heap.size + 3) 5 .u8 bv p wr
 r:wr.heap[w.heap.size]? = some (.cells (z05 .u8 (List.replicate 32 0)).toArray 45 (0,0))
 bel:Below w.heap.size w wr
theorem OfSt.below {w:World} {bv:Value} {p:List Nat} {v:S8} {wr w':World} (h:OfSt w bv p v wr) (b:Below wr.heap.size wr w'):OfSt w bv p v w' :=
 ⟨h.h.below b,h.k.below b,h.b.below b,(b.block _ (lt_of_block h.r)).trans h.r,h.bel.trans (b.mono (h.bel.size))⟩
theorem z44 (x k:Nat) (w:World) (hx:x < 4294967296) (hk1:1 ≤ k) (hk:k ≤ 31) :
 Calls Tryz.prog 115 #[.int .u32 x,.int .u32 k] w fun e w'=>e = .returned (.int .u32 (z6w x k)) ∧ w' = w :=
 (turn_any x k w hx hk1 hk).mono fun _ _ h=>⟨h.1,h.2.symm⟩
def z60 (b:Nat → Nat) (i:Nat):List Nat:=wl b i ++ List.replicate (64 - i) 0
theorem z7w (b:Nat → Nat) {i:Nat} (h:i ≤ 64):(z60 b i).length = 64:=by unfold z60;rw [List.length_append,z5y,List.length_replicate];omega
theorem zdw (b:Nat → Nat):z60 b 64 = wl b 64:=by unfold z60;rw [show 64 - 64 = 0 from rfl,List.replicate_zero,List.append_nil]
theorem zcv (b:Nat → Nat) {i x:Nat} (h:i < 64):(z60 b i).set i x = wl b i ++ [x] ++ List.replicate (64 - (i + 1)) 0:=by
 unfold z60
 rw [List.set_append_right _ _ (by rw [z5y];exact Nat.le_refl _),z5y,Nat.sub_self,show 64 - i = (64 - (i + 1)) + 1 by omega,List.replicate_succ,List.set_cons_zero,List.append_assoc]
 rfl
theorem zds {b:Nat → Nat} {i:Nat} (h:i < 16):(z60 b i).set i (zag b i) = z60 b (i + 1):=by rw [zcv b (by omega)];unfold z60;rw [zgi h]
theorem ze7 {b:Nat → Nat} {i:Nat} (h:¬ i < 16) (h2:i < 64):(z60 b i).set i (zet (wl b i) i) = z60 b (i + 1):=by rw [zcv b h2];unfold z60;rw [zh3 h]
theorem arrW_at {b:Nat → Nat} {i:Nat} (h:i < 64):(z60 b i).set i 0 = z60 b i:=by
 rw [zcv b h]
 unfold z60
 rw [show 64 - i = (64 - (i + 1)) + 1 by omega,List.replicate_succ,List.append_assoc]
 rfl
def zlr (b:Nat → Nat) (i:Nat):Nat → Nat
 | 0=>0
 | q + 1=>256 * zlr b i q + b (4 * i + q)
theorem accN_lt {b:Nat → Nat} (hb:∀ j,b j < 256) (i q:Nat) (hq:q ≤ 3):zlr b i q < 16777216:=by
 have h0:=hb (4 * i + 0)
 have h1:=hb (4 * i + 1)
 have h2:=hb (4 * i + 2)
 match q,hq with
 | 0,_=>show 0 < _;omega
 | 1,_=>show 256 * 0 + b (4 * i + 0) < _;omega
 | 2,_=>show 256 * (256 * 0 + b (4 * i + 0)) + b (4 * i + 1) < _;omega
 | 3,_=>show 256 * (256 * (256 * 0 + b (4 * i + 0)) + b (4 * i + 1)) + b (4 * i + 2) < _;omega
theorem zke (b:Nat → Nat) (i:Nat):zlr b i 4 = zag b i:=by
 show 256 * (256 * (256 * (256 * 0 + b (4 * i + 0)) + b (4 * i + 1)) + b (4 * i + 2)) + b (4 * i + 3) = _
 unfold zag
 rw [Nat.add_zero]
 omega
def wAt (p:List Nat) (m:Nat):Nat → Nat:=fun j=>p.getD (64 * m + j) 0
theorem OfSt.next {w:World} {bv:Value} {p:List Nat} {v v':S8} {wr w':World} (h:OfSt w bv p v wr) (b:But (w.heap.size + 1) wr w') (hh:OwnN (w.heap.size + 1) 151 .u32 (.slice (some ⟨w.heap.size + 1,0,none⟩) 8 8) v'.list w'):OfSt w bv p v' w':=by
 have hsz:=h.bel.size
 have hl:=(h.h.lt _ rfl).2
 refine ⟨hh,h.k.but b (by rintro g hg rfl;simp [Value.ownBlock] at hg),h.b.but b (by intro g hg e;have:=(h.b.lt g hg).1;omega),(b.block _ (lt_of_block h.r) (by omega)).trans h.r,?_⟩
 exact But.toBelow h.bel b (by omega) hsz
theorem S8.list_len (v:S8):v.list.length = 8:=rfl
theorem S8.Ok.lt {v:S8} (h:v.Ok):∀ x ∈ v.list,x < 4294967296:=by
 intro x hx
 simp only [S8.list,List.mem_cons,List.not_mem_nil,or_false] at hx
 rcases hx with rfl | rfl | rfl | rfl | rfl | rfl | rfl | rfl
 ·exact h.a
 ·exact h.b
 ·exact h.c
 ·exact h.d
 ·exact h.e
 ·exact h.f
 ·exact h.g
 ·exact h.h
def zk0 (a b:List Nat):Nat → List Nat
 | 0=>a
 | q + 1=>(zk0 a b q).set q ((a.getD q 0 + b.getD q 0) % 4294967296)
theorem zhm (a b:List Nat) (q:Nat):(zk0 a b q).length = a.length:=by
 induction q with
 | zero=>rfl
 | succ q ih=>rw [zk0,List.length_set,ih]
theorem zmf (a b:List Nat) (q j:Nat) (h:q ≤ j):(zk0 a b q).getD j 0 = a.getD j 0:=by
 induction q with
 | zero=>rfl
 | succ q ih =>
   rw [zk0,List.getD_eq_getElem?_getD,List.getElem?_set_ne (by omega),← List.getD_eq_getElem?_getD,ih (by omega)]
theorem zc5 (h v:S8):zk0 h.list v.list 8 = (addS h v).list:=rfl
def outB (l:List Nat) (i:Nat):Nat:=l.getD (i / 4) 0 / 2 ^ (24 - 8 * (i % 4)) % 256
def zhk (l:List Nat) (q:Nat):List Nat:=(List.range q).map (outB l) ++ List.replicate (32 - q) 0
theorem zf5 (l:List Nat):zhk l 32 = zdq l:=by simp [zhk,zdq,outB]
theorem zi7 (l:List Nat) (q:Nat) (h:q < 32):(zhk l q).set q (outB l q) = zhk l (q + 1):=by
 unfold zhk
 rw [List.set_append_right _ _ (by simp),List.length_map,List.length_range,Nat.sub_self,show 32 - q = (32 - (q + 1)) + 1 by omega,List.replicate_succ,List.set_cons_zero,List.range_succ,List.map_append,List.append_assoc]
 rfl
theorem zii (l:List Nat) (q:Nat) (h:q ≤ 32):(zhk l q).length = 32:=by simp [zhk];omega
theorem left_or (x k:Nat) (hx:x < 4294967296):bits BinOp.or IntKind.u32 ((x:Int) * 2 ^ (32 - k) % 4294967296) ((x:Int) / 2 ^ k) = ((z6w x k:Nat):Int):=by
 have h1:x / 2 ^ k < 4294967296:=Nat.lt_of_le_of_lt (Nat.div_le_self _ _) hx
 have h2:x * 2 ^ (32 - k) % 4294967296 < 4294967296:=Nat.mod_lt _ (by decide)
 have:=u32_or_nat (x * 2 ^ (32 - k) % 4294967296) (x / 2 ^ k) h2 h1
 unfold z6w
 rw [Nat.or_comm,← this]
 simp
theorem back_31:∀ k:Fin 32,1 ≤ k.val → bits BinOp.and IntKind.u64 (18446744073709551616 - (k.val:Int)) 31 = ((32 - k.val:Nat):Int):=by decide +kernel
theorem rotl_any (x k:Nat) (w:World) (hx:x < 4294967296) (hk1:1 ≤ k) (hk:k ≤ 31) :
 Calls Tryz.prog 146 #[.int .u32 x,.int .i64 (-(k:Int))] w fun e w'=>e = .returned (.int .u32 (z6w x k)) ∧ w = w':=by
 have h:=left_or x k hx
 have hb:=back_31 ⟨k,by omega⟩ hk1
 have hw:IntKind.u64.wrap (-(k:Int)) = 18446744073709551616 - (k:Int):=by rw [IntKind.wrap_u64];omega
 simp only at hb
 obtain ⟨j,hj⟩:∃ j,j = 32 - k:=⟨_,rfl⟩
 rw [← hj] at hb h
 have hj2:(32:Int) - (j:Int) = (k:Int):=by omega
 have b1:(j:Int) ≤ 31:=by omega
 have b2:1 ≤ (j:Int):=by omega
 clear hj
 go_enter Tryz.func146,Tryz.ntmps146
 go_wp2_with fail
 go_ret
 exact ⟨rfl,rfl⟩
theorem zma (x k:Nat) (w:World) (hx:x < 4294967296) (hk1:1 ≤ k) (hk:k ≤ 31) :
 Calls Tryz.prog 137 #[.int .u32 x,.int .i64 k] w fun e w'=>e = .returned (.int .u32 (z6w x k)) ∧ w = w':=by
 go_enter Tryz.func137,Tryz.ntmps137
 go_wp2_with fail
 refine (rotl_any x k _ hx hk1 hk).mono ?_
 rintro e w1 ⟨rfl,rfl⟩
 go_wp2_with fail
 go_ret
 exact ⟨rfl,rfl⟩
theorem zb1 (x k:Nat) (w:World) (hx:x < 4294967296) (hk1:1 ≤ k) (hk:k ≤ 31) :
 Calls Tryz.prog 137 #[.int .u32 x,.int .i64 k] w fun e w'=>e = .returned (.int .u32 (z6w x k)) ∧ w' = w :=
 (zma x k w hx hk1 hk).mono fun _ _ h=>⟨h.1,h.2.symm⟩
theorem z4d (x:Nat) (i:Int) (k:Nat) (w:World) (hx:x < 4294967296) (e:i = (k:Int)) (hk1:1 ≤ k) (hk:k ≤ 31) :
 Calls Tryz.prog 137 #[.int .u32 x,.int .i64 i] w fun e w'=>e = .returned (.int .u32 (z6w x k)) ∧ w' = w:=by
 subst e
 exact zb1 x k w hx hk1 hk
theorem zkd (x:Nat) (i:Int) (w:World) (hx:x < 4294967296) (h1:1 ≤ i) (h2:i ≤ 31) :
 Calls Tryz.prog 137 #[.int .u32 x,.int .i64 i] w fun e w'=>e = .returned (.int .u32 (z6w x i.toNat)) ∧ w' = w:=by
 have h:=zb1 x i.toNat w hx (by omega) (by omega)
 rwa [show ((i.toNat:Nat):Int) = i by omega] at h
theorem z3z (s:List UInt8):(z7k s).length = 32:=by simp [z7k,zdq]
theorem Tryz.infoId:(Tryz.prog.info? 45).map (fun i=>i.size) = some 32:=by kernel_rfl
theorem Tryz.infoW:(Tryz.prog.info? 196).map (fun i=>i.size) = some 64:=by kernel_rfl
theorem Tryz.infoB:(Tryz.prog.info? 157).map (fun i=>i.size) = some 64:=by kernel_rfl
theorem Tryz.infoS:(Tryz.prog.info? 155).map (fun i=>i.size) = some 8:=by kernel_rfl
theorem arrW_get (b:Nat → Nat) {j k:Nat} (h:j < k) (_hk:k ≤ 64):(z60 b k).getD j 0 = (wl b k).getD j 0:=by
 unfold z60
 rw [List.getD_eq_getElem?_getD,List.getElem?_append_left (by rw [z5y];exact h),← List.getD_eq_getElem?_getD]
def KAt (w:World):Prop:=∀ j,j < 64 → w.cell? ⟨0,j,none⟩ = some (.int .u32 ((shaK.getD j 0:Nat):Int))
theorem KAt.lt {w:World} (h:KAt w):0 < w.heap.size:=block_lt_of_cell (h 0 (by decide))
theorem KAt.below {w w':World} (h:KAt w) (hb:Below w.heap.size w w'):KAt w':=fun j hj=>(hb.cell (p:=⟨0,j,none⟩) h.lt).trans (h j hj)
theorem KAt.but {g:Nat} {w w':World} (h:KAt w) (hb:But g w w') (hne:0 ≠ g):KAt w':=fun j hj=>(World.cell?_of_block (w:=w) (a:=⟨0,j,none⟩) (hb.block _ h.lt hne)).trans (h j hj)
def bAt (l:List Nat):Nat → Nat:=fun j=>l.getD j 0
theorem bAt_lt {l:List Nat} (h:∀ x ∈ l,x < 256) (j:Nat):bAt l j < 256:=z1y h (by decide) j
theorem word_or (a b c d:Nat) (ha:a < 256) (hb:b < 256) (hc:c < 256) (hd:d < 256) :
 bits BinOp.or IntKind.u32 (bits BinOp.or IntKind.u32 (bits BinOp.or IntKind.u32 ((a:Int) * 16777216) ((b:Int) * 65536)) ((c:Int) * 256)) (d:Int) = ((a * 16777216 + b * 65536 + c * 256 + d:Nat):Int):=by
 have e1:(a:Int) * 16777216 = ((a * 16777216:Nat):Int):=by omega
 have e2:(b:Int) * 65536 = ((b * 65536:Nat):Int):=by omega
 have e3:(c:Int) * 256 = ((c * 256:Nat):Int):=by omega
 have h1:a * 16777216 ||| b * 65536 = a * 16777216 + b * 65536:=by
  have:=Nat.two_pow_add_eq_or_of_lt (i:=24) (show b * 65536 < 2 ^ 24 by omega) a
  rw [Nat.mul_comm] at this
  exact this.symm
 have h2:(a * 16777216 + b * 65536) ||| c * 256 = a * 16777216 + b * 65536 + c * 256:=by
  have:=Nat.two_pow_add_eq_or_of_lt (i:=16) (show c * 256 < 2 ^ 16 by omega) (a * 256 + b)
  rw [show 2 ^ 16 * (a * 256 + b) = a * 16777216 + b * 65536 by omega] at this
  exact this.symm
 have h3:(a * 16777216 + b * 65536 + c * 256) ||| d = a * 16777216 + b * 65536 + c * 256 + d:=by
  have:=Nat.two_pow_add_eq_or_of_lt (i:=8) (show d < 2 ^ 8 by omega) (a * 65536 + b * 256 + c)
  rw [show 2 ^ 8 * (a * 65536 + b * 256 + c) = a * 16777216 + b * 65536 + c * 256 by omega] at this
  exact this.symm
 rw [e1,e2,e3,u32_or_nat _ _ (by omega) (by omega),h1,u32_or_nat _ _ (by omega) (by omega),h2,u32_or_nat _ _ (by omega) (by omega),h3]
def z6l (r:List UInt8):List Nat:=(z12 (r.take 64) ++ (List.replicate 64 0).drop r.length).set r.length 128
theorem z6n {r:List UInt8} (h:r.length < 64):(z6l r).length = 64:=by
 simp [z6l,z0t]
 omega
theorem zi0 {r:List UInt8} (h:r.length < 64) (j:Nat) (hj:j < 64):(z6l r).getD j 0 = if j < r.length then (z12 r).getD j 0 else if j = r.length then 128 else 0:=by
 unfold z6l
 rw [List.take_of_length_le (by omega),List.getD_eq_getElem?_getD,List.getElem?_set]
 by_cases h1:r.length = j
 ·subst h1
  rw [if_pos rfl,if_pos (by simp [z0t];omega),if_neg (by omega),if_pos rfl]
  rfl
 ·rw [if_neg h1,if_neg (show ¬ j = r.length from fun e=>h1 e.symm)]
  by_cases h2:j < r.length
  ·rw [if_pos h2,List.getElem?_append_left (by rw [z0t];exact h2),List.getD_eq_getElem?_getD]
  ·rw [if_neg h2,List.getElem?_append_right (by rw [z0t];omega),List.getElem?_drop,List.getElem?_replicate]
   split <;> rfl
theorem zhz (r:List UInt8):∀ x ∈ z6l r,x < 256:=by
 intro x hx
 rcases List.mem_or_eq_of_mem_set hx with h | rfl
 ·rcases List.mem_append.1 h with h | h
  ·exact zfe _ x h
  ·have:=List.eq_of_mem_replicate (List.mem_of_mem_drop h)
   omega
 ·decide
def z6d (l:List Nat) (N:Nat):Nat → List Nat
 | 0=>l
 | i + 1=>(z6d l N i).set (63 - i) (N / 2 ^ (8 * i) % 256)
theorem z7o (l:List Nat) (N i:Nat):(z6d l N i).length = l.length:=by
 induction i with
 | zero=>rfl
 | succ i ih=>rw [z6d,List.length_set,ih]
theorem zhw (l:List Nat) (N i j:Nat) (hl:l.length = 64) (hj:j < 64) (hi:i ≤ 8):(z6d l N i).getD j 0 = if 63 - j < i then N / 2 ^ (8 * (63 - j)) % 256 else l.getD j 0:=by
 induction i with
 | zero=>rfl
 | succ i ih =>
   rw [z6d,List.getD_eq_getElem?_getD,List.getElem?_set,z7o,hl]
   by_cases h:63 - i = j
   ·subst h
    rw [if_pos rfl,if_pos (by omega),if_pos (by omega),show 63 - (63 - i) = i by omega]
    rfl
   ·rw [if_neg h,← List.getD_eq_getElem?_getD,ih (by omega)]
    by_cases h2:63 - j < i
    ·rw [if_pos h2,if_pos (by omega)]
    ·rw [if_neg h2,if_neg (by omega)]
theorem zho {l:List Nat} (h:∀ x ∈ l,x < 256) (N i:Nat):∀ x ∈ z6d l N i,x < 256:=by
 induction i with
 | zero=>exact h
 | succ i ih =>
   intro x hx
   rcases List.mem_or_eq_of_mem_set hx with h | rfl
   ·exact ih x h
   ·exact Nat.mod_lt _ (by decide)
theorem wl_congr {b c:Nat → Nat} (h:∀ j,j < 64 → b j = c j):∀ i,wl b i = wl c i:=by
 intro i
 induction i with
 | zero=>rfl
 | succ i ih =>
   by_cases hi:i < 16
   ·rw [zgi hi,zgi hi,ih]
    unfold zag
    rw [h _ (by omega),h _ (by omega),h _ (by omega),h _ (by omega)]
   ·rw [zh3 hi,zh3 hi,ih]
theorem z5m (v:S8) {b c:Nat → Nat} (h:∀ j,j < 64 → b j = c j):block v b = block v c:=by
 show addS v (rl v (wl b 64) 64) = addS v (rl v (wl c 64) 64)
 rw [wl_congr h 64]
theorem block_ok (v:S8) (b:Nat → Nat):(block v b).Ok:=zlc _ _
theorem zel (bb:Nat) (t:TypeId) (bl:List Nat) (w:World) (hlen:bl.length = 64) (hbl:∀ x ∈ bl,x < 256) (hc:Blk bb t .u8 bl w) :
 Calls Tryz.prog 136 #[.pointer (some ⟨bb,0,none⟩)] w fun e w'=>e = .returned (.agg (z05 .u32 (wl (bAt bl) 64)).toArray) ∧ Below w.heap.size w w':=by
 have HC:=Lib.hid hc
 have HBY:=Lib.hid (bAt_lt hbl)
 have HL:=Lib.hid hlen
 clear hlen hbl hc
 go_enter Tryz.func136,Tryz.ntmps136
 go_wp2_with fail
 go_loopw [10] (fun i wq=>∃ k:Nat,k ≤ 16 ∧ i = .int .i64 k ∧ Blk (w.heap.size + 1) 196 .u32 (z60 (bAt bl) k) wq ∧ Blk w.heap.size 196 .u32 (List.replicate 64 0) wq ∧ Below w.heap.size w wq) (fun i _=>16 - (intOf i).toNat)
 case atStart=>
  refine ⟨0,by omega,rfl,?_,?_,((Below.refl _ w).alloc (Nat.le_refl _) _).alloc (by simp) _⟩
  ·have h:=heap_alloc_new (w.alloc (.cells (z05 .u32 (List.replicate 64 0)).toArray 196)) (.cells (z05 .u32 (List.replicate 64 0)).toArray 196)
   rw [World.size_alloc] at h
   exact h
  ·exact Blk.alloc (show Blk w.heap.size 196 .u32 (List.replicate 64 0) (w.alloc (.cells (z05 .u32 (List.replicate 64 0)).toArray 196)) from heap_alloc_new w _) _
 case round =>
  obtain ⟨k,hk,rfl,hw,hr,hb⟩:=hrel
  have HW:=Lib.hid hw
  have HR:=Lib.hid hr
  have HB:=Lib.hid hb
  clear hw hr hb
  by_cases hlk:k < 16
  ·have hC:=HC.out.below HB.out
   have c0:=hC.cell (4 * k) (by rw [HL.out];omega)
   have c1:=hC.cell (4 * k + 1) (by rw [HL.out];omega)
   have c2:=hC.cell (4 * k + 2) (by rw [HL.out];omega)
   have c3:=hC.cell (4 * k + 3) (by rw [HL.out];omega)
   have x0:=HBY.out (4 * k)
   have x1:=HBY.out (4 * k + 1)
   have x2:=HBY.out (4 * k + 2)
   have x3:=HBY.out (4 * k + 3)
   have HX:=Lib.hid (show zag (bAt bl) k = bAt bl (4 * k) * 16777216 + bAt bl (4 * k + 1) * 65536 + bAt bl (4 * k + 2) * 256 + bAt bl (4 * k + 3) from rfl)
   change wr.cell? _ = some (.int .u8 ((bAt bl (4 * k):Nat):Int)) at c0
   change wr.cell? _ = some (.int .u8 ((bAt bl (4 * k + 1):Nat):Int)) at c1
   change wr.cell? _ = some (.int .u8 ((bAt bl (4 * k + 2):Nat):Int)) at c2
   change wr.cell? _ = some (.int .u8 ((bAt bl (4 * k + 3):Nat):Int)) at c3
   generalize bAt bl (4 * k) = b0 at c0 x0 HX
   generalize bAt bl (4 * k + 1) = b1 at c1 x1 HX
   generalize bAt bl (4 * k + 2) = b2 at c2 x2 HX
   generalize bAt bl (4 * k + 3) = b3 at c3 x3 HX
   have hal:=z7w (bAt bl) (show k ≤ 64 by omega)
   have c4:=HW.out.cell k (by omega)
   have hf:=HW.out.frozen k
   have HS:=Lib.hid (HW.out.set k (zag (bAt bl) k))
   rw [zds hlk] at HS
   generalize (z60 (bAt bl) k).getD k 0 = y at c4
   clear hC hal
   have HV:=Lib.hid (word_or b0 b1 b2 b3 x0 x1 x2 x3)
   rw [← HX.out] at HV
   obtain ⟨j0,h0⟩:∃ j,j = 4 * k:=⟨_,rfl⟩
   obtain ⟨j1,h1⟩:∃ j,j = 4 * k + 1:=⟨_,rfl⟩
   obtain ⟨j2,h2⟩:∃ j,j = 4 * k + 2:=⟨_,rfl⟩
   obtain ⟨j3,h3⟩:∃ j,j = 4 * k + 3:=⟨_,rfl⟩
   rw [← h0] at c0
   rw [← h1] at c1
   rw [← h2] at c2
   rw [← h3] at c3
   have s0:IntKind.i64.wrap (j0:Int) = (j0:Int):=by rw [IntKind.wrap_i64];omega
   have s1:IntKind.i64.wrap (j1:Int) = (j1:Int):=by rw [IntKind.wrap_i64];omega
   have s2:IntKind.i64.wrap (j2:Int) = (j2:Int):=by rw [IntKind.wrap_i64];omega
   have s3:IntKind.i64.wrap (j3:Int) = (j3:Int):=by rw [IntKind.wrap_i64];omega
   have n0:4 * (k:Int) = (j0:Int):=by omega
   have n1:(j0:Int) + 1 = (j1:Int):=by omega
   have n2:(j0:Int) + 2 = (j2:Int):=by omega
   have n3:(j0:Int) + 3 = (j3:Int):=by omega
   have l0:(j0:Int) < 64:=by omega
   have l1:(j1:Int) < 64:=by omega
   have l2:(j2:Int) < 64:=by omega
   have l3:(j3:Int) < 64:=by omega
   clear h0 h1 h2 h3
   have l4:(k:Int) < 64:=by omega
   go_wp2_with fail
   obtain ⟨w9,hw9⟩:∃ x,x = wr.drew:=⟨_,rfl⟩
   refine wp_region_still_tail 39 (by kernel_rfl) (by kernel_rfl) ?_
   simp only [zC,zD,zE,zF]
   change wpStill _ _ wr.drew (fun a'=>wpList _ _ _ _ a' wr.drew) _ _
   rw [← hw9]
   replace c0:w9.cell? ⟨bb,j0,none⟩ = some (.int .u8 (b0:Int)):=by rw [hw9];exact c0
   replace c1:w9.cell? ⟨bb,j1,none⟩ = some (.int .u8 (b1:Int)):=by rw [hw9];exact c1
   replace c2:w9.cell? ⟨bb,j2,none⟩ = some (.int .u8 (b2:Int)):=by rw [hw9];exact c2
   replace c3:w9.cell? ⟨bb,j3,none⟩ = some (.int .u8 (b3:Int)):=by rw [hw9];exact c3
   replace c4:w9.cell? ⟨w.heap.size + 1,k,none⟩ = some (.int .u32 (y:Int)):=by rw [hw9];exact c4
   replace hf:w9.frozen? ⟨w.heap.size + 1,k,none⟩ = false:=by rw [hw9];exact hf
   have HS9:=Lib.hid (show Blk (w.heap.size + 1) 196 .u32 (z60 (bAt bl) (k + 1)) (w9.setCell ⟨w.heap.size + 1,k,none⟩ (.int .u32 ((zag (bAt bl) k:Nat):Int))) by rw [hw9];exact HS.out)
   have HR9:=Lib.hid (show Blk w.heap.size 196 .u32 (List.replicate 64 0) w9 by rw [hw9];exact HR.out)
   have HB9:=Lib.hid (show Below w.heap.size w w9 by rw [hw9];exact HB.out.drew)
   clear hw9 HS HR HB HW
   repeat still_step
   refine wpStill_nil ?_
   go_wp2_with fail
   rw [HV.out]
   exact ⟨⟨k + 1,by omega,by go_num,HS9.out,HR9.out.but ((But.refl _ _).setCell _ _) (by omega),HB9.out.setCell (by simp) _⟩,by simp [intOf];omega⟩
  ·obtain rfl:k = 16:=by omega
   rw [show ((16:Nat):Int) = 16 from rfl]
   go_wp2_with fail
   go_loopw [5] (fun i wq=>∃ k:Nat,16 ≤ k ∧ k ≤ 64 ∧ i = .int .i64 k ∧ Blk (w.heap.size + 1) 196 .u32 (z60 (bAt bl) k) wq ∧ Blk w.heap.size 196 .u32 (List.replicate 64 0) wq ∧ Below w.heap.size w wq) (fun i _=>64 - (intOf i).toNat)
   case atStart=>exact ⟨16,by omega,by omega,rfl,HW.out,HR.out,HB.out⟩
   case round =>
    clear HW HR HB
    obtain ⟨k,hk16,hk,rfl,hw,hr,hb⟩:=hrel
    have HW:=Lib.hid hw
    have HR:=Lib.hid hr
    have HB:=Lib.hid hb
    clear hw hr hb
    by_cases hlk:k < 64
    ·have hwl:=wl_lt HBY.out k
     have hal:=z7w (bAt bl) hk
     obtain ⟨j16,hj16⟩:∃ j,j = k - 16:=⟨_,rfl⟩
     obtain ⟨j7,hj7⟩:∃ j,j = k - 7:=⟨_,rfl⟩
     obtain ⟨j15,hj15⟩:∃ j,j = k - 15:=⟨_,rfl⟩
     obtain ⟨j2,hj2⟩:∃ j,j = k - 2:=⟨_,rfl⟩
     have a16:=HW.out.cell j16 (by omega)
     have a7:=HW.out.cell j7 (by omega)
     have a15:=HW.out.cell j15 (by omega)
     have a2:=HW.out.cell j2 (by omega)
     rw [arrW_get _ (by omega) hk] at a16 a7 a15 a2
     have x15:=z1y hwl (by decide) j15
     have x2:=z1y hwl (by decide) j2
     have x16:=z1y hwl (by decide) j16
     have x7:=z1y hwl (by decide) j7
     have hnx:zet (wl (bAt bl) k) k = ((wl (bAt bl) k).getD (k - 16) 0 + (wl (bAt bl) k).getD (k - 7) 0 + s0 ((wl (bAt bl) k).getD (k - 15) 0) + s1 ((wl (bAt bl) k).getD (k - 2) 0)) % 4294967296:=rfl
     rw [← hj16,← hj7,← hj15,← hj2] at hnx
     generalize (wl (bAt bl) k).getD j16 0 = y16 at a16 x16 hnx
     generalize (wl (bAt bl) k).getD j7 0 = y7 at a7 x7 hnx
     generalize (wl (bAt bl) k).getD j15 0 = y15 at a15 x15 hnx
     generalize (wl (bAt bl) k).getD j2 0 = y2 at a2 x2 hnx
     have HNX:=Lib.hid hnx
     have ak:=HW.out.cell k (by omega)
     have hf:=HW.out.frozen k
     have HS:=Lib.hid (HW.out.set k (zet (wl (bAt bl) k) k))
     rw [ze7 (by omega) hlk] at HS
     generalize (z60 (bAt bl) k).getD k 0 = y at ak
     have e16:IntKind.i64.wrap ((k:Int) - 16) = (j16:Int):=by rw [IntKind.wrap_i64];omega
     have e7:IntKind.i64.wrap ((k:Int) - 7) = (j7:Int):=by rw [IntKind.wrap_i64];omega
     have e15:IntKind.i64.wrap ((k:Int) - 15) = (j15:Int):=by rw [IntKind.wrap_i64];omega
     have e2:IntKind.i64.wrap ((k:Int) - 2) = (j2:Int):=by rw [IntKind.wrap_i64];omega
     have d16:(k:Int) - 16 = (j16:Int):=by omega
     have d7:(k:Int) - 7 = (j7:Int):=by omega
     have d15:(k:Int) - 15 = (j15:Int):=by omega
     have d2:(k:Int) - 2 = (j2:Int):=by omega
     have q16:IntKind.i64.wrap (j16:Int) = (j16:Int):=by rw [IntKind.wrap_i64];omega
     have q7:IntKind.i64.wrap (j7:Int) = (j7:Int):=by rw [IntKind.wrap_i64];omega
     have q15:IntKind.i64.wrap (j15:Int) = (j15:Int):=by rw [IntKind.wrap_i64];omega
     have q2:IntKind.i64.wrap (j2:Int) = (j2:Int):=by rw [IntKind.wrap_i64];omega
     have b16:(j16:Int) < 64:=by omega
     have b7:(j7:Int) < 64:=by omega
     have b15:(j15:Int) < 64:=by omega
     have b2:(j2:Int) < 64:=by omega
     have bk:(k:Int) < 64:=by omega
     clear hwl hal hnx hj16 hj7 hj15 hj2
     go_wp2_with fail
     go_quiet (fail)
     go_wp2_with fail
     refine (z4d y15 _ 7 _ x15 rfl (by decide) (by decide)).mono ?_
     rintro e w5 ⟨rfl,rfl⟩
     go_wp2_with fail
     refine (z4d y15 _ 18 _ x15 rfl (by decide) (by decide)).mono ?_
     rintro e w5 ⟨rfl,rfl⟩
     go_wp2_with fail
     refine (z4d y2 _ 17 _ x2 rfl (by decide) (by decide)).mono ?_
     rintro e w5 ⟨rfl,rfl⟩
     go_wp2_with fail
     refine (z4d y2 _ 19 _ x2 rfl (by decide) (by decide)).mono ?_
     rintro e w5 ⟨rfl,rfl⟩
     go_wp2_with fail
     obtain ⟨w9,hw9⟩:∃ x,x = (wr.drewN nq).drew:=⟨_,rfl⟩
     refine wp_region_still_tail 15 (by kernel_rfl) (by kernel_rfl) ?_
     simp only [zC,zD,zE,zF]
     change wpStill _ _ (wr.drewN nq).drew (fun a'=>wpList _ _ _ _ a' (wr.drewN nq).drew) _ _
     rw [← hw9]
     replace a16:w9.cell? ⟨w.heap.size + 1,j16,none⟩ = some (.int .u32 (y16:Int)):=by rw [hw9];exact a16
     replace a7:w9.cell? ⟨w.heap.size + 1,j7,none⟩ = some (.int .u32 (y7:Int)):=by rw [hw9];exact a7
     replace ak:w9.cell? ⟨w.heap.size + 1,k,none⟩ = some (.int .u32 (y:Int)):=by rw [hw9];exact ak
     replace hf:w9.frozen? ⟨w.heap.size + 1,k,none⟩ = false:=by rw [hw9];exact hf
     have HS9:=Lib.hid (show Blk (w.heap.size + 1) 196 .u32 (z60 (bAt bl) (k + 1)) (w9.setCell ⟨w.heap.size + 1,k,none⟩ (.int .u32 ((zet (wl (bAt bl) k) k:Nat):Int))) by rw [hw9];exact HS.out)
     have HR9:=Lib.hid (show Blk w.heap.size 196 .u32 (List.replicate 64 0) w9 by rw [hw9];exact HR.out)
     have HB9:=Lib.hid (show Below w.heap.size w w9 by rw [hw9];exact z0v HB.out (nq + 1))
     clear hw9 HS HR HB HW a15 a2
     repeat still_step
     refine wpStill_nil ?_
     go_wp2_with fail
     have hv:=w_int y16 y7 y15 y2 x15 x2 (by omega) (by omega)
     rw [← HNX.out,show ((y15 / 8:Nat):Int) = (y15:Int) / 8 by omega,show ((y2 / 1024:Nat):Int) = (y2:Int) / 1024 by omega] at hv
     rw [hv]
     exact ⟨⟨k + 1,by omega,by omega,by go_num,HS9.out,HR9.out.but ((But.refl _ _).setCell _ _) (by omega),HB9.out.setCell (by simp) _⟩,by simp [intOf];omega⟩
    ·obtain rfl:k = 64:=by omega
     rw [show ((64:Nat):Int) = 64 from rfl]
     rw [zdw] at HW
     have HI:=Lib.hid (show (Tryz.prog.info? 196).map (·.size) = some (z05 .u32 (wl (bAt bl) 64)).toArray.size by rw [z13,z5y];exact Tryz.infoW)
     have HL2:=Lib.hid (show (z05 .u32 (List.replicate 64 0)).toArray.size = (z05 .u32 (wl (bAt bl) 64)).toArray.size by rw [z13,z13,z5y,List.length_replicate])
     go_wp2_with (first | (refine wpList_load_row rfl 196 _ rfl (w.heap.size + 1) rfl 196 _ _ _ HW.out Tryz.underlying196 rfl HI.out ?_) | (refine wpList_store_rowTo rfl 196 _ _ rfl rfl w.heap.size (z05 .u32 (wl (bAt bl) 64)).toArray rfl rfl 196 _ HR.out HI.out HL2.out (z7r _ _) ?_))
     exact bodyPost_ret (results_cell_row rfl _ _ w.heap.size 196 _ (0,0) _ rfl (setRow_heap _ _ _ _ _ _ HR.out) Tryz.underlying196 rfl HI.out) rfl ⟨rfl,below_setRow HB.out (Nat.le_refl _) _⟩
end Go.Proofs.YtjomgkiphecljaaGreatDoor
