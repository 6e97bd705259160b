/-
  Joined: The developers' digest.; The document's Of: the loops that pad.
-/
import Derived.Deep.Cut
import Derived.Test.YtnbldbbbibpobaaGreatDoorJ08
set_option maxRecDepth 100000
set_option maxHeartbeats 4000000
namespace Go.Proofs.YtnbldbbbibpobaaGreatDoor
open Go.RowKit
theorem zf7 {bs bb n N:Nat} {t:TypeId} {l:List Nat} {w:World}
 {ca1 ca3 ca4 ca5 ub7 ca8 ca9 ca10 ca11 ca12 ca13 ca14 ca15 ca16 ca17 ca18 ca19 ca20 ub22 ub23 ub24 ub25 ub26 ub27 ub28 ub29 ub30 ub31 ub32 ub33
 ca34 ca35:Value}
 (hn:8 * n = N) (hN:N < 18446744073709551616) (HLN:Hid (l.length = 64)) (HC:Hid (Blk bb t .u8 l w))
 (R:Act → World → Prop)
 (hexit:Hid (∀  (w1:World),Blk bb t .u8 (z5k l N 8) w1 ∧ But bb w w1 → ∀ {vb7 vb21 vb22 vb23 vb24 vb25 vb26 vb27 vb28 vb29 vb30 vb31 vb32 vb33:Value},
  R ⟨List.toArray (.pointer (some ⟨bs,0,none⟩) :: ca1 :: .int .u64 (n:Int) :: ca3 :: ca4 :: ca5 :: .pointer (some ⟨bb,0,none⟩) :: vb7 :: ca8 :: ca9 :: ca10 :: ca11 :: ca12 :: ca13 :: ca14 :: ca15 :: ca16 :: ca17 :: ca18 :: ca19 :: ca20 ::
  vb21 :: vb22 :: vb23 :: vb24 :: vb25 :: vb26 :: vb27 :: vb28 :: vb29 :: vb30 :: vb31 :: vb32 :: vb33 :: ca34 :: ca35 :: []),[]⟩ w1)) :
 Code.wp Tryz.prog (Code.loop (z5c Tryz.f127 0)) (Ends 0 R) ⟨List.toArray (.pointer (some ⟨bs,0,none⟩) :: ca1 :: .int .u64 (n:Int) :: ca3 :: ca4 :: ca5 :: .pointer (some ⟨bb,0,none⟩) :: ub7 :: ca8 :: ca9 :: ca10 :: ca11 :: ca12 :: ca13 :: ca14 :: ca15 :: ca16 :: ca17 :: ca18 :: ca19 :: ca20 ::
  .int .i64 0 :: ub22 :: ub23 :: ub24 :: ub25 :: ub26 :: ub27 :: ub28 :: ub29 :: ub30 :: ub31 :: ub32 :: ub33 :: ca34 :: ca35 :: []),[]⟩ w:=by
 conv=>arg 2;arg 1;whnf
 have HNN:=Lib.hid hn
 have hn2:(8:Int) * (n:Int) = (N:Int):=by omega
 have hn3:IntKind.u64.wrap (N:Int) = (N:Int):=by rw [IntKind.wrap_u64];omega
 clear hn
 go_loopw [21] (fun i wq=>∃ k:Nat,k ≤ 8 ∧ i = .int .i64 k ∧ Blk bb t .u8 (z5k l N k) wq ∧ But bb w wq) (fun i _=>8 - (intOf i).toNat)
 case atStart=>exact ⟨0,by omega,rfl,HC.out,But.refl _ _⟩
 case round =>
  clear HC
  obtain ⟨k,hk,rfl,ho,hb2⟩:=hrel
  have HC:=Lib.hid ho
  have HB:=Lib.hid hb2
  clear ho hb2
  by_cases hlk:k < 8
  ·have hlen:=z7m l N k
   rw [HLN.out] at hlen
   obtain ⟨j,hj⟩:∃ j,j = 63 - k:=⟨_,rfl⟩
   have c1:=HC.out.cell j (by omega)
   have hf:=HC.out.frozen j
   have HS:=Lib.hid (HC.out.set j (N / 2 ^ (8 * k) % 256))
   have HA:=Lib.hid (show z5k l N (k + 1) = (z5k l N k).set (63 - k) (N / 2 ^ (8 * k) % 256) from rfl)
   rw [← hj] at HA
   generalize (z5k l N k).getD j 0 = x at c1
   have d1:(63:Int) - (k:Int) = (j:Int):=by omega
   have d2:IntKind.i64.wrap (j:Int) = (j:Int):=by rw [IntKind.wrap_i64];omega
   have b1:(j:Int) < 64:=by omega
   clear hlen hj
   go_wp2_with fail
   have hv:((N / 2 ^ (8 * k) % 256:Nat):Int) = (N:Int) / 2 ^ (8 * k) % 256:=by simp
   exact ⟨⟨k + 1,by omega,by go_num,by
    rw [HA.out]
    have h:=HS.out
    rw [hv] at h
    exact h,HB.out.setCell _ _⟩,by simp [intOf];omega⟩
  ·obtain rfl:k = 8:=by omega
   rw [show ((8:Nat):Int) = 8 from rfl]
   go_wp2_with fail
   exact z1y (hexit.out _ ⟨HC.out,HB.out⟩)
theorem zil (bs:Nat) (ts:TypeId) (v:S8) (r:List UInt8) (n N:Nat) (w:World) (hv:v.Ok) (hr:r.length ≤ 55) (hn:8 * n = N) (hN:N < 18446744073709551616)
 (hs:Blk bs ts .u32 v.list w) (hk:KAt w) :
 Calls Tryz.prog 127 #[.pointer (some ⟨bs,0,none⟩),.string ⟨r.toArray⟩,.int .u64 n] w fun e w' =>
  e = .returned (.tuple #[]) ∧ Blk bs ts .u32 (block v (bAt (z5k (z5u r) N 8))).list w' ∧ But bs w w':=by
 have HV:=Lib.hid hv
 have HS:=Lib.hid hs
 have HK:=Lib.hid hk
 have HN:=Lib.hid hn
 have hlt:=hs.lt
 have hG:=hk.lt
 clear hv hs hk hn
 go_enter Tryz.func127,Tryz.ntmps127
 go_upto_region 1 with (fail)
 change Code.wp _ _ _ _ (w.alloc (.cells (z06 .u8 (List.replicate 64 0)).toArray 163))
 obtain ⟨w1,hw1⟩:∃ x,x = w.alloc (.cells (z06 .u8 (List.replicate 64 0)).toArray 163):=⟨_,rfl⟩
 rw [← hw1]
 have hb:Below w.heap.size w w1:=by rw [hw1];exact (Below.refl _ _).alloc (Nat.le_refl _) _
 have HC:=Lib.hid (show Blk w.heap.size 163 .u8 (List.replicate 64 0) w1 by rw [hw1];exact heap_alloc_new w _)
 have HS1:=Lib.hid (HS.out.below hb)
 have HK1:=Lib.hid (HK.out.below hb)
 have HB1:=Lib.hid ((But.refl bs w).below hb)
 clear hw1 hb HS HK
 go_wp2_with (refine z31 rfl _ _ 121 9 rfl 5 Tryz.underlying121 (by kernel_rfl) w.heap.size 64 64 r (List.replicate 64 0) 163 rfl rfl rfl HC.out ?_)
 intro w2 hc hb
 have hc2:Blk w.heap.size 163 .u8 (z10 (r.take 64) ++ (List.replicate 64 0).drop r.length) w2:=hc.out
 have hlen:(z10 (r.take 64) ++ (List.replicate 64 0).drop r.length).length = 64:=by simp [z0w];omega
 have c1:=hc2.cell r.length (by rw [hlen];omega)
 have hf:=hc2.frozen r.length
 have HC3:=Lib.hid (show Blk w.heap.size 163 .u8 (z5u r) (w2.setCell ⟨w.heap.size,r.length,none⟩ (.int .u8 ((128:Nat):Int))) from hc2.set r.length 128)
 generalize (z10 (r.take 64) ++ (List.replicate 64 0).drop r.length).getD r.length 0 = y at c1
 have HS2:=Lib.hid (HS1.out.but hb.out (by omega))
 have HK2:=Lib.hid (HK1.out.but hb.out (by omega))
 have HB2:=Lib.hid (HB1.out.new hb.out (Nat.le_refl _))
 clear hc hc2 HC HS1 HK1 HB1 hb hlen
 go_wp2_with fail
 obtain ⟨w3,hw3⟩:∃ x,x = w2.setCell ⟨w.heap.size,r.length,none⟩ (.int .u8 128):=⟨_,rfl⟩
 rw [← hw3]
 have hb3:But w.heap.size w2 w3:=by rw [hw3];exact (But.refl _ _).setCell _ _
 have HC:=Lib.hid (show Blk w.heap.size 163 .u8 (z5u r) w3 by rw [hw3];exact HC3.out)
 have HS3:=Lib.hid (HS2.out.but hb3 (by omega))
 have HK3:=Lib.hid (HK2.out.but hb3 (by omega))
 have HB3:=Lib.hid (HB2.out.new hb3 (Nat.le_refl _))
 clear hw3 hb3 HS2 HK2 HB2 HC3 c1 hf
 refine z30 (zf7 HN.out hN (Lib.hid (z5q (by omega))) HC _ (Lib.hid ?_))
 rintro w4 ⟨ho,hb⟩
 intros
 have HC4:=Lib.hid ho
 have HS4:=Lib.hid (HS3.out.but hb (by omega))
 have HK4:=Lib.hid (HK3.out.but hb (by omega))
 have HB4:=Lib.hid (HB3.out.new hb (Nat.le_refl _))
 clear ho hb HC HS3 HK3 HB3
 go_wp2_with fail
 refine (zb7 bs w.heap.size ts 163 v _ w4 HV.out (by rw [z7m,z5q (by omega)]) (zfq (zfk r) N 8) HS4.out HC4.out HK4.out).mono ?_
 rintro e w5 ⟨rfl,hs5,hb5⟩
 have HS5:=Lib.hid hs5
 have HB5:=Lib.hid (HB4.out.trans hb5)
 clear hs5 hb5 HS4 HK4 HB4 HC4
 go_wp2_with fail
 exact bodyPost_end (results_none rfl _ _ _) rfl ⟨rfl,HS5.out,HB5.out⟩
theorem fin_long (bs:Nat) (ts:TypeId) (v:S8) (r:List UInt8) (n N:Nat) (w:World) (hv:v.Ok) (hr:56 ≤ r.length) (hr2:r.length ≤ 63) (hn:8 * n = N) (hN:N < 18446744073709551616)
 (hs:Blk bs ts .u32 v.list w) (hk:KAt w) (hGb:0 ≠ bs) :
 Calls Tryz.prog 127 #[.pointer (some ⟨bs,0,none⟩),.string ⟨r.toArray⟩,.int .u64 n] w fun e w' =>
  e = .returned (.tuple #[]) ∧ Blk bs ts .u32 (block (block v (bAt (z5u r))) (bAt (z5k (List.replicate 64 0) N 8))).list w' ∧ But bs w w':=by
 have HV:=Lib.hid hv
 have HS:=Lib.hid hs
 have HK:=Lib.hid hk
 have HN:=Lib.hid hn
 have hlt:=hs.lt
 have hG:=hk.lt
 clear hv hs hk hn
 go_enter Tryz.func127,Tryz.ntmps127
 go_upto_region 1 with (fail)
 change Code.wp _ _ _ _ (w.alloc (.cells (z06 .u8 (List.replicate 64 0)).toArray 163))
 obtain ⟨w1,hw1⟩:∃ x,x = w.alloc (.cells (z06 .u8 (List.replicate 64 0)).toArray 163):=⟨_,rfl⟩
 rw [← hw1]
 have hb:Below w.heap.size w w1:=by rw [hw1];exact (Below.refl _ _).alloc (Nat.le_refl _) _
 have HC:=Lib.hid (show Blk w.heap.size 163 .u8 (List.replicate 64 0) w1 by rw [hw1];exact heap_alloc_new w _)
 have HS1:=Lib.hid (HS.out.below hb)
 have HK1:=Lib.hid (HK.out.below hb)
 have HB1:=Lib.hid ((But.refl bs w).below hb)
 clear hw1 hb HS HK
 go_wp2_with (refine z31 rfl _ _ 121 9 rfl 5 Tryz.underlying121 (by kernel_rfl) w.heap.size 64 64 r (List.replicate 64 0) 163 rfl rfl rfl HC.out ?_)
 intro w2 hc hb
 have hc2:Blk w.heap.size 163 .u8 (z10 (r.take 64) ++ (List.replicate 64 0).drop r.length) w2:=hc.out
 have hlen:(z10 (r.take 64) ++ (List.replicate 64 0).drop r.length).length = 64:=by simp [z0w];omega
 have c1:=hc2.cell r.length (by rw [hlen];omega)
 have hf:=hc2.frozen r.length
 have HC3:=Lib.hid (show Blk w.heap.size 163 .u8 (z5u r) (w2.setCell ⟨w.heap.size,r.length,none⟩ (.int .u8 ((128:Nat):Int))) from hc2.set r.length 128)
 generalize (z10 (r.take 64) ++ (List.replicate 64 0).drop r.length).getD r.length 0 = y at c1
 have HS2:=Lib.hid (HS1.out.but hb.out (by omega))
 have HK2:=Lib.hid (HK1.out.but hb.out (by omega))
 have HB2:=Lib.hid (HB1.out.new hb.out (Nat.le_refl _))
 clear hc hc2 HC HS1 HK1 HB1 hb hlen
 go_wp2_with fail
 obtain ⟨w3,hw3⟩:∃ x,x = w2.setCell ⟨w.heap.size,r.length,none⟩ (.int .u8 128):=⟨_,rfl⟩
 rw [← hw3]
 have hb3:But w.heap.size w2 w3:=by rw [hw3];exact (But.refl _ _).setCell _ _
 have HC:=Lib.hid (show Blk w.heap.size 163 .u8 (z5u r) w3 by rw [hw3];exact HC3.out)
 have HS3:=Lib.hid (HS2.out.but hb3 (by omega))
 have HK3:=Lib.hid (HK2.out.but hb3 (by omega))
 have HB3:=Lib.hid (HB2.out.new hb3 (Nat.le_refl _))
 clear hw3 hb3 HS2 HK2 HB2 HC3 c1 hf
 refine (zb7 bs w.heap.size ts 163 v _ w3 HV.out (z5q (by omega)) (zfk r) HS3.out HC.out HK3.out).mono ?_
 rintro e w4 ⟨rfl,hs4,hb4⟩
 have HC4:=Lib.hid (HC.out.but hb4 (by omega))
 have HK4:=Lib.hid (HK3.out.but hb4 hGb)
 have HS4:=Lib.hid hs4
 have HB4:=Lib.hid (HB3.out.trans hb4)
 clear hs4 hb4 HC HS3 HK3 HB3
 go_wp2_with (refine z04 rfl 163 _ _ rfl rfl w.heap.size .u8 _ (List.replicate 64 0) 163 rfl rfl HC4.out (by rw [List.length_replicate];exact Tryz.infoB) (by rw [z5q (by omega),List.length_replicate]) ?_)
 intro w5 hc hb
 have HC5:=Lib.hid (show Blk w.heap.size 163 .u8 (List.replicate 64 0) w5 from hc.out)
 have HS5:=Lib.hid (HS4.out.but hb.out (by omega))
 have HK5:=Lib.hid (HK4.out.but hb.out (by omega))
 have HB5:=Lib.hid (HB4.out.new hb.out (Nat.le_refl _))
 clear hc hb HC4 HS4 HK4 HB4
 go_wp2_with fail
 refine z30 (zf7 HN.out hN (Lib.hid (List.length_replicate)) HC5 _ (Lib.hid ?_))
 rintro w6 ⟨ho,hb⟩
 intros
 have HC6:=Lib.hid ho
 have HS6:=Lib.hid (HS5.out.but hb (by omega))
 have HK6:=Lib.hid (HK5.out.but hb (by omega))
 have HB6:=Lib.hid (HB5.out.new hb (Nat.le_refl _))
 clear ho hb HC5 HS5 HK5 HB5
 go_wp2_with fail
 refine (zb7 bs w.heap.size ts 163 (block v (bAt (z5u r))) _ w6 (block_ok _ _) (by rw [z7m,List.length_replicate]) (zfq (by intro x hx;have:=List.eq_of_mem_replicate hx;omega) N 8) HS6.out HC6.out HK6.out).mono ?_
 rintro e w7 ⟨rfl,hs7,hb7⟩
 have HS7:=Lib.hid hs7
 have HB7:=Lib.hid (HB6.out.trans hb7)
 clear hs7 hb7 HS6 HK6 HB6 HC6
 go_wp2_with fail
 exact bodyPost_end (results_none rfl _ _ _) rfl ⟨rfl,HS7.out,HB7.out⟩
theorem l8_at (N i q:Nat) (h:q < i):(l8 N i).getD q 0 = N * 256 ^ q % 18446744073709551616 / 72057594037927936:=by
 induction i with
 | zero=>omega
 | succ i ih =>
   rw [l8,List.getD_eq_getElem?_getD]
   by_cases hq:q < i
   ·rw [List.getElem?_append_left (by rw [zc0];exact hq),← List.getD_eq_getElem?_getD,ih hq]
   ·obtain rfl:q = i:=by omega
    rw [List.getElem?_append_right (by rw [zc0];exact Nat.le_refl _),zc0,Nat.sub_self]
    rfl
theorem zin (N q:Nat) (hN:N < 18446744073709551616) (hq:q < 8):N * 256 ^ q % 18446744073709551616 / 72057594037927936 = N / 2 ^ (8 * (7 - q)) % 256:=by
 match q,hq with
 | 0,_=>show N * 1 % _ / _ = N / 72057594037927936 % 256;omega
 | 1,_=>show N * 256 % _ / _ = N / 281474976710656 % 256;omega
 | 2,_=>show N * 65536 % _ / _ = N / 1099511627776 % 256;omega
 | 3,_=>show N * 16777216 % _ / _ = N / 4294967296 % 256;omega
 | 4,_=>show N * 4294967296 % _ / _ = N / 16777216 % 256;omega
 | 5,_=>show N * 1099511627776 % _ / _ = N / 65536 % 256;omega
 | 6,_=>show N * 281474976710656 % _ / _ = N / 256 % 256;omega
 | 7,_=>show N * 72057594037927936 % _ / _ = N / 1 % 256;omega
theorem z9k (s:List UInt8) (i:Nat) (h:i < s.length):(z3y s).getD i 0 = (z10 s).getD i 0:=by
 unfold z3y
 rw [List.append_assoc,List.append_assoc,List.getD_eq_getElem?_getD,List.getElem?_append_left (by rw [z0w];exact h),← List.getD_eq_getElem?_getD]
theorem zc5 (s:List UInt8):(z3y s).getD s.length 0 = 128:=by
 unfold z3y
 rw [List.append_assoc,List.append_assoc,List.getD_eq_getElem?_getD,List.getElem?_append_right (by rw [z0w];exact Nat.le_refl _),z0w,Nat.sub_self]
 rfl
theorem z97 (s:List UInt8) (i:Nat) (h:s.length < i) (h2:i < s.length + 1 + z1m s.length):(z3y s).getD i 0 = 0:=by
 unfold z3y
 rw [List.append_assoc,List.getD_eq_getElem?_getD,List.getElem?_append_right (by simp [z0w];omega),List.getElem?_append_left (by simp [z0w];omega),List.getElem?_replicate]
 split <;> rfl
theorem zfn (s:List UInt8) (q:Nat) (h:q < 8):(z3y s).getD (s.length + 1 + z1m s.length + q) 0 = s.length * 8 * 256 ^ q % 18446744073709551616 / 72057594037927936:=by
 unfold z3y
 rw [List.getD_eq_getElem?_getD,List.getElem?_append_right (by simp [z0w];omega),← List.getD_eq_getElem?_getD]
 have e:(z10 s ++ [128] ++ List.replicate (z1m s.length) 0).length = s.length + 1 + z1m s.length:=by simp [z0w];omega
 rw [e,Nat.add_sub_cancel_left]
 exact l8_at _ _ _ h
theorem z6w (s:List UInt8) (n:Nat):z10 (s.drop n) = (z10 s).drop n:=by simp [z10]
theorem zeu (s:List UInt8) (n:Nat):z10 (s.take n) = (z10 s).take n:=by simp [z10]
theorem za0 (l:List Nat) (n j:Nat):(l.drop n).getD j 0 = l.getD (n + j) 0:=by simp [List.getD_eq_getElem?_getD]
theorem zhc (l:List Nat) (n j:Nat) (h:j < n):(l.take n).getD j 0 = l.getD j 0:=by simp [List.getD_eq_getElem?_getD,h]
theorem zdu (s:List UInt8) (m:Nat) (h:64 * m + 64 ≤ s.length):block (z1k (z3y s) m) (bAt (z10 ((s.drop (64 * m)).take 64))) = z1k (z3y s) (m + 1):=by
 show _ = block (z1k (z3y s) m) (fun j=>(z3y s).getD (64 * m + j) 0)
 refine z56 _ fun j hj=>?_
 show (z10 ((s.drop (64 * m)).take 64)).getD j 0 = _
 rw [zeu,zhc _ _ _ hj,z6w,za0,z9k _ _ (by omega)]
theorem zcu (s:List UInt8) (m:Nat) (h:64 * m ≤ s.length) (h2:s.length ≤ 64 * m + 55) (hN:s.length * 8 < 18446744073709551616) :
 block (z1k (z3y s) m) (bAt (z5k (z5u (s.drop (64 * m))) (s.length * 8) 8)) = z1k (z3y s) ((z3y s).length / 64):=by
 have hz:z1m s.length = 64 * m + 55 - s.length:=by unfold z1m;omega
 have hl:(z3y s).length / 64 = m + 1:=by rw [z92];omega
 rw [hl]
 show _ = block (z1k (z3y s) m) (fun j=>(z3y s).getD (64 * m + j) 0)
 have hr:(s.drop (64 * m)).length = s.length - 64 * m:=List.length_drop
 refine z56 _ fun j hj=>?_
 show (z5k (z5u (s.drop (64 * m))) (s.length * 8) 8).getD j 0 = _
 rw [zfo _ _ _ _ (z5q (by omega)) hj (by omega)]
 by_cases h8:63 - j < 8
 ·rw [if_pos h8]
  have e:=zfn s (j - 56) (by omega)
  rw [show s.length + 1 + z1m s.length + (j - 56) = 64 * m + j by omega,zin _ _ hN (by omega),show 7 - (j - 56) = 63 - j by omega] at e
  exact e.symm
 ·rw [if_neg h8,zf1 (by omega) j hj,hr]
  by_cases h1:j < s.length - 64 * m
  ·rw [if_pos h1,z6w,za0,z9k _ _ (by omega)]
  ·rw [if_neg h1]
   by_cases h3:j = s.length - 64 * m
   ·rw [if_pos h3,show 64 * m + j = s.length by omega,zc5]
   ·rw [if_neg h3,z97 _ _ (by omega) (by omega)]
theorem zey (s:List UInt8) (m:Nat) (h:64 * m + 56 ≤ s.length) (h2:s.length ≤ 64 * m + 63) (hN:s.length * 8 < 18446744073709551616) :
 block (block (z1k (z3y s) m) (bAt (z5u (s.drop (64 * m))))) (bAt (z5k (List.replicate 64 0) (s.length * 8) 8)) = z1k (z3y s) ((z3y s).length / 64):=by
 have hz:z1m s.length = 64 * m + 119 - s.length:=by unfold z1m;omega
 have hl:(z3y s).length / 64 = m + 1 + 1:=by rw [z92];omega
 rw [hl]
 show _ = block (block (z1k (z3y s) m) (fun j=>(z3y s).getD (64 * m + j) 0)) (fun j=>(z3y s).getD (64 * (m + 1) + j) 0)
 have hr:(s.drop (64 * m)).length = s.length - 64 * m:=List.length_drop
 have e1:block (z1k (z3y s) m) (bAt (z5u (s.drop (64 * m)))) = block (z1k (z3y s) m) (fun j=>(z3y s).getD (64 * m + j) 0):=by
  refine z56 _ fun j hj=>?_
  show (z5u (s.drop (64 * m))).getD j 0 = _
  rw [zf1 (by omega) j hj,hr]
  by_cases h1:j < s.length - 64 * m
  ·rw [if_pos h1,z6w,za0,z9k _ _ (by omega)]
  ·rw [if_neg h1]
   by_cases h3:j = s.length - 64 * m
   ·rw [if_pos h3,show 64 * m + j = s.length by omega,zc5]
   ·rw [if_neg h3,z97 _ _ (by omega) (by omega)]
 rw [e1]
 refine z56 _ fun j hj=>?_
 show (z5k (List.replicate 64 0) (s.length * 8) 8).getD j 0 = _
 rw [zfo _ _ _ _ (List.length_replicate) hj (by omega)]
 by_cases h8:63 - j < 8
 ·rw [if_pos h8]
  have e:=zfn s (j - 56) (by omega)
  rw [show s.length + 1 + z1m s.length + (j - 56) = 64 * (m + 1) + j by omega,zin _ _ hN (by omega),show 7 - (j - 56) = 63 - j by omega] at e
  exact e.symm
 ·rw [if_neg h8,z97 _ _ (by omega) (by omega),List.getD_eq_getElem?_getD,List.getElem?_replicate]
  split <;> rfl
theorem zik (w:World) :
 Calls Tryz.prog 125 #[] w fun e w'=>e = .returned (.agg (z06 .u32 H0.list).toArray) ∧ Below w.heap.size w w':=by
 have HZ:=Lib.hid (show Blk w.heap.size 161 .u32 (List.replicate 8 0) (w.alloc (.cells (z06 .u32 (List.replicate 8 0)).toArray 161)) from heap_alloc_new w _)
 have HB:=Lib.hid ((Below.refl w.heap.size w).alloc (Nat.le_refl _) (.cells (z06 .u32 (List.replicate 8 0)).toArray 161))
 go_enter Tryz.func125,Tryz.ntmps125
 go_wp2_with (refine z04 rfl 161 _ _ rfl rfl w.heap.size .u32 _ H0.list 161 rfl rfl HZ.out (by exact Tryz.infoS) rfl ?_)
 intro w2 hc hb
 have HC:=Lib.hid (show Blk w.heap.size 161 .u32 H0.list w2 from hc.out)
 have HB2:=Lib.hid (show Below w.heap.size w w2 from But.toBelow HB.out hb.out (Nat.le_refl _) HB.out.size)
 clear hc hb
 go_wp2_with fail
 exact bodyPost_ret (z27 rfl _ _ w.heap.size .u32 _ 161 _ rfl HC.out Tryz.underlying161 rfl Tryz.infoS) rfl ⟨rfl,HB2.out⟩
theorem zfw (bs:Nat) (ts:TypeId) (v:S8) (w:World) (hv:v.Ok) (hs:Blk bs ts .u32 v.list w) :
 Calls Tryz.prog 128 #[.pointer (some ⟨bs,0,none⟩)] w fun e w'=>e = .returned (.agg (z06 .u8 (zbx v.list)).toArray) ∧ Below w.heap.size w w':=by
 have HV:=Lib.hid hv
 have HS:=Lib.hid hs
 clear hv hs
 go_enter Tryz.func128,Tryz.ntmps128
 go_wp2_with fail
 go_loopw [8] (fun i wq=>∃ k:Nat,k ≤ 8 ∧ i = .int .i64 k ∧ Blk (w.heap.size + 1) 25 .u8 (zff v.list (4 * k)) wq ∧ Blk w.heap.size 25 .u8 (List.replicate 32 0) wq ∧ Below w.heap.size w wq) (fun i _=>8 - (intOf i).toNat)
 case atStart =>
  refine ⟨0,by omega,rfl,?_,?_,((Below.refl _ w).alloc (Nat.le_refl _) _).alloc (by simp) _⟩
  ·have h:=heap_alloc_new (w.alloc (.cells (z06 .u8 (List.replicate 32 0)).toArray 25)) (.cells (z06 .u8 (List.replicate 32 0)).toArray 25)
   rw [World.size_alloc] at h
   exact h
  ·exact Blk.alloc (show Blk w.heap.size 25 .u8 (List.replicate 32 0) (w.alloc (.cells (z06 .u8 (List.replicate 32 0)).toArray 25)) from heap_alloc_new w _) _
 case round =>
  obtain ⟨k,hk,rfl,hw,hr,hb⟩:=hrel
  have HW:=Lib.hid hw
  have HR:=Lib.hid hr
  have HB:=Lib.hid hb
  clear hw hr hb
  by_cases hlk:k < 8
  ·have c:=(HS.out.below HB.out).cell k hlk
   have hx:=z1v HV.out.lt (by decide) k
   have HX:=Lib.hid (show v.list.getD k 0 = v.list.getD k 0 from rfl)
   obtain ⟨x,hxe⟩:∃ x,x = v.list.getD k 0:=⟨_,rfl⟩
   rw [← hxe] at c hx
   have HXE:=Lib.hid hxe
   have bk:(k:Int) < 8:=by omega
   clear hxe HX
   go_wp2_with fail
   go_quiet (fail)
   clear c
   go_wp2_with fail
   go_loopw [14] (fun i wq=>∃ j:Nat,j ≤ 4 ∧ i = .int .i64 j ∧ Blk (w.heap.size + 1) 25 .u8 (zff v.list (4 * k + j)) wq ∧ Blk w.heap.size 25 .u8 (List.replicate 32 0) wq ∧ Below w.heap.size w wq) (fun i _=>4 - (intOf i).toNat)
   case atStart=>exact ⟨0,by omega,rfl,HW.out,HR.out,z11 HB.out nq⟩
   case round =>
    clear HW HR HB
    obtain ⟨j,hj,rfl,hw,hr,hb⟩:=hrel
    have HW:=Lib.hid hw
    have HR:=Lib.hid hr
    have HB:=Lib.hid hb
    clear hw hr hb
    by_cases hlj:j < 4
    ·obtain ⟨i,hi⟩:∃ i,i = 4 * k + j:=⟨_,rfl⟩
     have hil:i < 32:=by omega
     have hlen:=zfu v.list i (by omega)
     rw [← hi] at HW
     have c1:=HW.out.cell i (by omega)
     have hf:=HW.out.frozen i
     have HS2:=Lib.hid (HW.out.set i (outB v.list i))
     rw [zfs _ _ hil] at HS2
     have HO:=Lib.hid (show outB v.list i = x / 2 ^ (24 - 8 * j) % 256 by rw [HXE.out];unfold outB;rw [show i / 4 = k by omega,show i % 4 = j by omega])
     have HI:=Lib.hid (show i + 1 = 4 * k + (j + 1) by omega)
     generalize (zff v.list i).getD i 0 = y at c1
     have d1:4 * (k:Int) + (j:Int) = (i:Int):=by omega
     have d2:IntKind.i64.wrap (i:Int) = (i:Int):=by rw [IntKind.wrap_i64];omega
     have b1:(i:Int) < 32:=by omega
     clear hlen hi
     go_wp2_with fail
     have hv:((outB v.list i:Nat):Int) = (x:Int) / 2 ^ (24 - 8 * j) % 256:=by
      rw [HO.out]
      simp
     rw [hv] at HS2
     exact ⟨⟨j + 1,by omega,by go_num,by rw [← HI.out];exact HS2.out,HR.out.but ((But.refl _ _).setCell _ _) (by omega),HB.out.setCell (by simp) _⟩,by simp [intOf];omega⟩
    ·obtain rfl:j = 4:=by omega
     rw [show ((4:Nat):Int) = 4 from rfl]
     have HI:=Lib.hid (show 4 * k + 4 = 4 * (k + 1) by omega)
     go_wp2_with fail
     exact ⟨⟨k + 1,by omega,by go_num,by rw [← HI.out];exact HW.out,HR.out,HB.out⟩,by simp [intOf];omega⟩
  ·obtain rfl:k = 8:=by omega
   rw [show ((8:Nat):Int) = 8 from rfl]
   rw [show 4 * 8 = 32 from rfl,zd9] at HW
   have HI:=Lib.hid (show (Tryz.prog.info? 25).map (·.size) = some (zbx v.list).length by rw [show (zbx v.list).length = 32 by simp [zbx]];exact Tryz.infoId)
   have HL:=Lib.hid (show (List.replicate 32 0).length = (zbx v.list).length by simp [zbx])
   go_wp2_with (first | (refine z03 rfl 25 _ rfl (w.heap.size + 1) .u8 _ 25 _ rfl HW.out Tryz.underlying25 rfl HI.out ?_) | (refine z04 rfl 25 _ _ rfl rfl w.heap.size .u8 _ (zbx v.list) 25 rfl rfl HR.out HI.out HL.out ?_))
   intro w2 hc hb
   have HC:=Lib.hid (show Blk w.heap.size 25 .u8 (zbx v.list) w2 from hc.out)
   have HB2:=Lib.hid (show Below w.heap.size w w2 from But.toBelow HB.out hb.out (Nat.le_refl _) HB.out.size)
   clear hc hb
   go_wp2_with fail
   exact bodyPost_ret (z27 rfl _ _ w.heap.size .u8 _ 25 _ rfl HC.out Tryz.underlying25 rfl HI.out) rfl ⟨rfl,HB2.out⟩
def strN:Value → Nat
 | .string b=>b.size
 | _=>0
theorem dev_of (s:List UInt8) (w:World) (hm:s.length ≤ 140737488350000) (hk:KAt w) :
 Calls Tryz.prog 95 #[.string ⟨s.toArray⟩] w fun e w'=>e = .returned (.agg (z06 .u8 (z6x s)).toArray) ∧ Below w.heap.size w w':=by
 have HK:=Lib.hid hk
 have hG:=hk.lt
 clear hk
 go_enter Tryz.func95,Tryz.ntmps95
 go_upto_region 1 with (fail)
 change Code.wp _ _ _ _ (w.alloc (.cells (z06 .u8 (List.replicate 32 0)).toArray 25))
 obtain ⟨wa,hwa⟩:∃ x,x = w.alloc (.cells (z06 .u8 (List.replicate 32 0)).toArray 25):=⟨_,rfl⟩
 rw [← hwa]
 have hb:Below w.heap.size w wa:=by rw [hwa];exact (Below.refl _ _).alloc (Nat.le_refl _) _
 have hr:Blk w.heap.size 25 .u8 (List.replicate 32 0) wa:=by rw [hwa];exact heap_alloc_new w _
 have HR:=Lib.hid hr
 have HKa:=Lib.hid (HK.out.below hb)
 have HB:=Lib.hid hb
 clear hwa hb hr HK
 go_wp2_with fail
 refine (zik _).mono ?_
 rintro e w1 ⟨rfl,hb⟩
 have HR1:=Lib.hid (HR.out.below hb)
 have HK1:=Lib.hid (HKa.out.below hb)
 have HB1:=Lib.hid (HB.out.trans (hb.mono HB.out.size))
 have HZ:=Lib.hid (show Blk w1.heap.size 161 .u32 (List.replicate 8 0) (w1.alloc (.cells (z06 .u32 (List.replicate 8 0)).toArray 161)) from heap_alloc_new w1 _)
 clear hb HR HKa HB
 go_wp2_with (refine z04 rfl 161 _ _ rfl rfl w1.heap.size .u32 _ H0.list 161 rfl rfl HZ.out (by exact Tryz.infoS) rfl ?_)
 intro w2 hc hb
 have hb2:But w1.heap.size w1 w2:=(But.refl w1.heap.size w1).alloc (.cells (z06 .u32 (List.replicate 8 0)).toArray 161) |>.trans hb.out
 have hR1:=HR1.out.lt
 have hK1:=HK1.out.lt
 have HS2:=Lib.hid (show Blk w1.heap.size 161 .u32 H0.list w2 from hc.out)
 have HR2:=Lib.hid (HR1.out.but hb2 (by omega))
 have HK2:=Lib.hid (HK1.out.but hb2 (by omega))
 have HB2:=Lib.hid (show Below w.heap.size w w2 from But.toBelow HB1.out hb2 HB1.out.size HB1.out.size)
 clear hc hb hb2 HZ HR1 HK1
 go_upto_region 3 with (fail)
 change Code.wp _ _ _ _ (w2.alloc (.cells (z06 .u8 (List.replicate 64 0)).toArray 163))
 obtain ⟨w3,hw3⟩:∃ x,x = w2.alloc (.cells (z06 .u8 (List.replicate 64 0)).toArray 163):=⟨_,rfl⟩
 rw [← hw3]
 have hb:Below w2.heap.size w2 w3:=by rw [hw3];exact (Below.refl _ _).alloc (Nat.le_refl _) _
 have HC3:=Lib.hid (show Blk w2.heap.size 163 .u8 (List.replicate 64 0) w3 by rw [hw3];exact heap_alloc_new w2 _)
 have hS2:=HS2.out.lt
 have HS3:=Lib.hid (HS2.out.below hb)
 have HR3:=Lib.hid (HR2.out.below hb)
 have HK3:=Lib.hid (HK2.out.below hb)
 have hB1:=HB1.out.size
 have HB3:=Lib.hid (HB2.out.trans (hb.mono HB2.out.size))
 clear hw3 hb HS2 HR2 HK2 HB1
 obtain ⟨bs,hbs⟩:∃ x,x = w1.heap.size:=⟨_,rfl⟩
 obtain ⟨bb,hbb⟩:∃ x,x = w2.heap.size:=⟨_,rfl⟩
 rw [← hbs] at HS3 hR1 hK1 hB1 hS2 ⊢
 rw [← hbb] at HC3 hS2 ⊢
 clear hbs hbb HB2 hB1
 go_wp2_with fail
 go_loopw [5] (fun v wq=>∃ m:Nat,64 * m ≤ s.length ∧ v = .string ⟨(s.drop (64 * m)).toArray⟩ ∧ Blk bs 161 .u32 (z1k (z3y s) m).list wq ∧ (∃ l,l.length = 64 ∧ Blk bb 163 .u8 l wq) ∧ Blk w.heap.size 25 .u8 (List.replicate 32 0) wq ∧ KAt wq ∧ Below w.heap.size w wq) (fun v _=>strN v)
 case atStart=>exact ⟨0,by omega,rfl,HS3.out,⟨_,List.length_replicate,HC3.out⟩,HR3.out,HK3.out,HB3.out⟩
 case round =>
  clear HS3 HC3 HR3 HK3 HB3
  obtain ⟨m,hm64,rfl,hs,⟨l,hl,hc⟩,hr,hk,hb⟩:=hrel
  have HS:=Lib.hid hs
  have HC:=Lib.hid hc
  have HR:=Lib.hid hr
  have HK:=Lib.hid hk
  have HB:=Lib.hid hb
  have HLL:=Lib.hid hl
  clear hs hc hr hk hb hl
  obtain ⟨r,hr⟩:∃ r,r = s.drop (64 * m):=⟨_,rfl⟩
  rw [← hr]
  have hrl:r.length = s.length - 64 * m:=by rw [hr];exact List.length_drop
  have HRE:=Lib.hid hr
  clear hr
  by_cases hlt:64 * m + 64 ≤ s.length
  ·have hl64:64 ≤ r.length:=by omega
   have hx:=zch r 64
   have HX:=Lib.hid (show r.drop 64 = s.drop (64 * (m + 1)) by rw [HRE.out,List.drop_drop];rfl)
   have HXL:=Lib.hid (show (r.drop 64).length = r.length - 64 from List.length_drop)
   clear hrl
   go_wp2_with (refine z31 rfl _ _ 121 9 rfl 5 Tryz.underlying121 (by kernel_rfl) bb 64 64 r l 163 HLL.out.symm rfl rfl HC.out ?_)
   intro w5 hc hb
   have HC5:=Lib.hid (show Blk bb 163 .u8 (z10 (r.take 64)) w5 by
    have h:=hc.out
    rw [HLL.out,List.drop_of_length_le (by rw [HLL.out];exact hl64),List.append_nil] at h
    exact h)
   have HS5:=Lib.hid (HS.out.but hb.out (by omega))
   have HR5:=Lib.hid (HR.out.but hb.out (by omega))
   have HK5:=Lib.hid (HK.out.but hb.out (by omega))
   have hbsz:=HB.out.size
   have HB5:=Lib.hid (show Below w.heap.size w w5 from But.toBelow HB.out hb.out (by omega) hbsz)
   clear hc hb HS HC HR HK HB
   go_wp2_with fail
   refine (zb7 bs bb 161 163 _ _ w5 (z3b _ _) (by rw [z0w,List.length_take];omega) (zct _) HS5.out HC5.out HK5.out).mono ?_
   rintro e w6 ⟨rfl,hs6,hb6⟩
   have HS6:=Lib.hid (show Blk bs 161 .u32 (z1k (z3y s) (m + 1)).list w6 by rw [← zdu s m hlt,← HRE.out];exact hs6)
   have HC6:=Lib.hid (HC5.out.but hb6 (by omega))
   have HR6:=Lib.hid (HR5.out.but hb6 (by omega))
   have HK6:=Lib.hid (HK5.out.but hb6 (by omega))
   have HB6:=Lib.hid (show Below w.heap.size w w6 from But.toBelow HB5.out hb6 (by omega) HB5.out.size)
   have HC6L:=Lib.hid (show (z10 (r.take 64)).length = 64 by rw [z0w,List.length_take];omega)
   clear hs6 hb6 HS5 HC5 HR5 HK5 HB5
   go_wp2_with fail
   exact ⟨⟨m + 1,by omega,by rw [HX.out],HS6.out,⟨_,HC6L.out,HC6.out⟩,HR6.out,HK6.out,HB6.out⟩,by have:=HXL.out;simp [strN,ByteArray.size] at this ⊢;omega⟩
  ·have hr63:r.length ≤ 63:=by omega
   have HF:=Lib.hid (show zbx (z1k (z3y s) ((z3y s).length / 64)).list = z6x s from rfl)
   have hfin:Calls Tryz.prog 127 #[.pointer (some ⟨bs,0,none⟩),.string ⟨r.toArray⟩,.int .u64 s.length] wr fun e w' =>
    e = .returned (.tuple #[]) ∧ Blk bs 161 .u32 (z1k (z3y s) ((z3y s).length / 64)).list w' ∧ But bs wr w':=by
    by_cases h55:r.length ≤ 55
    ·have h:=zil bs 161 _ r s.length (s.length * 8) wr (z3b (z3y s) m) h55 (by omega) (by omega) HS.out HK.out
     rw [HRE.out,zcu s m hm64 (by omega) (by omega),← HRE.out] at h
     exact h
    ·have h:=fin_long bs 161 _ r s.length (s.length * 8) wr (z3b (z3y s) m) (by omega) hr63 (by omega) (by omega) HS.out HK.out (by omega)
     rw [HRE.out,zey s m (by omega) (by omega) (by omega),← HRE.out] at h
     exact h
   have HFIN:=Lib.hid hfin
   clear hfin hrl
   go_wp2_with fail
   refine HFIN.out.mono ?_
   rintro e w5 ⟨rfl,hs5,hb5⟩
   have HS5:=Lib.hid hs5
   have HR5:=Lib.hid (HR.out.but hb5 (by omega))
   have HB5:=Lib.hid (show Below w.heap.size w w5 from But.toBelow HB.out hb5 (by omega) HB.out.size)
   clear hs5 hb5 HS HR HB HC HK HFIN
   go_wp2_with fail
   refine (zfw bs 161 _ w5 (z3b _ _) HS5.out).mono ?_
   rintro e w6 ⟨rfl,hb6⟩
   rw [HF.out]
   have HR6:=Lib.hid (HR5.out.below hb6)
   have HB6:=Lib.hid (HB5.out.trans (hb6.mono HB5.out.size))
   have HI:=Lib.hid (show (Tryz.prog.info? 25).map (·.size) = some (z6x s).length by rw [z3m];exact Tryz.infoId)
   have HL:=Lib.hid (show (List.replicate 32 0).length = (z6x s).length by rw [z3m,List.length_replicate])
   clear hb6 HR5 HB5 HS5
   go_wp2_with (refine z04 rfl 25 _ _ rfl rfl w.heap.size .u8 _ (z6x s) 25 rfl rfl HR6.out HI.out HL.out ?_)
   intro w7 hc hb
   have HC7:=Lib.hid (show Blk w.heap.size 25 .u8 (z6x s) w7 from hc.out)
   have HB7:=Lib.hid (show Below w.heap.size w w7 from But.toBelow HB6.out hb.out (Nat.le_refl _) HB6.out.size)
   clear hc hb
   go_wp2_with fail
   exact bodyPost_ret (z27 rfl _ _ w.heap.size .u8 _ 25 _ rfl HC7.out Tryz.underlying25 rfl HI.out) rfl ⟨rfl,HB7.out⟩
theorem of_loop1 {s:List UInt8} {v0:Value} {wb w:World}
 {ca0 ca1 ca2 ca3 ca4 ca6 ca7 ca8 ca9 ca10 ca11 ca12 ca13 ca14 ca15 ca16 ca17 ca18 ca19 ca20 ca21 ca22 ca23 ca24 ca25 ca26 ca27 ca28 ca29 ub30
 ub31 ub32 ub33 ub34 ub35 ub36 ca37 ca38 ca39 ca40 ca41 ca42 ca43 ca44 ca45 ca46 ca47 ca48 ca49 ca50 ca51 ca52 ca53 ca54 ca55 ca56 ca57 ca58 ca59 ca60
 ca61 ca62 ca63 ca64 ca65 ca66 ca67 ca68 ca69 ca70 ca71 ca72 ca73 ca74 ca75 ca76 ca77 ca78 ca79 ca80 ca81 ca82 ca83 ca84 ca85 ca86 ca87 ca88 ca89 ca90
 ca91 ca92 ca93 ca94 ca95 ca96 ca97 ca98 ca99 ca100 ca101 ca102 ca103 ca104 ca105 ca106 ca107 ca108 ca109 ca110 ca111 ca112 ca113 ca114 ca115 ca116 ca117 ca118 ca119 ca120
 ca121 ca122 ca123 ca124 ca125 ca126 ca127 ca128 ca129 ca130 ca131 ca132 ca133 ca134 ca135 ca136 ca137 ca138 ca139 ca140 ca141 ca142 ca143 ca144 ca145 ca146 ca147 ca148 ca149 ca150
 ca151 ca152 ca153 ca154 ca155 ca156 ca157 ca158 ca159 ca160 ca161 ca162 ca163 ca164 ca165 ca166 ca167 ca168 ca169 ca170 ca171 ca172 ca173 ca174 ca175 ca176 ca177 ca178 ca179 ca180
 ca181 ca182 ca183 ca184 ca185 ca186 ca187 ca188 ca189 ca190 ca191 ca192 ca193 ca194 ca195 ca196 ca197 ca198 ca199 ca200 ca201 ca202 ca203 ca204 ca205 ca206 ca207 ca208 ca209 ca210
 ca211 ca212 ca213 ca214 ca215 ca216 ca217 ca218 ca219 ca220 ca221 ca222 ca223 ca224 ca225 ca226 ca227 ca228 ca229 ca230 ca231 ca232 ca233 ca234 ca235 ca236 ca237 ca238 ca239 ca240
 ca241 ca242 ca243 ca244 ca245 ca246 ca247 ca248 ca249 ca250 ca251 ca252 ca253 ca254 ca255 ca256 ca257 ca258 ca259 ca260 ca261 ca262 ca263 ca264 ca265 ca266 ca267 ca268 ca269 ca270
 ca271 ca272 ca273 ca274 ca275 ca276 ca277 ca278 ca279 ca280 ca281 ca282 ca283 ca284 ca285 ca286:Value}
 (hm:s.length ≤ 140737488350000) (HO3:Hid (OwnT wb.heap.size 5 .u8 v0 (z38 s 0) w)) (HB3:Hid (Below wb.heap.size wb w))
 (R:Act → World → Prop)
 (hexit:Hid (∀ (v9:Value) (w1:World),OwnT wb.heap.size 5 .u8 v9 (z38 s (z1m s.length)) w1 ∧ Below wb.heap.size wb w1 → ∀ {vb30 vb31 vb32 vb33 vb34 vb35 vb36:Value},
  R ⟨List.toArray (ca0 :: ca1 :: ca2 :: ca3 :: ca4 :: v9 :: ca6 :: ca7 :: ca8 :: ca9 :: ca10 :: ca11 :: ca12 :: ca13 :: ca14 :: ca15 :: ca16 :: ca17 :: ca18 :: ca19 :: ca20 :: ca21 :: ca22 :: ca23 :: ca24 :: ca25 :: ca26 :: ca27 :: ca28 :: ca29 ::
  vb30 :: vb31 :: vb32 :: vb33 :: vb34 :: vb35 :: vb36 :: ca37 :: ca38 :: ca39 :: ca40 :: ca41 :: ca42 :: ca43 :: ca44 :: ca45 :: ca46 :: ca47 :: ca48 :: ca49 :: ca50 :: ca51 :: ca52 :: ca53 :: ca54 :: ca55 :: ca56 :: ca57 ::
  ca58 :: ca59 :: ca60 :: ca61 :: ca62 :: ca63 :: ca64 :: ca65 :: ca66 :: ca67 :: ca68 :: ca69 :: ca70 :: ca71 :: ca72 :: ca73 :: ca74 :: ca75 :: ca76 :: ca77 :: ca78 :: ca79 :: ca80 :: ca81 :: ca82 :: ca83 :: ca84 :: ca85 ::
  ca86 :: ca87 :: ca88 :: ca89 :: ca90 :: ca91 :: ca92 :: ca93 :: ca94 :: ca95 :: ca96 :: ca97 :: ca98 :: ca99 :: ca100 :: ca101 :: ca102 :: ca103 :: ca104 :: ca105 :: ca106 :: ca107 :: ca108 :: ca109 :: ca110 :: ca111 :: ca112 ::
  ca113 :: ca114 :: ca115 :: ca116 :: ca117 :: ca118 :: ca119 :: ca120 :: ca121 :: ca122 :: ca123 :: ca124 :: ca125 :: ca126 :: ca127 :: ca128 :: ca129 :: ca130 :: ca131 :: ca132 :: ca133 :: ca134 :: ca135 :: ca136 :: ca137 ::
  ca138 :: ca139 :: ca140 :: ca141 :: ca142 :: ca143 :: ca144 :: ca145 :: ca146 :: ca147 :: ca148 :: ca149 :: ca150 :: ca151 :: ca152 :: ca153 :: ca154 :: ca155 :: ca156 :: ca157 :: ca158 :: ca159 :: ca160 :: ca161 :: ca162 ::
  ca163 :: ca164 :: ca165 :: ca166 :: ca167 :: ca168 :: ca169 :: ca170 :: ca171 :: ca172 :: ca173 :: ca174 :: ca175 :: ca176 :: ca177 :: ca178 :: ca179 :: ca180 :: ca181 :: ca182 :: ca183 :: ca184 :: ca185 :: ca186 :: ca187 ::
  ca188 :: ca189 :: ca190 :: ca191 :: ca192 :: ca193 :: ca194 :: ca195 :: ca196 :: ca197 :: ca198 :: ca199 :: ca200 :: ca201 :: ca202 :: ca203 :: ca204 :: ca205 :: ca206 :: ca207 :: ca208 :: ca209 :: ca210 :: ca211 :: ca212 ::
  ca213 :: ca214 :: ca215 :: ca216 :: ca217 :: ca218 :: ca219 :: ca220 :: ca221 :: ca222 :: ca223 :: ca224 :: ca225 :: ca226 :: ca227 :: ca228 :: ca229 :: ca230 :: ca231 :: ca232 :: ca233 :: ca234 :: ca235 :: ca236 :: ca237 ::
  ca238 :: ca239 :: ca240 :: ca241 :: ca242 :: ca243 :: ca244 :: ca245 :: ca246 :: ca247 :: ca248 :: ca249 :: ca250 :: ca251 :: ca252 :: ca253 :: ca254 :: ca255 :: ca256 :: ca257 :: ca258 :: ca259 :: ca260 :: ca261 :: ca262 ::
  ca263 :: ca264 :: ca265 :: ca266 :: ca267 :: ca268 :: ca269 :: ca270 :: ca271 :: ca272 :: ca273 :: ca274 :: ca275 :: ca276 :: ca277 :: ca278 :: ca279 :: ca280 :: ca281 :: ca282 :: ca283 :: ca284 :: ca285 :: ca286 :: []),[]⟩ w1)) :
 Code.wp Tryz.prog (Code.loop (z5c Tryz.f87 0)) (Ends 0 R) ⟨List.toArray (ca0 :: ca1 :: ca2 :: ca3 :: ca4 :: v0 :: ca6 :: ca7 :: ca8 :: ca9 :: ca10 :: ca11 :: ca12 :: ca13 :: ca14 :: ca15 :: ca16 :: ca17 :: ca18 :: ca19 :: ca20 :: ca21 :: ca22 :: ca23 :: ca24 :: ca25 :: ca26 :: ca27 :: ca28 :: ca29 ::
  ub30 :: ub31 :: ub32 :: ub33 :: ub34 :: ub35 :: ub36 :: ca37 :: ca38 :: ca39 :: ca40 :: ca41 :: ca42 :: ca43 :: ca44 :: ca45 :: ca46 :: ca47 :: ca48 :: ca49 :: ca50 :: ca51 :: ca52 :: ca53 :: ca54 :: ca55 :: ca56 :: ca57 ::
  ca58 :: ca59 :: ca60 :: ca61 :: ca62 :: ca63 :: ca64 :: ca65 :: ca66 :: ca67 :: ca68 :: ca69 :: ca70 :: ca71 :: ca72 :: ca73 :: ca74 :: ca75 :: ca76 :: ca77 :: ca78 :: ca79 :: ca80 :: ca81 :: ca82 :: ca83 :: ca84 :: ca85 ::
  ca86 :: ca87 :: ca88 :: ca89 :: ca90 :: ca91 :: ca92 :: ca93 :: ca94 :: ca95 :: ca96 :: ca97 :: ca98 :: ca99 :: ca100 :: ca101 :: ca102 :: ca103 :: ca104 :: ca105 :: ca106 :: ca107 :: ca108 :: ca109 :: ca110 :: ca111 :: ca112 ::
  ca113 :: ca114 :: ca115 :: ca116 :: ca117 :: ca118 :: ca119 :: ca120 :: ca121 :: ca122 :: ca123 :: ca124 :: ca125 :: ca126 :: ca127 :: ca128 :: ca129 :: ca130 :: ca131 :: ca132 :: ca133 :: ca134 :: ca135 :: ca136 :: ca137 ::
  ca138 :: ca139 :: ca140 :: ca141 :: ca142 :: ca143 :: ca144 :: ca145 :: ca146 :: ca147 :: ca148 :: ca149 :: ca150 :: ca151 :: ca152 :: ca153 :: ca154 :: ca155 :: ca156 :: ca157 :: ca158 :: ca159 :: ca160 :: ca161 :: ca162 ::
  ca163 :: ca164 :: ca165 :: ca166 :: ca167 :: ca168 :: ca169 :: ca170 :: ca171 :: ca172 :: ca173 :: ca174 :: ca175 :: ca176 :: ca177 :: ca178 :: ca179 :: ca180 :: ca181 :: ca182 :: ca183 :: ca184 :: ca185 :: ca186 :: ca187 ::
  ca188 :: ca189 :: ca190 :: ca191 :: ca192 :: ca193 :: ca194 :: ca195 :: ca196 :: ca197 :: ca198 :: ca199 :: ca200 :: ca201 :: ca202 :: ca203 :: ca204 :: ca205 :: ca206 :: ca207 :: ca208 :: ca209 :: ca210 :: ca211 :: ca212 ::
  ca213 :: ca214 :: ca215 :: ca216 :: ca217 :: ca218 :: ca219 :: ca220 :: ca221 :: ca222 :: ca223 :: ca224 :: ca225 :: ca226 :: ca227 :: ca228 :: ca229 :: ca230 :: ca231 :: ca232 :: ca233 :: ca234 :: ca235 :: ca236 :: ca237 ::
  ca238 :: ca239 :: ca240 :: ca241 :: ca242 :: ca243 :: ca244 :: ca245 :: ca246 :: ca247 :: ca248 :: ca249 :: ca250 :: ca251 :: ca252 :: ca253 :: ca254 :: ca255 :: ca256 :: ca257 :: ca258 :: ca259 :: ca260 :: ca261 :: ca262 ::
  ca263 :: ca264 :: ca265 :: ca266 :: ca267 :: ca268 :: ca269 :: ca270 :: ca271 :: ca272 :: ca273 :: ca274 :: ca275 :: ca276 :: ca277 :: ca278 :: ca279 :: ca280 :: ca281 :: ca282 :: ca283 :: ca284 :: ca285 :: ca286 :: []),[]⟩ w:=by
 conv=>arg 2;arg 1;whnf
 obtain ⟨i0,hi,hz0,hz1,hz2⟩:=info_parts Tryz.infoU8
 go_loopw [5] (fun v wr=>∃ q:Nat,q ≤ z1m s.length ∧ OwnT wb.heap.size 5 .u8 v (z38 s q) wr ∧ Below wb.heap.size wb wr) (fun v _=>s.length + 65 - lenV v)
 case atStart=>exact ⟨0,Nat.zero_le _,HO3.out,HB3.out⟩
 case round =>
  clear HO3 HB3
  obtain ⟨q,hq,ho,hb⟩:=hrel
  obtain ⟨g2,cap2,rfl⟩:=ho.form
  have hll:=z84 s q
  have HO3:=Lib.hid ho
  have HB3:=Lib.hid hb
  clear ho hb
  by_cases hlt:q < z1m s.length
  ·have ht:(((z38 s q).length:Int) % 64 != 56) = true:=by
    rw [bne_iff_ne,hll]
    unfold z1m at hlt
    omega
   go_wp2_with (at_builtin;refine z2q rfl _ _ 121 rfl wb.heap.size 5 i0 (.int .u8 0) 1 .u8 Tryz.underlying121 hi hz0 hz1 hz2 rfl _ _ rfl (HO3.out.alloc _) ⟨wr.heap.size,0,none⟩ 1 0 rfl (cell_one_new _ _ _) ?c3 ?c4 ?c5 ?_)
   case c3=>unfold z1m at hlt;unfold maxLen;omega
   case c4=>unfold z1m at hlt;omega
   case c5=>have:=HB3.out.size;simp;omega
   intro v4 w4 ho hgrow _
   have HB4:=Lib.hid (z6n HB3.out HB3.out.size HO3.out hgrow)
   rw [← ze6] at ho
   obtain ⟨g4,cap4,rfl⟩:=ho.form
   have hll4:=z84 s (q + 1)
   have HO4:=Lib.hid ho
   clear HO3 HB3 ho hgrow ht
   go_wp2_with fail
   exact ⟨⟨q + 1,by omega,HO4.out,HB4.out⟩,by simp only [lenV];unfold z1m at hlt;omega⟩
  ·obtain rfl:q = z1m s.length:=by omega
   have ht:(((z38 s (z1m s.length)).length:Int) % 64 != 56) = false:=by
    rw [bne_eq_false_iff_eq,hll]
    unfold z1m
    omega
   have HLL:=Lib.hid hll
   clear hll hq hlt
   go_wp2_with fail
   exact z1y (hexit.out _ _ ⟨HO3.out,HB3.out⟩)
theorem of_loop2 {s:List UInt8} {v0:Value} {N z:Nat} {wb w:World}
 {ca0 ca1 ca2 ca3 ca4 ca8 ca9 ca10 ca11 ca12 ca13 ca14 ca15 ca16 ca17 ca18 ca19 ca20 ca21 ca22 ca23 ca24 ca25 ca26 ca27 ca28 ca29 ca30 ca31 ca32
 ca33 ca34 ca35 ca36 ca37 ca38 ca39 ca40 ub41 ub42 ub43 ub44 ub45 ub46 ub47 ub48 ub49 ub50 ub51 ub52 ca53 ca54 ca55 ca56 ca57 ca58 ca59 ca60 ca61 ca62
 ca63 ca64 ca65 ca66 ca67 ca68 ca69 ca70 ca71 ca72 ca73 ca74 ca75 ca76 ca77 ca78 ca79 ca80 ca81 ca82 ca83 ca84 ca85 ca86 ca87 ca88 ca89 ca90 ca91 ca92
 ca93 ca94 ca95 ca96 ca97 ca98 ca99 ca100 ca101 ca102 ca103 ca104 ca105 ca106 ca107 ca108 ca109 ca110 ca111 ca112 ca113 ca114 ca115 ca116 ca117 ca118 ca119 ca120 ca121 ca122
 ca123 ca124 ca125 ca126 ca127 ca128 ca129 ca130 ca131 ca132 ca133 ca134 ca135 ca136 ca137 ca138 ca139 ca140 ca141 ca142 ca143 ca144 ca145 ca146 ca147 ca148 ca149 ca150 ca151 ca152
 ca153 ca154 ca155 ca156 ca157 ca158 ca159 ca160 ca161 ca162 ca163 ca164 ca165 ca166 ca167 ca168 ca169 ca170 ca171 ca172 ca173 ca174 ca175 ca176 ca177 ca178 ca179 ca180 ca181 ca182
 ca183 ca184 ca185 ca186 ca187 ca188 ca189 ca190 ca191 ca192 ca193 ca194 ca195 ca196 ca197 ca198 ca199 ca200 ca201 ca202 ca203 ca204 ca205 ca206 ca207 ca208 ca209 ca210 ca211 ca212
 ca213 ca214 ca215 ca216 ca217 ca218 ca219 ca220 ca221 ca222 ca223 ca224 ca225 ca226 ca227 ca228 ca229 ca230 ca231 ca232 ca233 ca234 ca235 ca236 ca237 ca238 ca239 ca240 ca241 ca242
 ca243 ca244 ca245 ca246 ca247 ca248 ca249 ca250 ca251 ca252 ca253 ca254 ca255 ca256 ca257 ca258 ca259 ca260 ca261 ca262 ca263 ca264 ca265 ca266 ca267 ca268 ca269 ca270 ca271 ca272
 ca273 ca274 ca275 ca276 ca277 ca278 ca279 ca280 ca281 ca282 ca283 ca284 ca285 ca286:Value}
 (hm:s.length ≤ 140737488350000) (hz:z ≤ 63) (HNN:Hid (N < 18446744073709551616)) (HO3:Hid (OwnT wb.heap.size 5 .u8 v0 (z38 s z) w)) (HB3:Hid (Below wb.heap.size wb w))
 (R:Act → World → Prop)
 (hexit:Hid (∀ (v9:Value) (w1:World),OwnT wb.heap.size 5 .u8 v9 (z38 s z ++ l8 N 8) w1 ∧ Below wb.heap.size wb w1 → ∀ {vb6 vb7 vb41 vb42 vb43 vb44 vb45 vb46 vb47 vb48 vb49 vb50 vb51 vb52:Value},
  R ⟨List.toArray (ca0 :: ca1 :: ca2 :: ca3 :: ca4 :: v9 :: vb6 :: vb7 :: ca8 :: ca9 :: ca10 :: ca11 :: ca12 :: ca13 :: ca14 :: ca15 :: ca16 :: ca17 :: ca18 :: ca19 :: ca20 :: ca21 :: ca22 :: ca23 :: ca24 :: ca25 :: ca26 :: ca27 :: ca28 :: ca29 ::
  ca30 :: ca31 :: ca32 :: ca33 :: ca34 :: ca35 :: ca36 :: ca37 :: ca38 :: ca39 :: ca40 :: vb41 :: vb42 :: vb43 :: vb44 :: vb45 :: vb46 :: vb47 :: vb48 :: vb49 :: vb50 :: vb51 :: vb52 :: ca53 :: ca54 :: ca55 :: ca56 :: ca57 ::
  ca58 :: ca59 :: ca60 :: ca61 :: ca62 :: ca63 :: ca64 :: ca65 :: ca66 :: ca67 :: ca68 :: ca69 :: ca70 :: ca71 :: ca72 :: ca73 :: ca74 :: ca75 :: ca76 :: ca77 :: ca78 :: ca79 :: ca80 :: ca81 :: ca82 :: ca83 :: ca84 :: ca85 ::
  ca86 :: ca87 :: ca88 :: ca89 :: ca90 :: ca91 :: ca92 :: ca93 :: ca94 :: ca95 :: ca96 :: ca97 :: ca98 :: ca99 :: ca100 :: ca101 :: ca102 :: ca103 :: ca104 :: ca105 :: ca106 :: ca107 :: ca108 :: ca109 :: ca110 :: ca111 :: ca112 ::
  ca113 :: ca114 :: ca115 :: ca116 :: ca117 :: ca118 :: ca119 :: ca120 :: ca121 :: ca122 :: ca123 :: ca124 :: ca125 :: ca126 :: ca127 :: ca128 :: ca129 :: ca130 :: ca131 :: ca132 :: ca133 :: ca134 :: ca135 :: ca136 :: ca137 ::
  ca138 :: ca139 :: ca140 :: ca141 :: ca142 :: ca143 :: ca144 :: ca145 :: ca146 :: ca147 :: ca148 :: ca149 :: ca150 :: ca151 :: ca152 :: ca153 :: ca154 :: ca155 :: ca156 :: ca157 :: ca158 :: ca159 :: ca160 :: ca161 :: ca162 ::
  ca163 :: ca164 :: ca165 :: ca166 :: ca167 :: ca168 :: ca169 :: ca170 :: ca171 :: ca172 :: ca173 :: ca174 :: ca175 :: ca176 :: ca177 :: ca178 :: ca179 :: ca180 :: ca181 :: ca182 :: ca183 :: ca184 :: ca185 :: ca186 :: ca187 ::
  ca188 :: ca189 :: ca190 :: ca191 :: ca192 :: ca193 :: ca194 :: ca195 :: ca196 :: ca197 :: ca198 :: ca199 :: ca200 :: ca201 :: ca202 :: ca203 :: ca204 :: ca205 :: ca206 :: ca207 :: ca208 :: ca209 :: ca210 :: ca211 :: ca212 ::
  ca213 :: ca214 :: ca215 :: ca216 :: ca217 :: ca218 :: ca219 :: ca220 :: ca221 :: ca222 :: ca223 :: ca224 :: ca225 :: ca226 :: ca227 :: ca228 :: ca229 :: ca230 :: ca231 :: ca232 :: ca233 :: ca234 :: ca235 :: ca236 :: ca237 ::
  ca238 :: ca239 :: ca240 :: ca241 :: ca242 :: ca243 :: ca244 :: ca245 :: ca246 :: ca247 :: ca248 :: ca249 :: ca250 :: ca251 :: ca252 :: ca253 :: ca254 :: ca255 :: ca256 :: ca257 :: ca258 :: ca259 :: ca260 :: ca261 :: ca262 ::
  ca263 :: ca264 :: ca265 :: ca266 :: ca267 :: ca268 :: ca269 :: ca270 :: ca271 :: ca272 :: ca273 :: ca274 :: ca275 :: ca276 :: ca277 :: ca278 :: ca279 :: ca280 :: ca281 :: ca282 :: ca283 :: ca284 :: ca285 :: ca286 :: []),[]⟩ w1)) :
 Code.wp Tryz.prog (Code.loop (z5c Tryz.f87 1)) (Ends 2 R) ⟨List.toArray (ca0 :: ca1 :: ca2 :: ca3 :: ca4 :: v0 :: .int .u64 (N:Int) :: .int .i64 0 :: ca8 :: ca9 :: ca10 :: ca11 :: ca12 :: ca13 :: ca14 :: ca15 :: ca16 :: ca17 :: ca18 :: ca19 :: ca20 :: ca21 :: ca22 :: ca23 :: ca24 :: ca25 :: ca26 ::
  ca27 :: ca28 :: ca29 :: ca30 :: ca31 :: ca32 :: ca33 :: ca34 :: ca35 :: ca36 :: ca37 :: ca38 :: ca39 :: ca40 :: ub41 :: ub42 :: ub43 :: ub44 :: ub45 :: ub46 :: ub47 :: ub48 :: ub49 :: ub50 :: ub51 :: ub52 :: ca53 :: ca54 ::
  ca55 :: ca56 :: ca57 :: ca58 :: ca59 :: ca60 :: ca61 :: ca62 :: ca63 :: ca64 :: ca65 :: ca66 :: ca67 :: ca68 :: ca69 :: ca70 :: ca71 :: ca72 :: ca73 :: ca74 :: ca75 :: ca76 :: ca77 :: ca78 :: ca79 :: ca80 :: ca81 :: ca82 ::
  ca83 :: ca84 :: ca85 :: ca86 :: ca87 :: ca88 :: ca89 :: ca90 :: ca91 :: ca92 :: ca93 :: ca94 :: ca95 :: ca96 :: ca97 :: ca98 :: ca99 :: ca100 :: ca101 :: ca102 :: ca103 :: ca104 :: ca105 :: ca106 :: ca107 :: ca108 :: ca109 ::
  ca110 :: ca111 :: ca112 :: ca113 :: ca114 :: ca115 :: ca116 :: ca117 :: ca118 :: ca119 :: ca120 :: ca121 :: ca122 :: ca123 :: ca124 :: ca125 :: ca126 :: ca127 :: ca128 :: ca129 :: ca130 :: ca131 :: ca132 :: ca133 :: ca134 ::
  ca135 :: ca136 :: ca137 :: ca138 :: ca139 :: ca140 :: ca141 :: ca142 :: ca143 :: ca144 :: ca145 :: ca146 :: ca147 :: ca148 :: ca149 :: ca150 :: ca151 :: ca152 :: ca153 :: ca154 :: ca155 :: ca156 :: ca157 :: ca158 :: ca159 ::
  ca160 :: ca161 :: ca162 :: ca163 :: ca164 :: ca165 :: ca166 :: ca167 :: ca168 :: ca169 :: ca170 :: ca171 :: ca172 :: ca173 :: ca174 :: ca175 :: ca176 :: ca177 :: ca178 :: ca179 :: ca180 :: ca181 :: ca182 :: ca183 :: ca184 ::
  ca185 :: ca186 :: ca187 :: ca188 :: ca189 :: ca190 :: ca191 :: ca192 :: ca193 :: ca194 :: ca195 :: ca196 :: ca197 :: ca198 :: ca199 :: ca200 :: ca201 :: ca202 :: ca203 :: ca204 :: ca205 :: ca206 :: ca207 :: ca208 :: ca209 ::
  ca210 :: ca211 :: ca212 :: ca213 :: ca214 :: ca215 :: ca216 :: ca217 :: ca218 :: ca219 :: ca220 :: ca221 :: ca222 :: ca223 :: ca224 :: ca225 :: ca226 :: ca227 :: ca228 :: ca229 :: ca230 :: ca231 :: ca232 :: ca233 :: ca234 ::
  ca235 :: ca236 :: ca237 :: ca238 :: ca239 :: ca240 :: ca241 :: ca242 :: ca243 :: ca244 :: ca245 :: ca246 :: ca247 :: ca248 :: ca249 :: ca250 :: ca251 :: ca252 :: ca253 :: ca254 :: ca255 :: ca256 :: ca257 :: ca258 :: ca259 ::
  ca260 :: ca261 :: ca262 :: ca263 :: ca264 :: ca265 :: ca266 :: ca267 :: ca268 :: ca269 :: ca270 :: ca271 :: ca272 :: ca273 :: ca274 :: ca275 :: ca276 :: ca277 :: ca278 :: ca279 :: ca280 :: ca281 :: ca282 :: ca283 :: ca284 ::
  ca285 :: ca286 :: []),[]⟩ w:=by
 conv=>arg 2;arg 1;whnf
 obtain ⟨i0,hi,hz0,hz1,hz2⟩:=info_parts Tryz.infoU8
 have HLL:=Lib.hid (z84 s z)
 go_loopw [5,6,7] (fun v n i wr=>∃ q:Nat,q ≤ 8 ∧ i = .int .i64 q ∧ n = .int .u64 ((N * 256 ^ q % 18446744073709551616:Nat):Int) ∧ OwnT wb.heap.size 5 .u8 v (z38 s z ++ l8 N q) wr ∧ Below wb.heap.size wb wr) (fun _ _ i _=>8 - (intOf i).toNat)
 case atStart=>exact ⟨0,by omega,rfl,by rw [Nat.pow_zero,Nat.mul_one,Nat.mod_eq_of_lt HNN.out],by rw [show l8 N 0 = [] from rfl,List.append_nil];exact HO3.out,HB3.out⟩
 case round =>
  clear HO3 HB3
  obtain ⟨q,hq,rfl,rfl,ho,hb⟩:=hrel
  obtain ⟨g3,cap3,rfl⟩:=ho.form
  have hl3:(z38 s z ++ l8 N q).length = s.length + 1 + z + q:=by rw [List.length_append,HLL.out,zc0]
  have hn:=Nat.mod_lt (N * 256 ^ q) (show 18446744073709551616 > 0 by decide)
  have hnx:l8 N (q + 1) = l8 N q ++ [N * 256 ^ q % 18446744073709551616 / 72057594037927936]:=rfl
  have hnn:N * 256 ^ (q + 1) % 18446744073709551616 = N * 256 ^ q % 18446744073709551616 * 256 % 18446744073709551616:=by
   rw [Nat.pow_succ,← Nat.mul_assoc]
   omega
  generalize N * 256 ^ q % 18446744073709551616 = n at hn hnx hnn ⊢
  have HX:=Lib.hid hnx
  have HNX:=Lib.hid hnn
  have HO3:=Lib.hid ho
  have HB3:=Lib.hid hb
  clear ho hb hnx hnn
  by_cases hlt:q < 8
  ·go_wp2_with (at_builtin;refine z2q rfl _ _ 121 rfl wb.heap.size 5 i0 (.int .u8 0) 1 .u8 Tryz.underlying121 hi hz0 hz1 hz2 rfl _ _ rfl (HO3.out.alloc _) ⟨wr.heap.size,0,none⟩ 1 (n / 72057594037927936) rfl (cell_one_new _ _ _) ?c3 ?c4 ?c5 ?_)
   case c3=>unfold maxLen;omega
   case c4=>omega
   case c5=>have:=HB3.out.size;simp;omega
   intro v4 w4 ho hgrow _
   have HB4:=Lib.hid (z6n HB3.out HB3.out.size HO3.out hgrow)
   rw [← HX.out] at ho
   have HO4:=Lib.hid ho
   clear HO3 HB3 ho hgrow
   obtain ⟨y,hy⟩:∃ y,y = n * 256 % 18446744073709551616:=⟨_,rfl⟩
   have hw:IntKind.u64.wrap ((n:Int) * 256) = (y:Int):=by simp [IntKind.wrap,IntKind.bits,IntKind.signed];omega
   have HY:=Lib.hid hy
   clear hy
   go_wp2_with fail
   exact ⟨⟨q + 1,by omega,by go_num,by rw [HNX.out,HY.out],HO4.out,HB4.out⟩,by simp [intOf];omega⟩
  ·obtain rfl:q = 8:=by omega
   rw [show ((8:Nat):Int) = 8 from rfl]
   clear hl3
   go_wp2_with fail
   exact z1y (hexit.out _ _ ⟨HO3.out,HB3.out⟩)
end Go.Proofs.YtnbldbbbibpobaaGreatDoor
