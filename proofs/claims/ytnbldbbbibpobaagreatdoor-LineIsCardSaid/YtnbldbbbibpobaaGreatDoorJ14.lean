/-
  Joined: Blocks of numbers; copying into them.; The developers' schedule: a block's words.; The rounds over a block.
-/
import Derived.Great.BuildSlice
import Derived.Laws.CopyOwn
import Derived.Laws.Rows
import Derived.Lib.BufferWrite
import Derived.Test.YtnbldbbbibpobaaGreatDoorJ13
set_option maxRecDepth 100000
set_option maxHeartbeats 4000000
namespace Go.Proofs.YtnbldbbbibpobaaGreatDoor
open Go.RowKit
theorem left_or (x k:Nat) (hx:x < 4294967296):bits BinOp.or IntKind.u32 ((x:Int) * 2 ^ (32 - k) % 4294967296) ((x:Int) / 2 ^ k) = ((z7p x k:Nat):Int):=by
 have h1:x / 2 ^ k < 4294967296:=Nat.lt_of_le_of_lt (Nat.div_le_self _ _) hx
 have h2:x * 2 ^ (32 - k) % 4294967296 < 4294967296:=Nat.mod_lt _ (by decide)
 have:=u32_or_nat (x * 2 ^ (32 - k) % 4294967296) (x / 2 ^ k) h2 h1
 unfold z7p
 rw [Nat.or_comm,← this]
 simp
theorem back_31:∀ k:Fin 32,1 ≤ k.val → bits BinOp.and IntKind.u64 (18446744073709551616 - (k.val:Int)) 31 = ((32 - k.val:Nat):Int):=by decide +kernel
theorem rotl_any (x k:Nat) (w:World) (hx:x < 4294967296) (hk1:1 ≤ k) (hk:k ≤ 31) :
 Calls Tryz.prog 165 #[.int .u32 x,.int .i64 (-(k:Int))] w fun e w'=>e = .returned (.int .u32 (z7p x k)) ∧ w = w':=by
 have h:=left_or x k hx
 have hb:=back_31 ⟨k,by omega⟩ hk1
 have hw:IntKind.u64.wrap (-(k:Int)) = 18446744073709551616 - (k:Int):=by rw [IntKind.wrap_u64];omega
 simp only at hb
 obtain ⟨j,hj⟩:∃ j,j = 32 - k:=⟨_,rfl⟩
 rw [← hj] at hb h
 have hj2:(32:Int) - (j:Int) = (k:Int):=by omega
 have b1:(j:Int) ≤ 31:=by omega
 have b2:1 ≤ (j:Int):=by omega
 clear hj
 go_enter Tryz.func165,Tryz.ntmps165
 go_wp2_with fail
 go_ret
 exact ⟨rfl,rfl⟩
theorem zkg (x k:Nat) (w:World) (hx:x < 4294967296) (hk1:1 ≤ k) (hk:k ≤ 31) :
 Calls Tryz.prog 151 #[.int .u32 x,.int .i64 k] w fun e w'=>e = .returned (.int .u32 (z7p x k)) ∧ w = w':=by
 go_enter Tryz.func151,Tryz.ntmps151
 go_wp2_with fail
 refine (rotl_any x k _ hx hk1 hk).mono ?_
 rintro e w1 ⟨rfl,rfl⟩
 go_wp2_with fail
 go_ret
 exact ⟨rfl,rfl⟩
theorem zb6 (x k:Nat) (w:World) (hx:x < 4294967296) (hk1:1 ≤ k) (hk:k ≤ 31) :
 Calls Tryz.prog 151 #[.int .u32 x,.int .i64 k] w fun e w'=>e = .returned (.int .u32 (z7p x k)) ∧ w' = w :=
 (zkg x k w hx hk1 hk).mono fun _ _ h=>⟨h.1,h.2.symm⟩
theorem z4s (x:Nat) (i:Int) (k:Nat) (w:World) (hx:x < 4294967296) (e:i = (k:Int)) (hk1:1 ≤ k) (hk:k ≤ 31) :
 Calls Tryz.prog 151 #[.int .u32 x,.int .i64 i] w fun e w'=>e = .returned (.int .u32 (z7p x k)) ∧ w' = w:=by
 subst e
 exact zb6 x k w hx hk1 hk
theorem zlb (x:Nat) (i:Int) (w:World) (hx:x < 4294967296) (h1:1 ≤ i) (h2:i ≤ 31) :
 Calls Tryz.prog 151 #[.int .u32 x,.int .i64 i] w fun e w'=>e = .returned (.int .u32 (z7p x i.toNat)) ∧ w' = w:=by
 have h:=zb6 x i.toNat w hx (by omega) (by omega)
 rwa [show ((i.toNat:Nat):Int) = i by omega] at h
theorem z4h (s:List UInt8):(z8c s).length = 32:=by simp [z8c,zeb]
theorem Tryz.infoId:(Tryz.prog.info? 25).map (fun i=>i.size) = some 32:=by kernel_rfl
theorem Tryz.infoW:(Tryz.prog.info? 195).map (fun i=>i.size) = some 64:=by kernel_rfl
theorem Tryz.infoB:(Tryz.prog.info? 163).map (fun i=>i.size) = some 64:=by kernel_rfl
theorem Tryz.infoS:(Tryz.prog.info? 161).map (fun i=>i.size) = some 8:=by kernel_rfl
theorem arrW_get (b:Nat → Nat) {j k:Nat} (h:j < k) (_hk:k ≤ 64):(z6h b k).getD j 0 = (wl b k).getD j 0:=by
 unfold z6h
 rw [List.getD_eq_getElem?_getD,List.getElem?_append_left (by rw [z6g];exact h),← List.getD_eq_getElem?_getD]
def KAt (w:World):Prop:=∀ j,j < 64 → w.cell? ⟨0,j,none⟩ = some (.int .u32 ((shaK.getD j 0:Nat):Int))
theorem KAt.lt {w:World} (h:KAt w):0 < w.heap.size:=block_lt_of_cell (h 0 (by decide))
theorem KAt.below {w w':World} (h:KAt w) (hb:Below w.heap.size w w'):KAt w':=fun j hj=>(hb.cell (p:=⟨0,j,none⟩) h.lt).trans (h j hj)
theorem KAt.but {g:Nat} {w w':World} (h:KAt w) (hb:But g w w') (hne:0 ≠ g):KAt w':=fun j hj=>(World.cell?_of_block (w:=w) (a:=⟨0,j,none⟩) (hb.block _ h.lt hne)).trans (h j hj)
def bAt (l:List Nat):Nat → Nat:=fun j=>l.getD j 0
theorem bAt_lt {l:List Nat} (h:∀ x ∈ l,x < 256) (j:Nat):bAt l j < 256:=z26 h (by decide) j
theorem word_or (a b c d:Nat) (ha:a < 256) (hb:b < 256) (hc:c < 256) (hd:d < 256) :
 bits BinOp.or IntKind.u32 (bits BinOp.or IntKind.u32 (bits BinOp.or IntKind.u32 ((a:Int) * 16777216) ((b:Int) * 65536)) ((c:Int) * 256)) (d:Int) = ((a * 16777216 + b * 65536 + c * 256 + d:Nat):Int):=by
 have e1:(a:Int) * 16777216 = ((a * 16777216:Nat):Int):=by omega
 have e2:(b:Int) * 65536 = ((b * 65536:Nat):Int):=by omega
 have e3:(c:Int) * 256 = ((c * 256:Nat):Int):=by omega
 have h1:a * 16777216 ||| b * 65536 = a * 16777216 + b * 65536:=by
  have:=Nat.two_pow_add_eq_or_of_lt (i:=24) (show b * 65536 < 2 ^ 24 by omega) a
  rw [Nat.mul_comm] at this
  exact this.symm
 have h2:(a * 16777216 + b * 65536) ||| c * 256 = a * 16777216 + b * 65536 + c * 256:=by
  have:=Nat.two_pow_add_eq_or_of_lt (i:=16) (show c * 256 < 2 ^ 16 by omega) (a * 256 + b)
  rw [show 2 ^ 16 * (a * 256 + b) = a * 16777216 + b * 65536 by omega] at this
  exact this.symm
 have h3:(a * 16777216 + b * 65536 + c * 256) ||| d = a * 16777216 + b * 65536 + c * 256 + d:=by
  have:=Nat.two_pow_add_eq_or_of_lt (i:=8) (show d < 2 ^ 8 by omega) (a * 65536 + b * 256 + c)
  rw [show 2 ^ 8 * (a * 65536 + b * 256 + c) = a * 16777216 + b * 65536 + c * 256 by omega] at this
  exact this.symm
 rw [e1,e2,e3,u32_or_nat _ _ (by omega) (by omega),h1,u32_or_nat _ _ (by omega) (by omega),h2,u32_or_nat _ _ (by omega) (by omega),h3]
def z6n (r:List UInt8):List Nat:=(z15 (r.take 64) ++ (List.replicate 64 0).drop r.length).set r.length 128
theorem z6z {r:List UInt8} (h:r.length < 64):(z6n r).length = 64:=by
 simp [z6n,z10]
 omega
theorem zhw {r:List UInt8} (h:r.length < 64) (j:Nat) (hj:j < 64):(z6n r).getD j 0 = if j < r.length then (z15 r).getD j 0 else if j = r.length then 128 else 0:=by
 unfold z6n
 rw [List.take_of_length_le (by omega),List.getD_eq_getElem?_getD,List.getElem?_set]
 by_cases h1:r.length = j
 ·subst h1
  rw [if_pos rfl,if_pos (by simp [z10];omega),if_neg (by omega),if_pos rfl]
  rfl
 ·rw [if_neg h1,if_neg (show ¬ j = r.length from fun e=>h1 e.symm)]
  by_cases h2:j < r.length
  ·rw [if_pos h2,List.getElem?_append_left (by rw [z10];exact h2),List.getD_eq_getElem?_getD]
  ·rw [if_neg h2,List.getElem?_append_right (by rw [z10];omega),List.getElem?_drop,List.getElem?_replicate]
   split <;> rfl
theorem zi0 (r:List UInt8):∀ x ∈ z6n r,x < 256:=by
 intro x hx
 rcases List.mem_or_eq_of_mem_set hx with h | rfl
 ·rcases List.mem_append.1 h with h | h
  ·exact zgi _ x h
  ·have:=List.eq_of_mem_replicate (List.mem_of_mem_drop h)
   omega
 ·decide
def z6t (l:List Nat) (N:Nat):Nat → List Nat
 | 0=>l
 | i + 1=>(z6t l N i).set (63 - i) (N / 2 ^ (8 * i) % 256)
theorem z8t (l:List Nat) (N i:Nat):(z6t l N i).length = l.length:=by
 induction i with
 | zero=>rfl
 | succ i ih=>rw [z6t,List.length_set,ih]
theorem zia (l:List Nat) (N i j:Nat) (hl:l.length = 64) (hj:j < 64) (hi:i ≤ 8):(z6t l N i).getD j 0 = if 63 - j < i then N / 2 ^ (8 * (63 - j)) % 256 else l.getD j 0:=by
 induction i with
 | zero=>rfl
 | succ i ih =>
   rw [z6t,List.getD_eq_getElem?_getD,List.getElem?_set,z8t,hl]
   by_cases h:63 - i = j
   ·subst h
    rw [if_pos rfl,if_pos (by omega),if_pos (by omega),show 63 - (63 - i) = i by omega]
    rfl
   ·rw [if_neg h,← List.getD_eq_getElem?_getD,ih (by omega)]
    by_cases h2:63 - j < i
    ·rw [if_pos h2,if_pos (by omega)]
    ·rw [if_neg h2,if_neg (by omega)]
theorem zib {l:List Nat} (h:∀ x ∈ l,x < 256) (N i:Nat):∀ x ∈ z6t l N i,x < 256:=by
 induction i with
 | zero=>exact h
 | succ i ih =>
   intro x hx
   rcases List.mem_or_eq_of_mem_set hx with h | rfl
   ·exact ih x h
   ·exact Nat.mod_lt _ (by decide)
theorem wl_congr {b c:Nat → Nat} (h:∀ j,j < 64 → b j = c j):∀ i,wl b i = wl c i:=by
 intro i
 induction i with
 | zero=>rfl
 | succ i ih =>
   by_cases hi:i < 16
   ·rw [zh1 hi,zh1 hi,ih]
    unfold zaz
    rw [h _ (by omega),h _ (by omega),h _ (by omega),h _ (by omega)]
   ·rw [zhk hi,zhk hi,ih]
theorem z67 (v:S8) {b c:Nat → Nat} (h:∀ j,j < 64 → b j = c j):block v b = block v c:=by
 show addS v (rl v (wl b 64) 64) = addS v (rl v (wl c 64) 64)
 rw [wl_congr h 64]
theorem block_ok (v:S8) (b:Nat → Nat):(block v b).Ok:=zlp _ _
theorem zfe (bb:Nat) (t:TypeId) (bl:List Nat) (w:World) (hlen:bl.length = 64) (hbl:∀ x ∈ bl,x < 256) (hc:Blk bb t .u8 bl w) :
 Calls Tryz.prog 150 #[.pointer (some ⟨bb,0,none⟩)] w fun e w'=>e = .returned (.agg (z07 .u32 (wl (bAt bl) 64)).toArray) ∧ Below w.heap.size w w':=by
 have HC:=Lib.hid hc
 have HBY:=Lib.hid (bAt_lt hbl)
 have HL:=Lib.hid hlen
 clear hlen hbl hc
 go_enter Tryz.func150,Tryz.ntmps150
 go_wp2_with fail
 go_loopw [10] (fun i wq=>∃ k:Nat,k ≤ 16 ∧ i = .int .i64 k ∧ Blk (w.heap.size + 1) 195 .u32 (z6h (bAt bl) k) wq ∧ Blk w.heap.size 195 .u32 (List.replicate 64 0) wq ∧ Below w.heap.size w wq) (fun i _=>16 - (intOf i).toNat)
 case atStart=>
  refine ⟨0,by omega,rfl,?_,?_,((Below.refl _ w).alloc (Nat.le_refl _) _).alloc (by simp) _⟩
  ·have h:=heap_alloc_new (w.alloc (.cells (z07 .u32 (List.replicate 64 0)).toArray 195)) (.cells (z07 .u32 (List.replicate 64 0)).toArray 195)
   rw [World.size_alloc] at h
   exact h
  ·exact Blk.alloc (show Blk w.heap.size 195 .u32 (List.replicate 64 0) (w.alloc (.cells (z07 .u32 (List.replicate 64 0)).toArray 195)) from heap_alloc_new w _) _
 case round =>
  obtain ⟨k,hk,rfl,hw,hr,hb⟩:=hrel
  have HW:=Lib.hid hw
  have HR:=Lib.hid hr
  have HB:=Lib.hid hb
  clear hw hr hb
  by_cases hlk:k < 16
  ·have hC:=HC.out.below HB.out
   have c0:=hC.cell (4 * k) (by rw [HL.out];omega)
   have c1:=hC.cell (4 * k + 1) (by rw [HL.out];omega)
   have c2:=hC.cell (4 * k + 2) (by rw [HL.out];omega)
   have c3:=hC.cell (4 * k + 3) (by rw [HL.out];omega)
   have x0:=HBY.out (4 * k)
   have x1:=HBY.out (4 * k + 1)
   have x2:=HBY.out (4 * k + 2)
   have x3:=HBY.out (4 * k + 3)
   have HX:=Lib.hid (show zaz (bAt bl) k = bAt bl (4 * k) * 16777216 + bAt bl (4 * k + 1) * 65536 + bAt bl (4 * k + 2) * 256 + bAt bl (4 * k + 3) from rfl)
   change wr.cell? _ = some (.int .u8 ((bAt bl (4 * k):Nat):Int)) at c0
   change wr.cell? _ = some (.int .u8 ((bAt bl (4 * k + 1):Nat):Int)) at c1
   change wr.cell? _ = some (.int .u8 ((bAt bl (4 * k + 2):Nat):Int)) at c2
   change wr.cell? _ = some (.int .u8 ((bAt bl (4 * k + 3):Nat):Int)) at c3
   generalize bAt bl (4 * k) = b0 at c0 x0 HX
   generalize bAt bl (4 * k + 1) = b1 at c1 x1 HX
   generalize bAt bl (4 * k + 2) = b2 at c2 x2 HX
   generalize bAt bl (4 * k + 3) = b3 at c3 x3 HX
   have hal:=z8s (bAt bl) (show k ≤ 64 by omega)
   have c4:=HW.out.cell k (by omega)
   have hf:=HW.out.frozen k
   have HS:=Lib.hid (HW.out.set k (zaz (bAt bl) k))
   rw [zev hlk] at HS
   generalize (z6h (bAt bl) k).getD k 0 = y at c4
   clear hC hal
   have HV:=Lib.hid (word_or b0 b1 b2 b3 x0 x1 x2 x3)
   rw [← HX.out] at HV
   obtain ⟨j0,h0⟩:∃ j,j = 4 * k:=⟨_,rfl⟩
   obtain ⟨j1,h1⟩:∃ j,j = 4 * k + 1:=⟨_,rfl⟩
   obtain ⟨j2,h2⟩:∃ j,j = 4 * k + 2:=⟨_,rfl⟩
   obtain ⟨j3,h3⟩:∃ j,j = 4 * k + 3:=⟨_,rfl⟩
   rw [← h0] at c0
   rw [← h1] at c1
   rw [← h2] at c2
   rw [← h3] at c3
   have s0:IntKind.i64.wrap (j0:Int) = (j0:Int):=by rw [IntKind.wrap_i64];omega
   have s1:IntKind.i64.wrap (j1:Int) = (j1:Int):=by rw [IntKind.wrap_i64];omega
   have s2:IntKind.i64.wrap (j2:Int) = (j2:Int):=by rw [IntKind.wrap_i64];omega
   have s3:IntKind.i64.wrap (j3:Int) = (j3:Int):=by rw [IntKind.wrap_i64];omega
   have n0:4 * (k:Int) = (j0:Int):=by omega
   have n1:(j0:Int) + 1 = (j1:Int):=by omega
   have n2:(j0:Int) + 2 = (j2:Int):=by omega
   have n3:(j0:Int) + 3 = (j3:Int):=by omega
   have l0:(j0:Int) < 64:=by omega
   have l1:(j1:Int) < 64:=by omega
   have l2:(j2:Int) < 64:=by omega
   have l3:(j3:Int) < 64:=by omega
   clear h0 h1 h2 h3
   have l4:(k:Int) < 64:=by omega
   go_wp2_with fail
   obtain ⟨w9,hw9⟩:∃ x,x = wr.drew:=⟨_,rfl⟩
   refine wp_region_still_tail 39 (by kernel_rfl) (by kernel_rfl) ?_
   simp only [zC,zD,zE,zF]
   change wpStill _ _ wr.drew (fun a'=>wpList _ _ _ _ a' wr.drew) _ _
   rw [← hw9]
   replace c0:w9.cell? ⟨bb,j0,none⟩ = some (.int .u8 (b0:Int)):=by rw [hw9];exact c0
   replace c1:w9.cell? ⟨bb,j1,none⟩ = some (.int .u8 (b1:Int)):=by rw [hw9];exact c1
   replace c2:w9.cell? ⟨bb,j2,none⟩ = some (.int .u8 (b2:Int)):=by rw [hw9];exact c2
   replace c3:w9.cell? ⟨bb,j3,none⟩ = some (.int .u8 (b3:Int)):=by rw [hw9];exact c3
   replace c4:w9.cell? ⟨w.heap.size + 1,k,none⟩ = some (.int .u32 (y:Int)):=by rw [hw9];exact c4
   replace hf:w9.frozen? ⟨w.heap.size + 1,k,none⟩ = false:=by rw [hw9];exact hf
   have HS9:=Lib.hid (show Blk (w.heap.size + 1) 195 .u32 (z6h (bAt bl) (k + 1)) (w9.setCell ⟨w.heap.size + 1,k,none⟩ (.int .u32 ((zaz (bAt bl) k:Nat):Int))) by rw [hw9];exact HS.out)
   have HR9:=Lib.hid (show Blk w.heap.size 195 .u32 (List.replicate 64 0) w9 by rw [hw9];exact HR.out)
   have HB9:=Lib.hid (show Below w.heap.size w w9 by rw [hw9];exact HB.out.drew)
   clear hw9 HS HR HB HW
   repeat still_step
   refine wpStill_nil ?_
   go_wp2_with fail
   rw [HV.out]
   exact ⟨⟨k + 1,by omega,by go_num,HS9.out,HR9.out.but ((But.refl _ _).setCell _ _) (by omega),HB9.out.setCell (by simp) _⟩,by simp [intOf];omega⟩
  ·obtain rfl:k = 16:=by omega
   rw [show ((16:Nat):Int) = 16 from rfl]
   go_wp2_with fail
   go_loopw [5] (fun i wq=>∃ k:Nat,16 ≤ k ∧ k ≤ 64 ∧ i = .int .i64 k ∧ Blk (w.heap.size + 1) 195 .u32 (z6h (bAt bl) k) wq ∧ Blk w.heap.size 195 .u32 (List.replicate 64 0) wq ∧ Below w.heap.size w wq) (fun i _=>64 - (intOf i).toNat)
   case atStart=>exact ⟨16,by omega,by omega,rfl,HW.out,HR.out,HB.out⟩
   case round =>
    clear HW HR HB
    obtain ⟨k,hk16,hk,rfl,hw,hr,hb⟩:=hrel
    have HW:=Lib.hid hw
    have HR:=Lib.hid hr
    have HB:=Lib.hid hb
    clear hw hr hb
    by_cases hlk:k < 64
    ·have hwl:=wl_lt HBY.out k
     have hal:=z8s (bAt bl) hk
     obtain ⟨j16,hj16⟩:∃ j,j = k - 16:=⟨_,rfl⟩
     obtain ⟨j7,hj7⟩:∃ j,j = k - 7:=⟨_,rfl⟩
     obtain ⟨j15,hj15⟩:∃ j,j = k - 15:=⟨_,rfl⟩
     obtain ⟨j2,hj2⟩:∃ j,j = k - 2:=⟨_,rfl⟩
     have a16:=HW.out.cell j16 (by omega)
     have a7:=HW.out.cell j7 (by omega)
     have a15:=HW.out.cell j15 (by omega)
     have a2:=HW.out.cell j2 (by omega)
     rw [arrW_get _ (by omega) hk] at a16 a7 a15 a2
     have x15:=z26 hwl (by decide) j15
     have x2:=z26 hwl (by decide) j2
     have x16:=z26 hwl (by decide) j16
     have x7:=z26 hwl (by decide) j7
     have hnx:zg2 (wl (bAt bl) k) k = ((wl (bAt bl) k).getD (k - 16) 0 + (wl (bAt bl) k).getD (k - 7) 0 + s0 ((wl (bAt bl) k).getD (k - 15) 0) + s1 ((wl (bAt bl) k).getD (k - 2) 0)) % 4294967296:=rfl
     rw [← hj16,← hj7,← hj15,← hj2] at hnx
     generalize (wl (bAt bl) k).getD j16 0 = y16 at a16 x16 hnx
     generalize (wl (bAt bl) k).getD j7 0 = y7 at a7 x7 hnx
     generalize (wl (bAt bl) k).getD j15 0 = y15 at a15 x15 hnx
     generalize (wl (bAt bl) k).getD j2 0 = y2 at a2 x2 hnx
     have HNX:=Lib.hid hnx
     have ak:=HW.out.cell k (by omega)
     have hf:=HW.out.frozen k
     have HS:=Lib.hid (HW.out.set k (zg2 (wl (bAt bl) k) k))
     rw [zey (by omega) hlk] at HS
     generalize (z6h (bAt bl) k).getD k 0 = y at ak
     have e16:IntKind.i64.wrap ((k:Int) - 16) = (j16:Int):=by rw [IntKind.wrap_i64];omega
     have e7:IntKind.i64.wrap ((k:Int) - 7) = (j7:Int):=by rw [IntKind.wrap_i64];omega
     have e15:IntKind.i64.wrap ((k:Int) - 15) = (j15:Int):=by rw [IntKind.wrap_i64];omega
     have e2:IntKind.i64.wrap ((k:Int) - 2) = (j2:Int):=by rw [IntKind.wrap_i64];omega
     have d16:(k:Int) - 16 = (j16:Int):=by omega
     have d7:(k:Int) - 7 = (j7:Int):=by omega
     have d15:(k:Int) - 15 = (j15:Int):=by omega
     have d2:(k:Int) - 2 = (j2:Int):=by omega
     have q16:IntKind.i64.wrap (j16:Int) = (j16:Int):=by rw [IntKind.wrap_i64];omega
     have q7:IntKind.i64.wrap (j7:Int) = (j7:Int):=by rw [IntKind.wrap_i64];omega
     have q15:IntKind.i64.wrap (j15:Int) = (j15:Int):=by rw [IntKind.wrap_i64];omega
     have q2:IntKind.i64.wrap (j2:Int) = (j2:Int):=by rw [IntKind.wrap_i64];omega
     have b16:(j16:Int) < 64:=by omega
     have b7:(j7:Int) < 64:=by omega
     have b15:(j15:Int) < 64:=by omega
     have b2:(j2:Int) < 64:=by omega
     have bk:(k:Int) < 64:=by omega
     clear hwl hal hnx hj16 hj7 hj15 hj2
     go_wp2_with fail
     go_quiet (fail)
     go_wp2_with fail
     refine (z4s y15 _ 7 _ x15 rfl (by decide) (by decide)).mono ?_
     rintro e w5 ⟨rfl,rfl⟩
     go_wp2_with fail
     refine (z4s y15 _ 18 _ x15 rfl (by decide) (by decide)).mono ?_
     rintro e w5 ⟨rfl,rfl⟩
     go_wp2_with fail
     refine (z4s y2 _ 17 _ x2 rfl (by decide) (by decide)).mono ?_
     rintro e w5 ⟨rfl,rfl⟩
     go_wp2_with fail
     refine (z4s y2 _ 19 _ x2 rfl (by decide) (by decide)).mono ?_
     rintro e w5 ⟨rfl,rfl⟩
     go_wp2_with fail
     obtain ⟨w9,hw9⟩:∃ x,x = (wr.drewN nq).drew:=⟨_,rfl⟩
     refine wp_region_still_tail 15 (by kernel_rfl) (by kernel_rfl) ?_
     simp only [zC,zD,zE,zF]
     change wpStill _ _ (wr.drewN nq).drew (fun a'=>wpList _ _ _ _ a' (wr.drewN nq).drew) _ _
     rw [← hw9]
     replace a16:w9.cell? ⟨w.heap.size + 1,j16,none⟩ = some (.int .u32 (y16:Int)):=by rw [hw9];exact a16
     replace a7:w9.cell? ⟨w.heap.size + 1,j7,none⟩ = some (.int .u32 (y7:Int)):=by rw [hw9];exact a7
     replace ak:w9.cell? ⟨w.heap.size + 1,k,none⟩ = some (.int .u32 (y:Int)):=by rw [hw9];exact ak
     replace hf:w9.frozen? ⟨w.heap.size + 1,k,none⟩ = false:=by rw [hw9];exact hf
     have HS9:=Lib.hid (show Blk (w.heap.size + 1) 195 .u32 (z6h (bAt bl) (k + 1)) (w9.setCell ⟨w.heap.size + 1,k,none⟩ (.int .u32 ((zg2 (wl (bAt bl) k) k:Nat):Int))) by rw [hw9];exact HS.out)
     have HR9:=Lib.hid (show Blk w.heap.size 195 .u32 (List.replicate 64 0) w9 by rw [hw9];exact HR.out)
     have HB9:=Lib.hid (show Below w.heap.size w w9 by rw [hw9];exact z0q HB.out (nq + 1))
     clear hw9 HS HR HB HW a15 a2
     repeat still_step
     refine wpStill_nil ?_
     go_wp2_with fail
     have hv:=w_int y16 y7 y15 y2 x15 x2 (by omega) (by omega)
     rw [← HNX.out,show ((y15 / 8:Nat):Int) = (y15:Int) / 8 by omega,show ((y2 / 1024:Nat):Int) = (y2:Int) / 1024 by omega] at hv
     rw [hv]
     exact ⟨⟨k + 1,by omega,by omega,by go_num,HS9.out,HR9.out.but ((But.refl _ _).setCell _ _) (by omega),HB9.out.setCell (by simp) _⟩,by simp [intOf];omega⟩
    ·obtain rfl:k = 64:=by omega
     rw [show ((64:Nat):Int) = 64 from rfl]
     rw [zej] at HW
     have HI:=Lib.hid (show (Tryz.prog.info? 195).map (·.size) = some (z07 .u32 (wl (bAt bl) 64)).toArray.size by rw [z19,z6g];exact Tryz.infoW)
     have HL2:=Lib.hid (show (z07 .u32 (List.replicate 64 0)).toArray.size = (z07 .u32 (wl (bAt bl) 64)).toArray.size by rw [z19,z19,z6g,List.length_replicate])
     go_wp2_with (first | (refine wpList_load_row rfl 195 _ rfl (w.heap.size + 1) rfl 195 _ _ _ HW.out Tryz.underlying195 rfl HI.out ?_) | (refine wpList_store_rowTo rfl 195 _ _ rfl rfl w.heap.size (z07 .u32 (wl (bAt bl) 64)).toArray rfl rfl 195 _ HR.out HI.out HL2.out (z8j _ _) ?_))
     exact bodyPost_ret (results_cell_row rfl _ _ w.heap.size 195 _ (0,0) _ rfl (setRow_heap _ _ _ _ _ _ HR.out) Tryz.underlying195 rfl HI.out) rfl ⟨rfl,below_setRow HB.out (Nat.le_refl _) _⟩
theorem zls {q0 q1 q2 q3 q4 q5 q6 q7 wb:Nat} {t:TypeId} {Wl:List Nat} {w:World}
 {ca0 ca1 ca2 ca3 ub13 ub14 ub15 ca16 ca17 ca18 ca19 ca20 ca21 ca22 ca23 ca24 ca25 ca26 ca27 ca28 ca29 ca30 ca31 ca32 ca33 ca34 ca35 ca36 ca37 ca38
 ca39 ca40 ca41 ca42 ca43 ca44 ca45 ca46 ca47 ca48 ca49 ca50 ca51 ub53 ub54 ub55 ub56 ub57 ub58 ub59 ub60 ub61 ub62 ub63 ub64 ub65 ub66 ub67 ub68 ub69
 ub70 ub71 ub72 ub73 ub74 ub75 ub76 ub77 ub78 ub79 ub80 ub81 ub82 ub83 ub84 ub85 ub86 ub87 ub88 ub89 ub90 ub91 ub92 ub93 ub94 ub95 ub96 ub97 ub98 ub99
 ub100 ub101 ub102 ub103 ub104 ub105 ub106 ub107 ub108 ub109 ub110 ub111 ub112 ub113 ub114 ca115 ca116 ca117 ca118 ca119 ca120 ca121 ca122 ca123 ca124 ca125 ca126 ca127 ca128 ca129
 ca130 ca131 ca132 ca133 ca134 ca135 ca136 ca137:Value}
 (HOK:Hid (S8.Ok ⟨q0,q1,q2,q3,q4,q5,q6,q7⟩)) (HWl:Hid (∀ x ∈ Wl,x < 4294967296)) (HWL:Hid (Wl.length = 64)) (HW:Hid (Blk wb t .u32 Wl w)) (HK:Hid (KAt w))
 (R:Act → World → Prop)
 (hexit:Hid (∀ (p0 p1 p2 p3 p4 p5 p6 p7:Nat) (w1:World),rl ⟨q0,q1,q2,q3,q4,q5,q6,q7⟩ Wl 64 = ⟨p0,p1,p2,p3,p4,p5,p6,p7⟩ ∧ Below w.heap.size w w1 → ∀ {vb13 vb14 vb15 vb52 vb53 vb54 vb55 vb56 vb57 vb58 vb59 vb60 vb61 vb62 vb63 vb64 vb65 vb66 vb67 vb68 vb69 vb70 vb71 vb72 vb73 vb74 vb75 vb76 vb77 vb78
 vb79 vb80 vb81 vb82 vb83 vb84 vb85 vb86 vb87 vb88 vb89 vb90 vb91 vb92 vb93 vb94 vb95 vb96 vb97 vb98 vb99 vb100 vb101 vb102 vb103 vb104 vb105 vb106 vb107 vb108
 vb109 vb110 vb111 vb112 vb113 vb114:Value},
  R ⟨List.toArray (ca0 :: ca1 :: ca2 :: ca3 :: .pointer (some ⟨wb,0,none⟩) :: .int .u32 (p0:Int) :: .int .u32 (p1:Int) :: .int .u32 (p2:Int) :: .int .u32 (p3:Int) :: .int .u32 (p4:Int) :: .int .u32 (p5:Int) :: .int .u32 (p6:Int) ::
  .int .u32 (p7:Int) :: vb13 :: vb14 :: vb15 :: ca16 :: ca17 :: ca18 :: ca19 :: ca20 :: ca21 :: ca22 :: ca23 :: ca24 :: ca25 :: ca26 :: ca27 :: ca28 :: ca29 :: ca30 :: ca31 :: ca32 :: ca33 :: ca34 :: ca35 :: ca36 :: ca37 ::
  ca38 :: ca39 :: ca40 :: ca41 :: ca42 :: ca43 :: ca44 :: ca45 :: ca46 :: ca47 :: ca48 :: ca49 :: ca50 :: ca51 :: vb52 :: vb53 :: vb54 :: vb55 :: vb56 :: vb57 :: vb58 :: vb59 :: vb60 :: vb61 :: vb62 :: vb63 :: vb64 :: vb65 ::
  vb66 :: vb67 :: vb68 :: vb69 :: vb70 :: vb71 :: vb72 :: vb73 :: vb74 :: vb75 :: vb76 :: vb77 :: vb78 :: vb79 :: vb80 :: vb81 :: vb82 :: vb83 :: vb84 :: vb85 :: vb86 :: vb87 :: vb88 :: vb89 :: vb90 :: vb91 :: vb92 :: vb93 ::
  vb94 :: vb95 :: vb96 :: vb97 :: vb98 :: vb99 :: vb100 :: vb101 :: vb102 :: vb103 :: vb104 :: vb105 :: vb106 :: vb107 :: vb108 :: vb109 :: vb110 :: vb111 :: vb112 :: vb113 :: vb114 :: ca115 :: ca116 :: ca117 :: ca118 :: ca119 ::
  ca120 :: ca121 :: ca122 :: ca123 :: ca124 :: ca125 :: ca126 :: ca127 :: ca128 :: ca129 :: ca130 :: ca131 :: ca132 :: ca133 :: ca134 :: ca135 :: ca136 :: ca137 :: []),[]⟩ w1)) :
 Code.wp Tryz.prog (Code.loop (z6c Tryz.f126 0)) (Ends 0 R) ⟨List.toArray (ca0 :: ca1 :: ca2 :: ca3 :: .pointer (some ⟨wb,0,none⟩) :: .int .u32 (q0:Int) :: .int .u32 (q1:Int) :: .int .u32 (q2:Int) :: .int .u32 (q3:Int) :: .int .u32 (q4:Int) :: .int .u32 (q5:Int) :: .int .u32 (q6:Int) ::
  .int .u32 (q7:Int) :: ub13 :: ub14 :: ub15 :: ca16 :: ca17 :: ca18 :: ca19 :: ca20 :: ca21 :: ca22 :: ca23 :: ca24 :: ca25 :: ca26 :: ca27 :: ca28 :: ca29 :: ca30 :: ca31 :: ca32 :: ca33 :: ca34 :: ca35 :: ca36 :: ca37 ::
  ca38 :: ca39 :: ca40 :: ca41 :: ca42 :: ca43 :: ca44 :: ca45 :: ca46 :: ca47 :: ca48 :: ca49 :: ca50 :: ca51 :: .int .i64 0 :: ub53 :: ub54 :: ub55 :: ub56 :: ub57 :: ub58 :: ub59 :: ub60 :: ub61 :: ub62 :: ub63 :: ub64 ::
  ub65 :: ub66 :: ub67 :: ub68 :: ub69 :: ub70 :: ub71 :: ub72 :: ub73 :: ub74 :: ub75 :: ub76 :: ub77 :: ub78 :: ub79 :: ub80 :: ub81 :: ub82 :: ub83 :: ub84 :: ub85 :: ub86 :: ub87 :: ub88 :: ub89 :: ub90 :: ub91 :: ub92 ::
  ub93 :: ub94 :: ub95 :: ub96 :: ub97 :: ub98 :: ub99 :: ub100 :: ub101 :: ub102 :: ub103 :: ub104 :: ub105 :: ub106 :: ub107 :: ub108 :: ub109 :: ub110 :: ub111 :: ub112 :: ub113 :: ub114 :: ca115 :: ca116 :: ca117 :: ca118 ::
  ca119 :: ca120 :: ca121 :: ca122 :: ca123 :: ca124 :: ca125 :: ca126 :: ca127 :: ca128 :: ca129 :: ca130 :: ca131 :: ca132 :: ca133 :: ca134 :: ca135 :: ca136 :: ca137 :: []),[]⟩ w:=by
 conv=>arg 2;arg 1;whnf
 go_loopw [5,6,7,8,9,10,11,12,52] (fun s0 s1 s2 s3 s4 s5 s6 s7 i wq=>∃ k p0 p1 p2 p3 p4 p5 p6 p7:Nat,k ≤ 64 ∧ i = .int .i64 k ∧ rl ⟨q0,q1,q2,q3,q4,q5,q6,q7⟩ Wl k = ⟨p0,p1,p2,p3,p4,p5,p6,p7⟩ ∧ Below w.heap.size w wq ∧ s0 = .int .u32 (p0:Int) ∧ s1 = .int .u32 (p1:Int) ∧ s2 = .int .u32 (p2:Int) ∧ s3 = .int .u32 (p3:Int) ∧ s4 = .int .u32 (p4:Int) ∧ s5 = .int .u32 (p5:Int) ∧ s6 = .int .u32 (p6:Int) ∧ s7 = .int .u32 (p7:Int)) (fun _ _ _ _ _ _ _ _ i _=>64 - (intOf i).toNat)
 case atStart=>exact ⟨0,q0,q1,q2,q3,q4,q5,q6,q7,by omega,rfl,rfl,Below.refl _ _,rfl,rfl,rfl,rfl,rfl,rfl,rfl,rfl⟩
 case round =>
  obtain ⟨k,p0,p1,p2,p3,p4,p5,p6,p7,hk,rfl,hr,hb,rfl,rfl,rfl,rfl,rfl,rfl,rfl,rfl⟩:=hrel
  have hok:=rl_ok HOK.out Wl k
  rw [hr] at hok
  have HR:=Lib.hid hr
  have HB:=Lib.hid hb
  clear hr hb
  by_cases hlk:k < 64
  ·have cK:=HK.out.below HB.out k hlk
   have cW:=(HW.out.below HB.out).cell k (by rw [HWL.out];exact hlk)
   have xK:=z26 zkx (by decide) k
   have xW:=z26 HWl.out (by decide) k
   have HX:=Lib.hid (show rl ⟨q0,q1,q2,q3,q4,q5,q6,q7⟩ Wl (k + 1) = rnd (rl ⟨q0,q1,q2,q3,q4,q5,q6,q7⟩ Wl k) (shaK.getD k 0) (Wl.getD k 0) from rfl)
   rw [HR.out] at HX
   generalize shaK.getD k 0 = kk at cK xK HX
   generalize Wl.getD k 0 = ww at cW xW HX
   obtain ⟨b0,b1,b2,b3,b4,b5,b6,b7⟩:=hok
   simp only at b0 b1 b2 b3 b4 b5 b6 b7
   have bk:(k:Int) < 64:=by omega
   go_wp2_with fail
   go_quiet (first | (go_at_call 151;refine Calls.quiet_of_same (zlb _ _ _ (by assumption) (by decide) (by decide))))
   go_wp2_with fail
   rw [t_int p0 p1 p2 p3 p4 p5 p6 p7 kk ww b4 b5 b6]
   have HT:=Lib.hid (show rnd ⟨p0,p1,p2,p3,p4,p5,p6,p7⟩ kk ww = ⟨(tN ⟨p0,p1,p2,p3,p4,p5,p6,p7⟩ kk ww + uN ⟨p0,p1,p2,p3,p4,p5,p6,p7⟩) % 4294967296,p0,p1,p2,(p3 + tN ⟨p0,p1,p2,p3,p4,p5,p6,p7⟩ kk ww) % 4294967296,p4,p5,p6⟩ from rfl)
   rw [HT.out] at HX
   have ht:=tN_lt ⟨p0,p1,p2,p3,p4,p5,p6,p7⟩ kk ww
   have hu:=uN_lt ⟨p0,p1,p2,p3,p4,p5,p6,p7⟩
   have HU:=Lib.hid (u_int p0 p1 p2 p3 p4 p5 p6 p7 b0 b1 b2)
   clear HT
   generalize tN ⟨p0,p1,p2,p3,p4,p5,p6,p7⟩ kk ww = tt at ht HX ⊢
   generalize uN ⟨p0,p1,p2,p3,p4,p5,p6,p7⟩ = uu at hu HX HU
   refine (z4s p0 _ 2 _ b0 rfl (by decide) (by decide)).mono ?_
   rintro e w5 ⟨rfl,rfl⟩
   go_wp2_with fail
   refine (z4s p0 _ 13 _ b0 rfl (by decide) (by decide)).mono ?_
   rintro e w5 ⟨rfl,rfl⟩
   go_wp2_with fail
   refine (z4s p0 _ 22 _ b0 rfl (by decide) (by decide)).mono ?_
   rintro e w5 ⟨rfl,rfl⟩
   go_wp2_with fail
   rw [HU.out]
   exact ⟨⟨k + 1,(tt + uu) % 4294967296,p0,p1,p2,(p3 + tt) % 4294967296,p4,p5,p6,by omega,by go_num,HX.out,z0q HB.out nq,
    by rw [show (((tt + uu) % 4294967296:Nat):Int) = ((tt:Int) + (uu:Int)) % 4294967296 by omega],rfl,rfl,rfl,
    by rw [show (((p3 + tt) % 4294967296:Nat):Int) = ((p3:Int) + (tt:Int)) % 4294967296 by omega],rfl,rfl,rfl⟩,by simp [intOf];omega⟩
  ·obtain rfl:k = 64:=by omega
   rw [show ((64:Nat):Int) = 64 from rfl]
   go_wp2_with fail
   exact z29 (hexit.out _ _ _ _ _ _ _ _ _ ⟨HR.out,HB.out⟩)
theorem zkb {bs:Nat} {t:TypeId} {h0 vv:S8} {w:World}
 {ca1 ca2 ca3 ca4 ca5 ca6 ca7 ca8 ca9 ca10 ca11 ca12 ca13 ca14 ca15 ub16 ub17 ca18 ca19 ca20 ca21 ca22 ca23 ca24 ca25 ca26 ca27 ca28 ca29 ca30
 ca31 ca32 ca33 ca34 ca35 ca36 ca37 ca38 ca39 ca40 ca41 ca42 ca43 ca44 ca45 ca46 ca47 ca48 ca49 ca50 ca51 ca52 ca53 ca54 ca55 ca56 ca57 ca58 ca59 ca60
 ca61 ca62 ca63 ca64 ca65 ca66 ca67 ca68 ca69 ca70 ca71 ca72 ca73 ca74 ca75 ca76 ca77 ca78 ca79 ca80 ca81 ca82 ca83 ca84 ca85 ca86 ca87 ca88 ca89 ca90
 ca91 ca92 ca93 ca94 ca95 ca96 ca97 ca98 ca99 ca100 ca101 ca102 ca103 ca104 ca105 ca106 ca107 ca108 ca109 ca110 ca111 ca112 ca113 ca114 ca115 ca116 ca117 ca118 ca119 ca120
 ca121 ca122 ub125 ub126 ub127 ub128 ub129 ub130 ub131 ub132 ub133 ub134 ub135 ub136 ub137:Value}
 (HOH:Hid h0.Ok) (HOV:Hid vv.Ok) (HH:Hid (Blk bs t .u32 h0.list w))
 (R:Act → World → Prop)
 (hexit:Hid (∀  (w1:World),Blk bs t .u32 (addS h0 vv).list w1 ∧ But bs w w1 → ∀ {vb16 vb17 vb124 vb125 vb126 vb127 vb128 vb129 vb130 vb131 vb132 vb133 vb134 vb135 vb136 vb137:Value},
  R ⟨List.toArray (.pointer (some ⟨bs,0,none⟩) :: ca1 :: ca2 :: ca3 :: ca4 :: ca5 :: ca6 :: ca7 :: ca8 :: ca9 :: ca10 :: ca11 :: ca12 :: ca13 :: ca14 :: ca15 :: vb16 :: vb17 :: ca18 :: ca19 :: ca20 :: ca21 :: ca22 :: ca23 :: ca24 :: ca25 ::
  ca26 :: ca27 :: ca28 :: ca29 :: ca30 :: ca31 :: ca32 :: ca33 :: ca34 :: ca35 :: ca36 :: ca37 :: ca38 :: ca39 :: ca40 :: ca41 :: ca42 :: ca43 :: ca44 :: ca45 :: ca46 :: ca47 :: ca48 :: ca49 :: ca50 :: ca51 :: ca52 :: ca53 ::
  ca54 :: ca55 :: ca56 :: ca57 :: ca58 :: ca59 :: ca60 :: ca61 :: ca62 :: ca63 :: ca64 :: ca65 :: ca66 :: ca67 :: ca68 :: ca69 :: ca70 :: ca71 :: ca72 :: ca73 :: ca74 :: ca75 :: ca76 :: ca77 :: ca78 :: ca79 :: ca80 :: ca81 ::
  ca82 :: ca83 :: ca84 :: ca85 :: ca86 :: ca87 :: ca88 :: ca89 :: ca90 :: ca91 :: ca92 :: ca93 :: ca94 :: ca95 :: ca96 :: ca97 :: ca98 :: ca99 :: ca100 :: ca101 :: ca102 :: ca103 :: ca104 :: ca105 :: ca106 :: ca107 :: ca108 ::
  ca109 :: ca110 :: ca111 :: ca112 :: ca113 :: ca114 :: ca115 :: ca116 :: ca117 :: ca118 :: ca119 :: ca120 :: ca121 :: ca122 :: .agg (z07 .u32 vv.list).toArray :: vb124 :: vb125 :: vb126 :: vb127 :: vb128 :: vb129 :: vb130 ::
  vb131 :: vb132 :: vb133 :: vb134 :: vb135 :: vb136 :: vb137 :: []),[]⟩ w1)) :
 Code.wp Tryz.prog (Code.loop (z6c Tryz.f126 1)) (Ends 2 R) ⟨List.toArray (.pointer (some ⟨bs,0,none⟩) :: ca1 :: ca2 :: ca3 :: ca4 :: ca5 :: ca6 :: ca7 :: ca8 :: ca9 :: ca10 :: ca11 :: ca12 :: ca13 :: ca14 :: ca15 :: ub16 :: ub17 :: ca18 :: ca19 :: ca20 :: ca21 :: ca22 :: ca23 :: ca24 :: ca25 ::
  ca26 :: ca27 :: ca28 :: ca29 :: ca30 :: ca31 :: ca32 :: ca33 :: ca34 :: ca35 :: ca36 :: ca37 :: ca38 :: ca39 :: ca40 :: ca41 :: ca42 :: ca43 :: ca44 :: ca45 :: ca46 :: ca47 :: ca48 :: ca49 :: ca50 :: ca51 :: ca52 :: ca53 ::
  ca54 :: ca55 :: ca56 :: ca57 :: ca58 :: ca59 :: ca60 :: ca61 :: ca62 :: ca63 :: ca64 :: ca65 :: ca66 :: ca67 :: ca68 :: ca69 :: ca70 :: ca71 :: ca72 :: ca73 :: ca74 :: ca75 :: ca76 :: ca77 :: ca78 :: ca79 :: ca80 :: ca81 ::
  ca82 :: ca83 :: ca84 :: ca85 :: ca86 :: ca87 :: ca88 :: ca89 :: ca90 :: ca91 :: ca92 :: ca93 :: ca94 :: ca95 :: ca96 :: ca97 :: ca98 :: ca99 :: ca100 :: ca101 :: ca102 :: ca103 :: ca104 :: ca105 :: ca106 :: ca107 :: ca108 ::
  ca109 :: ca110 :: ca111 :: ca112 :: ca113 :: ca114 :: ca115 :: ca116 :: ca117 :: ca118 :: ca119 :: ca120 :: ca121 :: ca122 :: .agg (z07 .u32 vv.list).toArray :: .int .i64 0 :: ub125 :: ub126 :: ub127 :: ub128 :: ub129 ::
  ub130 :: ub131 :: ub132 :: ub133 :: ub134 :: ub135 :: ub136 :: ub137 :: []),[]⟩ w:=by
 conv=>arg 2;arg 1;whnf
 go_loopw [124] (fun i wq=>∃ k:Nat,k ≤ 8 ∧ i = .int .i64 k ∧ Blk bs t .u32 (zk4 h0.list vv.list k) wq ∧ But bs w wq) (fun i _=>8 - (intOf i).toNat)
 case atStart=>exact ⟨0,by omega,rfl,HH.out,But.refl _ _⟩
 case round =>
  clear HH
  obtain ⟨k,hk,rfl,ho,hb2⟩:=hrel
  have HH:=Lib.hid ho
  have HB:=Lib.hid hb2
  clear ho hb2
  by_cases hlk:k < 8
  ·have hlen:=zhz h0.list vv.list k
   rw [S8.list_len] at hlen
   have c1:=HH.out.cell k (by omega)
   have hf:=HH.out.frozen k
   rw [zko _ _ _ _ (Nat.le_refl k)] at c1
   have hx:=z26 HOH.out.lt (by decide) k
   have hy:=z26 HOV.out.lt (by decide) k
   have HS:=Lib.hid (HH.out.set k ((h0.list.getD k 0 + vv.list.getD k 0) % 4294967296))
   have HA:=Lib.hid (show zk4 h0.list vv.list (k + 1) = (zk4 h0.list vv.list k).set k ((h0.list.getD k 0 + vv.list.getD k 0) % 4294967296) from rfl)
   have hix:=fun w=>zc5 (P:=Tryz.prog) 160 143 8 .u32 vv.list k w Tryz.underlying160 (S8.list_len vv) Tryz.sizeOf143 Tryz.isAgg143 hlk
   generalize h0.list.getD k 0 = x at c1 hx HS HA
   generalize vv.list.getD k 0 = y at hix hy HS HA
   have bk:(k:Int) < 8:=by omega
   clear hlen
   go_wp2_with fail
   clear hix
   go_region
   go_wp2_with fail
   have hv:(((x + y) % 4294967296:Nat):Int) = ((x:Int) + (y:Int)) % 4294967296:=by omega
   exact ⟨⟨k + 1,by omega,by go_num,by
    rw [HA.out]
    have h:=HS.out
    rw [hv] at h
    exact h,(HB.out.setCell _ _).drew⟩,by simp [intOf];omega⟩
  ·obtain rfl:k = 8:=by omega
   rw [show ((8:Nat):Int) = 8 from rfl]
   go_wp2_with fail
   exact z29 (hexit.out _ ⟨by have:=HH.out;rwa [zd1] at this,HB.out⟩)
theorem ze9 (bs bb:Nat) (ts tb:TypeId) (v:S8) (bl:List Nat) (w:World) (hv:v.Ok) (hlen:bl.length = 64) (hbl:∀ x ∈ bl,x < 256)
 (hs:Blk bs ts .u32 v.list w) (hc:Blk bb tb .u8 bl w) (hk:KAt w) :
 Calls Tryz.prog 126 #[.pointer (some ⟨bs,0,none⟩),.pointer (some ⟨bb,0,none⟩)] w fun e w'=>e = .returned (.tuple #[]) ∧ Blk bs ts .u32 (block v (bAt bl)).list w' ∧ But bs w w':=by
 have HV:=Lib.hid hv
 have HS:=Lib.hid hs
 have HK:=Lib.hid hk
 have HSC:=Lib.hid (zfe bb tb bl w hlen hbl hc)
 have HWl:=Lib.hid (wl_lt (bAt_lt hbl) 64)
 have HWL:=Lib.hid (z6g (bAt bl) 64)
 have HBL:=Lib.hid (show block v (bAt bl) = addS v (rl v (wl (bAt bl) 64) 64) from rfl)
 clear hv hs hk hlen hbl hc
 go_enter Tryz.func126,Tryz.ntmps126
 go_wp2_with fail
 refine HSC.out.mono ?_
 rintro e w1 ⟨rfl,hb⟩
 generalize wl (bAt bl) 64 = Wl at HWl HWL HBL ⊢
 clear HSC
 have HI:=Lib.hid (show (Tryz.prog.info? 195).map (·.size) = some (z07 .u32 Wl).toArray.size by rw [z19,HWL.out];exact Tryz.infoW)
 have HL2:=Lib.hid (show (z07 .u32 (List.replicate 64 0)).toArray.size = (z07 .u32 Wl).toArray.size by rw [z19,z19,HWL.out,List.length_replicate])
 have HZ:=Lib.hid (show Blk w1.heap.size 195 .u32 (List.replicate 64 0) (w1.alloc (.cells (z07 .u32 (List.replicate 64 0)).toArray 195)) from heap_alloc_new w1 _)
 have HB:=Lib.hid hb
 clear hb
 go_wp2_with (refine wpList_store_rowTo rfl 195 _ _ rfl rfl w1.heap.size (z07 .u32 Wl).toArray rfl rfl 195 _ HZ.out HI.out HL2.out (z8j _ _) ?_)
 change Code.wp _ _ _ _ ((w1.alloc (.cells (z07 .u32 (List.replicate 64 0)).toArray 195)).setRow w1.heap.size (z07 .u32 Wl).toArray)
 obtain ⟨w2,hw2⟩:∃ x,x = (w1.alloc (.cells (z07 .u32 (List.replicate 64 0)).toArray 195)).setRow w1.heap.size (z07 .u32 Wl).toArray:=⟨_,rfl⟩
 rw [← hw2]
 have hsz:=HB.out.size
 have HW:=Lib.hid (show Blk w1.heap.size 195 .u32 Wl w2 by rw [hw2];exact HZ.out.row)
 have hb2:Below w.heap.size w w2:=by rw [hw2];exact below_setRow (HB.out.alloc hsz _) hsz _
 have HS2:=Lib.hid (HS.out.below hb2)
 have HK2:=Lib.hid (HK.out.below hb2)
 have HB2:=Lib.hid hb2
 have hlt:=HS.out.lt
 clear hw2 hb2 HS HK HB HZ HI HL2
 obtain ⟨q0,q1,q2,q3,q4,q5,q6,q7⟩:=v
 have c0:w2.cell? ⟨bs,0,none⟩ = some (.int .u32 (q0:Int)):=HS2.out.cell 0 (by rw [S8.list_len];omega)
 have c1:w2.cell? ⟨bs,1,none⟩ = some (.int .u32 (q1:Int)):=HS2.out.cell 1 (by rw [S8.list_len];omega)
 have c2:w2.cell? ⟨bs,2,none⟩ = some (.int .u32 (q2:Int)):=HS2.out.cell 2 (by rw [S8.list_len];omega)
 have c3:w2.cell? ⟨bs,3,none⟩ = some (.int .u32 (q3:Int)):=HS2.out.cell 3 (by rw [S8.list_len];omega)
 have c4:w2.cell? ⟨bs,4,none⟩ = some (.int .u32 (q4:Int)):=HS2.out.cell 4 (by rw [S8.list_len];omega)
 have c5:w2.cell? ⟨bs,5,none⟩ = some (.int .u32 (q5:Int)):=HS2.out.cell 5 (by rw [S8.list_len];omega)
 have c6:w2.cell? ⟨bs,6,none⟩ = some (.int .u32 (q6:Int)):=HS2.out.cell 6 (by rw [S8.list_len];omega)
 have c7:w2.cell? ⟨bs,7,none⟩ = some (.int .u32 (q7:Int)):=HS2.out.cell 7 (by rw [S8.list_len];omega)
 go_quiet (fail)
 clear c0 c1 c2 c3 c4 c5 c6 c7
 go_wp2_with fail
 refine z3p (zls HV HWl HWL (Lib.hid (HW.out.drawn nq)) (Lib.hid (show KAt (w2.drewN nq) from HK2.out)) _ (Lib.hid ?_))
 rintro p0 p1 p2 p3 p4 p5 p6 p7 w3 ⟨hr,hb3⟩
 intros
 have hok:=rl_ok HV.out Wl 64
 rw [hr] at hok
 have HOK:=Lib.hid hok
 have HR:=Lib.hid hr
 have hb4:Below w.heap.size w w3:=(z0q HB2.out nq).trans (hb3.mono HB2.out.size)
 have HS3:=Lib.hid ((HS2.out.drawn nq).below hb3)
 have HB3:=Lib.hid hb4
 clear hr hb3 hb4 hok HS2 HK2 HB2 HW HWl HWL
 go_wp2_with fail
 refine z3p (zkb (vv:=⟨p0,p1,p2,p3,p4,p5,p6,p7⟩) HV HOK HS3 _ (Lib.hid ?_))
 rintro w4 ⟨ho,hb4⟩
 intros
 have HO:=Lib.hid (show Blk bs ts .u32 (block ⟨q0,q1,q2,q3,q4,q5,q6,q7⟩ (bAt bl)).list w4 by rw [HBL.out,HR.out];exact ho)
 have HB4:=Lib.hid ((But.refl bs w).below HB3.out |>.trans hb4)
 clear ho hb4
 go_wp2_with fail
 exact bodyPost_end (results_none rfl _ _ _) rfl ⟨rfl,HO.out,HB4.out⟩
end Go.Proofs.YtnbldbbbibpobaaGreatDoor
