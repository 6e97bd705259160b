/-
  The law DagDoes: for every input it answers true, and its arguments read as they did. Condition: the round constants' table lies as the program's text lays it (the card ties it).
-/
import Derived.ChangeSlices
import Derived.Deep.MidRow
import Derived.Deep.Slices
import Derived.Laws.StructEq
import Derived.OpenShut
import Derived.Test.YtnbldbbbibpobaaGreatDoorJ01
import Derived.Test.YtnbldbbbibpobaaGreatDoorJ02
import Derived.Test.YtnbldbbbibpobaaGreatDoorJ03
import Derived.Test.YtnbldbbbibpobaaGreatDoorJ04
import Derived.Test.YtnbldbbbibpobaaGreatDoorJ05
import Derived.Test.YtnbldbbbibpobaaGreatDoorJ06
import Derived.Test.YtnbldbbbibpobaaGreatDoorJ07
import Derived.Test.YtnbldbbbibpobaaGreatDoorJ08
import Derived.Test.YtnbldbbbibpobaaGreatDoorJ09
import Derived.Test.YtnbldbbbibpobaaGreatDoorJ10
import Derived.Test.YtnbldbbbibpobaaGreatDoorJ11
import Derived.Test.YtnbldbbbibpobaaGreatDoorJ12
import Derived.Test.YtnbldbbbibpobaaGreatDoorJ13
import Derived.Test.YtnbldbbbibpobaaGreatDoorJ14
import Derived.Test.YtnbldbbbibpobaaGreatDoorJ15
import Derived.Test.YtnbldbbbibpobaaGreatDoorJ16
import Derived.Test.YtnbldbbbibpobaaGreatDoorJ17
import Derived.Test.YtnbldbbbibpobaaGreatDoorJ18
import Derived.Test.YtnbldbbbibpobaaGreatDoorJ19
import Derived.Test.YtnbldbbbibpobaaGreatDoorJ20
import Derived.Test.YtnbldbbbibpobaaGreatDoorJ21
import Derived.Test.YtnbldbbbibpobaaGreatDoorJ22
set_option maxRecDepth 100000
set_option maxHeartbeats 20000000
namespace Go.Proofs.YtnbldbbbibpobaaGreatDoor
open Go.RowKit
theorem z7t {P:Program} {o:Oper} {a:Act} {C:World → Prop} {K:Act → Prop} (op:BinOp) (t u:TypeId) (x y:Operand) (ho:o.op = .binOp op t x y u) (vx vy r:Value) (hx:a.eval x = vx) (hy:a.eval y = vy)
 (hg:∀ w,(eqGuard op t x y vx vy).run P w = .ok () w) (hr:∀ w,(binOp op t vx vy).run P w = .ok r w) (hk:K (a.put o.dst r)):o.quiet P a C K:=by
 refine ⟨_,fun w hw=>?_,hk⟩
 unfold Oper.quietAt execOp
 simp only [ho,hx,hy,Sem.run_bind,Sem.run_pure,hg,hr,Result.andThen_ok]
 exact ⟨rfl,rfl⟩
open Go.ChangeShapes Go.WideShapes Go.Deep
theorem zgm {H:Type} {enc:TypeId × Value → H} {W:World} {v:Value} {d:DataW H} {p:List MemPlace} {base:Nat} (hv:Value.okWide Tryz.prog W .any base 27 v)
 (h:DataW.Trod enc Tryz.prog W 0 (fun _=>true) true 27 v d p) (hwt:∀ n ∈ DataW.weights Tryz.prog 27 d,n ≤ 140737488351232) :
 ∃ x:DraftN,v = .agg (z0d x) ∧ x.In:=by
 obtain ⟨cs,rfl,_⟩:=okWide_struct Tryz.underlying27 hv
 obtain ⟨fuel,hf⟩:=h
 obtain ⟨x,e,hx⟩:=z3e hf hwt
 exact ⟨x,congrArg Value.agg (Array.ext' (by rw [z0d,List.toList_toArray];exact e)),hx⟩
theorem zig {H:Type} {enc:TypeId × Value → H} {P:Program} {W:World} {v:Value} {d:DataW H} {p:List MemPlace} {base:Nat} {t u:TypeId} (hu:P.underlying t = some (.array 32 u)) (he:P.underlying u = some (.int .u8)) (hone:P.cellsOf u = 1) (hsz:P.cellsOf t = 32)
 (hv:Value.okWide P W .any base t v) (h:DataW.Trod enc P W 0 (fun _=>true) true t v d p):∃ l:List Nat,v = .agg (z06 .u8 l).toArray ∧ IdOk l:=by
 simp only [Value.okWide,hu] at hv
 obtain ⟨cs,rfl,hcs,_⟩:=hv
 obtain ⟨fuel,hf⟩:=h
 obtain ⟨l,e,h1,h2⟩:=z6s hu he hone hsz hf
 exact ⟨l,congrArg Value.agg (Array.ext' (by rw [List.toList_toArray];exact e)),h1,h2⟩
def IntsIn (ao:Option Addr) (L:List Int) (W:World):Prop:=∀ i,i < L.length → ∃ a,ao = some a ∧ W.cell? (a.add i) = some (.int .i64 (L.getD i 0))
theorem z4g {H:Type} {enc:TypeId × Value → H} {W:World} {v:Value} {d:DataW H} {p:List MemPlace} {base:Nat} (hv:Value.okWide Tryz.prog W .any base 23 v)
 (h:DataW.Trod enc Tryz.prog W 0 (fun _=>true) true 23 v d p) (hwt:∀ n ∈ DataW.weights Tryz.prog 23 d,n ≤ 140737488351232) :
 ∃ (ao:Option Addr) (L:List Int) (cap:Nat),v = .slice ao L.length cap ∧ IntsIn ao L W ∧ (∀ z ∈ L,I64 z) ∧ L.length ≤ 140737488351232:=by
 obtain ⟨a0,len0,cap0,rfl⟩:=okWide_slice Tryz.underlying23 hv
 obtain ⟨fuel,hf⟩:=h
 rcases ChangeShapes.open_ints Tryz.underlying23 Tryz.underlying3 (by kernel_rfl) hf with ⟨hcs,_⟩ | ⟨a,len,cap,zs,hcs,_,hl,_,hz,hx,hc,hw⟩
 ·simp [Value.cells] at hcs
  obtain ⟨rfl,rfl,rfl⟩:=hcs
  exact ⟨none,[],0,rfl,(fun i hi=>by cases hi),(fun z hz=>by cases hz),by decide⟩
 ·simp [Value.cells] at hcs
  obtain ⟨rfl,rfl,rfl⟩:=hcs
  simp only [if_true] at hz
  have hd:d = .slice (ChangeShapes.lits .i64 (zs.take len0)) (ChangeShapes.lits .i64 (zs.drop len0)):=congrArg Prod.fst hx
  subst hd
  simp only [DataW.weights,Tryz.underlying23] at hwt
  have hwn:=hwt _ (List.mem_cons_self ..)
  have hb8:Tryz.prog.bytesOf 3 = 8:=by kernel_rfl
  rw [hb8] at hwn
  simp only [ChangeShapes.lits,List.length_map,List.length_take,List.length_drop] at hwn
  have hlen:(zs.take len0).length = len0:=by rw [List.length_take];omega
  refine ⟨some a,zs.take len0,cap0,by rw [hlen],fun i hi=>⟨a,rfl,?_⟩,fun z hz2=>?_,by rw [hlen];omega⟩
  ·rw [hlen] at hi
   rw [hc i (by omega),List.getD_eq_getElem?_getD,List.getD_eq_getElem?_getD,List.getElem?_take_of_lt hi]
  ·have:=hw z (List.mem_of_mem_take hz2)
   simp only [Lit.wf,Bool.and_eq_true,decide_eq_true_eq] at this
   exact ⟨this.1,this.2⟩
end Go.Proofs.YtnbldbbbibpobaaGreatDoor
namespace Go.Proofs.YtnbldbbbibpobaaGreatDoor
open Go.RowKit
theorem zh5 (a:Int) {n:Nat} (h:0 < n) (hn:n ≤ 1000000000):∃ q:Nat,q < n ∧ wrap64 ((IntKind.u64.wrap a).tmod (n:Int)) = (q:Int):=by
 have e:IntKind.u64.wrap a = a % 18446744073709551616:=by simp [IntKind.wrap,IntKind.bits,IntKind.signed]
 have h0:0 ≤ IntKind.u64.wrap a:=by rw [e];omega
 generalize IntKind.u64.wrap a = u at h0
 rw [Int.tmod_eq_emod_of_nonneg h0]
 have h1:0 ≤ u % (n:Int):=Int.emod_nonneg _ (by omega)
 have h2:u % (n:Int) < (n:Int):=Int.emod_lt_of_pos _ (by omega)
 generalize u % (n:Int) = r at h1 h2
 refine ⟨r.toNat,by omega,?_⟩
 unfold wrap64
 omega
theorem ze0 {bo:Option Addr} {r:List Int} {W:World} (h:IntsIn bo r W) (h0:0 < r.length):∃ b o,bo = some ⟨b,o,none⟩ ∧ b < W.heap.size ∧ ∀ i,i < r.length → W.cell? ⟨b,o + i,none⟩ = some (.int .i64 (r.getD i 0)):=by
 obtain ⟨a,ha,hc⟩:=h 0 h0
 obtain ⟨b,o,spot⟩:=a
 have hspot:spot = none:=by simpa [Addr.add] using World.cell?_spot hc
 subst hspot
 refine ⟨b,o,ha,?_,fun i hi=>?_⟩
 ·have:=z8c hc
  simpa [Addr.add] using this
 ·obtain ⟨a',ha',hc'⟩:=h i hi
  rw [ha] at ha'
  cases ha'
  have e:(⟨b,o,none⟩:Addr).add i = ⟨b,o + i,none⟩:=Addr.add_lit ..
  rw [← e]
  exact hc'
open Go.BigFrame
theorem zei (n:List Nat) (w:World):Calls Tryz.prog 19 #[.pointer none,.agg (z06 .u8 n).toArray] w fun e w'=>e = .returned (.tuple #[.agg (opV z05 none 0),.int .i64 2]) ∧ Below w.heap.size w w':=by
 have HS:=Lib.hid (show (Tryz.prog.info? 38).map (·.size) = some (opV z05 none 0).size from Tryz.sizeO)
 have x1:Blk w.heap.size 25 .u8 n (w.alloc (.cells (z06 .u8 n).toArray 25)):=heap_alloc_new w _
 have b1:Below w.heap.size w (w.alloc (.cells (z06 .u8 n).toArray 25)):=(Below.refl _ _).alloc (Nat.le_refl _) _
 have s1:(w.alloc (.cells (z06 .u8 n).toArray 25)).heap.size = w.heap.size + 1:=World.size_alloc _ _
 have b2:Below (w.alloc (.cells (z06 .u8 n).toArray 25)).heap.size (w.alloc (.cells (z06 .u8 n).toArray 25)) ((w.alloc (.cells (z06 .u8 n).toArray 25)).alloc (.cells (opV z05 none 0) 38)):=(Below.refl _ _).alloc (Nat.le_refl _) _
 have x2:Cells (w.alloc (.cells (z06 .u8 n).toArray 25)).heap.size 38 (opV z05 none 0) ((w.alloc (.cells (z06 .u8 n).toArray 25)).alloc (.cells (opV z05 none 0) 38)):=heap_alloc_new _ _
 rw [s1] at x2
 have y1:=x1.below b2
 have hb2:=b1.trans (b2.mono b1.size)
 have s2:((w.alloc (.cells (z06 .u8 n).toArray 25)).alloc (.cells (opV z05 none 0) 38)).heap.size = w.heap.size + 1 + 1:=by rw [World.size_alloc,s1]
 clear x1 b1 s1 b2
 go_enter Tryz.func19,Tryz.ntmps19
 go_upto_region 1 with (fail)
 obtain ⟨w2,hw2⟩:∃ x,x = (w.alloc (.cells (z06 .u8 n).toArray 25)).alloc (.cells (opV z05 none 0) 38):=⟨_,rfl⟩
 rw [← hw2] at x2 y1 hb2 s2
 rw [z5w] at hw2
 rw [← hw2]
 have HX:=Lib.hid x2
 have HY:=Lib.hid y1
 have HB:=Lib.hid hb2
 have HZ2:=Shut.mk s2
 clear hw2 x2 y1 hb2 s2
 go_upto_region 2 with (fail)
 refine wp_region_lit ?_
 refine z0r rfl 38 #[] rfl [] _ (by simp) z26 ?_
 simp only [Act.put,zS,zA,zB]
 refine z01 rfl 38 _ _ rfl rfl (w.heap.size + 1) (opV z05 none 0) (opV z05 none 0) 38 rfl rfl HX.out HS.out rfl (z0z z05 none 0) ?_
 intro w9 hc hb
 have HX9:=Lib.hid hc.out
 have HB9:=Lib.hid (show Below w.heap.size w w9 from But.toBelow HB.out hb.out (Nat.le_succ _) HB.out.size)
 clear hc hb HX HB
 go_wp2_with fail
 refine bodyPost_ret (z0p rfl _ _ (w.heap.size + 1) (opV z05 none 0) 38 _ _ rfl rfl HX9.out Tryz.underlying38 rfl HS.out) rfl ?_
 exact ⟨rfl,HB9.out⟩
theorem z7g (w:World):Calls Tryz.prog 22 #[.pointer none] w fun e w'=>e = .returned (.slice none 0 0) ∧ w' = w:=by
 go_enter Tryz.func22,Tryz.ntmps22
 go_wp2_with fail
 go_ret
 exact ⟨rfl,rfl⟩
theorem z7h (w:World):Calls Tryz.prog 23 #[.pointer none] w fun e w'=>e = .returned (.slice none 0 0) ∧ w' = w:=by
 go_enter Tryz.func23,Tryz.ntmps23
 go_wp2_with fail
 go_ret
 exact ⟨rfl,rfl⟩
theorem z7l (w:World):Calls Tryz.prog 24 #[.pointer none] w fun e w'=>e = .returned (.slice none 0 0) ∧ w' = w:=by
 go_enter Tryz.func24,Tryz.ntmps24
 go_wp2_with fail
 go_ret
 exact ⟨rfl,rfl⟩
theorem z8o (n:List Nat) (w:World):Calls Tryz.prog 25 #[.pointer none,.agg (z06 .u8 n).toArray] w fun e w'=>e = .returned (.slice none 0 0) ∧ Below w.heap.size w w':=by
 go_enter Tryz.func25,Tryz.ntmps25
 go_wp2_with fail
 go_ret
 exact ⟨rfl,(Below.refl _ _).alloc (Nat.le_refl _) _⟩
theorem zce (A:Int) (d:DraftN) (w:World):Calls Tryz.prog 17 #[.pointer none,.int .i64 A,.agg (z0d d)] w fun e w'=>e = .returned (.tuple #[.agg (opV z05 none 0),.int .i64 2]) ∧ Below w.heap.size w w':=by
 have HS:=Lib.hid (show (Tryz.prog.info? 38).map (·.size) = some (opV z05 none 0).size from Tryz.sizeO)
 have x1:Cells w.heap.size 27 (z0d d) (w.alloc (.cells (z0d d) 27)):=heap_alloc_new w _
 have b1:Below w.heap.size w (w.alloc (.cells (z0d d) 27)):=(Below.refl _ _).alloc (Nat.le_refl _) _
 have s1:(w.alloc (.cells (z0d d) 27)).heap.size = w.heap.size + 1:=World.size_alloc _ _
 have b2:Below (w.alloc (.cells (z0d d) 27)).heap.size (w.alloc (.cells (z0d d) 27)) ((w.alloc (.cells (z0d d) 27)).alloc (.cells (opV z05 none 0) 38)):=(Below.refl _ _).alloc (Nat.le_refl _) _
 have x2:Cells (w.alloc (.cells (z0d d) 27)).heap.size 38 (opV z05 none 0) ((w.alloc (.cells (z0d d) 27)).alloc (.cells (opV z05 none 0) 38)):=heap_alloc_new _ _
 rw [s1] at x2
 have y1:=x1.below b2
 have hb2:=b1.trans (b2.mono b1.size)
 clear x1 b1 s1 b2
 go_enter Tryz.func17,Tryz.ntmps17
 go_upto_region 1 with (fail)
 obtain ⟨w2,hw2⟩:∃ x,x = (w.alloc (.cells (z0d d) 27)).alloc (.cells (opV z05 none 0) 38):=⟨_,rfl⟩
 rw [← hw2] at x2 y1 hb2
 rw [z5w] at hw2
 rw [← hw2]
 have HX:=Lib.hid x2
 have HY:=Lib.hid y1
 have HB:=Lib.hid hb2
 clear hw2 x2 y1 hb2
 go_upto_region 2 with (fail)
 refine wp_region_lit ?_
 refine z0r rfl 38 #[] rfl [] _ (by simp) z26 ?_
 simp only [Act.put,zS,zA,zB]
 refine z01 rfl 38 _ _ rfl rfl (w.heap.size + 1) (opV z05 none 0) (opV z05 none 0) 38 rfl rfl HX.out HS.out rfl (z0z z05 none 0) ?_
 intro w9 hc hb
 have HX9:=Lib.hid hc.out
 have HB9:=Lib.hid (show Below w.heap.size w w9 from But.toBelow HB.out hb.out (Nat.le_succ _) HB.out.size)
 clear hc hb HX HB HY
 go_wp2_with fail
 refine bodyPost_ret (z0p rfl _ _ (w.heap.size + 1) (opV z05 none 0) 38 _ _ rfl rfl HX9.out Tryz.underlying38 rfl HS.out) rfl ?_
 exact ⟨rfl,HB9.out⟩
theorem zby (x:OpN) (pa:Option Addr) (pc:Nat) (w:World):Calls Tryz.prog 13 #[.pointer none,.agg (opV x pa pc)] w fun e w'=>e = .returned (.tuple #[.slice none 0 0,.int .i64 2]) ∧ Below w.heap.size w w':=by
 go_enter Tryz.func13,Tryz.ntmps13
 go_wp2_with fail
 go_ret2
 exact ⟨rfl,(Below.refl _ _).alloc (Nat.le_refl _) _⟩
theorem z9q (X:Nat → Prop) (gs:Nat) (vo vw vn vq:Value) (s:DagN) (w:World) (h:RefAt X gs vo vw vn vq s w) (hb:s.ops.length ≤ 1000000) :
 Calls Tryz.prog 54 #[.pointer (some ⟨gs,0,none⟩)] w fun e w'=>∃ v,e = .returned v ∧ OwnI w.heap.size 25 v (z0e s.names) w' ∧ Below w.heap.size w w':=by
 obtain ⟨ao,cap,rfl⟩:=h.names.form
 have hm:s.names.length ≤ 1000000:=by rw [DagN.names,List.length_map];exact hb
 have HL:=Lib.hid (show Ids s.names from z12)
 have HAT:=Lib.hid (h.names.at HL.out)
 obtain ⟨L,hLE⟩:∃ L,s.names = L:=⟨_,rfl⟩
 rw [hLE] at h hm HL HAT ⊢
 have hc:=h.cell.2.2.1
 obtain ⟨m,hme⟩:∃ m,L.length = m:=⟨_,rfl⟩
 have HM:=Shut.mk hme
 rw [hme] at hc hm
 clear h hLE hb hme
 go_enter Tryz.func54,Tryz.ntmps54
 go_wp2_with fail
 refine (z32 L ao m cap w HL.out HM.out HAT.out hm).mono ?_
 rintro e w1 ⟨v,rfl,hown,hb⟩
 have HO:=Lib.hid (And.intro hown hb)
 clear hown hb
 go_wp2_with fail
 go_ret
 exact ⟨v,rfl,HO.out⟩
theorem za2 (X:Nat → Prop) (gs:Nat) (vo vw vn vq:Value) (s:DagN) (w:World) (h:RefAt X gs vo vw vn vq s w) (hb:s.wait.length ≤ 1000000) :
 Calls Tryz.prog 56 #[.pointer (some ⟨gs,0,none⟩)] w fun e w'=>∃ v,e = .returned v ∧ OwnI w.heap.size 25 v (z0e s.waits) w' ∧ Below w.heap.size w w':=by
 obtain ⟨ao,cap,rfl⟩:=h.waits.form
 have hm:s.waits.length ≤ 1000000:=by rw [DagN.waits,List.length_map];exact hb
 have HL:=Lib.hid (show Ids s.waits from z12)
 have HAT:=Lib.hid (h.waits.at HL.out)
 obtain ⟨L,hLE⟩:∃ L,s.waits = L:=⟨_,rfl⟩
 rw [hLE] at h hm HL HAT ⊢
 have hc:=h.cell.2.2.2
 obtain ⟨m,hme⟩:∃ m,L.length = m:=⟨_,rfl⟩
 have HM:=Shut.mk hme
 rw [hme] at hc hm
 clear h hLE hb hme
 go_enter Tryz.func56,Tryz.ntmps56
 go_wp2_with fail
 refine (z32 L ao m cap w HL.out HM.out HAT.out hm).mono ?_
 rintro e w1 ⟨v,rfl,hown,hb⟩
 have HO:=Lib.hid (And.intro hown hb)
 clear hown hb
 go_wp2_with fail
 go_ret
 exact ⟨v,rfl,HO.out⟩
theorem zi7 {A B:List (List Nat)} (hl:A.length = B.length) (h:∀ j,j < A.length → A.getD j [] = B.getD j []):A = B:=by
 refine List.ext_getElem hl fun i h1 h2=>?_
 have:=h i h1
 rwa [List.getD_eq_getElem?_getD,List.getElem?_eq_getElem h1,List.getD_eq_getElem?_getD,List.getElem?_eq_getElem h2] at this
theorem zbd (ao bo:Option Addr) (ca cb m k0:Nat) (A B:List (List Nat)) (w:World) (ha:IAt ao A w) (hb:IAt bo B w) (hA:Ids A) (hB:Ids B) (hma:A.length = m) (hmb:B.length = k0) (hm:m ≤ 1000000) (hk0:k0 ≤ 1000000) :
 Calls Tryz.prog 15 #[.slice ao m ca,.slice bo k0 cb] w fun e w'=>e = .returned (.bool (decide (A = B))) ∧ Below w.heap.size w w':=by
 by_cases hne:m = k0
 ·subst hne
  have HMA:=Shut.mk hma
  have HMB:=Shut.mk hmb
  have HA:=Lib.hid ha
  have HB:=Lib.hid hb
  have HIA:=Lib.hid hA
  have HIB:=Lib.hid hB
  have hbq:((m:Int) != (m:Int)) = false:=by simp
  clear ha hb hA hB hma hmb
  go_enter Tryz.func15,Tryz.ntmps15
  go_wp2_with fail
  go_loopw [13] (fun i wr=>∃ k:Nat,k ≤ m ∧ i = .int .i64 k ∧ (∀ j,j < k → A.getD j [] = B.getD j []) ∧ Below w.heap.size w wr) (fun i _=>m - (intOf i).toNat)
  case atStart=>exact ⟨0,Nat.zero_le _,rfl,fun j hj=>by omega,Below.refl _ _⟩
  case round =>
   obtain ⟨k,hk,rfl,hj,hbw⟩:=hrel
   have HJ:=Lib.hid hj
   have HBW:=Lib.hid hbw
   have HAW:=Lib.hid (HA.out.below hbw)
   have HBB:=Lib.hid (HB.out.below hbw)
   clear hj hbw
   by_cases hlt:k < m
   ·obtain ⟨b,ob,rfl,hbl⟩:=HAW.out.some (by rw [HMA.out];omega)
    obtain ⟨c,oc,rfl,hcl⟩:=HBB.out.some (by rw [HMB.out];omega)
    have g1:=fun w' (q:Below wr.heap.size wr w')=>(HAW.out.below q).get (i:=k) (by rw [HMA.out];omega)
    have g2:=fun w' (q:Below wr.heap.size wr w')=>(HBB.out.below q).get (i:=k) (by rw [HMB.out];omega)
    have i1:=Ids.getD HIA.out (i:=k) (by rw [HMA.out];omega)
    have i2:=Ids.getD HIB.out (i:=k) (by rw [HMB.out];omega)
    obtain ⟨x,hx⟩:∃ x,A.getD k [] = x:=⟨_,rfl⟩
    obtain ⟨y,hy⟩:∃ y,B.getD k [] = y:=⟨_,rfl⟩
    rw [hx] at g1 i1
    rw [hy] at g2 i2
    have HXE:=Shut.mk hx
    have HYE:=Shut.mk hy
    have HG1:=Lib.hid g1
    have HG2:=Lib.hid g2
    have HS1:=Lib.hid (show (Tryz.prog.info? 25).map (·.size) = some x.length by rw [i1.1];exact Tryz.sizeI)
    have HS2:=Lib.hid (show (Tryz.prog.info? 25).map (·.size) = some y.length by rw [i2.1];exact Tryz.sizeI)
    have heq:=fun w'=>z2b x y i1.1 i2.1 i1.2 i2.2 w'
    obtain ⟨z,hz⟩:∃ z,(x == y) = z:=⟨_,rfl⟩
    rw [hz] at heq
    have HZ:=Shut.mk hz
    clear hx hy g1 g2 i1 i2 hbl hcl hz
    go_upto_region 6 with (fail)
    cases z with
    | true =>
      have HEQ:=Lib.hid (show x = y by have:=HZ.out;simpa using this)
      refine z09 (fun w'=>Below wr.heap.size wr w') (by kernel_rfl) (by kernel_rfl) (Below.refl _ _).drew ?_
      repeat (first
       | (go_big_quiet_want;refine z0c 25 _ rfl b (ob + k * 32) x _ rfl HG1.out Tryz.underlying25 rfl HS1.out ?_;go_big_quiet_on;simp only [Act.put,zS,zA,zB])
       | (go_big_quiet_want;refine z0c 25 _ rfl c (oc + k * 32) y _ rfl HG2.out Tryz.underlying25 rfl HS2.out ?_;go_big_quiet_on;simp only [Act.put,zS,zA,zB])
       | go_big_quiet_step ((intro hs';rfl)))
      refine wpQuiet_nil ?_
      intro w6 hs6
      have HB6:=Lib.hid (HBW.out.trans (hs6.mono HBW.out.size))
      clear hs6
      go_wp2_with fail
      refine ⟨⟨k + 1,by omega,by go_num,fun q hq=>?_,HB6.out⟩,by simp [intOf];omega⟩
      by_cases hqj:q = k
      ·subst hqj
       rw [HXE.out,HYE.out]
       exact HEQ.out
      ·exact HJ.out q (by omega)
    | false =>
      have HNE:=Lib.hid (show x ≠ y by have:=HZ.out;simpa using this)
      refine z09 (fun w'=>Below wr.heap.size wr w') (by kernel_rfl) (by kernel_rfl) (Below.refl _ _).drew ?_
      repeat (first
       | (go_big_quiet_want;refine z0c 25 _ rfl b (ob + k * 32) x _ rfl HG1.out Tryz.underlying25 rfl HS1.out ?_;go_big_quiet_on;simp only [Act.put,zS,zA,zB])
       | (go_big_quiet_want;refine z0c 25 _ rfl c (oc + k * 32) y _ rfl HG2.out Tryz.underlying25 rfl HS2.out ?_;go_big_quiet_on;simp only [Act.put,zS,zA,zB])
       | go_big_quiet_step ((intro hs';rfl)))
      refine wpQuiet_nil ?_
      intro w6 hs6
      have HB6:=Lib.hid (HBW.out.trans (hs6.mono HBW.out.size))
      clear hs6
      have HR:=Shut.mk (show decide (A = B) = false from decide_eq_false (fun e=>HNE.out (by rw [← HXE.out,← HYE.out,e])))
      go_wp2_with fail
      go_ret
      exact ⟨by rw [HR.out];rfl,HB6.out⟩
   ·obtain rfl:k = m:=by omega
    have HR:=Shut.mk (show decide (A = B) = true from decide_eq_true (zi7 (HMA.out.trans HMB.out.symm) (fun j hj=>HJ.out j (by rw [← HMA.out];exact hj))))
    go_wp2_with fail
    go_ret
    exact ⟨by rw [HR.out];rfl,HBW.out⟩
 ·have hbq:((m:Int) != (k0:Int)) = true:=by simp;omega
  have HR:=Shut.mk (show decide (A = B) = false from decide_eq_false (fun e=>hne (by rw [← hma,← hmb,e])))
  clear ha hb hA hB hma hmb hne
  go_enter Tryz.func15,Tryz.ntmps15
  go_wp2_with fail
  go_ret
  exact ⟨by rw [HR.out];rfl,Below.refl _ _⟩
theorem zbb {s:DagN} (hn:s.names.Nodup) {o:OpN} {x:List Nat} (ho:o ∈ s.ops) (hx:z0a o = x):∃ q:Nat,s.ops[q]? = some o ∧ atN s.names x = (q:Int):=by
 obtain ⟨q,hq,he⟩:=List.getElem_of_mem ho
 have hl:q < s.names.length:=by rw [DagN.names,List.length_map];exact hq
 have hg:s.names[q] = x:=by simp only [DagN.names,List.getElem_map,he,hx]
 refine ⟨q,by rw [List.getElem?_eq_getElem hq,he],?_⟩
 rw [atN,if_pos (hg ▸ List.getElem_mem hl),← hg,hn.idxOf_getElem]
theorem z9u (X X2:Nat → Prop) (B:Bs) (T:Ents) (s:DagN) (hs:List (List Nat)) (M:Bh) (gs:Nat) (vo vw vn vq:Value) (w:World) (h:SetAt X B T s hs M w) (hD:DInv s hs M [] []) (ht:Tame s) (hr:RefAt X2 gs vo vw vn vq s w) :
 Calls Tryz.prog 16 #[.pointer (some ⟨B.gs,0,none⟩),.pointer (some ⟨gs,0,none⟩)] w fun e w'=>e = .returned (.bool true) ∧ Below w.heap.size w w':=by
 have HTM:=Lib.hid ht
 have HDI:=Lib.hid hD
 have HST:=Lib.hid (fun w1 (b:Below w.heap.size w w1)=>h.below b)
 have HRF:=Lib.hid (fun w1 (b:Below w.heap.size w w1)=>hr.below b)
 have HDN:=Lib.hid (fun w1 (b:Below w.heap.size w w1)=>z7r (h.below b) (by have:=ht.many;omega))
 have HDH:=Lib.hid (fun w1 (b:Below w.heap.size w w1)=>z5z (h.below b) hD (by have:=ht.many;omega))
 have HDW:=Lib.hid (fun w1 (b:Below w.heap.size w w1)=>z71 (h.below b) (by have:=ht.many;omega))
 have HRN:=Lib.hid (fun w1 (b:Below w.heap.size w w1)=>z9q X2 gs vo vw vn vq s w1 (hr.below b) (by have:=ht.many;omega))
 have HRH:=Lib.hid (fun w1 (b:Below w.heap.size w w1)=>z96 X2 gs vo vw vn vq s w1 (hr.below b) (fun x hx=>⟨(ht.ops x hx).d.ref.1,(ht.ops x hx).preds,by have:=(ht.ops x hx).many;omega⟩) (by have:=ht.many;omega))
 have HRW:=Lib.hid (fun w1 (b:Below w.heap.size w w1)=>za2 X2 gs vo vw vn vq s w1 (hr.below b) (by have:=ht.many;omega))
 have hnl:(z0e s.names).length ≤ 1000:=by rw [(z1c _).length_eq,DagN.names,List.length_map];have:=ht.many;omega
 have hwl:(z0e s.waits).length ≤ 1000:=by rw [(z1c _).length_eq,DagN.waits,List.length_map];have:=ht.many;omega
 have hhl:(z19 s).length ≤ 1000:=by
  rw [z19,(z1c _).length_eq]
  exact Nat.le_trans (List.length_filter_le _ _) (by rw [DagN.names,List.length_map];have:=ht.many;omega)
 have HIN:=Lib.hid (show Ids (z0e s.names) from z15 z12)
 have HIW:=Lib.hid (show Ids (z0e s.waits) from z15 z12)
 have HIH:=Lib.hid (show Ids (z19 s) from z15 (L:=s.names.filter fun n=>!(s.ops.any fun o=>decide (n ∈ o.preds))) (fun x hx=>z12 x (List.mem_filter.1 hx).1))
 have HNP:=Lib.hid (fun x (hx:x ∈ z0e s.names)=>(z1c s.names).mem_iff.1 hx)
 obtain ⟨LN,hLN⟩:∃ L,z0e s.names = L:=⟨_,rfl⟩
 obtain ⟨LW,hLW⟩:∃ L,z0e s.waits = L:=⟨_,rfl⟩
 obtain ⟨LH,hLH⟩:∃ L,z19 s = L:=⟨_,rfl⟩
 rw [hLN] at HDN HRN hnl HIN HNP
 rw [hLW] at HDW HRW hwl HIW
 rw [hLH] at HDH HRH hhl HIH
 have HBN:=Lib.hid hnl
 have HBW:=Lib.hid hwl
 have HBH:=Lib.hid hhl
 have HEQ:=Lib.hid (fun (A:List (List Nat)) (ao bo:Option Addr) (ca cb:Nat) (w1:World) (ha:IAt ao A w1) (hb:IAt bo A w1) (hA:Ids A) (hl:A.length ≤ 1000)=>show Calls Tryz.prog 15 #[.slice ao A.length ca,.slice bo A.length cb] w1 fun e w'=>e = .returned (.bool true) ∧ Below w1.heap.size w1 w' from by
  have h:=zbd ao bo ca cb A.length A.length A A w1 ha hb hA hA rfl rfl (by omega) (by omega)
  rwa [decide_eq_true rfl] at h)
 clear h hD ht hr hnl hwl hhl hLN hLW hLH
 go_enter Tryz.func16,Tryz.ntmps16
 go_wp2_with fail
 refine (HDN.out w (Below.refl _ _)).mono ?_
 rintro e w2 ⟨v2,rfl,ho2,hb2⟩
 obtain ⟨a2,c2,rfl⟩:=ho2.form
 have HO2:=Lib.hid ho2
 have HB2:=Lib.hid hb2
 clear ho2 hb2
 go_wp2_with fail
 refine (HRN.out w2 HB2.out).mono ?_
 rintro e w3 ⟨v3,rfl,ho3,hb3⟩
 obtain ⟨a3,c3,rfl⟩:=ho3.form
 have HB3:=Lib.hid (HB2.out.trans (hb3.mono HB2.out.size))
 have HI3:=Lib.hid (HEQ.out LN a2 a3 c2 c3 w3 ((HO2.out.below hb3).at HIN.out) (ho3.at HIN.out) HIN.out HBN.out)
 clear ho3 hb3
 go_wp2_with fail
 refine HI3.out.mono ?_
 rintro e w4 ⟨rfl,hb4⟩
 have HB4:=Lib.hid (HB3.out.trans (hb4.mono HB3.out.size))
 clear hb4
 go_wp2_with fail
 refine (HDH.out w4 HB4.out).mono ?_
 rintro e w5 ⟨v5,rfl,ho5,hb5⟩
 obtain ⟨a5,c5,rfl⟩:=ho5.form
 have HO5:=Lib.hid ho5
 have HB5:=Lib.hid (HB4.out.trans (hb5.mono HB4.out.size))
 clear ho5 hb5
 go_wp2_with fail
 refine (HRH.out w5 HB5.out).mono ?_
 rintro e w6 ⟨v6,rfl,ho6,hb6⟩
 obtain ⟨a6,c6,rfl⟩:=ho6.form
 have HB6:=Lib.hid (HB5.out.trans (hb6.mono HB5.out.size))
 have HI6:=Lib.hid (HEQ.out LH a5 a6 c5 c6 w6 ((HO5.out.below hb6).at HIH.out) (ho6.at HIH.out) HIH.out HBH.out)
 clear ho6 hb6
 go_wp2_with fail
 refine HI6.out.mono ?_
 rintro e w7 ⟨rfl,hb7⟩
 have HB7:=Lib.hid (HB6.out.trans (hb7.mono HB6.out.size))
 clear hb7
 go_wp2_with fail
 refine (HDW.out w7 HB7.out).mono ?_
 rintro e w8 ⟨v8,rfl,ho8,hb8⟩
 obtain ⟨a8,c8,rfl⟩:=ho8.form
 have HO8:=Lib.hid ho8
 have HB8:=Lib.hid (HB7.out.trans (hb8.mono HB7.out.size))
 clear ho8 hb8
 go_wp2_with fail
 refine (HRW.out w8 HB8.out).mono ?_
 rintro e w9 ⟨v9,rfl,ho9,hb9⟩
 obtain ⟨a9,c9,rfl⟩:=ho9.form
 have HB9:=Lib.hid (HB8.out.trans (hb9.mono HB8.out.size))
 have HI9:=Lib.hid (HEQ.out LW a8 a9 c8 c9 w9 ((HO8.out.below hb9).at HIW.out) (ho9.at HIW.out) HIW.out HBW.out)
 clear ho9 hb9
 go_wp2_with fail
 refine HI9.out.mono ?_
 rintro e wa ⟨rfl,hba⟩
 have HBa:=Lib.hid (HB9.out.trans (hba.mono HB9.out.size))
 clear hba
 go_wp2_with fail
 refine (HRN.out wa HBa.out).mono ?_
 rintro e wb ⟨vb,rfl,hob,hbb⟩
 obtain ⟨ab,cb,rfl⟩:=hob.form
 have HBb:=Lib.hid (HBa.out.trans (hbb.mono HBa.out.size))
 have HOb:=Lib.hid (hob.at HIN.out)
 clear hob hbb
 obtain ⟨m,hm⟩:∃ m,LN.length = m:=⟨_,rfl⟩
 have HM:=Shut.mk hm
 have hmb:m ≤ 1000:=by rw [← hm];exact HBN.out
 rw [hm]
 clear hm HI3 HI6 HI9 HO2 HO5 HO8 HDN HDH HDW HRN HRH HRW HEQ HIW HIH HBN HBW HBH
 go_wp2_with fail
 go_loopw [34] (fun i wr=>∃ k:Nat,k ≤ m ∧ i = .int .i64 k ∧ Below wb.heap.size wb wr) (fun i _=>m - (intOf i).toNat)
 case atStart=>exact ⟨0,Nat.zero_le _,rfl,Below.refl _ _⟩
 case round =>
  obtain ⟨k,hk,rfl,hbw⟩:=hrel
  have HBW:=Lib.hid hbw
  have HAW:=Lib.hid (HOb.out.below hbw)
  clear hbw
  by_cases hlt:k < m
  ·obtain ⟨b,ob,rfl,hbl⟩:=HAW.out.some (by rw [HM.out];omega)
   have g1:=HAW.out.get (i:=k) (by rw [HM.out];omega)
   have i1:=Ids.getD HIN.out (i:=k) (by rw [HM.out];omega)
   have hmem:LN.getD k [] ∈ LN:=by
    rw [List.getD_eq_getElem?_getD,List.getElem?_eq_getElem (by rw [HM.out];exact hlt)]
    exact List.getElem_mem _
   obtain ⟨x,hx⟩:∃ x,LN.getD k [] = x:=⟨_,rfl⟩
   rw [hx] at g1 i1 hmem
   have HG1:=Lib.hid g1
   have HXI:=Lib.hid (show IdOk x from i1)
   have HIS:=Lib.hid (HNP.out x hmem)
   have HS1:=Lib.hid (show (Tryz.prog.info? 25).map (·.size) = some x.length by rw [i1.1];exact Tryz.sizeI)
   have HL2:=Lib.hid (show (List.replicate 32 0).length = x.length by rw [i1.1];rfl)
   clear hx g1 i1 hbl hmem
   go_wp2_with (first
    | (refine z0b rfl 25 _ rfl b (ob + k * 32) x _ rfl HG1.out Tryz.underlying25 rfl HS1.out ?_)
    | (refine z04 rfl 25 _ _ rfl rfl wr.heap.size .u8 (List.replicate 32 0) x 25 rfl rfl (heap_alloc_new wr _) HS1.out HL2.out ?_))
   intro w5 hc' hb'
   have hby:Below wr.heap.size wr w5:=But.toBelow ((Below.refl _ _).alloc (Nat.le_refl _) _) hb'.out (Nat.le_refl _) (by rw [World.size_alloc];exact Nat.le_succ _)
   have HB5:=Lib.hid (HBb.out.trans ((HBW.out.trans (hby.mono HBW.out.size)).mono HBb.out.size))
   have HB5b:=Lib.hid (HBW.out.trans (hby.mono HBW.out.size))
   have HY:=Lib.hid hc'.out
   obtain ⟨g6,hg6⟩:∃ g,wr.heap.size = g:=⟨_,rfl⟩
   rw [hg6] at HY ⊢
   clear hc' hb' hby hg6 HG1
   have HGT:=Lib.hid (z81 X B T s hs M x w5 (HST.out w5 HB5.out) HXI.out HTM.out.ops)
   go_wp2_with (refine z03 rfl 25 (.tmp 6) rfl g6 .u8 x 25 _ rfl HY.out Tryz.underlying25 rfl HS1.out ?_)
   refine HGT.out.mono ?_
   rintro e w6 ⟨⟨o,pa,pc,ho,hor⟩,hb6⟩
   obtain ⟨ho1,ho2,rfl⟩:o ∈ s.ops ∧ z0a o = x ∧ e = .returned (.tuple #[.agg (opV o pa pc),.int .i64 0]):=by
    rcases hor with h | ⟨h,_⟩
    ·exact h
    ·exact absurd HIS.out h
   have HOF:=Lib.hid (HTM.out.ops o ho1)
   obtain ⟨q,hq1,hq2⟩:=zbb HDI.out.nodupN ho1 ho2
   have HB6:=Lib.hid (HB5.out.trans (hb6.mono HB5.out.size))
   have HB6b:=Lib.hid (HB5b.out.trans (hb6.mono HB5b.out.size))
   have HY6:=Lib.hid (HY.out.below hb6)
   have HIO:=Lib.hid (ho.at HOF.out.preds)
   have HQ1:=Lib.hid hq1
   have HQ2:=Lib.hid hq2
   have HSV:=Lib.hid (show (Tryz.prog.info? 38).map (·.size) = some (opV o pa pc).size by rw [z07 HOF.out.d.ref.1];exact Tryz.sizeO)
   have HSZ:=Lib.hid (show (opV z05 none 0).size = (opV o pa pc).size by rw [z07 HOF.out.d.ref.1];rfl)
   have HZO:=Lib.hid (show (Tryz.prog.info? 38).bind (·.zero) = some (.agg (opL z05 none 0).toArray) by kernel_rfl)
   clear hor hb6 ho ho1 ho2 hq1 hq2 HGT
   go_wp2_with (first
    | (refine z0j rfl 38 rfl (opL z05 none 0) HZO.out ?_)
    | (refine z01 rfl 38 _ _ rfl rfl w6.heap.size (opV z05 none 0) (opV o pa pc) 38 rfl rfl (heap_alloc_new w6 _) HSV.out HSZ.out (z0z o pa pc) ?_))
   intro w7 hc7 hb7
   have hb67:Below w6.heap.size w6 w7:=But.toBelow ((Below.refl _ w6).alloc (Nat.le_refl _) _) hb7.out (Nat.le_refl _) (by rw [World.size_alloc];exact Nat.le_succ _)
   have HB7:=Lib.hid (HB6.out.trans (hb67.mono HB6.out.size))
   have HB7b:=Lib.hid (HB6b.out.trans (hb67.mono HB6b.out.size))
   have HY7:=Lib.hid (HY6.out.below hb67)
   have HO7:=Lib.hid hc7.out
   have HIO7:=Lib.hid (HIO.out.below hb67)
   obtain ⟨g7,hg7⟩:∃ g,w6.heap.size = g:=⟨_,rfl⟩
   rw [hg7] at HO7 ⊢
   clear hc7 hb7 hb67 hg7 HY HY6 HIO
   obtain ⟨ro,rc,rfl⟩:=(HRF.out w7 HB7.out).ops.form
   obtain ⟨bo,oo,rfl,hbo,py,cy,hry,hia,_⟩:=(HRF.out w7 HB7.out).ops.at.get HQ1.out
   have hqN:(q:Int) < (s.ops.length:Int):=by
    have:=(List.getElem?_eq_some_iff.1 HQ1.out).1
    omega
   have HRY:=Lib.hid (fun w' (r:Below w7.heap.size w7 w')=>z0g hry r hbo)
   have HCO:=Lib.hid (fun w' (r:Below w7.heap.size w7 w')=>show w'.cell? ⟨gs,0,none⟩ = some (.slice (some ⟨bo,oo,none⟩) s.ops.length rc) from ((HRF.out w7 HB7.out).cells.below r).at 0)
   have HYC:=Lib.hid (fun w' (r:Below w7.heap.size w7 w')=>HY7.out.below r)
   have HOC:=Lib.hid (fun w' (r:Below w7.heap.size w7 w')=>HO7.out.below r)
   have HAT:=Lib.hid (fun w' (r:Below w7.heap.size w7 w')=>show Calls Tryz.prog 21 #[.pointer (some ⟨gs,0,none⟩),.agg (z06 .u8 x).toArray] w' fun e w''=>e = .returned (.int .i64 (q:Int)) ∧ Below w'.heap.size w' w'' from by
    have h:=z69 X2 gs _ vw vn vq s x w' ((HRF.out w7 HB7.out).below r) HXI.out.1 HXI.out.2 (by have:=HTM.out.many;omega)
    rwa [HQ2.out] at h)
   have HSA:=Lib.hid (fun w' (r:Below w7.heap.size w7 w')=>show Calls Tryz.prog 20 #[.agg (opV o pa pc),.agg (opV o py cy)] w' fun e w''=>e = .returned (.bool true) ∧ Below w'.heap.size w' w'' from by
    have h:=z5h o o pa py pc cy w' HOF.out.ok HOF.out.ok (HIO7.out.below r) (hia.below r) (by have:=HOF.out.many;omega) (by have:=HOF.out.many;omega)
    rwa [decide_eq_true rfl] at h)
   have HSO:=Lib.hid (show (Tryz.prog.info? 38).map (·.size) = some (opL o py cy).length by rw [z2i HOF.out.d.ref.1];exact Tryz.sizeO)
   clear hry hia hbo
   obtain ⟨NN,hNN⟩:∃ NN,s.ops.length = NN:=⟨_,rfl⟩
   rw [hNN] at hqN HCO
   clear hNN
   go_upto_region 7 with (fail)
   refine z09 (fun w'=>Below w7.heap.size w7 w') (by kernel_rfl) (by kernel_rfl) (Below.refl _ _).drew ?_
   repeat (first
    | go_big_quiet_skip
    | (go_big_quiet_want;refine z0n 38 _ rfl g7 (opV o pa pc) 38 _ rfl HOC.out Tryz.underlying38 rfl HSV.out ?_;go_big_quiet_on;simp only [Act.put,zS,zA,zB])
    | (go_big_quiet_want;refine z02 29 _ rfl ⟨gs,0,none⟩ _ rfl HCO.out Tryz.isAgg29 ?_;go_big_quiet_on;simp only [Act.put,zS,zA,zB])
    | (go_big_quiet_want;refine z0q 25 _ rfl g6 .u8 x 25 _ rfl HYC.out Tryz.underlying25 rfl HS1.out ?_;go_big_quiet_on;simp only [Act.put,zS,zA,zB])
    | (go_big_quiet_want;refine z36 38 _ rfl bo (oo + q * 38) (opL o py cy) _ rfl HRY.out Tryz.underlying38 rfl HSO.out ?_;go_big_quiet_on;simp only [Act.put,zS,zA,zB])
    | go_big_quiet_step ((intro hs';first
     | (go_at_call 21;exact (HAT.out _ hs').mono fun e w' h=>⟨h.1,hs'.trans (h.2.mono hs'.size)⟩)
     | (go_at_call 20;exact (HSA.out _ hs').mono fun e w' h=>⟨h.1,hs'.trans (h.2.mono hs'.size)⟩)
     | rfl)))
   refine wpQuiet_nil ?_
   intro w8 hs8
   have HB8b:=Lib.hid (HB7b.out.trans (hs8.mono HB7b.out.size))
   clear hs8
   go_wp2_with fail
   exact ⟨⟨k + 1,by omega,by go_num,HB8b.out⟩,by simp [intOf];omega⟩
  ·obtain rfl:k = m:=by omega
   go_wp2_with fail
   go_ret
   exact ⟨rfl,HBb.out.trans (HBW.out.mono HBb.out.size)⟩
structure TwoAt (Z:Nat → Prop) (B:Bs) (gs:Nat) (w4:World) (k:Nat) (X:Nat → Prop) (T:Ents) (s t:DagN) (hs:List (List Nat)) (M:Bh) (vo vw vn vq:Value) (wr:World):Prop where
 set:SetAt X B T s hs M wr
 inv:DInv s hs M [] []
 tameS:Tame s
 tameT:Tame t
 ref:RefAt Z gs vo vw vn vq t wr
 cntS:s.ops.length + s.wait.length ≤ k
 cntT:t.ops.length + t.wait.length ≤ k
 xz:∀ b,X b → Z b
 hi:∀ b,wr.heap.size ≤ b → X b
 dis:∀ b,SetO B T b → ¬ RefX gs vo vw vn vq b
 mine:∀ b,RefX gs vo vw vn vq b → X b
 only:Only Z w4 wr
section
variable {Z:Nat → Prop} {B:Bs} {gs:Nat} {w4:World} {k:Nat} {X:Nat → Prop} {T:Ents} {s t:DagN} {hs:List (List Nat)} {M:Bh} {vo vw vn vq:Value} {wr w':World} {x:OpN}
theorem TwoAt.below (h:TwoAt Z B gs w4 k X T s t hs M vo vw vn vq wr) (b:Below wr.heap.size wr w'):TwoAt Z B gs w4 k X T s t hs M vo vw vn vq w' :=
 ⟨h.set.below b,h.inv,h.tameS,h.tameT,h.ref.below b,h.cntS,h.cntT,h.xz,fun c hc=>h.hi c (Nat.le_trans b.size hc),h.dis,h.mine,h.only.below b⟩
theorem TwoAt.dev (h:TwoAt Z B gs w4 k X T s t hs M vo vw vn vq wr) {e:Ending} (hd:DevTake X B T (z1l s x) wr e w') :
 ∃ v X' T' hs' M',e = .returned (.tuple #[v,.int .i64 (z1l s x).2.1]) ∧ OwnI wr.heap.size 25 v (z1l s x).1 w' ∧ TwoAt Z B gs w4 (k + 1) X' T' (z1l s x).2.2 t hs' M' vo vw vn vq w' ∧ Turn (SetO B T) (SetO B T') wr w' ∧ (∀ b,b < wr.heap.size → X b → X' b):=by
 obtain ⟨v,X',T',hs',M',he,hv,h1,h2,h3,h4,_,h5,h6,h7⟩:=hd
 have hc:=(z2k h.tameS.shallow x).2
 have hs':=h.cntS
 refine ⟨v,X',T',_,M',he,hv,⟨h1,h2,h3,h.tameT,h.ref.only h4.only (fun b hb=>h.xz b (SetO.x h.set hb).1) (fun b hb e=>h.dis b e hb),by omega,Nat.le_succ_of_le h.cntT,fun b hb=>h.xz b (h5 b hb),h7,fun b hb e=>?_,fun b hb=>h6 b (h.ref.lt hb) (h.mine b hb),h.only.trans h4.only (fun b hb=>.inl (h.xz b (SetO.x h.set hb).1))⟩,h4,h6⟩
 rcases h4.own b hb with e' | e'
 ·exact h.dis b e' e
 ·have:=h.ref.lt e
  omega
theorem TwoAt.doc (h:TwoAt Z B gs w4 (k + 1) X T s t hs M vo vw vn vq wr) (ht:t.ops.length + t.wait.length ≤ k) {e:Ending} (hd:TakePost Z gs wr.heap.size (RefX gs vo vw vn vq) wr (z1l t x) e w') :
 ∃ v vo' vw' vn' vq',e = .returned (.tuple #[v,.int .i64 (z1l t x).2.1]) ∧ OwnI wr.heap.size 25 v (z1l t x).1 w' ∧ TwoAt Z B gs w4 (k + 1) X T s (z1l t x).2.2 hs M vo' vw' vn' vq' w' ∧ Turn (RefX gs vo vw vn vq) (RefX gs vo' vw' vn' vq') wr w':=by
 obtain ⟨v,vo',vw',vn',vq',he,hv,h1,h2,h3⟩:=hd
 have hc:=(z2k h.tameT.shallow x).2
 refine ⟨v,vo',vw',vn',vq',he,hv,⟨h.set.only h2.only h.mine (fun b hb=>h.dis b hb),h.inv,h.tameS,h3,h1,h.cntS,by omega,h.xz,fun b hb=>h.hi b (Nat.le_trans h2.only.size hb),fun b hb e=>?_,fun b hb=>?_,h.only.trans h2.only (fun b hb=>.inl (h.ref.mine b hb))⟩,h2⟩
 ·rcases h2.own b e with e' | e'
  ·exact h.dis b hb e'
  ·have:=(SetO.x h.set hb).2
   omega
 ·rcases h2.own b hb with e' | e'
  ·exact h.mine b e'
  ·exact h.hi b e'
end
theorem z5n:∀ (f:Nat) (s:DagN),Ids (z0t f s).1 ∧ (z0t f s).1.length ≤ f
 | 0,s=>⟨(fun x hx=>by cases hx),Nat.le_refl _⟩
 | f + 1, s => by
   unfold z0t
   split
   ·exact ⟨(fun x hx=>by cases hx),Nat.zero_le _⟩
   ·split
    ·exact ⟨(fun x hx=>by cases hx),Nat.zero_le _⟩
    ·rename_i o _
     split
     ·obtain ⟨h1,h2⟩:=z5n f ⟨s.ops ++ [o],s.wait.eraseIdx ‹Nat›⟩
      refine ⟨fun x hx=>?_,by rw [List.length_cons];omega⟩
      rcases List.mem_cons.1 hx with rfl | hx
      ·exact ⟨z1u o,z2o o⟩
      ·exact h1 x hx
     ·obtain ⟨h1,h2⟩:=z5n f ⟨s.ops,s.wait.eraseIdx ‹Nat›⟩
      exact ⟨h1,by omega⟩
theorem zge (s:DagN) (x:OpN):Ids (z1l s x).1 ∧ (z1l s x).1.length ≤ s.wait.length + 1:=by
 unfold z1l
 split
 ·exact ⟨(fun x hx=>by cases hx),Nat.zero_le _⟩
 ·split
  ·exact ⟨(fun x hx=>by cases hx),Nat.zero_le _⟩
  ·split
   ·exact ⟨(fun x hx=>by cases hx),Nat.zero_le _⟩
   ·split
    ·exact ⟨(fun x hx=>by cases hx),Nat.zero_le _⟩
    ·obtain ⟨h1,h2⟩:=z5n s.wait.length ⟨s.ops ++ [x],s.wait⟩
     refine ⟨fun y hy=>?_,by rw [List.length_cons];omega⟩
     rcases List.mem_cons.1 hy with rfl | hy
     ·exact ⟨z1u x,z2o x⟩
     ·exact h1 y hy
theorem zgy {s:DagN} {n:List Nat} {o:OpN} {pa:Option Addr} {pc:Nat} {e:Ending}
 (h:(o ∈ s.ops ∧ z0a o = n ∧ e = .returned (.tuple #[.agg (opV o pa pc),.int .i64 0])) ∨ (n ∉ s.names ∧ o = z05 ∧ e = .returned (.tuple #[.agg (opV o pa pc),.int .i64 5]))) :
 ∃ (g:Int) (q:Int),e = .returned (.tuple #[.agg (opV o pa pc),.int .i64 g]) ∧ atN s.names n = q ∧ (g = 0 ∧ 0 ≤ q ∨ g = 5 ∧ q < 0):=by
 rcases h with ⟨h1,rfl,rfl⟩ | ⟨h1,rfl,rfl⟩
 ·refine ⟨0,_,rfl,rfl,.inl ⟨rfl,?_⟩⟩
  rw [atN,if_pos (show z0a o ∈ s.names from List.mem_map.2 ⟨o,h1,rfl⟩)]
  omega
 ·refine ⟨5,_,rfl,rfl,.inr ⟨rfl,?_⟩⟩
  rw [atN,if_neg h1]
  decide
theorem zci (c:Int) (w:World):(binOp .eql 40 (.int .i64 c) (.int .i64 c)).run Tryz.prog w = .ok (.bool true) w:=by go_simp
theorem geq_yes {q:Int} (h:0 ≤ q) (w:World):(binOp .geq 3 (.int .i64 q) (.int .i64 0)).run Tryz.prog w = .ok (.bool true) w:=by
 go_simp
theorem geq_no {q:Int} (h:q < 0) (w:World):(binOp .geq 3 (.int .i64 q) (.int .i64 0)).run Tryz.prog w = .ok (.bool false) w:=by
 go_simp
namespace dagDoes
theorem walk (W:World) (hk:KAt W) (ao:Option Addr) (l:List MakeN) (c:Nat) (hs:MksAt ao l W) (hn:∀ x ∈ l,x.In) (ht:l.length ≤ 140737488351232)
 (bo:Option Addr) (r:List Int) (rc:Nat) (hr:IntsIn bo r W) (_hz:∀ z ∈ r,I64 z) (hl:r.length ≤ 140737488351232) (n:List Nat) (hi:IdOk n) (A:Int) (_hA:(Lit.int .i64 A).wf = true) (d:DraftN) (hd:d.In) :
 Calls Tryz.prog 3 #[.slice ao l.length c,.slice bo r.length rc,.agg (z06 .u8 n).toArray,.int .i64 A,.agg (z0d d)] W fun e W'=>e = .returned (.bool true) ∧ Below W.heap.size W W':=by
 have HS:=Lib.hid hs
 have HN:=Lib.hid hn
 have HT:=Lib.hid ht
 have HR:=Lib.hid hr
 have HI:=Lib.hid hi
 have HD:=Lib.hid hd
 have HSO:=Lib.hid (show (Tryz.prog.info? 38).bind (·.zero) = some (.agg (opL z05 none 0).toArray) by kernel_rfl)
 obtain ⟨nr,hnr⟩:∃ i,r.length = i:=⟨_,rfl⟩
 rw [hnr] at hl ⊢
 have HNR:=Shut.mk hnr
 obtain ⟨nl,hnl⟩:∃ i,l.length = i:=⟨_,rfl⟩
 have HMD:=Lib.hid (fun w1 (b:Below W.heap.size W w1)=>zb2 W ao l c w1 HS.out HN.out HT.out b)
 rw [hnl] at HMD ⊢
 have x1:Blk W.heap.size 24 .u8 n (W.alloc (.cells (z06 .u8 n).toArray 24)):=heap_alloc_new W _
 have a1:Below W.heap.size W (W.alloc (.cells (z06 .u8 n).toArray 24)):=(Below.refl _ _).alloc (Nat.le_refl _) _
 have s1:(W.alloc (.cells (z06 .u8 n).toArray 24)).heap.size = W.heap.size + 1:=World.size_alloc _ _
 have a2:Below (W.alloc (.cells (z06 .u8 n).toArray 24)).heap.size (W.alloc (.cells (z06 .u8 n).toArray 24)) ((W.alloc (.cells (z06 .u8 n).toArray 24)).alloc (.cells (z0d d) 27)):=(Below.refl _ _).alloc (Nat.le_refl _) _
 have x2:Cells (W.alloc (.cells (z06 .u8 n).toArray 24)).heap.size 27 (z0d d) ((W.alloc (.cells (z06 .u8 n).toArray 24)).alloc (.cells (z0d d) 27)):=heap_alloc_new _ _
 rw [s1] at x2
 have y1:=x1.below a2
 have hb0:=a1.trans (a2.mono a1.size)
 have HK:=Lib.hid (hk.below hb0)
 clear hk hs hn ht hr hnr hnl hi hd x1 a1 s1 a2
 go_enter Tryz.func3,Tryz.ntmps3
 go_upto_region 1 with (fail)
 obtain ⟨w0,hw0⟩:∃ x,x = (W.alloc (.cells (z06 .u8 n).toArray 24)).alloc (.cells (z0d d) 27):=⟨_,rfl⟩
 rw [← hw0] at x2 y1 hb0 HK ⊢
 have HX7:=Lib.hid y1
 have HX9:=Lib.hid x2
 have HB0:=Lib.hid hb0
 obtain ⟨g7,hg7⟩:∃ g,W.heap.size = g:=⟨_,rfl⟩
 obtain ⟨g9,hg9⟩:∃ g,W.heap.size + 1 = g:=⟨_,rfl⟩
 rw [hg7] at HX7
 rw [hg9] at HX9
 rw [show (W.heap.size + 1:Nat) = g9 from hg9] at *
 rw [hg7]
 clear hw0 x2 y1 hb0 hg7 hg9
 go_wp2_with fail
 refine (zeq w0 HK.out).mono ?_
 rintro e w1 ⟨rfl,hb1⟩
 have HB1:=Lib.hid (HB0.out.trans (hb1.mono HB0.out.size))
 have HK1:=Lib.hid (HK.out.below hb1)
 have HX71:=Lib.hid (HX7.out.below hb1)
 have HX91:=Lib.hid (HX9.out.below hb1)
 clear hb1 HX7 HX9 HK HB0
 go_wp2_with fail
 refine (HMD.out w1 HB1.out).mono ?_
 rintro e w2 ⟨v2,L,rfl,ho2,hf2,hl2,hb2⟩
 obtain ⟨oa,oc,rfl⟩:=ho2.form
 have HO2:=Lib.hid ho2
 have HF2:=Lib.hid hf2
 have HB2:=Lib.hid (HB1.out.trans (hb2.mono HB1.out.size))
 have HK2:=Lib.hid (HK1.out.below hb2)
 have HX72:=Lib.hid (HX71.out.below hb2)
 have HX92:=Lib.hid (HX91.out.below hb2)
 obtain ⟨N,hN⟩:∃ i,L.length = i:=⟨_,rfl⟩
 rw [hN] at hl2 ⊢
 have HNL:=Shut.mk hN
 obtain ⟨_,dk,dv,_⟩:=z2z HX92.out
 clear ho2 hf2 hb2 hN HMD HX71 HX91 HB1 HK1
 by_cases h60:nr ≤ 60
 ·have q1:decide ((60:Int) < (nr:Int)) = false:=decide_eq_false (by omega)
  by_cases h0:N = 0
  ·have q2:((N:Int) == 0) = true:=by simp [h0]
   go_wp2_with fail
   go_ret
   exact ⟨rfl,HB2.out⟩
  ·have q2:((N:Int) == 0) = false:=by simpa using h0
   by_cases hk100:d.key.length ≤ 100
   ·have q3:decide ((100:Int) < (d.key.length:Int)) = false:=decide_eq_false (by omega)
    by_cases hv100:d.val.length ≤ 100
    ·have q4:decide ((100:Int) < (d.val.length:Int)) = false:=decide_eq_false (by omega)
     have HKL:=Lib.hid (show d.key.length ≤ 140737488351232 by omega)
     have HVL:=Lib.hid (show d.val.length ≤ 140737488351232 by omega)
     have HFIT:=Lib.hid (show d.Fit from ⟨HD.out.ref,HD.out.low,HD.out.high,by omega,by omega⟩)
     go_wp2_with fail
     refine (za1 (fun b=>w2.heap.size ≤ b) w2 (fun b h=>h)).mono ?_
     rintro e w3 ⟨B,rfl,hs3,hb3⟩
     have b4:Below w3.heap.size w3 (w3.alloc (.cells #[.slice none 0 0,.slice none 0 0,.slice none 0 0,.slice none 0 0] 36)):=(Below.refl _ _).alloc (Nat.le_refl _) _
     have HTW:=Lib.hid (show TwoAt (fun b=>w2.heap.size ≤ b) B w3.heap.size w2 0 (fun b=>w2.heap.size ≤ b) ⟨[],[],[]⟩ DagN.new DagN.new [] [] (.slice none 0 0) (.slice none 0 0) (.slice none 0 0) (.slice none 0 0) (w3.alloc (.cells #[.slice none 0 0,.slice none 0 0,.slice none 0 0,.slice none 0 0] 36)) from
      ⟨hs3.below b4,DInv.new,z4b,z4b,z9y _ w3 hb3.size,Nat.le_refl _,Nat.le_refl _,fun _ h=>h,fun b h=>Nat.le_trans (Nat.le_trans hb3.size b4.size) h,fun b h e=>(by
       have h1:=(SetO.x hs3 h).2
       rcases e with rfl | e | e | e | e
       ·omega
       all_goals cases e),(fun b e=>by
       rcases e with rfl | e | e | e | e
       ·exact hb3.size
       all_goals cases e),(Only.of hb3).below b4⟩)
     obtain ⟨gs,hgs⟩:∃ g,w3.heap.size = g:=⟨_,rfl⟩
     have HGS:=Shut.mk hgs
     rw [hgs] at HTW
     clear hs3 hb3 b4 q1 q2 q3 q4 dk dv hk100 hv100
     go_wp2_with fail
     try rw [hgs]
     clear hgs
     go_loopw [63] (fun i wr=>∃ (k:Nat) (X:Nat → Prop) (T:Ents) (s:DagN) (hs:List (List Nat)) (M:Bh) (vo vw vn vq:Value),k ≤ nr ∧ i = .int .i64 k ∧ TwoAt (fun b=>w2.heap.size ≤ b) B gs w2 k X T s s hs M vo vw vn vq wr) (fun i _=>nr - (intOf i).toNat)
     case atStart=>exact ⟨0,_,_,_,_,_,_,_,_,_,Nat.zero_le _,rfl,HTW.out⟩
     case round =>
      clear HTW
      obtain ⟨k,X,T,s,hs,M,vo,vw,vn,vq,hkn,rfl,htw⟩:=hrel
      have HTW:=Lib.hid htw
      have HBR:=Lib.hid (show Below w2.heap.size w2 wr from Only.toBelow (Below.refl _ _) htw.only (fun _ h=>h) (Nat.le_refl _))
      have HBW:=Lib.hid (HB2.out.trans (HBR.out.mono HB2.out.size))
      clear htw
      by_cases hlt:k < nr
      ·obtain ⟨bb,ob,rfl,hbb,hcell⟩:=ze0 HR.out (by rw [HNR.out];omega)
       have c1:wr.cell? ⟨bb,ob + k,none⟩ = some (.int .i64 (r.getD k 0)):=(HBW.out.cell (p:=⟨bb,ob + k,none⟩) hbb).trans (hcell k (by rw [HNR.out];exact hlt))
       obtain ⟨z,hz⟩:∃ z,r.getD k 0 = z:=⟨_,rfl⟩
       rw [hz] at c1
       obtain ⟨q,hqN,hqe⟩:=zh5 z (n:=N) (by omega) (by omega)
       obtain ⟨y,hy⟩:∃ y,L[q]? = some y:=⟨_,List.getElem?_eq_getElem (by rw [HNL.out];exact hqN)⟩
       have HY:=Lib.hid (HF2.out y (List.mem_of_getElem? hy))
       obtain ⟨bL,oL,rfl,hbL,pa,pc,hrow,hia,_⟩:=HO2.out.at.get hy
       have HRW:=Lib.hid (z0g hrow HBR.out hbL)
       have HIA:=Lib.hid (hia.below HBR.out)
       have HOF:=Lib.hid (show OffX (fun b=>w2.heap.size ≤ b) pa y.preds from fun a ha h0 e=>by have:=hia.lt h0 ha;omega)
       have HSL:=Lib.hid (show (Tryz.prog.info? 38).map (·.size) = some (opL y pa pc).length by rw [z2i HY.out.d.ref.1];exact Tryz.sizeO)
       have hqi:(q:Int) < (N:Int):=by omega
       clear hz hy hbL hrow hia hcell hbb
       have HSV17:=Lib.hid (show (Tryz.prog.info? 38).map (·.size) = some (opV y pa pc).size by rw [z07 HY.out.d.ref.1];exact Tryz.sizeO)
       have HSZ17:=Lib.hid (show (opL z05 none 0).toArray.size = (opV y pa pc).size by rw [z07 HY.out.d.ref.1];rfl)
       go_wp2_with (first
        | (refine wpList_load_mid rfl 38 _ rfl bL (oL + q * 38) rfl (opL y pa pc) _ HRW.out Tryz.underlying38 rfl HSL.out ?_)
        | (refine z0j rfl 38 rfl (opL z05 none 0) HSO.out ?_)
        | (refine z01 rfl 38 _ _ rfl rfl wr.heap.size (opL z05 none 0).toArray (opV y pa pc) 38 rfl rfl (heap_alloc_new wr _) HSV17.out HSZ17.out (z0z y pa pc) ?_))
       intro w5 hcs hbs
       have hbb:Below wr.heap.size wr w5:=But.toBelow ((Below.refl _ wr).alloc (Nat.le_refl _) _) hbs.out (Nat.le_refl _) (by rw [World.size_alloc];exact Nat.le_succ _)
       have HC17:=Lib.hid hcs.out
       have HTW5:=Lib.hid (HTW.out.below hbb)
       have HIA5:=Lib.hid (HIA.out.below hbb)
       have HBR5:=Lib.hid (HBR.out.trans (hbb.mono HBR.out.size))
       have HS5:=Lib.hid (hbb.size)
       obtain ⟨g17,hgg⟩:∃ g,wr.heap.size = g:=⟨_,rfl⟩
       have HG17:=Lib.hid (show wr.heap.size ≤ g17 from hgg ▸ Nat.le_refl _)
       rw [hgg] at HC17 ⊢
       clear hcs hbs hbb hgg HSZ17
       have HTK:=Lib.hid (z6a X B T s hs M y pa pc w5 HTW5.out.set HTW5.out.hi HTW5.out.inv HTW5.out.tameS HY.out HIA5.out (HK2.out.below HBR5.out) (by have:=HTW5.out.cntS;omega))
       go_wp2_with (refine z00 rfl 38 (.tmp 17) rfl g17 (opV y pa pc) 38 _ rfl HC17.out Tryz.underlying38 rfl HSV17.out ?_)
       refine HTK.out.mono ?_
       intro e w6 hdt
       obtain ⟨v6,X6,T6,hs6,M6,rfl,ho6,htw6,htu6,_⟩:=HTW5.out.dev hdt
       obtain ⟨a6,c6,rfl⟩:=ho6.form
       have HTW6:=Lib.hid htw6
       have HO6:=Lib.hid ho6
       have h17lt:=HC17.out.lt
       have HC176:=Lib.hid (HC17.out.only htu6.only (fun e=>by have h1:=(SetO.x HTW.out.set e).2;have h2:=HG17.out;omega))
       have HIA6:=Lib.hid (HIA5.out.only htu6.only (HOF.out.mono (fun b hb=>HTW5.out.xz b (SetO.x HTW5.out.set hb).1)))
       obtain ⟨NM,hNM⟩:∃ z,(z1l s y).1 = z:=⟨_,rfl⟩
       obtain ⟨cc,hcc⟩:∃ z,(z1l s y).2.1 = z:=⟨_,rfl⟩
       have hce:(cc != cc) = false:=by simp
       have htn:=zge s y
       have hmn:=HTW.out.tameS.many
       rw [hNM] at HO6 htn
       have HTN:=Lib.hid htn.1
       have HTL:=Lib.hid (show NM.length ≤ 1000000 by have:=htn.2;omega)
       rw [hNM,hcc]
       clear hdt htw6 ho6 htu6 HTK HC17 htn hmn h17lt
       have HTK2:=Lib.hid (z6t (fun b=>w2.heap.size ≤ b) gs vo vw vn vq s y pa pc w6 HTW6.out.ref (fun b hb=>HTW6.out.xz b (HTW6.out.hi b hb)) HTW6.out.tameT HY.out HIA6.out HOF.out (by have:=HTW6.out.cntT;have:=HTW.out.cntT;omega))
       go_wp2_with (refine z00 rfl 38 (.tmp 17) rfl g17 (opV y pa pc) 38 _ rfl HC176.out Tryz.underlying38 rfl HSV17.out ?_)
       refine HTK2.out.mono ?_
       intro e w7 hdt
       obtain ⟨v7,vo7,vw7,vn7,vq7,rfl,ho7,htw7,htu7⟩:=HTW6.out.doc HTW.out.cntT hdt
       obtain ⟨a7,c7,rfl⟩:=ho7.form
       rw [hNM] at ho7
       have HTW7:=Lib.hid htw7
       have HA7:=Lib.hid (ho7.at HTN.out)
       have HC177:=Lib.hid (HC176.out.only htu7.only (fun e=>by have h1:=HTW.out.ref.lt e;have h2:=HG17.out;omega))
       have HA6:=Lib.hid ((HO6.out.only htu7.only (fun g hg e=>by have h1:=(World.ownsRow.lt HO6.out g hg).1;have h2:=HTW.out.ref.lt e;have h3:=HS5.out;omega)).at HTN.out)
       rw [hNM,hcc]
       clear hdt htw7 ho7 htu7 HTK2 HO6 HC176 HIA6
       have HTN7:=Lib.hid (fun w' (b:Below w7.heap.size w7 w')=>HTW7.out.below b)
       go_wp2_with (refine z00 rfl 38 (.tmp 17) rfl g17 (opV y pa pc) 38 _ rfl HC177.out Tryz.underlying38 rfl HSV17.out ?_)
       refine (zby y pa pc w7).mono ?_
       rintro e w8 ⟨rfl,hb8⟩
       have HB8:=Lib.hid hb8
       have HID:=Lib.hid (show Calls Tryz.prog 15 #[.slice a6 NM.length c6,.slice a7 NM.length c7] w8 fun e w'=>e = .returned (.bool true) ∧ Below w8.heap.size w8 w' from by
        have h:=zbd a6 a7 c6 c7 NM.length NM.length NM NM w8 (HA6.out.below hb8) (HA7.out.below hb8) HTN.out HTN.out rfl rfl HTL.out HTL.out
        rwa [decide_eq_true rfl] at h)
       clear hb8 HA6 HA7 hNM hcc
       go_wp2_with fail
       refine HID.out.mono ?_
       rintro e w9 ⟨rfl,hb9⟩
       have HB9:=Lib.hid (HB8.out.trans (hb9.mono HB8.out.size))
       have HSM:=Lib.hid (z9u X6 _ B T6 _ _ M6 gs vo7 vw7 vn7 vq7 w9 (HTN7.out w9 HB9.out).set (HTN7.out w9 HB9.out).inv (HTN7.out w9 HB9.out).tameS (HTN7.out w9 HB9.out).ref)
       clear hb9
       go_wp2_with fail
       refine HSM.out.mono ?_
       rintro e w10 ⟨rfl,hb10⟩
       have HFI:=Lib.hid ((HTN7.out w10 (HB9.out.trans (hb10.mono HB9.out.size))))
       clear hb10
       go_wp2_with fail
       exact ⟨⟨k + 1,X6,T6,_,hs6,M6,vo7,vw7,vn7,vq7,by omega,by go_num,HFI.out⟩,by simp [intOf];omega⟩
      ·obtain rfl:k = nr:=by omega
       have HX73:=Lib.hid (HX72.out.below HBR.out)
       have HX93:=Lib.hid (HX92.out.below HBR.out)
       have HSN:=Lib.hid (show (Tryz.prog.info? 24).map (·.size) = some n.length by rw [HI.out.1];kernel_rfl)
       have HSD:=Lib.hid (show (Tryz.prog.info? 27).map (·.size) = some (z0d d).size by rw [z5a HD.out.ref.1];exact Tryz.sizeD)
       have HNX:=Lib.hid (fun w' (b:Below wr.heap.size wr w')=>zbv X B T s hs M A d w' (HTW.out.below b).set HTW.out.inv HD.out.ref HKL.out HVL.out HTW.out.tameS)
       have HRX:=Lib.hid (fun w' (b:Below wr.heap.size wr w')=>zf8 (fun b=>w2.heap.size ≤ b) gs vo vw vn vq s A d w' (HTW.out.below b).ref HD.out.ref HKL.out HVL.out (fun x hx=>⟨(HTW.out.tameS.ops x hx).d.ref.1,(HTW.out.tameS.ops x hx).preds,by have:=(HTW.out.tameS.ops x hx).many;omega⟩) (by have:=HTW.out.tameS.many;omega) HTW.out.tameS.shallow)
       obtain ⟨xo,ce,hnx,HXO⟩:∃ (xo:OpN) (ce:Int),((z2a s A d).1.getD z05 = xo ∧ (z2a s A d).2 = ce) ∧ Hid (xo.Ok ∧ xo.preds.length ≤ 140737488351232):=by
        refine ⟨_,_,⟨rfl,rfl⟩,Lib.hid ?_⟩
        rcases zan s A d with ⟨c0,h,_⟩ | h
        ·rw [h]
         exact ⟨⟨zeroI_ok,fun p hp=>by cases hp⟩,Nat.zero_le _⟩
        ·rw [h]
         refine ⟨⟨HD.out.ref,fun p hp=>z12 p (z80 hp)⟩,?_⟩
         have h1:=z6c s
         have h2:=HTW.out.tameS.many
         show (z19 s).length ≤ _
         omega
       have hcq:=zci ce
       have HCQ:=Lib.hid hcq
       clear hcq
       go_wp2_with (refine z00 rfl 27 (.tmp 9) rfl g9 (z0d d) 27 _ rfl HX93.out Tryz.underlying27 rfl HSD.out ?_)
       refine (HNX.out wr (Below.refl _ _)).mono ?_
       rintro e w20 ⟨⟨p1,k1,rfl,hi1,_⟩,hb20⟩
       rw [hnx.1] at hi1
       rw [hnx.1,hnx.2]
       have HB20:=Lib.hid hb20
       have HI20:=Lib.hid hi1
       clear hb20 hi1
       have HSV24:=Lib.hid (show (Tryz.prog.info? 38).map (·.size) = some (opV xo p1 k1).size by rw [z07 HXO.out.1.1.1];exact Tryz.sizeO)
       have HSZ24:=Lib.hid (show (opL z05 none 0).toArray.size = (opV xo p1 k1).size by rw [z07 HXO.out.1.1.1];rfl)
       go_wp2_with (first
        | (refine z0j rfl 38 rfl (opL z05 none 0) HSO.out ?_)
        | (refine z01 rfl 38 _ _ rfl rfl w20.heap.size (opL z05 none 0).toArray (opV xo p1 k1) 38 rfl rfl (heap_alloc_new w20 _) HSV24.out HSZ24.out (z0z xo p1 k1) ?_))
       intro w21 hcs hbs
       have hbb:Below w20.heap.size w20 w21:=But.toBelow ((Below.refl _ w20).alloc (Nat.le_refl _) _) hbs.out (Nat.le_refl _) (by rw [World.size_alloc];exact Nat.le_succ _)
       have HC24:=Lib.hid hcs.out
       have HB21:=Lib.hid (HB20.out.trans (hbb.mono HB20.out.size))
       have HI21:=Lib.hid (HI20.out.below hbb)
       obtain ⟨g24,hgg⟩:∃ g,w20.heap.size = g:=⟨_,rfl⟩
       rw [hgg] at HC24 ⊢
       clear hcs hbs hbb hgg HSZ24
       have HX921:=Lib.hid (HX93.out.below HB21.out)
       go_wp2_with (refine z00 rfl 27 (.tmp 9) rfl g9 (z0d d) 27 _ rfl HX921.out Tryz.underlying27 rfl HSD.out ?_)
       refine (HRX.out w21 HB21.out).mono ?_
       rintro e w22 ⟨⟨p2,k2,rfl,hi2,_⟩,hb22⟩
       rw [hnx.1] at hi2
       rw [hnx.1,hnx.2]
       have HB22:=Lib.hid (HB21.out.trans (hb22.mono HB21.out.size))
       have HC242:=Lib.hid (HC24.out.below hb22)
       have HI22:=Lib.hid hi2
       have HI212:=Lib.hid (HI21.out.below hb22)
       clear hb22 hi2 HC24 HI21
       have HSV26:=Lib.hid (show (Tryz.prog.info? 38).map (·.size) = some (opV xo p2 k2).size by rw [z07 HXO.out.1.1.1];exact Tryz.sizeO)
       have HSZ26:=Lib.hid (show (opL z05 none 0).toArray.size = (opV xo p2 k2).size by rw [z07 HXO.out.1.1.1];rfl)
       go_wp2_with (first
        | (refine z0j rfl 38 rfl (opL z05 none 0) HSO.out ?_)
        | (refine z01 rfl 38 _ _ rfl rfl w22.heap.size (opL z05 none 0).toArray (opV xo p2 k2) 38 rfl rfl (heap_alloc_new w22 _) HSV26.out HSZ26.out (z0z xo p2 k2) ?_))
       intro w23 hcs hbs
       have hbb:Below w22.heap.size w22 w23:=But.toBelow ((Below.refl _ w22).alloc (Nat.le_refl _) _) hbs.out (Nat.le_refl _) (by rw [World.size_alloc];exact Nat.le_succ _)
       have HC26:=Lib.hid hcs.out
       have HB23:=Lib.hid (HB22.out.trans (hbb.mono HB22.out.size))
       have HC243:=Lib.hid (HC242.out.below hbb)
       have HI213:=Lib.hid (HI212.out.below hbb)
       have HI223:=Lib.hid (HI22.out.below hbb)
       obtain ⟨g26,hgg⟩:∃ g,w22.heap.size = g:=⟨_,rfl⟩
       rw [hgg] at HC26 ⊢
       clear hcs hbs hbb hgg HSZ26
       have HX723:=Lib.hid (HX73.out.below HB23.out)
       go_wp2_with (refine z03 rfl 24 (.tmp 7) rfl g7 .u8 n 24 _ rfl HX723.out Tryz.underlying24 rfl HSN.out ?_)
       refine (z81 X B T s hs M n w23 (HTW.out.below HB23.out).set HI.out HTW.out.tameS.ops).mono ?_
       rintro e w24 ⟨⟨o,p3,k3,ho3,hor⟩,hb24⟩
       have hor3:o.d.ref.length = 32:=by
        rcases hor with ⟨h,_,_⟩ | ⟨_,h,_⟩
        ·exact (HTW.out.tameS.ops o h).d.ref.1
        ·rw [h];rfl
       have HOR:=Lib.hid hor3
       obtain ⟨gg,qq,rfl,hqq,hgq⟩:=zgy hor
       have HGQ:=Lib.hid hgq
       have HQQ:=Shut.mk hqq
       have HB24:=Lib.hid (HB23.out.trans (hb24.mono HB23.out.size))
       have HC244:=Lib.hid (HC243.out.below hb24)
       have HC264:=Lib.hid (HC26.out.below hb24)
       have HI214:=Lib.hid (HI213.out.below hb24)
       have HI224:=Lib.hid (HI223.out.below hb24)
       clear hb24 ho3 hor hor3 hqq hgq HC243 HC26 HI213 HI223
       have HSV28:=Lib.hid (show (Tryz.prog.info? 38).map (·.size) = some (opV o p3 k3).size by rw [z07 HOR.out];exact Tryz.sizeO)
       have HSZ28:=Lib.hid (show (opL z05 none 0).toArray.size = (opV o p3 k3).size by rw [z07 HOR.out];rfl)
       go_wp2_with (first
        | (refine z0j rfl 38 rfl (opL z05 none 0) HSO.out ?_)
        | (refine z01 rfl 38 _ _ rfl rfl w24.heap.size (opL z05 none 0).toArray (opV o p3 k3) 38 rfl rfl (heap_alloc_new w24 _) HSV28.out HSZ28.out (z0z o p3 k3) ?_))
       intro w25 hcs hbs
       have hbb:Below w24.heap.size w24 w25:=But.toBelow ((Below.refl _ w24).alloc (Nat.le_refl _) _) hbs.out (Nat.le_refl _) (by rw [World.size_alloc];exact Nat.le_succ _)
       have HC28:=Lib.hid hcs.out
       have HB25:=Lib.hid (HB24.out.trans (hbb.mono HB24.out.size))
       have HC245:=Lib.hid (HC244.out.below hbb)
       have HC265:=Lib.hid (HC264.out.below hbb)
       have HI215:=Lib.hid (HI214.out.below hbb)
       have HI225:=Lib.hid (HI224.out.below hbb)
       obtain ⟨g28,hgg⟩:∃ g,w24.heap.size = g:=⟨_,rfl⟩
       rw [hgg] at HC28 ⊢
       clear hcs hbs hbb hgg HSZ28
       have HX725:=Lib.hid (HX73.out.below HB25.out)
       go_wp2_with (refine z03 rfl 24 (.tmp 7) rfl g7 .u8 n 24 _ rfl HX725.out Tryz.underlying24 rfl HSN.out ?_)
       refine (zei n w25).mono ?_
       rintro e w26 ⟨rfl,hb26⟩
       have HB26:=Lib.hid (HB25.out.trans (hb26.mono HB25.out.size))
       have HC246:=Lib.hid (HC245.out.below hb26)
       have HC266:=Lib.hid (HC265.out.below hb26)
       have HI216:=Lib.hid (HI215.out.below hb26)
       have HI226:=Lib.hid (HI225.out.below hb26)
       clear hb26 HC245 HC265 HI215 HI225
       have HSV30:=Lib.hid (show (Tryz.prog.info? 38).map (·.size) = some (opV z05 none 0).size by rw [z07 rfl];exact Tryz.sizeO)
       have HSZ30:=Lib.hid (show (opL z05 none 0).toArray.size = (opV z05 none 0).size by rw [z07 rfl];rfl)
       go_wp2_with (first
        | (refine z0j rfl 38 rfl (opL z05 none 0) HSO.out ?_)
        | (refine z01 rfl 38 _ _ rfl rfl w26.heap.size (opL z05 none 0).toArray (opV z05 none 0) 38 rfl rfl (heap_alloc_new w26 _) HSV30.out HSZ30.out (z0z z05 none 0) ?_))
       intro w27 hcs hbs
       have hbb:Below w26.heap.size w26 w27:=But.toBelow ((Below.refl _ w26).alloc (Nat.le_refl _) _) hbs.out (Nat.le_refl _) (by rw [World.size_alloc];exact Nat.le_succ _)
       have HC30:=Lib.hid hcs.out
       have HB27:=Lib.hid (HB26.out.trans (hbb.mono HB26.out.size))
       have HC247:=Lib.hid (HC246.out.below hbb)
       have HC267:=Lib.hid (HC266.out.below hbb)
       have HI217:=Lib.hid (HI216.out.below hbb)
       have HI227:=Lib.hid (HI226.out.below hbb)
       obtain ⟨g30,hgg⟩:∃ g,w26.heap.size = g:=⟨_,rfl⟩
       rw [hgg] at HC30 ⊢
       clear hcs hbs hbb hgg HSZ30
       have HX927:=Lib.hid (HX93.out.below HB27.out)
       go_wp2_with (refine z00 rfl 27 (.tmp 9) rfl g9 (z0d d) 27 _ rfl HX927.out Tryz.underlying27 rfl HSD.out ?_)
       refine (zce 0 d w27).mono ?_
       rintro e w28 ⟨rfl,hb28⟩
       have HB28:=Lib.hid (HB27.out.trans (hb28.mono HB27.out.size))
       have HC248:=Lib.hid (HC247.out.below hb28)
       have HC268:=Lib.hid (HC267.out.below hb28)
       have HI218:=Lib.hid (HI217.out.below hb28)
       have HI228:=Lib.hid (HI227.out.below hb28)
       clear hb28 HC247 HC267 HI217 HI227
       have HSV32:=Lib.hid (show (Tryz.prog.info? 38).map (·.size) = some (opV z05 none 0).size by rw [z07 rfl];exact Tryz.sizeO)
       have HSZ32:=Lib.hid (show (opL z05 none 0).toArray.size = (opV z05 none 0).size by rw [z07 rfl];rfl)
       go_wp2_with (first
        | (refine z0j rfl 38 rfl (opL z05 none 0) HSO.out ?_)
        | (refine z01 rfl 38 _ _ rfl rfl w28.heap.size (opL z05 none 0).toArray (opV z05 none 0) 38 rfl rfl (heap_alloc_new w28 _) HSV32.out HSZ32.out (z0z z05 none 0) ?_))
       intro w29 hcs hbs
       have hbb:Below w28.heap.size w28 w29:=But.toBelow ((Below.refl _ w28).alloc (Nat.le_refl _) _) hbs.out (Nat.le_refl _) (by rw [World.size_alloc];exact Nat.le_succ _)
       have HC32:=Lib.hid hcs.out
       have HB29:=Lib.hid (HB28.out.trans (hbb.mono HB28.out.size))
       have HC249:=Lib.hid (HC248.out.below hbb)
       have HC269:=Lib.hid (HC268.out.below hbb)
       have HI219:=Lib.hid (HI218.out.below hbb)
       have HI229:=Lib.hid (HI228.out.below hbb)
       obtain ⟨g32,hgg⟩:∃ g,w28.heap.size = g:=⟨_,rfl⟩
       rw [hgg] at HC32 ⊢
       clear hcs hbs hbb hgg HSZ32
       have HCA:=Lib.hid (fun w' (b:Below w29.heap.size w29 w')=>HC249.out.below b)
       have HCB:=Lib.hid (fun w' (b:Below w29.heap.size w29 w')=>HC269.out.below b)
       have HXN:=Lib.hid (fun w' (b:Below w29.heap.size w29 w')=>HX73.out.below (HB29.out.trans (b.mono HB29.out.size)))
       have HSM:=Lib.hid (fun w' (b:Below w29.heap.size w29 w')=>show Calls Tryz.prog 20 #[.agg (opV xo p1 k1),.agg (opV xo p2 k2)] w' fun e w''=>e = .returned (.bool true) ∧ Below w'.heap.size w' w'' from by
        have h:=z5h xo xo p1 p2 k1 k2 w' HXO.out.1 HXO.out.1 (HI219.out.below b) (HI229.out.below b) HXO.out.2 HXO.out.2
        rwa [decide_eq_true rfl] at h)
       have HAT:=Lib.hid (fun w' (b:Below w29.heap.size w29 w')=>show Calls Tryz.prog 21 #[.pointer (some ⟨gs,0,none⟩),.agg (z06 .u8 n).toArray] w' fun e w''=>e = .returned (.int .i64 qq) ∧ Below w'.heap.size w' w'' from by
        have h:=z69 (fun b=>w2.heap.size ≤ b) gs vo vw vn vq s n w' (HTW.out.below (HB29.out.trans (b.mono HB29.out.size))).ref HI.out.1 HI.out.2 (by have:=HTW.out.tameS.many;omega)
        rwa [HQQ.out] at h)
       have HFB:=Lib.hid (HBW.out.trans (HB29.out.mono HBW.out.size))
       rcases HGQ.out with ⟨rfl,hq⟩ | ⟨rfl,hq⟩
       ·have HGE:=Lib.hid (geq_yes hq)
        clear hq
        go_upto_region 23 with (fail)
        refine z09 (fun w'=>Below w29.heap.size w29 w') (by kernel_rfl) (by kernel_rfl) (Below.refl _ _).drew ?_
        repeat (first
         | go_big_quiet_skip
         | (go_big_quiet_want;refine z0n 38 _ rfl g24 (opV xo p1 k1) 38 _ rfl HCA.out Tryz.underlying38 rfl HSV24.out ?_;go_big_quiet_on;simp only [Act.put,zS,zA,zB])
         | (go_big_quiet_want;refine z0n 38 _ rfl g26 (opV xo p2 k2) 38 _ rfl HCB.out Tryz.underlying38 rfl HSV26.out ?_;go_big_quiet_on;simp only [Act.put,zS,zA,zB])
         | (go_big_quiet_want;refine z0q 24 _ rfl g7 .u8 n 24 _ rfl HXN.out Tryz.underlying24 rfl HSN.out ?_;go_big_quiet_on;simp only [Act.put,zS,zA,zB])
         | (go_big_quiet_want;refine z7t .eql 40 40 _ _ rfl (.int .i64 ce) (.int .i64 ce) _ rfl rfl (fun w=>rfl) HCQ.out ?_;go_big_quiet_on;simp only [Act.put,zS,zA,zB])
         | (go_big_quiet_want;refine z7t .geq 3 3 _ _ rfl (.int .i64 qq) (.int .i64 0) _ rfl rfl (fun w=>rfl) HGE.out ?_;go_big_quiet_on;simp only [Act.put,zS,zA,zB])
         | go_big_quiet_step ((intro hs';first
          | (go_at_call 20;exact (HSM.out _ hs').mono fun e w' h=>⟨h.1,hs'.trans (h.2.mono hs'.size)⟩)
          | (go_at_call 21;exact (HAT.out _ hs').mono fun e w' h=>⟨h.1,hs'.trans (h.2.mono hs'.size)⟩)
          | (go_at_call 22;exact (z7g _).mono fun e w' h=>⟨h.1,h.2 ▸ hs'⟩)
          | (go_at_call 23;exact (z7h _).mono fun e w' h=>⟨h.1,h.2 ▸ hs'⟩)
          | (go_at_call 24;exact (z7l _).mono fun e w' h=>⟨h.1,h.2 ▸ hs'⟩)
          | (go_at_call 25;exact (z8o n _).mono fun e w' h=>⟨h.1,hs'.trans (h.2.mono hs'.size)⟩)
          | rfl)))
        refine wpQuiet_nil ?_
        intro w30 hs30
        have HEND:=Lib.hid (HFB.out.trans (hs30.mono HFB.out.size))
        clear hs30
        go_wp2_with fail
        go_ret
        exact ⟨rfl,HEND.out⟩
       ·have HGE:=Lib.hid (geq_no hq)
        clear hq
        go_upto_region 23 with (fail)
        refine z09 (fun w'=>Below w29.heap.size w29 w') (by kernel_rfl) (by kernel_rfl) (Below.refl _ _).drew ?_
        repeat (first
         | go_big_quiet_skip
         | (go_big_quiet_want;refine z0n 38 _ rfl g24 (opV xo p1 k1) 38 _ rfl HCA.out Tryz.underlying38 rfl HSV24.out ?_;go_big_quiet_on;simp only [Act.put,zS,zA,zB])
         | (go_big_quiet_want;refine z0n 38 _ rfl g26 (opV xo p2 k2) 38 _ rfl HCB.out Tryz.underlying38 rfl HSV26.out ?_;go_big_quiet_on;simp only [Act.put,zS,zA,zB])
         | (go_big_quiet_want;refine z0q 24 _ rfl g7 .u8 n 24 _ rfl HXN.out Tryz.underlying24 rfl HSN.out ?_;go_big_quiet_on;simp only [Act.put,zS,zA,zB])
         | (go_big_quiet_want;refine z7t .eql 40 40 _ _ rfl (.int .i64 ce) (.int .i64 ce) _ rfl rfl (fun w=>rfl) HCQ.out ?_;go_big_quiet_on;simp only [Act.put,zS,zA,zB])
         | (go_big_quiet_want;refine z7t .geq 3 3 _ _ rfl (.int .i64 qq) (.int .i64 0) _ rfl rfl (fun w=>rfl) HGE.out ?_;go_big_quiet_on;simp only [Act.put,zS,zA,zB])
         | go_big_quiet_step ((intro hs';first
          | (go_at_call 20;exact (HSM.out _ hs').mono fun e w' h=>⟨h.1,hs'.trans (h.2.mono hs'.size)⟩)
          | (go_at_call 21;exact (HAT.out _ hs').mono fun e w' h=>⟨h.1,hs'.trans (h.2.mono hs'.size)⟩)
          | (go_at_call 22;exact (z7g _).mono fun e w' h=>⟨h.1,h.2 ▸ hs'⟩)
          | (go_at_call 23;exact (z7h _).mono fun e w' h=>⟨h.1,h.2 ▸ hs'⟩)
          | (go_at_call 24;exact (z7l _).mono fun e w' h=>⟨h.1,h.2 ▸ hs'⟩)
          | (go_at_call 25;exact (z8o n _).mono fun e w' h=>⟨h.1,hs'.trans (h.2.mono hs'.size)⟩)
          | rfl)))
        refine wpQuiet_nil ?_
        intro w30 hs30
        have HEND:=Lib.hid (HFB.out.trans (hs30.mono HFB.out.size))
        clear hs30
        go_wp2_with fail
        go_ret
        exact ⟨rfl,HEND.out⟩
    ·have q4:decide ((100:Int) < (d.val.length:Int)) = true:=decide_eq_true (by omega)
     go_wp2_with fail
     go_ret
     exact ⟨rfl,HB2.out⟩
   ·have q3:decide ((100:Int) < (d.key.length:Int)) = true:=decide_eq_true (by omega)
    go_wp2_with fail
    go_ret
    exact ⟨rfl,HB2.out⟩
 ·have q1:decide ((60:Int) < (nr:Int)) = true:=decide_eq_true (by omega)
  go_wp2_with fail
  go_ret
  exact ⟨rfl,HB2.out⟩
end dagDoes
end Go.Proofs.YtnbldbbbibpobaaGreatDoor
namespace Go.Proofs.YtnbldbbbibpobaaGreatDoor.dagDoes
open Go.ChangeShapes Go.WideShapes Go.ChangeAt Go.RowKit
open Go.ChangeMaps (open_string shut_string)
set_option linter.unusedVariables false
theorem z7n (os:Os):laidMet Tryz.prog Rows.dagDoesRow.laid ((z2p os).forCall (fun _ _=>0) ⟨#[],#[.slice none 0 0,.slice none 0 0,.agg (z06 .u8 zeroI).toArray,.int .i64 0,.agg (z0d z8d)],[]⟩).memory :=
 laidMet_of_run' 8 (by kernel_rfl) (by kernel_rfl)
theorem reads (os:Os) {H:Type} (enc:TypeId × Value → H):∃ x,DataW.whole enc Tryz.prog ((z2p os).forCall (fun _ _=>0) ⟨#[],#[.slice none 0 0,.slice none 0 0,.agg (z06 .u8 zeroI).toArray,.int .i64 0,.agg (z0d z8d)],[]⟩).memory Tryz.f3.params.toList Rows.dagDoesSpec.vars false (#[.slice none 0 0,.slice none 0 0,.agg (z06 .u8 zeroI).toArray,.int .i64 0,.agg (z0d z8d)]:Array Value).toList 8 = some x :=
 ⟨([.nil,.nil,.agg [.lit (.int .u8 0),.lit (.int .u8 0),.lit (.int .u8 0),.lit (.int .u8 0),.lit (.int .u8 0),.lit (.int .u8 0),.lit (.int .u8 0),.lit (.int .u8 0),.lit (.int .u8 0),.lit (.int .u8 0),.lit (.int .u8 0),.lit (.int .u8 0),.lit (.int .u8 0),.lit (.int .u8 0),.lit (.int .u8 0),.lit (.int .u8 0),.lit (.int .u8 0),.lit (.int .u8 0),.lit (.int .u8 0),.lit (.int .u8 0),.lit (.int .u8 0),.lit (.int .u8 0),.lit (.int .u8 0),.lit (.int .u8 0),.lit (.int .u8 0),.lit (.int .u8 0),.lit (.int .u8 0),.lit (.int .u8 0),.lit (.int .u8 0),.lit (.int .u8 0),.lit (.int .u8 0),.lit (.int .u8 0)],.lit (.int .i64 0),.agg [.lit (.int .i64 0),.lit (.string []),.lit (.string []),.agg [.lit (.int .u8 0),.lit (.int .u8 0),.lit (.int .u8 0),.lit (.int .u8 0),.lit (.int .u8 0),.lit (.int .u8 0),.lit (.int .u8 0),.lit (.int .u8 0),.lit (.int .u8 0),.lit (.int .u8 0),.lit (.int .u8 0),.lit (.int .u8 0),.lit (.int .u8 0),.lit (.int .u8 0),.lit (.int .u8 0),.lit (.int .u8 0),.lit (.int .u8 0),.lit (.int .u8 0),.lit (.int .u8 0),.lit (.int .u8 0),.lit (.int .u8 0),.lit (.int .u8 0),.lit (.int .u8 0),.lit (.int .u8 0),.lit (.int .u8 0),.lit (.int .u8 0),.lit (.int .u8 0),.lit (.int .u8 0),.lit (.int .u8 0),.lit (.int .u8 0),.lit (.int .u8 0),.lit (.int .u8 0)]]],[],[]),by kernel_rfl⟩
theorem lifted (os:Os) (started:os.Started) (H:Type) (enc:TypeId × Value → H) (F:Stop.Interp) :
 ReturnsInHanded {} Tryz.checked os 3 .any ((OpenSpec.ofChange Rows.dagDoesSpec).preRow enc Tryz.prog Tryz.f3 Rows.dagDoesRow.domain false Rows.dagDoesRow.laid) (((OpenSpec.ofChange Rows.dagDoesSpec).at F).post enc Tryz.prog Tryz.f3 false true false false):=by
 obtain ⟨x,hx⟩:=reads os enc
 refine returnsInHanded_of_row (C:=Tryz.checked) (s:=OpenSpec.ofChange Rows.dagDoesSpec) zev started (by kernel_rfl) Tryz.func3
  (witness_row_at (enc:=enc) (C:=Tryz.checked) false (z2p os) #[.slice none 0 0,.slice none 0 0,.agg (z06 .u8 zeroI).toArray,.int .i64 0,.agg (z0d z8d)] rfl (by kernel_rfl) (by kernel_rfl) (by kernel_rfl)
   (OpenSpec.preRow_of_cond 8 hx rfl (fun k hk=>by cases hk) (by kernel_rfl) (z7n os))) ?_
 intro W base args ds gs before hval0 hW hcnd _ hsz0 hL _ _
 have hk:KAt W:=zi5 hL
 have hsz:(DataW.weightsEach Tryz.prog (Tryz.f3.params.toList ++ (OpenSpec.ofChange Rows.dagDoesSpec).bare.plain.varTypes Tryz.prog) (ds ++ gs)).all (· ≤ reachBytes) = true:=hsz0
 have hval:∀ (j:Nat) t v,Tryz.f3.params[j]? = some t → args[j]? = some v → Value.okWide Tryz.prog W .any base t v:=hval0
 have hW':=hW
 obtain ⟨p,q,hA0,hV,rfl,hfz,hnd⟩:=hW
 have hA:DataW.TrodAll enc Tryz.prog W 0 (fun _=>true) true Tryz.f3.params.toList args.toList ds p:=hA0
 rw [Tryz.params3] at hA hval hsz
 obtain ⟨v0,vs0,d0,ds0,p0,q0,hargs,rfl,rfl,h0,r0⟩:=trodAll_cons hA
 obtain ⟨v1,vs1,d1,ds1,p1,q1,rfl,rfl,rfl,h1,r1⟩:=trodAll_cons r0
 obtain ⟨v2,vs2,d2,ds2,p2,q2,rfl,rfl,rfl,h2,r2⟩:=trodAll_cons r1
 obtain ⟨v3,vs3,d3,ds3,p3,q3,rfl,rfl,rfl,h3,r3⟩:=trodAll_cons r2
 obtain ⟨v4,vs4,d4,ds4,p4,q4,rfl,rfl,rfl,h4,r4⟩:=trodAll_cons r3
 obtain ⟨rfl,rfl,rfl⟩:=trodAll_nil r4
 obtain rfl:args = #[v0,v1,v2,v3,v4]:=by cases args;simp_all
 obtain ⟨rfl,rfl⟩:=trodVars_none hV
 have k0:=h0
 have lt0:∀ x ∈ p0,x.block < W.heap.size:=by obtain ⟨m,hm⟩:=k0;exact DataW.trod_lt m _ _ _ hm
 have z0:∀ n ∈ DataW.weights Tryz.prog 22 d0,n ≤ 140737488351232:=fun n hn=>of_decide_eq_true (List.all_eq_true.1 hsz n (DataW.weights_mem_each (j:=0) (t:=22) rfl rfl n hn))
 obtain ⟨ao0,l0,c0,rfl,s0,n0,t0⟩:=z8a (hval 0 22 v0 rfl rfl) h0 z0
 have k1:=h1
 have lt1:∀ x ∈ p1,x.block < W.heap.size:=by obtain ⟨m,hm⟩:=k1;exact DataW.trod_lt m _ _ _ hm
 have z1:∀ n ∈ DataW.weights Tryz.prog 23 d1,n ≤ 140737488351232:=fun n hn=>of_decide_eq_true (List.all_eq_true.1 hsz n (DataW.weights_mem_each (j:=1) (t:=23) rfl rfl n hn))
 obtain ⟨ao1,l1,c1,rfl,s1,n1,t1⟩:=z4g (hval 1 23 v1 rfl rfl) h1 z1
 have k2:=h2
 have lt2:∀ x ∈ p2,x.block < W.heap.size:=by obtain ⟨m,hm⟩:=k2;exact DataW.trod_lt m _ _ _ hm
 have z2:∀ n ∈ DataW.weights Tryz.prog 24 d2,n ≤ 140737488351232:=fun n hn=>of_decide_eq_true (List.all_eq_true.1 hsz n (DataW.weights_mem_each (j:=2) (t:=24) rfl rfl n hn))
 obtain ⟨l2,rfl,n2⟩:=zig Tryz.underlying24 Tryz.underlying5 (by kernel_rfl) (by kernel_rfl) (hval 2 24 v2 rfl rfl) h2
 obtain ⟨a3,rfl,rfl,rfl,w3⟩:=open_int Tryz.underlying3 (hval 3 3 v3 rfl rfl) h3
 have k4:=h4
 have lt4:∀ x ∈ p4,x.block < W.heap.size:=by obtain ⟨m,hm⟩:=k4;exact DataW.trod_lt m _ _ _ hm
 have z4:∀ n ∈ DataW.weights Tryz.prog 27 d4,n ≤ 140737488351232:=fun n hn=>of_decide_eq_true (List.all_eq_true.1 hsz n (DataW.weights_mem_each (j:=4) (t:=27) rfl rfl n hn))
 obtain ⟨x4,rfl,n4⟩:=zgm (hval 4 27 v4 rfl rfl) h4 z4
 clear hA0 hval0
 refine (walk W hk ao0 l0 c0 s0 n0 t0 ao1 l1 c1 s1 n1 t1 l2 n2 a3 w3 x4 n4).mono fun e W' ⟨he,bel⟩=>?_
 subst he
 exact ⟨_,rfl,_,_,_,[],_,[],hW',trodAll_mk1 (shut_bool Tryz.underlying4 _),(trodAll_cons_mk (Below.trod z2g (by kernel_rfl) (of_decide_eq_true (by kernel_rfl)) k0 bel lt0) (trodAll_cons_mk (Below.trod z2g (by kernel_rfl) (of_decide_eq_true (by kernel_rfl)) k1 bel lt1) (trodAll_cons_mk (Below.trod z2g (by kernel_rfl) (of_decide_eq_true (by kernel_rfl)) k2 bel lt2) (trodAll_cons_mk (shut_int Tryz.underlying3 w3) (trodAll_cons_mk (Below.trod z2g (by kernel_rfl) (of_decide_eq_true (by kernel_rfl)) k4 bel lt4) trodAll_mk0))))),rfl,bel.frame _,fun h=>by cases h⟩
theorem said:Rows.DagDoesSaid :=
 OpenClaim.holds_of_cond 3 Tryz.f3 rfl rfl rfl rfl rfl rfl rfl ⟨rfl,rfl,rfl,rfl,rfl⟩ rfl rfl rfl rfl rfl (by kernel_rfl) Tryz.func3 (by kernel_rfl)
  (of_decide_eq_true (by kernel_rfl)) (by unfold Func.isWrapper;first | (rw [if_pos (by decide +kernel)];kernel_rfl) | (rw [if_neg (by decide +kernel)];exact ⟨rfl,rfl⟩))
  (fun os started H enc _ F=>by rw [OpenClaim.pre_eq_preRow];exact lifted os started H enc F)
theorem zbs (f : FuncId) (fn : Func) (hf : Tryz.pinned.checked.prog.funcNamed "tribunal/tribunallaw10.DagDoes" = some f) (hfn : Tryz.pinned.checked.prog.funcs[f]? = some fn) :
 true = Tryz.pinned.checked.prog.looks [] ∧ ∀ (j:Nat) t,fn.params[j]? = some t → Tryz.pinned.checked.prog.wantsStandIn t = false:=by
 obtain rfl : f = 3 := Option.some.inj ((show Tryz.prog.funcNamed "tribunal/tribunallaw10.DagDoes" = some 3 by kernel_rfl).symm.trans hf) |>.symm
 obtain rfl:fn = Tryz.f3:=(Option.some.inj (Tryz.func3.symm.trans hfn)).symm
 refine ⟨by kernel_rfl,fun j t ht=>?_⟩
 have hall:Tryz.f3.params.toList.all (fun t=>!Tryz.prog.wantsStandIn t) = true:=by kernel_rfl
 have hm:t ∈ Tryz.f3.params.toList:=Array.mem_toList_iff.2 (Array.mem_of_getElem? ht)
 have h0:=List.all_eq_true.1 hall t hm
 have h1:Tryz.prog.wantsStandIn t = false:=by simpa using h0
 exact h1
theorem proved:Rows.DagDoesCardSaid :=
 Claim7.holds_tied_plain_at .later [] _ _ _ _ said (fun _ h=>by cases h) (by kernel_rfl) (fun _ h=>by cases h) dagDoes_row_tie rfl ⟨rfl,rfl⟩ (by kernel_rfl) rfl zbs (by kernel_rfl)
#print axioms proved
end Go.Proofs.YtnbldbbbibpobaaGreatDoor.dagDoes
