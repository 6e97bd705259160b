/-
  Joined: The developers' Good.; Names pushed onto a row of the call's own, in a region whose order is open; the rows of 32 bytes of a text, one by one.; slices.Clone of names; the developers' Take.; The developers' Names; at nil.; The developers' Get. Written by dag/gen/gen_get.py.
-/
import Derived.Lib.SliceRun
import Derived.Test.YtjomgkiphecljaaGreatDoorJ04
import Derived.Test.YtjomgkiphecljaaGreatDoorJ05
import Derived.Test.YtjomgkiphecljaaGreatDoorJ10
import Derived.Test.YtjomgkiphecljaaGreatDoorJ13
import Derived.Test.YtjomgkiphecljaaGreatDoorJ14
import Derived.Test.YtjomgkiphecljaaGreatDoorJ17
set_option maxRecDepth 100000
set_option maxHeartbeats 20000000
namespace Go.Proofs.YtjomgkiphecljaaGreatDoor
open Go.RowKit Go.BigFrame
theorem zcg:∀ (a b:List Nat),z1o a b = -1 ∨ z1o a b = 0 ∨ z1o a b = 1
 | [],[]=>.inr (.inl (by rw [z1o];intro a x b y h;cases h))
 | [],_ :: _=>.inr (.inl (by rw [z1o];intro a x b y h;cases h))
 | _ :: _,[]=>.inr (.inl (by rw [z1o];intro a x b y h h2;cases h2))
 | a :: x, b :: y => by
   rw [z1o]
   split
   ·exact .inl rfl
   ·split
    ·exact .inr (.inr rfl)
    ·exact zcg x y
def zgc (L:List (List Nat)):Bool:=decide (L.length ≤ 32 ∧ AscN L)
theorem zdo (L:List (List Nat)) (pa:Option Addr) (pc:Nat) (w:World) (hL:∀ p ∈ L,IdOk p) (hp:IAt pa L w) (hn:L.length ≤ 140737488351232) :
 Calls Tryz.prog 55 #[.slice pa L.length pc] w fun e w'=>e = .returned (.bool (zgc L)) ∧ Below w.heap.size w w':=by
 have HP:=Lib.hid hp
 have HO:=Lib.hid hL
 obtain ⟨n,hnn⟩:∃ n,L.length = n:=⟨_,rfl⟩
 have HNN:=Shut.mk hnn
 rw [hnn] at hn ⊢
 clear hnn hp hL
 by_cases h32:32 < n
 ·have HR:=Shut.mk (show zgc L = false from decide_eq_false (fun h=>by have:=h.1;rw [HNN.out] at this;omega))
  have h32i:(32:Int) < (n:Int):=by omega
  go_enter Tryz.func55,Tryz.ntmps55
  go_wp2_with fail
  go_ret
  exact ⟨by rw [HR.out];rfl,Below.refl _ _⟩
 have h32i:¬ (32:Int) < (n:Int):=by omega
 go_enter Tryz.func55,Tryz.ntmps55
 go_wp2_with fail
 go_loopw [3] (fun i wr=>∃ k:Nat,1 ≤ k ∧ (k ≤ n ∨ k = 1) ∧ i = .int .i64 k ∧ (∀ j,j < k → 0 < j → z1o (L.getD (j - 1) []) (L.getD j []) = -1) ∧ Below w.heap.size w wr) (fun i _=>n - (intOf i).toNat)
 case atStart=>exact ⟨1,Nat.le_refl _,.inr rfl,rfl,fun j hj h=>by omega,Below.refl _ _⟩
 case round =>
  obtain ⟨k,hk1,hk,rfl,hasc,hb⟩:=hrel
  have HPW:=Lib.hid (HP.out.below hb)
  have HASC:=Lib.hid hasc
  have HBW:=Lib.hid hb
  clear hasc hb
  by_cases hlt:k < n
  ·obtain ⟨j,rfl⟩:∃ j,k = j + 1:=⟨k - 1,by omega⟩
   obtain ⟨b,ob,rfl,hbl⟩:=HPW.out.some (by rw [HNN.out];omega)
   have g1:=HPW.out.get (i:=j) (by rw [HNN.out];omega)
   have g2:=HPW.out.get (i:=j + 1) (by rw [HNN.out];omega)
   have i1:=Ids.getD HO.out (i:=j) (by rw [HNN.out];omega)
   have i2:=Ids.getD HO.out (i:=j + 1) (by rw [HNN.out];omega)
   obtain ⟨x,hx⟩:∃ x,L.getD j [] = x:=⟨_,rfl⟩
   obtain ⟨y,hy⟩:∃ y,L.getD (j + 1) [] = y:=⟨_,rfl⟩
   rw [hx] at g1 i1
   rw [hy] at g2 i2
   have HXE:=Shut.mk hx
   have HYE:=Shut.mk hy
   have HC:=Lib.hid (fun w'=>za8 x y i1 i2 w')
   have HR1:=Lib.hid (fun (w':World) (q:Below wr.heap.size wr w')=>show w'.rangeAt b (ob + j * 32) (z05 .u8 x) from z0c g1 q hbl)
   have HR2:=Lib.hid (fun (w':World) (q:Below wr.heap.size wr w')=>show w'.rangeAt b (ob + (j + 1) * 32) (z05 .u8 y) from z0c g2 q hbl)
   have HS1:=Lib.hid (show (Tryz.prog.info? 45).map (·.size) = some x.length by rw [i1.1];exact Tryz.sizeI)
   have HS2:=Lib.hid (show (Tryz.prog.info? 45).map (·.size) = some y.length by rw [i2.1];exact Tryz.sizeI)
   obtain ⟨r,hr⟩:∃ r,z1o x y = r:=⟨_,rfl⟩
   have hrc:=zcg x y
   rw [hr] at HC hrc
   have HRE:=Shut.mk hr
   have HJ1:=Shut.mk (show ((j + 1:Nat):Int) - 1 = (j:Int) by omega)
   clear hx hy g1 g2 i1 i2 hr
   by_cases hrr:r = -1
   ·subst hrr
    clear hrc
    go_upto_region 6 with (fail)
    refine z0h (fun w'=>Below wr.heap.size wr w') (by kernel_rfl) (by kernel_rfl) (Below.refl _ _).drew ?_
    repeat (first
     | go_big_quiet_skip
     | (go_big_quiet_want;refine z0i 45 _ rfl b (ob + j * 32) x _ rfl HR1.out Tryz.underlying45 rfl HS1.out ?_;go_big_quiet_on;simp only [Act.put,zS,zA,zB])
     | (go_big_quiet_want;refine z0i 45 _ rfl b (ob + (j + 1) * 32) y _ rfl HR2.out Tryz.underlying45 rfl HS2.out ?_;go_big_quiet_on;simp only [Act.put,zS,zA,zB])
     | go_big_quiet_step ((intro hs';first
      | rfl
      | (go_at_call 78;exact (HC.out _).mono fun e w' h=>⟨h.1,hs'.trans (h.2.mono hs'.size)⟩))))
    refine wpQuiet_nil ?_
    intro w2 hb2
    go_wp2_with fail
    refine ⟨⟨j + 1 + 1,by omega,by omega,by go_num,fun q hq h=>?_,HBW.out.trans (hb2.mono HBW.out.size)⟩,by simp [intOf];omega⟩
    by_cases hqj:q = j + 1
    ·subst hqj
     rw [Nat.add_sub_cancel,HXE.out,HYE.out]
     exact HRE.out
    ·exact HASC.out q (by omega) h
   ·have hr0:(0:Int) ≤ r:=by omega
    have HGF:=Shut.mk (show zgc L = false from decide_eq_false (fun h=>hrr (by
     have h1:=h.2 (j + 1) (by rw [HNN.out];omega) (by omega)
     rw [Nat.add_sub_cancel,HXE.out,HYE.out] at h1
     rw [← HRE.out,h1])))
    clear hrr hrc
    go_upto_region 6 with (fail)
    refine z0h (fun w'=>Below wr.heap.size wr w') (by kernel_rfl) (by kernel_rfl) (Below.refl _ _).drew ?_
    repeat (first
     | go_big_quiet_skip
     | (go_big_quiet_want;refine z0i 45 _ rfl b (ob + j * 32) x _ rfl HR1.out Tryz.underlying45 rfl HS1.out ?_;go_big_quiet_on;simp only [Act.put,zS,zA,zB])
     | (go_big_quiet_want;refine z0i 45 _ rfl b (ob + (j + 1) * 32) y _ rfl HR2.out Tryz.underlying45 rfl HS2.out ?_;go_big_quiet_on;simp only [Act.put,zS,zA,zB])
     | go_big_quiet_step ((intro hs';first
      | rfl
      | (go_at_call 78;exact (HC.out _).mono fun e w' h=>⟨h.1,hs'.trans (h.2.mono hs'.size)⟩))))
    refine wpQuiet_nil ?_
    intro w2 hb2
    go_wp2_with fail
    go_ret
    exact ⟨by rw [HGF.out];rfl,HBW.out.trans (hb2.mono HBW.out.size)⟩
  ·have hge:¬ (k:Int) < (n:Int):=by omega
   have HR:=Shut.mk (show zgc L = true from decide_eq_true ⟨by rw [HNN.out];omega,fun j hj h0=>HASC.out j (by rw [HNN.out] at hj;omega) h0⟩)
   go_wp2_with fail
   go_ret
   exact ⟨by rw [HR.out];rfl,HBW.out⟩
def zg7 (o:OpN):Bool:=if o.preds = [] then decide (o.depth = 1) else decide (1 < o.depth)
theorem zjv (o:OpN):GoodO o ↔ GoodD o.d ∧ 0 ≤ o.author ∧ o.author < 5 ∧ zgc o.preds = true ∧ zg7 o = true:=by
 unfold GoodO zgc zg7
 by_cases h:o.preds = []
 ·simp only [h,if_true,decide_eq_true_eq]
  constructor
  ·rintro ⟨h1,h2,h3,h4,h5,h6,h7⟩
   exact ⟨h5,h6,by omega,⟨h4,h1⟩,h2 trivial⟩
  ·rintro ⟨h5,h6,h7,⟨h4,h1⟩,h2⟩
   exact ⟨h1,fun _=>h2,fun h=>absurd rfl h,h4,h5,h6,by omega⟩
 ·simp only [h,if_false,decide_eq_true_eq]
  constructor
  ·rintro ⟨h1,h2,h3,h4,h5,h6,h7⟩
   have:=h3 h
   exact ⟨h5,h6,by omega,⟨h4,h1⟩,by omega⟩
  ·rintro ⟨h5,h6,h7,⟨h4,h1⟩,h2⟩
   exact ⟨h1,fun h=>(h.elim),fun _=>by omega,h4,h5,h6,by omega⟩
theorem zdn (o:OpN) (pa:Option Addr) (pc:Nat) (w:World) (hr:o.d.ref.length = 32) :
 Calls Tryz.prog 56 #[.agg (opV o pa pc)] w fun e w'=>e = .returned (.bool (zg7 o)) ∧ Below w.heap.size w w':=by
 have hx:Cells w.heap.size 49 (opV o pa pc) (w.alloc (.cells (opV o pa pc) 49)):=heap_alloc_new w _
 have hb:Below w.heap.size w (w.alloc (.cells (opV o pa pc) 49)):=(Below.refl _ _).alloc (Nat.le_refl _) _
 obtain ⟨_,_,c36,c37⟩:=z0d hr hx
 have HB:=Lib.hid hb
 obtain ⟨n,hnn⟩:∃ n,o.preds.length = n:=⟨_,rfl⟩
 obtain ⟨D,hD⟩:∃ D,o.depth = D:=⟨_,rfl⟩
 have HG:=Shut.mk (show zg7 o = if n = 0 then decide (D = 1) else decide (1 < D) by
  rw [zg7,hD,← hnn]
  by_cases h:o.preds = []
  ·simp [h]
  ·rw [if_neg h,if_neg (fun e=>h (List.length_eq_zero_iff.1 e))])
 rw [hnn] at c37
 rw [hD] at c36
 clear hx hb hnn hD
 by_cases h0:n = 0
 ·subst h0
  have HR:=Shut.mk (show zg7 o = (D == 1) by rw [HG.out,if_pos rfl];by_cases h:D = 1 <;> simp [h])
  go_enter Tryz.func56,Tryz.ntmps56
  go_wp2_with fail
  go_ret
  exact ⟨by rw [HR.out];rfl,HB.out⟩
 have h0b:((n:Int) == 0) = false:=by simp;omega
 have HR:=Shut.mk (show zg7 o = decide (1 < D) by rw [HG.out,if_neg h0])
 go_enter Tryz.func56,Tryz.ntmps56
 go_wp2_with fail
 go_ret
 exact ⟨by rw [HR.out];rfl,HB.out⟩
theorem zju (o:OpN) (pa:Option Addr) (pc:Nat) (w:World) (ho:o.Ok) (hp:IAt pa o.preds w) (hk:o.d.key.length ≤ 140737488351232) (hv:o.d.val.length ≤ 140737488351232) (hn:o.preds.length ≤ 140737488351232) :
 Calls Tryz.prog 26 #[.agg (opV o pa pc)] w fun e w'=>e = .returned (.bool (decide (GoodO o))) ∧ Below w.heap.size w w':=by
 have hx:Cells w.heap.size 49 (opV o pa pc) (w.alloc (.cells (opV o pa pc) 49)):=heap_alloc_new w _
 have hb:Below w.heap.size w (w.alloc (.cells (opV o pa pc) 49)):=(Below.refl _ _).alloc (Nat.le_refl _) _
 have HX:=Lib.hid hx
 have HB:=Lib.hid hb
 have HP:=Lib.hid (hp.below hb)
 have HO:=Lib.hid ho
 have HSO:=Lib.hid (show (Tryz.prog.info? 49).map (·.size) = some (opV o pa pc).size by rw [z08 ho.ref.1];exact Tryz.sizeO)
 have HSD:=Lib.hid (show (Tryz.prog.info? 47).map (·.size) = some (z1b o.d).length by rw [z0r ho.ref.1];exact Tryz.sizeD)
 have HGD:=Lib.hid (fun w'=>zct o.d ho.ref hk hv w')
 have HFD:=Lib.hid (fun w'=>zdn o pa pc w' ho.ref.1)
 have HGP:=Lib.hid (fun w' h=>zdo o.preds pa pc w' ho.preds h hn)
 obtain ⟨n,hnn⟩:∃ n,o.preds.length = n:=⟨_,rfl⟩
 obtain ⟨A,hA⟩:∃ A,o.author = A:=⟨_,rfl⟩
 obtain ⟨zd,hzd⟩:∃ z,decide (GoodD o.d) = z:=⟨_,rfl⟩
 obtain ⟨zp,hzp⟩:∃ z,zgc o.preds = z:=⟨_,rfl⟩
 obtain ⟨zf,hzf⟩:∃ z,zg7 o = z:=⟨_,rfl⟩
 have HG:=Shut.mk (show decide (GoodO o) = decide (zd = true ∧ 0 ≤ A ∧ A < 5 ∧ zp = true ∧ zf = true) from decide_eq_decide.2 (by rw [zjv,hA,hzp,hzf,← hzd,decide_eq_true_eq]))
 rw [hzd] at HGD
 rw [hzp,hnn] at HGP
 rw [hzf] at HFD
 have HNN:=Shut.mk hnn
 have HAA:=Shut.mk hA
 clear hx hb hp ho hk hv hn hnn hA hzd hzp hzf
 go_enter Tryz.func26,Tryz.ntmps26
 go_upto_region 1 with (fail)
 obtain ⟨w1,hw1⟩:∃ x,x = w.alloc (.cells (opV o pa pc) 49):=⟨_,rfl⟩
 rw [← hw1] at HX HB HP ⊢
 obtain ⟨c0,c35,c36,c37⟩:=z0d HO.out.ref.1 HX.out
 have HC0:=Lib.hid c0
 have HC35:=Lib.hid c35
 have HC37:=Lib.hid c37
 rw [HAA.out] at HC35
 rw [HNN.out] at HC37
 clear hw1 c0 c35 c36 c37
 refine wp_region_lit ?_
 iterate 3 (first | go_skip | go_guarded | go_step)
 refine wpList_load_mid rfl 47 _ rfl w.heap.size 0 rfl _ _ HC0.out Tryz.underlying47 rfl HSD.out ?_
 simp only [Act.put,zS,zA,zB]
 go_wp2_with fail
 refine (HGD.out _).mono ?_
 rintro e w2 ⟨rfl,hb⟩
 have HX2:=Lib.hid (HX.out.below hb)
 have HP2:=Lib.hid (HP.out.below hb)
 have HB2:=Lib.hid (HB.out.trans (hb.mono HB.out.size))
 have c35:=(hb.cell (p:=⟨w.heap.size,35,none⟩) HX.out.lt).trans HC35.out
 have c37:=(hb.cell (p:=⟨w.heap.size,37,none⟩) HX.out.lt).trans HC37.out
 clear hb HX HP HB HC0 HC35 HC37 HGD
 cases zd with
 | false =>
   have HR:=Shut.mk (HG.out.trans (decide_eq_false (fun h=>by cases h.1)))
   go_wp2_with fail
   go_ret
   exact ⟨by rw [HR.out];rfl,HB2.out⟩
 | true =>
 by_cases h0:A < 0
 ·have h0b:decide ((0:Int) ≤ A) = false:=decide_eq_false (by omega)
  have HR:=Shut.mk (HG.out.trans (decide_eq_false (fun h=>by omega)))
  go_wp2_with fail
  go_ret
  exact ⟨by rw [HR.out];rfl,HB2.out⟩
 have h0b:decide ((0:Int) ≤ A) = true:=decide_eq_true (by omega)
 by_cases h5:5 ≤ A
 ·have h5b:decide (A < 5) = false:=decide_eq_false (by omega)
  have HR:=Shut.mk (HG.out.trans (decide_eq_false (fun h=>by omega)))
  go_wp2_with fail
  go_ret
  exact ⟨by rw [HR.out];rfl,HB2.out⟩
 have h5b:decide (A < 5) = true:=decide_eq_true (by omega)
 have HR:=Shut.mk (show decide (GoodO o) = (zp && zf) by rw [HG.out];cases zp <;> cases zf <;> simp <;> omega)
 go_wp2_with fail
 refine (HGP.out _ HP2.out).mono ?_
 rintro e w3 ⟨rfl,hb⟩
 have HX3:=Lib.hid (HX2.out.below hb)
 have HB3:=Lib.hid (HB2.out.trans (hb.mono HB2.out.size))
 clear hb HX2 HP2 HB2 c35 c37 HGP
 cases zp with
 | false =>
   go_wp2_with fail
   go_ret
   exact ⟨by rw [HR.out];rfl,HB3.out⟩
 | true =>
 go_wp2_with (refine z0m (by rfl) 49 _ rfl w.heap.size (opV o pa pc) 49 _ rfl HX3.out Tryz.underlying49 rfl HSO.out ?_)
 refine (HFD.out _).mono ?_
 rintro e w4 ⟨rfl,hb⟩
 have HB4:=Lib.hid (HB3.out.trans (hb.mono HB3.out.size))
 clear hb HX3 HB3 HFD
 go_wp2_with fail
 go_ret
 exact ⟨by rw [HR.out];rfl,HB4.out⟩
theorem zac {d:DraftN} {a b:Int} {L M:List (List Nat)} {n:Nat} (hr:d.ref.length = 32) (hn:M.length = n) (pa pb:Option Addr) (pc pd:Nat):(opV ⟨d,a,b,L⟩ pa pc).setIfInBounds 37 (.slice pb n pd) = opV ⟨d,a,b,M⟩ pb pd:=by
 subst hn
 rw [opV,opV,opL,opL,List.setIfInBounds_toArray,List.set_append_right _ _ (by rw [z0r hr];decide),z0r hr]
 rfl
theorem zfr (L:List (List Nat)) (pa:Option Addr) (n pc:Nat) (w:World) (hL:Ids L) (hp:IAt pa L w) (hn:n = L.length) (h63:n ≤ 100000) :
 Calls Tryz.prog 29 #[.slice pa n pc] w fun e w'=>∃ pa' pc',e = .returned (.slice pa' n pc') ∧ OwnI w.heap.size 45 (.slice pa' n pc') L w' ∧ Below w.heap.size w w' ∧ (pa' = none → pc' = 0):=by
 cases pa with
 | none =>
   have hL0:L = []:=by
    rcases hp with h | ⟨b,o,h,_⟩
    ·exact h
    ·cases h
   subst hL0
   obtain rfl:n = 0:=hn
   clear hp hL
   have q34:∀ (w:World) (a:Option Addr) (n c n' c':Nat),(binOp .eql 40 (.slice a n c) (.slice none n' c')).run Tryz.prog w = .ok (.bool a.isNone) w:=fun w a n c n' c'=>Lib.run_eql_slice_nil w _ _ a n c n' c' rfl
   go_enter Tryz.func29,Tryz.ntmps29
   go_wp2_with fail
   go_ret
   exact ⟨none,0,rfl,OwnI.nil _ _ _,Below.refl _ _,fun _=>rfl⟩
 | some ad =>
   have HL:=Lib.hid hL
   have HP:=Lib.hid hp
   have HN:=Lib.hid hn
   clear hL hp hn
   have q34:∀ (w:World) (a:Option Addr) (n c n' c':Nat),(binOp .eql 40 (.slice a n c) (.slice none n' c')).run Tryz.prog w = .ok (.bool a.isNone) w:=fun w a n c n' c'=>Lib.run_eql_slice_nil w _ _ a n c n' c' rfl
   go_enter Tryz.func29,Tryz.ntmps29
   have b1:Below w.heap.size w (w.alloc (.cells #[] 45)):=(Below.refl _ _).alloc (Nat.le_refl _) _
   have o1:OwnI w.heap.size 45 (.slice (some ⟨w.heap.size,0,none⟩) 0 0) [] (w.alloc (.cells #[] 45)):=World.ownsRow_lit w #[] 0 (Nat.le_refl _) (by unfold maxLen;omega) rfl
   have HO:=Lib.hid o1
   have HPA:=Lib.hid (HP.out.below b1)
   have HB:=Lib.hid b1
   clear b1 o1
   go_wp2_with (refine z0x rfl _ _ 40 45 rfl w.heap.size (.agg (z05 .u8 (List.replicate 32 0)).toArray) rfl Tryz.underlying40 Tryz.infoI32 (.slice (some ⟨w.heap.size,0,none⟩) 0 0) [] L HL.out (some ad) n pc HN.out rfl HO.out rfl HPA.out (fun h=>by cases h) (by simp only [List.length_nil];rw [← HN.out];omega) HB.out.size ?_)
   intro v' w' ho hg hd
   have ho1:=ho.out
   obtain ⟨a',c',rfl⟩:=ho1.form
   rw [← HN.out] at ho1
   have hb':Below w.heap.size w w':=HB.out.grown hg.out HB.out.size (fun g hg=>by
    obtain rfl:w.heap.size = g:=by injection hg
    exact Nat.le_refl _)
   have HF:=Lib.hid (And.intro ho1 (And.intro hb' (show a' = none → c' = 0 from fun e=>by
    subst e
    rcases ho1.2 with ⟨h1,_⟩ | ⟨g,cap,cur,h1,_⟩
    ·injection h1
    ·cases h1)))
   rw [← HN.out]
   clear ho1 hb' ho hg hd
   go_wp2_with fail
   go_ret
   exact ⟨a',c',rfl,HF.out⟩
def DevTake (X:Nat → Prop) (B:Bs) (T:Ents) (r:List (List Nat) × Int × DagN) (w:World) (e:Ending) (w':World):Prop :=
 ∃ v X' T' hs' M', e = .returned (.tuple #[v, .int .i64 r.2.1]) ∧ OwnI w.heap.size 45 v r.1 w' ∧ SetAt X' B T' r.2.2 hs' M' w' ∧ DInv r.2.2 hs' M' [] [] ∧ Tame r.2.2 ∧ Turn (SetO B T) (SetO B T') w w' ∧ (∀ b, v.ownBlock = some b → ¬ SetO B T' b) ∧
   (∀ b,X' b → X b) ∧ (∀ b,b < w.heap.size → X b → X' b) ∧ (∀ b,w'.heap.size ≤ b → X' b)
theorem DevTake.stay {X:Nat → Prop} {B:Bs} {T:Ents} {s:DagN} {hs:List (List Nat)} {M:Bh} {w w':World} {r:List (List Nat) × Int × DagN} (h:SetAt X B T s hs M w) (hX:∀ b,w.heap.size ≤ b → X b) (hD:DInv s hs M [] []) (ht:Tame s) (k:Below w.heap.size w w') (c:Int) (hr:r = ([],c,s)):DevTake X B T r w (.returned (.tuple #[.slice none 0 0,.int .i64 c])) w':=by
 subst hr
 exact ⟨_,X,T,hs,M,rfl,OwnI.nil _ _ _,h.below k,hD,ht,Turn.of k,(fun b hb=>by cases hb),fun _ h=>h,fun _ _ h=>h,fun b hb=>hX b (Nat.le_trans k.size hb)⟩
theorem zcu (X:Nat → Prop) (B:Bs) (T:Ents) (s:DagN) (hs:List (List Nat)) (M:Bh) (x:OpN) (pa:Option Addr) (pc:Nat) (w:World) (h:SetAt X B T s hs M w) (hX:∀ b,w.heap.size ≤ b → X b) (hD:DInv s hs M [] []) (ht:Tame s) (hx:x.Fit) (hpa:IAt pa x.preds w) (hk:KAt w) (hN:s.ops.length + s.wait.length ≤ 999) :
 Calls Tryz.prog 15 #[.pointer (some ⟨B.gs,0,none⟩),.agg (opV x pa pc)] w fun e w'=>DevTake X B T (z2i s x) w e w':=by
 have HX0:=Lib.hid hX
 have HS0:=Lib.hid h
 have HD:=Lib.hid hD
 have HTM:=Lib.hid ht
 have HXF:=Lib.hid hx
 have x1:Cells w.heap.size 49 (opV x pa pc) (w.alloc (.cells (opV x pa pc) 49)):=heap_alloc_new w _
 have b1:Below w.heap.size w (w.alloc (.cells (opV x pa pc) 49)):=(Below.refl _ _).alloc (Nat.le_refl _) _
 have HB:=Lib.hid b1
 have HC:=Lib.hid x1
 have HIA:=Lib.hid (hpa.below b1)
 have HK:=Lib.hid (hk.below b1)
 have HSV:=Lib.hid (show (Tryz.prog.info? 49).map (·.size) = some (opV x pa pc).size by rw [z08 hx.d.ref.1];exact Tryz.sizeO)
 clear h hX hD ht hx hpa hk x1 b1
 go_enter Tryz.func15,Tryz.ntmps15
 go_upto_region 1 with (fail)
 obtain ⟨w1,hw1⟩:∃ q,q = w.alloc (.cells (opV x pa pc) 49):=⟨_,rfl⟩
 rw [← hw1] at HB HC HIA HK ⊢
 obtain ⟨g3,hg3⟩:∃ g,w.heap.size = g:=⟨_,rfl⟩
 have HG3:=Lib.hid hg3
 rw [hg3] at HC ⊢
 clear hw1 hg3
 have HGD:=Lib.hid (zju x pa pc w1 HXF.out.ok HIA.out (by have:=HXF.out.d.key;omega) (by have:=HXF.out.d.val;omega) (by have:=HXF.out.many;omega))
 by_cases hg:GoodO x
 ·rw [decide_eq_true hg] at HGD
  have HGO:=Lib.hid hg
  clear hg
  have hnn:IdOk (z02 x):=⟨z0z x,z52 x⟩
  have HTK:=Shut.mk (show z2i s x = if z02 x ∈ s.names ∨ z02 x ∈ s.waits then ([],9,s) else if z1e s.names x = false then ([],0,⟨s.ops,s.wait ++ [x]⟩) else if x.depth ≠ z1h s.ops x then ([],10,s) else (z02 x :: (z0q s.wait.length ⟨s.ops ++ [x],s.wait⟩).1,0,(z0q s.wait.length ⟨s.ops ++ [x],s.wait⟩).2) by rw [z2i,if_neg (fun h=>h HGO.out)])
  have HNM:=Lib.hid (fun w2 (b:Below w1.heap.size w1 w2)=>zkt x pa pc w2 HXF.out (HIA.out.below b) (HK.out.below b))
  obtain ⟨n,hn⟩:∃ n,z02 x = n:=⟨_,rfl⟩
  rw [hn] at hnn HTK HNM
  have HN:=Lib.hid hnn
  have HNE:=Shut.mk hn
  have HS1:=Lib.hid (show (Tryz.prog.info? 45).map (·.size) = some n.length by rw [hnn.1];exact Tryz.sizeI)
  have HL2:=Lib.hid (show (List.replicate 32 0).length = n.length by rw [hnn.1];rfl)
  clear hn hnn
  go_wp2_with (first
   | (refine z01 rfl 49 (.tmp 3) rfl g3 (opV x pa pc) 49 _ rfl HC.out Tryz.underlying49 rfl HSV.out ?_)
   | (refine HGD.out.mono ?_; rintro e w2 ⟨rfl, hb2⟩
      have HB2:=Lib.hid hb2
      have HC2:=Lib.hid (HC.out.below hb2)
      clear hb2)
   | (refine z01 rfl 49 (.tmp 3) rfl g3 (opV x pa pc) 49 _ rfl HC2.out Tryz.underlying49 rfl HSV.out ?_)
   | (refine (HNM.out w2 HB2.out).mono ?_; rintro e w3 ⟨rfl, hb3⟩
      have HB3:=Lib.hid (HB2.out.trans (hb3.mono HB2.out.size))
      have HC3:=Lib.hid (HC2.out.below hb3)
      clear hb3 HC2 HB2)
   | (refine z06 rfl 45 _ _ rfl rfl w3.heap.size .u8 (List.replicate 32 0) n 45 rfl rfl (heap_alloc_new w3 _) HS1.out HL2.out ?_))
  intro w4 hc4 hb4
  have HB4:=Lib.hid (HB3.out.trans ((show Below w3.heap.size w3 w4 from But.toBelow ((Below.refl _ _).alloc (Nat.le_refl _) _) hb4.out (Nat.le_refl _) (by rw [World.size_alloc];exact Nat.le_succ _)).mono HB3.out.size))
  obtain ⟨g6,hg6⟩:∃ g,w3.heap.size = g:=⟨_,rfl⟩
  have HG6:=Lib.hid (show w1.heap.size ≤ g6 from hg6 ▸ HB3.out.size)
  have HC6:=Lib.hid (show Blk g6 45 .u8 n w4 from hg6 ▸ hc4.out)
  rw [hg6]
  have HBW:=Lib.hid (HB.out.trans (HB4.out.mono HB.out.size))
  have HS4:=Lib.hid (HS0.out.below HBW.out)
  have HC4:=Lib.hid (HC.out.below HB4.out)
  have HIA4:=Lib.hid (HIA.out.below HB4.out)
  have HGL:=Lib.hid (show g3 < w1.heap.size from HC.out.lt)
  clear hc4 hb4 hg6 HC3 HB3 HC HIA HK HNM HGD
  have HKN:=Lib.hid (zkz X B T s hs M n w4 HS4.out HN.out (fun y hy=>(HTM.out.ops y hy).d.ref.1) (fun y hy=>(HTM.out.wait y hy).d.ref.1))
  by_cases hkn:n ∈ s.names ∨ n ∈ s.waits
  ·have hz:(decide (n ∈ s.names) || decide (n ∈ s.waits)) = true:=by simpa using hkn
   rw [hz] at HKN
   have htk:=HTK.out
   rw [if_pos hkn] at htk
   have HTK2:=Shut.mk htk
   clear hkn hz htk
   go_wp2_with (first
    | (refine z07 rfl 45 (.tmp 6) rfl g6 .u8 n 45 _ rfl HC6.out Tryz.underlying45 rfl HS1.out ?_)
    | (refine HKN.out.mono ?_;rintro e w5 ⟨rfl,hb5⟩))
   go_ret2
   exact DevTake.stay HS0.out HX0.out HD.out HTM.out (HBW.out.trans (hb5.mono HBW.out.size)) 9 HTK2.out
  ·have hz:(decide (n ∈ s.names) || decide (n ∈ s.waits)) = false:=by simpa using hkn
   rw [hz] at HKN
   have htk:=HTK.out
   rw [if_neg hkn] at htk
   have HTK2:=Shut.mk htk
   have HNN:=Lib.hid (show n ∉ s.names from fun e=>hkn (.inl e))
   have HNW:=Lib.hid (show n ∉ s.waits from fun e=>hkn (.inr e))
   clear hkn hz htk HTK
   have HFR:=Lib.hid (show ∀ p,p ∈ x.preds → IdOk p from HXF.out.preds)
   have HGW:=Lib.hid (show w.heap.size ≤ g3 from HG3.out ▸ Nat.le_refl _)
   have HG36:=Lib.hid (show g6 ≠ g3 from fun e=>by have h1:=HGL.out;have h2:=HG6.out;omega)
   have HSV2:=Lib.hid (fun (pa':Option Addr) (pc':Nat)=>show (Tryz.prog.info? 49).map (·.size) = some (opV x pa' pc').size by rw [z08 HXF.out.d.ref.1];exact Tryz.sizeO)
   go_wp2_with (first
    | (refine z07 rfl 45 (.tmp 6) rfl g6 .u8 n 45 _ rfl HC6.out Tryz.underlying45 rfl HS1.out ?_)
    | (refine HKN.out.mono ?_; rintro e w5 ⟨rfl, hb5⟩
       have HB5:=Lib.hid hb5
       have HC5:=Lib.hid (HC4.out.below hb5)
       have c37:=(z0d HXF.out.d.ref.1 HC5.out).2.2.2
       have HCL:=Lib.hid (zfr x.preds pa x.preds.length pc w5 HFR.out (HIA4.out.below hb5) rfl (by have:=HXF.out.many;omega))
       clear hb5)
    | (refine HCL.out.mono ?_; rintro e w6 ⟨pa', pc', rfl, ho6, hb6, hn6⟩
       have HO6:=Lib.hid ho6
       have HB65:=Lib.hid hb6
       have HB6:=Lib.hid (HB5.out.trans (hb6.mono HB5.out.size))
       have HN6:=Lib.hid hn6
       have HC66:=Lib.hid (HC5.out.below hb6)
       have c37':=(z0d HXF.out.d.ref.1 HC66.out).2.2.2
       have f37:=HC66.out.frozen 37
       have hk7:But g3 w6 (w6.setCell ⟨g3,37,none⟩ (.slice pa' x.preds.length pc')):=(But.refl g3 w6).setCell 37 _
       have HK7:=Lib.hid hk7
       have HC67:=Lib.hid ((HC6.out.below HB6.out).but hk7 HG36.out)
       have HC7:=Lib.hid (show Cells g3 49 (opV x pa' pc') (w6.setCell ⟨g3,37,none⟩ (.slice pa' x.preds.length pc')) from by
        have h:=HC66.out.set 37 (.slice pa' x.preds.length pc')
        rw [show (opV x pa pc).setIfInBounds 37 (.slice pa' x.preds.length pc') = opV x pa' pc' from zac (d:=x.d) (a:=x.author) (b:=x.depth) (L:=x.preds) (M:=x.preds) HXF.out.d.ref.1 rfl pa pa' pc pc'] at h
        exact h)
       clear ho6 hb6 hn6 hk7 HCL HC5 c37)
    | (refine z07 rfl 45 (.tmp 6) rfl g6 .u8 n 45 _ rfl HC67.out Tryz.underlying45 rfl HS1.out ?_)
    | (refine z01 rfl 49 (.tmp 3) rfl g3 (opV x pa' pc') 49 _ rfl HC7.out Tryz.underlying49 rfl (HSV2.out pa' pc') ?_))
   obtain ⟨w7,hw7⟩:∃ z,z = w6.setCell ⟨g3,37,none⟩ (.slice pa' x.preds.length pc'):=⟨_,rfl⟩
   rw [← hw7] at HK7 HC67 HC7 ⊢
   clear hw7 c37' f37
   have HB7:=Lib.hid (show Below w.heap.size w w7 from But.toBelow (HBW.out.trans (HB6.out.mono HBW.out.size)) HK7.out HGW.out (HBW.out.trans (HB6.out.mono HBW.out.size)).size)
   have HFB:=Lib.hid (show ∀ a,pa' = some a → w5.heap.size ≤ a.block ∧ a.block < w6.heap.size from fun a ha=>World.ownsRow.lt HO6.out a.block (by subst ha;rfl))
   obtain ⟨Y,hY⟩:∃ Y:Nat → Prop,Y = fun b=>X b ∧ ∀ a,pa' = some a → b ≠ a.block:=⟨_,rfl⟩
   have HWS:=Lib.hid (show w.heap.size ≤ w5.heap.size from (HBW.out.trans (HB5.out.mono HBW.out.size)).size)
   have HY1:=Lib.hid (show ∀ b,Y b → X b from fun b h=>by rw [hY] at h;exact h.1)
   have HY2:=Lib.hid (show ∀ b,b < w.heap.size → X b → Y b from fun b hb h=>by
    rw [hY]
    exact ⟨h,fun a ha e=>by have:=(HFB.out a ha).1;have:=HWS.out;omega⟩)
   have HY3:=Lib.hid (show ∀ b,w7.heap.size ≤ b → Y b from fun b hb=>by
    rw [hY]
    exact ⟨HX0.out b (Nat.le_trans HB7.out.size hb),fun a ha e=>by have:=(HFB.out a ha).2;have:=HK7.out.size;omega⟩)
   have HOF:=Lib.hid (show OffX Y pa' x.preds from fun a ha _ h=>by rw [hY] at h;exact h.2 a ha rfl)
   have HS7:=Lib.hid ((HS0.out.below HB7.out).mono HY1.out (fun b hb=>HY2.out b (SetO.x HS0.out hb).2 (SetO.x HS0.out hb).1))
   have HI7:=Lib.hid (show IAt pa' x.preds w7 from OwnI.at (HO6.out.but HK7.out (fun g hg e=>by
    have h1:=(World.ownsRow.lt HO6.out g hg).1
    have h2:=HGL.out;have h3:=HB4.out.size;have h4:=HB5.out.size;omega)) HFR.out)
   have HE7:=Lib.hid (show EntsO Y (s.wait ++ [x]) (z30 T.w n (.agg (opV x pa' pc'))) w7 from by
    have h:=HS7.out.wait.push x pa' pc' HI7.out HOF.out
    rw [HNE.out] at h
    rw [z1u (by rw [HS7.out.wait.keys];exact HNW.out)]
    exact h)
   have HLB:=Lib.hid (show ∀ q,(atB M q).length ≤ 100000 from fun q=>by have h1:=(HD.out.lenB q).1;have h2:=HTM.out.many;omega)
   have HRO:=Lib.hid (show ∀ y ∈ s.ops,y.d.ref.length = 32 from fun y hy=>(HTM.out.ops y hy).d.ref.1)
   have HWT:=Lib.hid (zi4 Y B T s hs M n x pa' pc' (s.wait ++ [x]) w7 HS7.out HY3.out HN.out HXF.out.d.ref.1 HFR.out HI7.out (by have:=HXF.out.many;omega) HE7.out HRO.out HLB.out)
   clear hY HO6 HB65 HN6 HC66 HE7 HC6 HKN HB5 HB6 HK7
   by_cases hw:z1e s.names x = true
   ·have htk:=HTK2.out
    rw [if_neg (by rw [hw];decide)] at htk
    have HTK3:=Shut.mk htk
    have HW:=Lib.hid hw
    have HFT:=Lib.hid (fun w8 (b:Below w7.heap.size w7 w8)=>zhr Y B T s hs M x pa' pc' w8 (HS7.out.below b) HXF.out.d.ref.1 HFR.out (HI7.out.below b) (by have:=HXF.out.many;omega) HRO.out HTM.out.shallow (by have:=HTM.out.many;omega))
    clear hw htk HTK2
    by_cases hdp:x.depth = z1h s.ops x
    ·have htk:=HTK3.out
     rw [if_neg (fun h=>h hdp)] at htk
     have HTK4:=Shut.mk htk
     rw [decide_eq_true hdp] at HFT
     have HAD:=Lib.hid (fun w9 (b:Below w7.heap.size w7 w9)=>zlv Y B T s hs M n x pa' pc' w9 (HS7.out.below b) (fun c hc=>HY3.out c (Nat.le_trans b.size hc)) HNE.out HXF.out (HI7.out.below b) HOF.out HD.out HNN.out HNW.out HW.out hdp HTM.out hN)
     clear hdp htk HTK3
     obtain ⟨RR,hRR⟩:∃ RR,z0q s.wait.length ⟨s.ops ++ [x],s.wait⟩ = RR:=⟨_,rfl⟩
     rw [hRR] at HAD HTK4
     clear hRR
     refine HWT.out.mono ?_
     rintro e w8 hwp
     obtain ⟨rfl,hb8⟩:=zdl hwp HW.out
     have HC78:=Lib.hid (HC7.out.below hb8)
     have HC68:=Lib.hid (HC67.out.below hb8)
     have HB8:=Lib.hid hb8
     clear hwp hb8 HC7 HC67 HWT
     go_wp2_with (first
      | (refine z01 rfl 49 (.tmp 3) rfl g3 (opV x pa' pc') 49 _ rfl HC78.out Tryz.underlying49 rfl (HSV2.out pa' pc') ?_)
      | (refine (HFT.out w8 HB8.out).mono ?_; rintro e w9 ⟨rfl, hb9⟩
         have HB9:=Lib.hid (HB8.out.trans (hb9.mono HB8.out.size))
         have HC79:=Lib.hid (HC78.out.below hb9)
         have HC69:=Lib.hid (HC68.out.below hb9)
         clear hb9 HC78 HC68)
      | (refine z07 rfl 45 (.tmp 6) rfl g6 .u8 n 45 _ rfl HC69.out Tryz.underlying45 rfl HS1.out ?_)
      | (refine z01 rfl 49 (.tmp 3) rfl g3 (opV x pa' pc') 49 _ rfl HC79.out Tryz.underlying49 rfl (HSV2.out pa' pc') ?_)
      | (refine (HAD.out w9 HB9.out).mono ?_;rintro e wa ⟨v,T',hs',M',rfl,hoa,hsa,hda,hta,hna,htma⟩))
     go_ret2
     have HB79:=HB7.out.trans (HB9.out.mono HB7.out.size)
     exact ⟨v,Y,T',hs',M',by rw [HTK4.out];rfl,by rw [HTK4.out];exact hoa.mono HB79.size,by rw [HTK4.out];exact hsa,by rw [HTK4.out];exact hda,by rw [HTK4.out];exact htma,(Turn.of HB79).trans hta,hna,HY1.out,HY2.out,fun b hb=>HY3.out b (Nat.le_trans HB9.out.size (Nat.le_trans hta.only.size hb))⟩
    ·have htk:=HTK3.out
     rw [if_pos hdp] at htk
     have HTK4:=Shut.mk htk
     rw [decide_eq_false hdp] at HFT
     clear hdp htk HTK3
     refine HWT.out.mono ?_
     rintro e w8 hwp
     obtain ⟨rfl,hb8⟩:=zdl hwp HW.out
     have HC78:=Lib.hid (HC7.out.below hb8)
     have HB8:=Lib.hid hb8
     clear hwp hb8 HC7 HC67 HWT
     go_wp2_with (first
      | (refine z01 rfl 49 (.tmp 3) rfl g3 (opV x pa' pc') 49 _ rfl HC78.out Tryz.underlying49 rfl (HSV2.out pa' pc') ?_)
      | (refine (HFT.out w8 HB8.out).mono ?_;rintro e w9 ⟨rfl,hb9⟩))
     go_ret2
     exact DevTake.stay HS0.out HX0.out HD.out HTM.out (HB7.out.trans ((HB8.out.trans (hb9.mono HB8.out.size)).mono HB7.out.size)) 10 HTK4.out
   ·have hw':z1e s.names x = false:=by simpa using hw
    have htk:=HTK2.out
    rw [if_pos hw'] at htk
    have HTK3:=Shut.mk htk
    have HW:=Lib.hid hw'
    clear hw hw' htk HTK2
    refine HWT.out.mono ?_
    rintro e w8 hwp
    obtain ⟨rfl,p,v,hp1,hp2,hs8,ht8⟩:=zkj hwp HW.out
    have HDN:=Lib.hid (HD.out.come (o:=x) (by rw [HNE.out];exact HNN.out) (by rw [HNE.out];exact HNW.out) hp1 hp2)
    rw [HNE.out] at HDN
    clear hwp HWT
    go_wp2_with fail
    go_ret2
    have htm':Tame ⟨s.ops,s.wait ++ [x]⟩:=by
     refine ⟨HTM.out.ops,fun y hy=>?_,HTM.out.shallow,?_⟩
     ·rcases List.mem_append.1 hy with h | h
      ·exact HTM.out.wait y h
      ·rw [List.mem_singleton.1 h];exact HXF.out
     ·show s.ops.length + (s.wait ++ [x]).length ≤ 1000
      rw [List.length_append];simp only [List.length_singleton];omega
    exact ⟨_,Y,_,hs,_,by rw [HTK3.out];rfl,by rw [HTK3.out];exact OwnI.nil _ _ _,by rw [HTK3.out];exact hs8,by rw [HTK3.out];exact HDN.out,by rw [HTK3.out];exact htm',(Turn.of HB7.out).trans ht8,(fun b hb=>by cases hb),HY1.out,HY2.out,fun b hb=>HY3.out b (Nat.le_trans ht8.only.size hb)⟩
 ·rw [decide_eq_false hg] at HGD
  have HR:=Shut.mk (show z2i s x = ([],1,s) by rw [z2i,if_pos hg])
  clear hg
  go_wp2_with (first
   | (refine z01 rfl 49 (.tmp 3) rfl g3 (opV x pa pc) 49 _ rfl HC.out Tryz.underlying49 rfl HSV.out ?_)
   | (refine HGD.out.mono ?_;rintro e w2 ⟨rfl,hb2⟩))
  go_ret2
  exact DevTake.stay HS0.out HX0.out HD.out HTM.out (HB.out.trans (hb2.mono HB.out.size)) 1 HR.out
theorem zka {X:Nat → Prop} {B:Bs} {T:Ents} {s:DagN} {hs:List (List Nat)} {M:Bh} {w:World} (h:SetAt X B T s hs M w) (hb:s.ops.length ≤ 100000) :
 Calls Tryz.prog 70 #[.pointer (some ⟨B.gs,0,none⟩)] w fun e w'=>∃ v,e = .returned v ∧ OwnI w.heap.size 45 v (z0g s.names) w' ∧ Below w.heap.size w w':=by
 have hln:T.p.length ≤ 100000:=by rw [h.ops.1];exact hb
 have HE:=Shut.mk (show z0g (T.p.map (·.1)) = z0g s.names by rw [h.ops.keys];rfl)
 have HA:=Lib.hid (zhh B.p _ w h.pm hln)
 have c0:=h.cell.1
 clear h hb hln
 go_enter Tryz.func70,Tryz.ntmps70
 go_wp2_with (refine HA.out.mono ?_;rintro e w3 ⟨v,rfl,ho,hb3⟩)
 go_ret
 exact ⟨v,rfl,by rw [← HE.out];exact ho,hb3⟩
def GetPost (s:DagN) (n:List Nat) (w:World) (e:Ending) (w':World):Prop :=
 ∃ o pa pc,OwnI w.heap.size 45 (.slice pa o.preds.length pc) o.preds w' ∧ ((o ∈ s.ops ∧ z02 o = n ∧ e = .returned (.tuple #[.agg (opV o pa pc),.int .i64 0])) ∨ (n ∉ s.names ∧ o = z04 ∧ e = .returned (.tuple #[.agg (opV o pa pc),.int .i64 5])))
theorem dev_get (X:Nat → Prop) (B:Bs) (T:Ents) (s:DagN) (hs:List (List Nat)) (M:Bh) (n:List Nat) (w:World) (h:SetAt X B T s hs M w) (hn:IdOk n) (hro:∀ x ∈ s.ops,x.Fit) :
 Calls Tryz.prog 71 #[.pointer (some ⟨B.gs,0,none⟩),.agg (z05 .u8 n).toArray] w fun e w'=>GetPost s n w e w' ∧ Below w.heap.size w w':=by
 obtain ⟨x,pa,pc,e1,e2,e3,e4,e5⟩:=z4i h.ops h.pm.nodup (fun x hx=>(hro x hx).d.ref.1) n
 have hpl:x.preds.length ≤ 70 ∧ Ids x.preds:=by
  rcases e5 with ⟨_,h1,_⟩ | ⟨_,rfl,_⟩
  ·exact ⟨(hro x h1).many,(hro x h1).preds⟩
  ·exact ⟨Nat.zero_le _,fun p hp=>by cases hp⟩
 have HPL:=Lib.hid hpl
 have x1:Blk w.heap.size 45 .u8 n (w.alloc (.cells (z05 .u8 n).toArray 45)):=heap_alloc_new w _
 have b1:Below w.heap.size w (w.alloc (.cells (z05 .u8 n).toArray 45)):=(Below.refl _ _).alloc (Nat.le_refl _) _
 have s1:(w.alloc (.cells (z05 .u8 n).toArray 45)).heap.size = w.heap.size + 1:=World.size_alloc _ _
 have b2:Below (w.alloc (.cells (z05 .u8 n).toArray 45)).heap.size (w.alloc (.cells (z05 .u8 n).toArray 45)) ((w.alloc (.cells (z05 .u8 n).toArray 45)).alloc (.cells (opV z04 none 0) 49)):=(Below.refl _ _).alloc (Nat.le_refl _) _
 have x2:Cells (w.alloc (.cells (z05 .u8 n).toArray 45)).heap.size 49 (opV z04 none 0) ((w.alloc (.cells (z05 .u8 n).toArray 45)).alloc (.cells (opV z04 none 0) 49)):=heap_alloc_new _ _
 rw [s1] at x2
 have y1:=x1.below b2
 have hb2:=b1.trans (b2.mono b1.size)
 have s2:((w.alloc (.cells (z05 .u8 n).toArray 45)).alloc (.cells (opV z04 none 0) 49)).heap.size = w.heap.size + 1 + 1:=by rw [World.size_alloc,s1]
 clear x1 b1 s1 b2
 have HN:=Lib.hid hn
 have HSN:=Lib.hid (show (Tryz.prog.info? 45).map (·.size) = some n.length by rw [hn.1];exact Tryz.sizeI)
 obtain ⟨pb,hp⟩:∃ p,decide (n ∈ s.names) = p:=⟨_,rfl⟩
 rw [show decide (n ∈ s.ops.map z02) = pb from hp] at e2
 obtain ⟨Z,hZ⟩:∃ Z,opV x pa pc = Z:=⟨_,rfl⟩
 have HE1:=Shut.mk (show Value.tuple #[atE T.p (.agg (opV z04 none 0)) n,.bool (decide (n ∈ T.p.map (·.1)))] = .tuple #[.agg Z,.bool pb] by rw [e1,e2,hZ])
 have HI1:=Lib.hid (show (Tryz.prog.info? 49).map (·.size) = some Z.size by rw [← hZ,z08 e3];exact Tryz.sizeO)
 have HL1:=Lib.hid (show (opV z04 none 0).size = Z.size by rw [← hZ,z08 e3];rfl)
 have HA1:=Lib.hid (show Z.all (·.oneCell') = true by rw [← hZ];exact zay _ _ _)
 have HE3:=Lib.hid e3
 have HZ:=Shut.mk hZ
 have HP:=Shut.mk hp
 have HFD:=Lib.hid e5
 have HS:=Lib.hid (show (Tryz.prog.info? 49).map (·.size) = some (opV z04 none 0).size from Tryz.sizeO)
 have HS00:=Lib.hid (h.below hb2)
 have HIA:=Lib.hid (e4.below hb2)
 clear h hn e1 e2 e3 hro hp e4 e5 hpl hZ
 go_enter Tryz.func71,Tryz.ntmps71
 go_upto_region 1 with (fail)
 obtain ⟨w2,hw2⟩:∃ x,x = (w.alloc (.cells (z05 .u8 n).toArray 45)).alloc (.cells (opV z04 none 0) 49):=⟨_,rfl⟩
 rw [← hw2] at x2 y1 hb2 s2 HS00 HIA
 rw [zdu] at hw2
 rw [← hw2]
 have HX:=Lib.hid x2
 have HY:=Lib.hid y1
 have HB:=Lib.hid hb2
 have HZ2:=Shut.mk s2
 clear hw2 x2 y1 hb2 s2
 go_upto_region 3 with (fail)
 refine z0e 11 (fun q V w'=>Val q V 0 (.pointer (some ⟨B.gs,0,none⟩)) ∧ Val q V 1 (.pointer (some ⟨B.gs,0,none⟩)) ∧ Val q V 2 (.pointer (some ⟨B.gs,0,none⟩)) ∧ Val q V 3 (.map (some B.p)) ∧ Val q V 4 (.agg (z05 .u8 n).toArray) ∧ Val q V 5 (.tuple #[.agg Z,.bool pb]) ∧ Val q V 6 (.tuple #[.agg Z,.bool pb]) ∧ Val q V 7 (.agg Z) ∧ Val q V 8 (.bool pb) ∧ PutC q V w2.heap.size 9 10 49 (opV z04 none 0) (Z) w' ∧ Below w2.heap.size w2 w' ∧ Late q 9 10) (fun _=>undef) (by kernel_rfl) (by kernel_rfl) (by kernel_rfl) (by simp only [zC,zD,z0f,Act.put,zS,zA,zB]) ⟨Val.none,Val.none,Val.none,Val.none,Val.none,Val.none,Val.none,Val.none,Val.none,PutC.none,(Below.refl _ _).drew,Late.none⟩ ?_ ?_
 ·simp only [zC,zD,z0f,Nat.zero_add,Nat.reduceAdd,Act.put,zS,zA,zB]
  refine zQc ?_ (zQc ?_ (zQc ?_ (zQc ?_ (zQc ?_ (zQc ?_ (zQc ?_ (zQc ?_ (zQc ?_ (zQc ?_ (zQc ?_ (zQn)))))))))))
  all_goals (refine zQf rfl ?_;rintro q V wq hr hu ⟨h0,h1,h2,h3,h4,h5,h6,h7,h8,h9,hb,hl9⟩ K hK)
  ·exact z0j (.tmp 0) rfl _ rfl (hK _ _ ⟨.same,h1.nd,h2.nd,h3.nd,h4.nd,h5.nd,h6.nd,h7.nd,h8.nd,h9.ne (by decide) (by decide) (Below.refl _ _),hb,hl9.nd⟩)
  ·exact z0l (.tmp 12) rfl ⟨B.gs,0,none⟩ (h0 (hr { on:=0,ground:=.data } (by simp) rfl)) (hK _ _ ⟨h0.nd,.same,h2.nd,h3.nd,h4.nd,h5.nd,h6.nd,h7.nd,h8.nd,h9.ne (by decide) (by decide) (Below.refl _ _),hb,hl9.nd⟩)
  ·exact z0k 65 (.tmp 13) 0 rfl _ _ (h1 (hr { on:=1,ground:=.data } (by simp) rfl)) (z5e B.gs 0 (by decide)) (hK _ _ ⟨h0.nd,h1.nd,.same,h3.nd,h4.nd,h5.nd,h6.nd,h7.nd,h8.nd,h9.ne (by decide) (by decide) (Below.refl _ _),hb,hl9.nd⟩)
  ·exact z0o 61 (.tmp 14) rfl _ _ (h2 (hr { on:=2,ground:=.data } (by simp) rfl)) (HS00.out.below hb).cell.1 Tryz.isAgg61 (hK _ _ ⟨h0.nd,h1.nd,h2.nd,.same,h4.nd,h5.nd,h6.nd,h7.nd,h8.nd,h9.ne (by decide) (by decide) (Below.refl _ _),hb,hl9.nd⟩)
  ·exact z1d 45 (.tmp 3) rfl w.heap.size .u8 n 45 _ rfl (HY.out.below hb) Tryz.underlying45 rfl HSN.out (hK _ _ ⟨h0.nd,h1.nd,h2.nd,h3.nd,.same,h5.nd,h6.nd,h7.nd,h8.nd,h9.ne (by decide) (by decide) (Below.refl _ _),hb,hl9.nd⟩)
  ·exact z3i (.tmp 15) (.tmp 16) 61 45 49 true rfl Tryz.idKey Tryz.underlying61 (.agg (opV z04 none 0)) (z7b wq) B.p T.p (HS00.out.below hb).pm n HN.out (h3 (hr { on:=3,ground:=.data } (by simp) rfl)) (h4 (hr { on:=4,ground:=.data } (by simp) rfl)) _ (by rw [HE1.out];rfl) (hK _ _ ⟨h0.nd,h1.nd,h2.nd,h3.nd,h4.nd,.same,h6.nd,h7.nd,h8.nd,h9.ne (by decide) (by decide) (Below.refl _ _),hb,hl9.nd⟩)
  ·exact z0j (.tmp 17) rfl _ (h5 (hr { on:=5,ground:=.data } (by simp) rfl)) (hK _ _ ⟨h0.nd,h1.nd,h2.nd,h3.nd,h4.nd,h5.nd,.same,h7.nd,h8.nd,h9.ne (by decide) (by decide) (Below.refl _ _),hb,hl9.nd⟩)
  ·exact z27 (.tmp 11) 0 rfl _ _ (h6 (hr { on:=6,ground:=.data } (by simp) rfl)) (z9r _ _) (hK _ _ ⟨h0.nd,h1.nd,h2.nd,h3.nd,h4.nd,h5.nd,h6.nd,.same,h8.nd,h9.ne (by decide) (by decide) (Below.refl _ _),hb,hl9.nd⟩)
  ·exact z27 (.tmp 11) 1 rfl _ _ (h6 (hr { on:=6,ground:=.data } (by simp) rfl)) (z9q _ _) (hK _ _ ⟨h0.nd,h1.nd,h2.nd,h3.nd,h4.nd,h5.nd,h6.nd,h7.nd,.same,h9.ne (by decide) (by decide) (Below.refl _ _),hb,hl9.nd⟩)
  ·exact z2u 49 rfl (opV z04 none 0) z4x (hK _ _ ⟨h0.nd,h1.nd,h2.nd,h3.nd,h4.nd,h5.nd,h6.nd,h7.nd,h8.nd,PutC.made hb.size (hl9.not hu) (by decide),hb.alloc hb.size _,hl9.nd⟩)
  ·obtain ⟨g,hV,hg0,hc0⟩:=h9 (hr { on:=9,ground:=.data } (by simp) rfl)
   rw [if_neg (by rw [hu];decide)] at hc0
   refine z28 49 (.tmp 6) (.tmp 18) rfl g _ (Z) 49 hV (h7 (hr { on:=7,ground:=.data } (by simp) rfl)) hc0 HI1.out HL1.out HA1.out ?_
   intro w' hc' hbt
   have hbn:=But.toBelow hb hbt hg0 hb.size
   exact (hK _ _ ⟨h0.nd,h1.nd,h2.nd,h3.nd,h4.nd,h5.nd,h6.nd,h7.nd,h8.nd,PutC.stored hV hg0 (by decide) hc',hbn,Late.same (hr { on:=9,ground:=.data } (by simp) rfl)⟩)
 rintro q V wq hall ⟨h0,h1,h2,h3,h4,h5,h6,h7,h8,h9,hb,hl9⟩
 have v0:=h0 (hall 0 (by decide))
 have v1:=h1 (hall 1 (by decide))
 have v2:=h2 (hall 2 (by decide))
 have v3:=h3 (hall 3 (by decide))
 have v4:=h4 (hall 4 (by decide))
 have v5:=h5 (hall 5 (by decide))
 have v6:=h6 (hall 6 (by decide))
 have v7:=h7 (hall 7 (by decide))
 have v8:=h8 (hall 8 (by decide))
 obtain ⟨g9,v9,hg9,hc9⟩:=h9 (hall 9 (by decide))
 rw [if_pos (hall 10 (by decide))] at hc9
 obtain ⟨u10,v10⟩:∃ v,V 10 = v:=⟨_,rfl⟩
 simp only [zC,zD,zE,zF,z0f,Nat.zero_add,Nat.reduceAdd,v0,v1,v2,v3,v4,v5,v6,v7,v8,v9,Act.put,zS,zA,zB]
 clear h0 h1 h2 h3 h4 h5 h6 h7 h8 v0 v1 v2 v3 v4 v5 v6 v7 v8 v9 v10 hall hl9
 have HXQ:=Lib.hid (HX.out.below hb)
 have HBQ:=Lib.hid (HB.out.trans (hb.mono HB.out.size))
 have HIQ:=Lib.hid (HIA.out.below hb)
 have HCQ:=Lib.hid hc9
 have HGQ:=Lib.hid (show w.heap.size + 1 + 1 ≤ g9 from by have:=HZ2.out;omega)
 clear hb hc9 hg9 HX HB HY HIA
 obtain ⟨w3,hw3⟩:∃ x,x = wq:=⟨_,rfl⟩
 rw [← hw3] at HXQ HBQ HIQ HCQ ⊢
 clear hw3
 cases pb with
 | false =>
   have hno:n ∉ s.names:=of_decide_eq_false HP.out
   have HNO:=Lib.hid hno
   clear hno
   go_upto_region 5 with (fail)
   refine wp_region_lit ?_
   refine z0n rfl 49 #[] rfl [] _ (by simp) z5f ?_
   simp only [Act.put,zS,zA,zB]
   refine z00 rfl 49 _ _ rfl rfl (w.heap.size + 1) (opV z04 none 0) (opV z04 none 0) 49 rfl rfl HXQ.out HS.out rfl (z1c z04 none 0) ?_
   intro w9 hc hb
   have HX9:=Lib.hid hc.out
   have HB9:=Lib.hid (show Below w.heap.size w w9 from But.toBelow HBQ.out hb.out (Nat.le_succ _) HBQ.out.size)
   clear hc hb HXQ HBQ
   go_wp2_with fail
   refine bodyPost_ret (z1f rfl _ _ (w.heap.size + 1) (opV z04 none 0) 49 _ _ rfl rfl HX9.out Tryz.underlying49 rfl HS.out) rfl ?_
   exact ⟨⟨z04,none,0,OwnI.nil _ _ _,.inr ⟨HNO.out,rfl,rfl⟩⟩,HB9.out⟩
 | true =>
   have hfd:x ∈ s.ops ∧ z02 x = n:=by
    have hin:n ∈ s.names:=of_decide_eq_true HP.out
    rcases HFD.out with ⟨_,h1,h2,_⟩ | ⟨h1,_⟩
    ·exact ⟨h1,h2⟩
    ·exact absurd hin h1
   have HF:=Lib.hid hfd
   have hcq:Cells g9 49 (opV x pa pc) w3:=by rw [HZ.out];exact HCQ.out
   have HC3:=Lib.hid hcq
   have c37:=(z0d HE3.out hcq).2.2.2
   have HCL:=Lib.hid (zfr x.preds pa x.preds.length pc w3 HPL.out.2 HIQ.out rfl (by have:=HPL.out.1;omega))
   have HSZ:=Lib.hid (fun (pa':Option Addr) (pc':Nat)=>show (Tryz.prog.info? 49).map (·.size) = some (opV x pa' pc').size by rw [z08 HE3.out];exact Tryz.sizeO)
   have HSL:=Lib.hid (fun (pa':Option Addr) (pc':Nat)=>show (opV z04 none 0).size = (opV x pa' pc').size by rw [z08 HE3.out];rfl)
   clear hfd hcq
   go_wp2_with (first
    | (refine HCL.out.mono ?_; rintro e w6 ⟨pa', pc', rfl, ho6, hb6, hn6⟩
       have HO6:=Lib.hid ho6
       have HB6:=Lib.hid (HBQ.out.trans (hb6.mono HBQ.out.size))
       have HC66:=Lib.hid (HC3.out.below hb6)
       have HX6:=Lib.hid (HXQ.out.below hb6)
       have HQ6:=Lib.hid hb6.size
       have c37':=(z0d HE3.out HC66.out).2.2.2
       have f37:=HC66.out.frozen 37
       have hk7:But g9 w6 (w6.setCell ⟨g9,37,none⟩ (.slice pa' x.preds.length pc')):=(But.refl g9 w6).setCell 37 _
       have HK7:=Lib.hid hk7
       have HX7:=Lib.hid (show Cells (w.heap.size + 1) 49 (opV z04 none 0) (w6.setCell ⟨g9,37,none⟩ (.slice pa' x.preds.length pc')) from (hk7.block _ HX6.out.lt (by have:=HGQ.out;omega)).trans HX6.out)
       have HC7:=Lib.hid (show Cells g9 49 (opV x pa' pc') (w6.setCell ⟨g9,37,none⟩ (.slice pa' x.preds.length pc')) from by
        have h:=HC66.out.set 37 (.slice pa' x.preds.length pc')
        rw [show (opV x pa pc).setIfInBounds 37 (.slice pa' x.preds.length pc') = opV x pa' pc' from zac (d:=x.d) (a:=x.author) (b:=x.depth) (L:=x.preds) (M:=x.preds) HE3.out rfl pa pa' pc pc'] at h
        exact h)
       clear ho6 hb6 hn6 hk7 HCL c37)
    | (refine z01 rfl 49 (.tmp 6) rfl g9 (opV x pa' pc') 49 _ rfl HC7.out Tryz.underlying49 rfl (HSZ.out pa' pc') ?_)
    | (refine z00 rfl 49 _ _ rfl rfl (w.heap.size + 1) (opV z04 none 0) (opV x pa' pc') 49 rfl rfl HX7.out (HSZ.out pa' pc') (HSL.out pa' pc') (z1c x pa' pc') ?_))
   intro w9 hc hb
   have HX9:=Lib.hid hc.out
   have hb67:Below w.heap.size w (w6.setCell ⟨g9,37,none⟩ (.slice pa' x.preds.length pc')):=But.toBelow HB6.out HK7.out (by have:=HGQ.out;omega) HB6.out.size
   have HB9:=Lib.hid (show Below w.heap.size w w9 from But.toBelow hb67 hb.out (Nat.le_succ _) hb67.size)
   have HOF:=Lib.hid (show OwnI w.heap.size 45 (.slice pa' x.preds.length pc') x.preds w9 from by
    have h1:∀ k,(Value.slice pa' x.preds.length pc').ownBlock = some k → g9 ≠ k:=fun k hk e=>by
     have:=(World.ownsRow.lt HO6.out k hk).1
     have:=HC3.out.lt
     omega
    have h2:∀ k,(Value.slice pa' x.preds.length pc').ownBlock = some k → w.heap.size + 1 ≠ k:=fun k hk e=>by
     have:=(World.ownsRow.lt HO6.out k hk).1
     have:=HXQ.out.lt
     omega
    exact ((HO6.out.but HK7.out h1).but hb.out h2).mono HBQ.out.size)
   clear hc hb hb67 c37' f37
   go_wp2_with fail
   refine bodyPost_ret (z1f rfl _ _ (w.heap.size + 1) (opV x pa' pc') 49 _ _ rfl rfl HX9.out Tryz.underlying49 rfl (HSZ.out pa' pc')) rfl ?_
   exact ⟨⟨x,pa',pc',HOF.out,.inl ⟨HF.out.1,HF.out.2,rfl⟩⟩,HB9.out⟩
end Go.Proofs.YtjomgkiphecljaaGreatDoor
