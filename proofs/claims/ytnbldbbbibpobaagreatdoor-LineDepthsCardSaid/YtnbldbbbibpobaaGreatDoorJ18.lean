/-
  Joined: The developers' Good.; Names pushed onto a row of the call's own, in a region whose order is open; the rows of 32 bytes of a text, one by one.; slices.Clone of names; the developers' Take.; The developers' Names; at nil.; The developers' Get. Written by dag/gen/gen_get.py.; Layer 11 as plain mathematics: the row of what is there, those of a key and of kinds, the keys of kinds.
-/
import Derived.Lib.SliceRun
import Derived.Test.YtnbldbbbibpobaaGreatDoorJ04
import Derived.Test.YtnbldbbbibpobaaGreatDoorJ05
import Derived.Test.YtnbldbbbibpobaaGreatDoorJ08
import Derived.Test.YtnbldbbbibpobaaGreatDoorJ12
import Derived.Test.YtnbldbbbibpobaaGreatDoorJ17
set_option maxRecDepth 100000
set_option maxHeartbeats 20000000
namespace Go.Proofs.YtnbldbbbibpobaaGreatDoor
open Go.RowKit Go.BigFrame
theorem zcw:∀ (a b:List Nat),z1t a b = -1 ∨ z1t a b = 0 ∨ z1t a b = 1
 | [],[]=>.inr (.inl (by rw [z1t];intro a x b y h;cases h))
 | [],_ :: _=>.inr (.inl (by rw [z1t];intro a x b y h;cases h))
 | _ :: _,[]=>.inr (.inl (by rw [z1t];intro a x b y h h2;cases h2))
 | a :: x, b :: y => by
   rw [z1t]
   split
   ·exact .inl rfl
   ·split
    ·exact .inr (.inr rfl)
    ·exact zcw x y
def zhj (L:List (List Nat)):Bool:=decide (L.length ≤ 32 ∧ AscN L)
theorem zde (L:List (List Nat)) (pa:Option Addr) (pc:Nat) (w:World) (hL:∀ p ∈ L,IdOk p) (hp:IAt pa L w) (hn:L.length ≤ 140737488351232) :
 Calls Tryz.prog 74 #[.slice pa L.length pc] w fun e w'=>e = .returned (.bool (zhj L)) ∧ Below w.heap.size w w':=by
 have HP:=Lib.hid hp
 have HO:=Lib.hid hL
 obtain ⟨n,hnn⟩:∃ n,L.length = n:=⟨_,rfl⟩
 have HNN:=Shut.mk hnn
 rw [hnn] at hn ⊢
 clear hnn hp hL
 by_cases h32:32 < n
 ·have HR:=Shut.mk (show zhj L = false from decide_eq_false (fun h=>by have:=h.1;rw [HNN.out] at this;omega))
  have h32i:(32:Int) < (n:Int):=by omega
  go_enter Tryz.func74,Tryz.ntmps74
  go_wp2_with fail
  go_ret
  exact ⟨by rw [HR.out];rfl,Below.refl _ _⟩
 have h32i:¬ (32:Int) < (n:Int):=by omega
 go_enter Tryz.func74,Tryz.ntmps74
 go_wp2_with fail
 go_loopw [3] (fun i wr=>∃ k:Nat,1 ≤ k ∧ (k ≤ n ∨ k = 1) ∧ i = .int .i64 k ∧ (∀ j,j < k → 0 < j → z1t (L.getD (j - 1) []) (L.getD j []) = -1) ∧ Below w.heap.size w wr) (fun i _=>n - (intOf i).toNat)
 case atStart=>exact ⟨1,Nat.le_refl _,.inr rfl,rfl,fun j hj h=>by omega,Below.refl _ _⟩
 case round =>
  obtain ⟨k,hk1,hk,rfl,hasc,hb⟩:=hrel
  have HPW:=Lib.hid (HP.out.below hb)
  have HASC:=Lib.hid hasc
  have HBW:=Lib.hid hb
  clear hasc hb
  by_cases hlt:k < n
  ·obtain ⟨j,rfl⟩:∃ j,k = j + 1:=⟨k - 1,by omega⟩
   obtain ⟨b,ob,rfl,hbl⟩:=HPW.out.some (by rw [HNN.out];omega)
   have g1:=HPW.out.get (i:=j) (by rw [HNN.out];omega)
   have g2:=HPW.out.get (i:=j + 1) (by rw [HNN.out];omega)
   have i1:=Ids.getD HO.out (i:=j) (by rw [HNN.out];omega)
   have i2:=Ids.getD HO.out (i:=j + 1) (by rw [HNN.out];omega)
   obtain ⟨x,hx⟩:∃ x,L.getD j [] = x:=⟨_,rfl⟩
   obtain ⟨y,hy⟩:∃ y,L.getD (j + 1) [] = y:=⟨_,rfl⟩
   rw [hx] at g1 i1
   rw [hy] at g2 i2
   have HXE:=Shut.mk hx
   have HYE:=Shut.mk hy
   have HC:=Lib.hid (fun w'=>zax x y i1 i2 w')
   have HR1:=Lib.hid (fun (w':World) (q:Below wr.heap.size wr w')=>show w'.rangeAt b (ob + j * 32) (z07 .u8 x) from z08 g1 q hbl)
   have HR2:=Lib.hid (fun (w':World) (q:Below wr.heap.size wr w')=>show w'.rangeAt b (ob + (j + 1) * 32) (z07 .u8 y) from z08 g2 q hbl)
   have HS1:=Lib.hid (show (Tryz.prog.info? 25).map (·.size) = some x.length by rw [i1.1];exact Tryz.sizeI)
   have HS2:=Lib.hid (show (Tryz.prog.info? 25).map (·.size) = some y.length by rw [i2.1];exact Tryz.sizeI)
   obtain ⟨r,hr⟩:∃ r,z1t x y = r:=⟨_,rfl⟩
   have hrc:=zcw x y
   rw [hr] at HC hrc
   have HRE:=Shut.mk hr
   have HJ1:=Shut.mk (show ((j + 1:Nat):Int) - 1 = (j:Int) by omega)
   clear hx hy g1 g2 i1 i2 hr
   by_cases hrr:r = -1
   ·subst hrr
    clear hrc
    go_upto_region 6 with (fail)
    refine z09 (fun w'=>Below wr.heap.size wr w') (by kernel_rfl) (by kernel_rfl) (Below.refl _ _).drew ?_
    repeat (first
     | go_big_quiet_skip
     | (go_big_quiet_want;refine z0i 25 _ rfl b (ob + j * 32) x _ rfl HR1.out Tryz.underlying25 rfl HS1.out ?_;go_big_quiet_on;simp only [Act.put,zS,zA,zB])
     | (go_big_quiet_want;refine z0i 25 _ rfl b (ob + (j + 1) * 32) y _ rfl HR2.out Tryz.underlying25 rfl HS2.out ?_;go_big_quiet_on;simp only [Act.put,zS,zA,zB])
     | go_big_quiet_step ((intro hs';first
      | rfl
      | (go_at_call 85;exact (HC.out _).mono fun e w' h=>⟨h.1,hs'.trans (h.2.mono hs'.size)⟩))))
    refine wpQuiet_nil ?_
    intro w2 hb2
    go_wp2_with fail
    refine ⟨⟨j + 1 + 1,by omega,by omega,by go_num,fun q hq h=>?_,HBW.out.trans (hb2.mono HBW.out.size)⟩,by simp [intOf];omega⟩
    by_cases hqj:q = j + 1
    ·subst hqj
     rw [Nat.add_sub_cancel,HXE.out,HYE.out]
     exact HRE.out
    ·exact HASC.out q (by omega) h
   ·have hr0:(0:Int) ≤ r:=by omega
    have HGF:=Shut.mk (show zhj L = false from decide_eq_false (fun h=>hrr (by
     have h1:=h.2 (j + 1) (by rw [HNN.out];omega) (by omega)
     rw [Nat.add_sub_cancel,HXE.out,HYE.out] at h1
     rw [← HRE.out,h1])))
    clear hrr hrc
    go_upto_region 6 with (fail)
    refine z09 (fun w'=>Below wr.heap.size wr w') (by kernel_rfl) (by kernel_rfl) (Below.refl _ _).drew ?_
    repeat (first
     | go_big_quiet_skip
     | (go_big_quiet_want;refine z0i 25 _ rfl b (ob + j * 32) x _ rfl HR1.out Tryz.underlying25 rfl HS1.out ?_;go_big_quiet_on;simp only [Act.put,zS,zA,zB])
     | (go_big_quiet_want;refine z0i 25 _ rfl b (ob + (j + 1) * 32) y _ rfl HR2.out Tryz.underlying25 rfl HS2.out ?_;go_big_quiet_on;simp only [Act.put,zS,zA,zB])
     | go_big_quiet_step ((intro hs';first
      | rfl
      | (go_at_call 85;exact (HC.out _).mono fun e w' h=>⟨h.1,hs'.trans (h.2.mono hs'.size)⟩))))
    refine wpQuiet_nil ?_
    intro w2 hb2
    go_wp2_with fail
    go_ret
    exact ⟨by rw [HGF.out];rfl,HBW.out.trans (hb2.mono HBW.out.size)⟩
  ·have hge:¬ (k:Int) < (n:Int):=by omega
   have HR:=Shut.mk (show zhj L = true from decide_eq_true ⟨by rw [HNN.out];omega,fun j hj h0=>HASC.out j (by rw [HNN.out] at hj;omega) h0⟩)
   go_wp2_with fail
   go_ret
   exact ⟨by rw [HR.out];rfl,HBW.out⟩
def zf5 (o:OpN):Bool:=if o.preds = [] then decide (o.depth = 1) else decide (1 < o.depth)
theorem zjr (o:OpN):GoodO o ↔ GoodD o.d ∧ 0 ≤ o.author ∧ o.author < 5 ∧ zhj o.preds = true ∧ zf5 o = true:=by
 unfold GoodO zhj zf5
 by_cases h:o.preds = []
 ·simp only [h,if_true,decide_eq_true_eq]
  constructor
  ·rintro ⟨h1,h2,h3,h4,h5,h6,h7⟩
   exact ⟨h5,h6,by omega,⟨h4,h1⟩,h2 trivial⟩
  ·rintro ⟨h5,h6,h7,⟨h4,h1⟩,h2⟩
   exact ⟨h1,fun _=>h2,fun h=>absurd rfl h,h4,h5,h6,by omega⟩
 ·simp only [h,if_false,decide_eq_true_eq]
  constructor
  ·rintro ⟨h1,h2,h3,h4,h5,h6,h7⟩
   have:=h3 h
   exact ⟨h5,h6,by omega,⟨h4,h1⟩,by omega⟩
  ·rintro ⟨h5,h6,h7,⟨h4,h1⟩,h2⟩
   exact ⟨h1,fun h=>(h.elim),fun _=>by omega,h4,h5,h6,by omega⟩
theorem zdh (o:OpN) (pa:Option Addr) (pc:Nat) (w:World) (hr:o.d.ref.length = 32) :
 Calls Tryz.prog 75 #[.agg (opV o pa pc)] w fun e w'=>e = .returned (.bool (zf5 o)) ∧ Below w.heap.size w w':=by
 have hx:Cells w.heap.size 38 (opV o pa pc) (w.alloc (.cells (opV o pa pc) 38)):=heap_alloc_new w _
 have hb:Below w.heap.size w (w.alloc (.cells (opV o pa pc) 38)):=(Below.refl _ _).alloc (Nat.le_refl _) _
 obtain ⟨_,_,c36,c37⟩:=z0j hr hx
 have HB:=Lib.hid hb
 obtain ⟨n,hnn⟩:∃ n,o.preds.length = n:=⟨_,rfl⟩
 obtain ⟨D,hD⟩:∃ D,o.depth = D:=⟨_,rfl⟩
 have HG:=Shut.mk (show zf5 o = if n = 0 then decide (D = 1) else decide (1 < D) by
  rw [zf5,hD,← hnn]
  by_cases h:o.preds = []
  ·simp [h]
  ·rw [if_neg h,if_neg (fun e=>h (List.length_eq_zero_iff.1 e))])
 rw [hnn] at c37
 rw [hD] at c36
 clear hx hb hnn hD
 by_cases h0:n = 0
 ·subst h0
  have HR:=Shut.mk (show zf5 o = (D == 1) by rw [HG.out,if_pos rfl];by_cases h:D = 1 <;> simp [h])
  go_enter Tryz.func75,Tryz.ntmps75
  go_wp2_with fail
  go_ret
  exact ⟨by rw [HR.out];rfl,HB.out⟩
 have h0b:((n:Int) == 0) = false:=by simp;omega
 have HR:=Shut.mk (show zf5 o = decide (1 < D) by rw [HG.out,if_neg h0])
 go_enter Tryz.func75,Tryz.ntmps75
 go_wp2_with fail
 go_ret
 exact ⟨by rw [HR.out];rfl,HB.out⟩
theorem zjh (o:OpN) (pa:Option Addr) (pc:Nat) (w:World) (ho:o.Ok) (hp:IAt pa o.preds w) (hk:o.d.key.length ≤ 140737488351232) (hv:o.d.val.length ≤ 140737488351232) (hn:o.preds.length ≤ 140737488351232) :
 Calls Tryz.prog 42 #[.agg (opV o pa pc)] w fun e w'=>e = .returned (.bool (decide (GoodO o))) ∧ Below w.heap.size w w':=by
 have hx:Cells w.heap.size 38 (opV o pa pc) (w.alloc (.cells (opV o pa pc) 38)):=heap_alloc_new w _
 have hb:Below w.heap.size w (w.alloc (.cells (opV o pa pc) 38)):=(Below.refl _ _).alloc (Nat.le_refl _) _
 have HX:=Lib.hid hx
 have HB:=Lib.hid hb
 have HP:=Lib.hid (hp.below hb)
 have HO:=Lib.hid ho
 have HSO:=Lib.hid (show (Tryz.prog.info? 38).map (·.size) = some (opV o pa pc).size by rw [z0b ho.ref.1];exact Tryz.sizeO)
 have HSD:=Lib.hid (show (Tryz.prog.info? 27).map (·.size) = some (z1h o.d).length by rw [z0u ho.ref.1];exact Tryz.sizeD)
 have HGD:=Lib.hid (fun w'=>zda o.d ho.ref hk hv w')
 have HFD:=Lib.hid (fun w'=>zdh o pa pc w' ho.ref.1)
 have HGP:=Lib.hid (fun w' h=>zde o.preds pa pc w' ho.preds h hn)
 obtain ⟨n,hnn⟩:∃ n,o.preds.length = n:=⟨_,rfl⟩
 obtain ⟨A,hA⟩:∃ A,o.author = A:=⟨_,rfl⟩
 obtain ⟨zd,hzd⟩:∃ z,decide (GoodD o.d) = z:=⟨_,rfl⟩
 obtain ⟨zp,hzp⟩:∃ z,zhj o.preds = z:=⟨_,rfl⟩
 obtain ⟨zf,hzf⟩:∃ z,zf5 o = z:=⟨_,rfl⟩
 have HG:=Shut.mk (show decide (GoodO o) = decide (zd = true ∧ 0 ≤ A ∧ A < 5 ∧ zp = true ∧ zf = true) from decide_eq_decide.2 (by rw [zjr,hA,hzp,hzf,← hzd,decide_eq_true_eq]))
 rw [hzd] at HGD
 rw [hzp,hnn] at HGP
 rw [hzf] at HFD
 have HNN:=Shut.mk hnn
 have HAA:=Shut.mk hA
 clear hx hb hp ho hk hv hn hnn hA hzd hzp hzf
 go_enter Tryz.func42,Tryz.ntmps42
 go_upto_region 1 with (fail)
 obtain ⟨w1,hw1⟩:∃ x,x = w.alloc (.cells (opV o pa pc) 38):=⟨_,rfl⟩
 rw [← hw1] at HX HB HP ⊢
 obtain ⟨c0,c35,c36,c37⟩:=z0j HO.out.ref.1 HX.out
 have HC0:=Lib.hid c0
 have HC35:=Lib.hid c35
 have HC37:=Lib.hid c37
 rw [HAA.out] at HC35
 rw [HNN.out] at HC37
 clear hw1 c0 c35 c36 c37
 refine wp_region_lit ?_
 iterate 3 (first | go_skip | go_guarded | go_step)
 refine wpList_load_mid rfl 27 _ rfl w.heap.size 0 rfl _ _ HC0.out Tryz.underlying27 rfl HSD.out ?_
 simp only [Act.put,zS,zA,zB]
 go_wp2_with fail
 refine (HGD.out _).mono ?_
 rintro e w2 ⟨rfl,hb⟩
 have HX2:=Lib.hid (HX.out.below hb)
 have HP2:=Lib.hid (HP.out.below hb)
 have HB2:=Lib.hid (HB.out.trans (hb.mono HB.out.size))
 have c35:=(hb.cell (p:=⟨w.heap.size,35,none⟩) HX.out.lt).trans HC35.out
 have c37:=(hb.cell (p:=⟨w.heap.size,37,none⟩) HX.out.lt).trans HC37.out
 clear hb HX HP HB HC0 HC35 HC37 HGD
 cases zd with
 | false =>
   have HR:=Shut.mk (HG.out.trans (decide_eq_false (fun h=>by cases h.1)))
   go_wp2_with fail
   go_ret
   exact ⟨by rw [HR.out];rfl,HB2.out⟩
 | true =>
 by_cases h0:A < 0
 ·have h0b:decide ((0:Int) ≤ A) = false:=decide_eq_false (by omega)
  have HR:=Shut.mk (HG.out.trans (decide_eq_false (fun h=>by omega)))
  go_wp2_with fail
  go_ret
  exact ⟨by rw [HR.out];rfl,HB2.out⟩
 have h0b:decide ((0:Int) ≤ A) = true:=decide_eq_true (by omega)
 by_cases h5:5 ≤ A
 ·have h5b:decide (A < 5) = false:=decide_eq_false (by omega)
  have HR:=Shut.mk (HG.out.trans (decide_eq_false (fun h=>by omega)))
  go_wp2_with fail
  go_ret
  exact ⟨by rw [HR.out];rfl,HB2.out⟩
 have h5b:decide (A < 5) = true:=decide_eq_true (by omega)
 have HR:=Shut.mk (show decide (GoodO o) = (zp && zf) by rw [HG.out];cases zp <;> cases zf <;> simp <;> omega)
 go_wp2_with fail
 refine (HGP.out _ HP2.out).mono ?_
 rintro e w3 ⟨rfl,hb⟩
 have HX3:=Lib.hid (HX2.out.below hb)
 have HB3:=Lib.hid (HB2.out.trans (hb.mono HB2.out.size))
 clear hb HX2 HP2 HB2 c35 c37 HGP
 cases zp with
 | false =>
   go_wp2_with fail
   go_ret
   exact ⟨by rw [HR.out];rfl,HB3.out⟩
 | true =>
 go_wp2_with (refine z1b (by rfl) 38 _ rfl w.heap.size (opV o pa pc) 38 _ rfl HX3.out Tryz.underlying38 rfl HSO.out ?_)
 refine (HFD.out _).mono ?_
 rintro e w4 ⟨rfl,hb⟩
 have HB4:=Lib.hid (HB3.out.trans (hb.mono HB3.out.size))
 clear hb HX3 HB3 HFD
 go_wp2_with fail
 go_ret
 exact ⟨by rw [HR.out];rfl,HB4.out⟩
theorem zbh {d:DraftN} {a b:Int} {L M:List (List Nat)} {n:Nat} (hr:d.ref.length = 32) (hn:M.length = n) (pa pb:Option Addr) (pc pd:Nat):(opV ⟨d,a,b,L⟩ pa pc).setIfInBounds 37 (.slice pb n pd) = opV ⟨d,a,b,M⟩ pb pd:=by
 subst hn
 rw [opV,opV,opL,opL,List.setIfInBounds_toArray,List.set_append_right _ _ (by rw [z0u hr];decide),z0u hr]
 rfl
theorem zel (L:List (List Nat)) (pa:Option Addr) (n pc:Nat) (w:World) (hL:Ids L) (hp:IAt pa L w) (hn:n = L.length) (h63:n ≤ 100000) :
 Calls Tryz.prog 45 #[.slice pa n pc] w fun e w'=>∃ pa' pc',e = .returned (.slice pa' n pc') ∧ OwnI w.heap.size 25 (.slice pa' n pc') L w' ∧ Below w.heap.size w w' ∧ (pa' = none → pc' = 0):=by
 cases pa with
 | none =>
   have hL0:L = []:=by
    rcases hp with h | ⟨b,o,h,_⟩
    ·exact h
    ·cases h
   subst hL0
   obtain rfl:n = 0:=hn
   clear hp hL
   have q34:∀ (w:World) (a:Option Addr) (n c n' c':Nat),(binOp .eql 34 (.slice a n c) (.slice none n' c')).run Tryz.prog w = .ok (.bool a.isNone) w:=fun w a n c n' c'=>Lib.run_eql_slice_nil w _ _ a n c n' c' rfl
   go_enter Tryz.func45,Tryz.ntmps45
   go_wp2_with fail
   go_ret
   exact ⟨none,0,rfl,OwnI.nil _ _ _,Below.refl _ _,fun _=>rfl⟩
 | some ad =>
   have HL:=Lib.hid hL
   have HP:=Lib.hid hp
   have HN:=Lib.hid hn
   clear hL hp hn
   have q34:∀ (w:World) (a:Option Addr) (n c n' c':Nat),(binOp .eql 34 (.slice a n c) (.slice none n' c')).run Tryz.prog w = .ok (.bool a.isNone) w:=fun w a n c n' c'=>Lib.run_eql_slice_nil w _ _ a n c n' c' rfl
   go_enter Tryz.func45,Tryz.ntmps45
   have b1:Below w.heap.size w (w.alloc (.cells #[] 25)):=(Below.refl _ _).alloc (Nat.le_refl _) _
   have o1:OwnI w.heap.size 25 (.slice (some ⟨w.heap.size,0,none⟩) 0 0) [] (w.alloc (.cells #[] 25)):=World.ownsRow_lit w #[] 0 (Nat.le_refl _) (by unfold maxLen;omega) rfl
   have HO:=Lib.hid o1
   have HPA:=Lib.hid (HP.out.below b1)
   have HB:=Lib.hid b1
   clear b1 o1
   go_wp2_with (refine z0w rfl _ _ 34 25 rfl w.heap.size (.agg (z07 .u8 (List.replicate 32 0)).toArray) rfl Tryz.underlying34 Tryz.infoI32 (.slice (some ⟨w.heap.size,0,none⟩) 0 0) [] L HL.out (some ad) n pc HN.out rfl HO.out rfl HPA.out (fun h=>by cases h) (by simp only [List.length_nil];rw [← HN.out];omega) HB.out.size ?_)
   intro v' w' ho hg hd
   have ho1:=ho.out
   obtain ⟨a',c',rfl⟩:=ho1.form
   rw [← HN.out] at ho1
   have hb':Below w.heap.size w w':=HB.out.grown hg.out HB.out.size (fun g hg=>by
    obtain rfl:w.heap.size = g:=by injection hg
    exact Nat.le_refl _)
   have HF:=Lib.hid (And.intro ho1 (And.intro hb' (show a' = none → c' = 0 from fun e=>by
    subst e
    rcases ho1.2 with ⟨h1,_⟩ | ⟨g,cap,cur,h1,_⟩
    ·injection h1
    ·cases h1)))
   rw [← HN.out]
   clear ho1 hb' ho hg hd
   go_wp2_with fail
   go_ret
   exact ⟨a',c',rfl,HF.out⟩
def DevTake (X:Nat → Prop) (B:Bs) (T:Ents) (r:List (List Nat) × Int × DagN) (w:World) (e:Ending) (w':World):Prop :=
 ∃ v X' T' hs' M', e = .returned (.tuple #[v, .int .i64 r.2.1]) ∧ OwnI w.heap.size 25 v r.1 w' ∧ SetAt X' B T' r.2.2 hs' M' w' ∧ DInv r.2.2 hs' M' [] [] ∧ Tame r.2.2 ∧ Turn (SetO B T) (SetO B T') w w' ∧ (∀ b, v.ownBlock = some b → ¬ SetO B T' b) ∧
   (∀ b,X' b → X b) ∧ (∀ b,b < w.heap.size → X b → X' b) ∧ (∀ b,w'.heap.size ≤ b → X' b)
theorem DevTake.stay {X:Nat → Prop} {B:Bs} {T:Ents} {s:DagN} {hs:List (List Nat)} {M:Bh} {w w':World} {r:List (List Nat) × Int × DagN} (h:SetAt X B T s hs M w) (hX:∀ b,w.heap.size ≤ b → X b) (hD:DInv s hs M [] []) (ht:Tame s) (k:Below w.heap.size w w') (c:Int) (hr:r = ([],c,s)):DevTake X B T r w (.returned (.tuple #[.slice none 0 0,.int .i64 c])) w':=by
 subst hr
 exact ⟨_,X,T,hs,M,rfl,OwnI.nil _ _ _,h.below k,hD,ht,Turn.of k,(fun b hb=>by cases hb),fun _ h=>h,fun _ _ h=>h,fun b hb=>hX b (Nat.le_trans k.size hb)⟩
theorem ze8 (X:Nat → Prop) (B:Bs) (T:Ents) (s:DagN) (hs:List (List Nat)) (M:Bh) (x:OpN) (pa:Option Addr) (pc:Nat) (w:World) (h:SetAt X B T s hs M w) (hX:∀ b,w.heap.size ≤ b → X b) (hD:DInv s hs M [] []) (ht:Tame s) (hx:x.Fit) (hpa:IAt pa x.preds w) (hk:KAt w) (hN:s.ops.length + s.wait.length ≤ 999) :
 Calls Tryz.prog 13 #[.pointer (some ⟨B.gs,0,none⟩),.agg (opV x pa pc)] w fun e w'=>DevTake X B T (z2u s x) w e w':=by
 have HX0:=Lib.hid hX
 have HS0:=Lib.hid h
 have HD:=Lib.hid hD
 have HTM:=Lib.hid ht
 have HXF:=Lib.hid hx
 have x1:Cells w.heap.size 38 (opV x pa pc) (w.alloc (.cells (opV x pa pc) 38)):=heap_alloc_new w _
 have b1:Below w.heap.size w (w.alloc (.cells (opV x pa pc) 38)):=(Below.refl _ _).alloc (Nat.le_refl _) _
 have HB:=Lib.hid b1
 have HC:=Lib.hid x1
 have HIA:=Lib.hid (hpa.below b1)
 have HK:=Lib.hid (hk.below b1)
 have HSV:=Lib.hid (show (Tryz.prog.info? 38).map (·.size) = some (opV x pa pc).size by rw [z0b hx.d.ref.1];exact Tryz.sizeO)
 clear h hX hD ht hx hpa hk x1 b1
 go_enter Tryz.func13,Tryz.ntmps13
 go_upto_region 1 with (fail)
 obtain ⟨w1,hw1⟩:∃ q,q = w.alloc (.cells (opV x pa pc) 38):=⟨_,rfl⟩
 rw [← hw1] at HB HC HIA HK ⊢
 obtain ⟨g3,hg3⟩:∃ g,w.heap.size = g:=⟨_,rfl⟩
 have HG3:=Lib.hid hg3
 rw [hg3] at HC ⊢
 clear hw1 hg3
 have HGD:=Lib.hid (zjh x pa pc w1 HXF.out.ok HIA.out (by have:=HXF.out.d.key;omega) (by have:=HXF.out.d.val;omega) (by have:=HXF.out.many;omega))
 by_cases hg:GoodO x
 ·rw [decide_eq_true hg] at HGD
  have HGO:=Lib.hid hg
  clear hg
  have hnn:IdOk (z00 x):=⟨z0p x,z5d x⟩
  have HTK:=Shut.mk (show z2u s x = if z00 x ∈ s.names ∨ z00 x ∈ s.waits then ([],9,s) else if z1l s.names x = false then ([],0,⟨s.ops,s.wait ++ [x]⟩) else if x.depth ≠ z1p s.ops x then ([],10,s) else (z00 x :: (z0s s.wait.length ⟨s.ops ++ [x],s.wait⟩).1,0,(z0s s.wait.length ⟨s.ops ++ [x],s.wait⟩).2) by rw [z2u,if_neg (fun h=>h HGO.out)])
  have HNM:=Lib.hid (fun w2 (b:Below w1.heap.size w1 w2)=>zku x pa pc w2 HXF.out (HIA.out.below b) (HK.out.below b))
  obtain ⟨n,hn⟩:∃ n,z00 x = n:=⟨_,rfl⟩
  rw [hn] at hnn HTK HNM
  have HN:=Lib.hid hnn
  have HNE:=Shut.mk hn
  have HS1:=Lib.hid (show (Tryz.prog.info? 25).map (·.size) = some n.length by rw [hnn.1];exact Tryz.sizeI)
  have HL2:=Lib.hid (show (List.replicate 32 0).length = n.length by rw [hnn.1];rfl)
  clear hn hnn
  go_wp2_with (first
   | (refine z01 rfl 38 (.tmp 3) rfl g3 (opV x pa pc) 38 _ rfl HC.out Tryz.underlying38 rfl HSV.out ?_)
   | (refine HGD.out.mono ?_; rintro e w2 ⟨rfl, hb2⟩
      have HB2:=Lib.hid hb2
      have HC2:=Lib.hid (HC.out.below hb2)
      clear hb2)
   | (refine z01 rfl 38 (.tmp 3) rfl g3 (opV x pa pc) 38 _ rfl HC2.out Tryz.underlying38 rfl HSV.out ?_)
   | (refine (HNM.out w2 HB2.out).mono ?_; rintro e w3 ⟨rfl, hb3⟩
      have HB3:=Lib.hid (HB2.out.trans (hb3.mono HB2.out.size))
      have HC3:=Lib.hid (HC2.out.below hb3)
      clear hb3 HC2 HB2)
   | (refine z06 rfl 25 _ _ rfl rfl w3.heap.size .u8 (List.replicate 32 0) n 25 rfl rfl (heap_alloc_new w3 _) HS1.out HL2.out ?_))
  intro w4 hc4 hb4
  have HB4:=Lib.hid (HB3.out.trans ((show Below w3.heap.size w3 w4 from But.toBelow ((Below.refl _ _).alloc (Nat.le_refl _) _) hb4.out (Nat.le_refl _) (by rw [World.size_alloc];exact Nat.le_succ _)).mono HB3.out.size))
  obtain ⟨g6,hg6⟩:∃ g,w3.heap.size = g:=⟨_,rfl⟩
  have HG6:=Lib.hid (show w1.heap.size ≤ g6 from hg6 ▸ HB3.out.size)
  have HC6:=Lib.hid (show Blk g6 25 .u8 n w4 from hg6 ▸ hc4.out)
  rw [hg6]
  have HBW:=Lib.hid (HB.out.trans (HB4.out.mono HB.out.size))
  have HS4:=Lib.hid (HS0.out.below HBW.out)
  have HC4:=Lib.hid (HC.out.below HB4.out)
  have HIA4:=Lib.hid (HIA.out.below HB4.out)
  have HGL:=Lib.hid (show g3 < w1.heap.size from HC.out.lt)
  clear hc4 hb4 hg6 HC3 HB3 HC HIA HK HNM HGD
  have HKN:=Lib.hid (zkj X B T s hs M n w4 HS4.out HN.out (fun y hy=>(HTM.out.ops y hy).d.ref.1) (fun y hy=>(HTM.out.wait y hy).d.ref.1))
  by_cases hkn:n ∈ s.names ∨ n ∈ s.waits
  ·have hz:(decide (n ∈ s.names) || decide (n ∈ s.waits)) = true:=by simpa using hkn
   rw [hz] at HKN
   have htk:=HTK.out
   rw [if_pos hkn] at htk
   have HTK2:=Shut.mk htk
   clear hkn hz htk
   go_wp2_with (first
    | (refine z04 rfl 25 (.tmp 6) rfl g6 .u8 n 25 _ rfl HC6.out Tryz.underlying25 rfl HS1.out ?_)
    | (refine HKN.out.mono ?_;rintro e w5 ⟨rfl,hb5⟩))
   go_ret2
   exact DevTake.stay HS0.out HX0.out HD.out HTM.out (HBW.out.trans (hb5.mono HBW.out.size)) 9 HTK2.out
  ·have hz:(decide (n ∈ s.names) || decide (n ∈ s.waits)) = false:=by simpa using hkn
   rw [hz] at HKN
   have htk:=HTK.out
   rw [if_neg hkn] at htk
   have HTK2:=Shut.mk htk
   have HNN:=Lib.hid (show n ∉ s.names from fun e=>hkn (.inl e))
   have HNW:=Lib.hid (show n ∉ s.waits from fun e=>hkn (.inr e))
   clear hkn hz htk HTK
   have HFR:=Lib.hid (show ∀ p,p ∈ x.preds → IdOk p from HXF.out.preds)
   have HGW:=Lib.hid (show w.heap.size ≤ g3 from HG3.out ▸ Nat.le_refl _)
   have HG36:=Lib.hid (show g6 ≠ g3 from fun e=>by have h1:=HGL.out;have h2:=HG6.out;omega)
   have HSV2:=Lib.hid (fun (pa':Option Addr) (pc':Nat)=>show (Tryz.prog.info? 38).map (·.size) = some (opV x pa' pc').size by rw [z0b HXF.out.d.ref.1];exact Tryz.sizeO)
   go_wp2_with (first
    | (refine z04 rfl 25 (.tmp 6) rfl g6 .u8 n 25 _ rfl HC6.out Tryz.underlying25 rfl HS1.out ?_)
    | (refine HKN.out.mono ?_; rintro e w5 ⟨rfl, hb5⟩
       have HB5:=Lib.hid hb5
       have HC5:=Lib.hid (HC4.out.below hb5)
       have c37:=(z0j HXF.out.d.ref.1 HC5.out).2.2.2
       have HCL:=Lib.hid (zel x.preds pa x.preds.length pc w5 HFR.out (HIA4.out.below hb5) rfl (by have:=HXF.out.many;omega))
       clear hb5)
    | (refine HCL.out.mono ?_; rintro e w6 ⟨pa', pc', rfl, ho6, hb6, hn6⟩
       have HO6:=Lib.hid ho6
       have HB65:=Lib.hid hb6
       have HB6:=Lib.hid (HB5.out.trans (hb6.mono HB5.out.size))
       have HN6:=Lib.hid hn6
       have HC66:=Lib.hid (HC5.out.below hb6)
       have c37':=(z0j HXF.out.d.ref.1 HC66.out).2.2.2
       have f37:=HC66.out.frozen 37
       have hk7:But g3 w6 (w6.setCell ⟨g3,37,none⟩ (.slice pa' x.preds.length pc')):=(But.refl g3 w6).setCell 37 _
       have HK7:=Lib.hid hk7
       have HC67:=Lib.hid ((HC6.out.below HB6.out).but hk7 HG36.out)
       have HC7:=Lib.hid (show Cells g3 38 (opV x pa' pc') (w6.setCell ⟨g3,37,none⟩ (.slice pa' x.preds.length pc')) from by
        have h:=HC66.out.set 37 (.slice pa' x.preds.length pc')
        rw [show (opV x pa pc).setIfInBounds 37 (.slice pa' x.preds.length pc') = opV x pa' pc' from zbh (d:=x.d) (a:=x.author) (b:=x.depth) (L:=x.preds) (M:=x.preds) HXF.out.d.ref.1 rfl pa pa' pc pc'] at h
        exact h)
       clear ho6 hb6 hn6 hk7 HCL HC5 c37)
    | (refine z04 rfl 25 (.tmp 6) rfl g6 .u8 n 25 _ rfl HC67.out Tryz.underlying25 rfl HS1.out ?_)
    | (refine z01 rfl 38 (.tmp 3) rfl g3 (opV x pa' pc') 38 _ rfl HC7.out Tryz.underlying38 rfl (HSV2.out pa' pc') ?_))
   obtain ⟨w7,hw7⟩:∃ z,z = w6.setCell ⟨g3,37,none⟩ (.slice pa' x.preds.length pc'):=⟨_,rfl⟩
   rw [← hw7] at HK7 HC67 HC7 ⊢
   clear hw7 c37' f37
   have HB7:=Lib.hid (show Below w.heap.size w w7 from But.toBelow (HBW.out.trans (HB6.out.mono HBW.out.size)) HK7.out HGW.out (HBW.out.trans (HB6.out.mono HBW.out.size)).size)
   have HFB:=Lib.hid (show ∀ a,pa' = some a → w5.heap.size ≤ a.block ∧ a.block < w6.heap.size from fun a ha=>World.ownsRow.lt HO6.out a.block (by subst ha;rfl))
   obtain ⟨Y,hY⟩:∃ Y:Nat → Prop,Y = fun b=>X b ∧ ∀ a,pa' = some a → b ≠ a.block:=⟨_,rfl⟩
   have HWS:=Lib.hid (show w.heap.size ≤ w5.heap.size from (HBW.out.trans (HB5.out.mono HBW.out.size)).size)
   have HY1:=Lib.hid (show ∀ b,Y b → X b from fun b h=>by rw [hY] at h;exact h.1)
   have HY2:=Lib.hid (show ∀ b,b < w.heap.size → X b → Y b from fun b hb h=>by
    rw [hY]
    exact ⟨h,fun a ha e=>by have:=(HFB.out a ha).1;have:=HWS.out;omega⟩)
   have HY3:=Lib.hid (show ∀ b,w7.heap.size ≤ b → Y b from fun b hb=>by
    rw [hY]
    exact ⟨HX0.out b (Nat.le_trans HB7.out.size hb),fun a ha e=>by have:=(HFB.out a ha).2;have:=HK7.out.size;omega⟩)
   have HOF:=Lib.hid (show OffX Y pa' x.preds from fun a ha _ h=>by rw [hY] at h;exact h.2 a ha rfl)
   have HS7:=Lib.hid ((HS0.out.below HB7.out).mono HY1.out (fun b hb=>HY2.out b (SetO.x HS0.out hb).2 (SetO.x HS0.out hb).1))
   have HI7:=Lib.hid (show IAt pa' x.preds w7 from OwnI.at (HO6.out.but HK7.out (fun g hg e=>by
    have h1:=(World.ownsRow.lt HO6.out g hg).1
    have h2:=HGL.out;have h3:=HB4.out.size;have h4:=HB5.out.size;omega)) HFR.out)
   have HE7:=Lib.hid (show EntsO Y (s.wait ++ [x]) (z3c T.w n (.agg (opV x pa' pc'))) w7 from by
    have h:=HS7.out.wait.push x pa' pc' HI7.out HOF.out
    rw [HNE.out] at h
    rw [z1u (by rw [HS7.out.wait.keys];exact HNW.out)]
    exact h)
   have HLB:=Lib.hid (show ∀ q,(atB M q).length ≤ 100000 from fun q=>by have h1:=(HD.out.lenB q).1;have h2:=HTM.out.many;omega)
   have HRO:=Lib.hid (show ∀ y ∈ s.ops,y.d.ref.length = 32 from fun y hy=>(HTM.out.ops y hy).d.ref.1)
   have HWT:=Lib.hid (zij Y B T s hs M n x pa' pc' (s.wait ++ [x]) w7 HS7.out HY3.out HN.out HXF.out.d.ref.1 HFR.out HI7.out (by have:=HXF.out.many;omega) HE7.out HRO.out HLB.out)
   clear hY HO6 HB65 HN6 HC66 HE7 HC6 HKN HB5 HB6 HK7
   by_cases hw:z1l s.names x = true
   ·have htk:=HTK2.out
    rw [if_neg (by rw [hw];decide)] at htk
    have HTK3:=Shut.mk htk
    have HW:=Lib.hid hw
    have HFT:=Lib.hid (fun w8 (b:Below w7.heap.size w7 w8)=>zif Y B T s hs M x pa' pc' w8 (HS7.out.below b) HXF.out.d.ref.1 HFR.out (HI7.out.below b) (by have:=HXF.out.many;omega) HRO.out HTM.out.shallow (by have:=HTM.out.many;omega))
    clear hw htk HTK2
    by_cases hdp:x.depth = z1p s.ops x
    ·have htk:=HTK3.out
     rw [if_neg (fun h=>h hdp)] at htk
     have HTK4:=Shut.mk htk
     rw [decide_eq_true hdp] at HFT
     have HAD:=Lib.hid (fun w9 (b:Below w7.heap.size w7 w9)=>zkr Y B T s hs M n x pa' pc' w9 (HS7.out.below b) (fun c hc=>HY3.out c (Nat.le_trans b.size hc)) HNE.out HXF.out (HI7.out.below b) HOF.out HD.out HNN.out HNW.out HW.out hdp HTM.out hN)
     clear hdp htk HTK3
     obtain ⟨RR,hRR⟩:∃ RR,z0s s.wait.length ⟨s.ops ++ [x],s.wait⟩ = RR:=⟨_,rfl⟩
     rw [hRR] at HAD HTK4
     clear hRR
     refine HWT.out.mono ?_
     rintro e w8 hwp
     obtain ⟨rfl,hb8⟩:=zdz hwp HW.out
     have HC78:=Lib.hid (HC7.out.below hb8)
     have HC68:=Lib.hid (HC67.out.below hb8)
     have HB8:=Lib.hid hb8
     clear hwp hb8 HC7 HC67 HWT
     go_wp2_with (first
      | (refine z01 rfl 38 (.tmp 3) rfl g3 (opV x pa' pc') 38 _ rfl HC78.out Tryz.underlying38 rfl (HSV2.out pa' pc') ?_)
      | (refine (HFT.out w8 HB8.out).mono ?_; rintro e w9 ⟨rfl, hb9⟩
         have HB9:=Lib.hid (HB8.out.trans (hb9.mono HB8.out.size))
         have HC79:=Lib.hid (HC78.out.below hb9)
         have HC69:=Lib.hid (HC68.out.below hb9)
         clear hb9 HC78 HC68)
      | (refine z04 rfl 25 (.tmp 6) rfl g6 .u8 n 25 _ rfl HC69.out Tryz.underlying25 rfl HS1.out ?_)
      | (refine z01 rfl 38 (.tmp 3) rfl g3 (opV x pa' pc') 38 _ rfl HC79.out Tryz.underlying38 rfl (HSV2.out pa' pc') ?_)
      | (refine (HAD.out w9 HB9.out).mono ?_;rintro e wa ⟨v,T',hs',M',rfl,hoa,hsa,hda,hta,hna,htma⟩))
     go_ret2
     have HB79:=HB7.out.trans (HB9.out.mono HB7.out.size)
     exact ⟨v,Y,T',hs',M',by rw [HTK4.out];rfl,by rw [HTK4.out];exact hoa.mono HB79.size,by rw [HTK4.out];exact hsa,by rw [HTK4.out];exact hda,by rw [HTK4.out];exact htma,(Turn.of HB79).trans hta,hna,HY1.out,HY2.out,fun b hb=>HY3.out b (Nat.le_trans HB9.out.size (Nat.le_trans hta.only.size hb))⟩
    ·have htk:=HTK3.out
     rw [if_pos hdp] at htk
     have HTK4:=Shut.mk htk
     rw [decide_eq_false hdp] at HFT
     clear hdp htk HTK3
     refine HWT.out.mono ?_
     rintro e w8 hwp
     obtain ⟨rfl,hb8⟩:=zdz hwp HW.out
     have HC78:=Lib.hid (HC7.out.below hb8)
     have HB8:=Lib.hid hb8
     clear hwp hb8 HC7 HC67 HWT
     go_wp2_with (first
      | (refine z01 rfl 38 (.tmp 3) rfl g3 (opV x pa' pc') 38 _ rfl HC78.out Tryz.underlying38 rfl (HSV2.out pa' pc') ?_)
      | (refine (HFT.out w8 HB8.out).mono ?_;rintro e w9 ⟨rfl,hb9⟩))
     go_ret2
     exact DevTake.stay HS0.out HX0.out HD.out HTM.out (HB7.out.trans ((HB8.out.trans (hb9.mono HB8.out.size)).mono HB7.out.size)) 10 HTK4.out
   ·have hw':z1l s.names x = false:=by simpa using hw
    have htk:=HTK2.out
    rw [if_pos hw'] at htk
    have HTK3:=Shut.mk htk
    have HW:=Lib.hid hw'
    clear hw hw' htk HTK2
    refine HWT.out.mono ?_
    rintro e w8 hwp
    obtain ⟨rfl,p,v,hp1,hp2,hs8,ht8⟩:=zk9 hwp HW.out
    have HDN:=Lib.hid (HD.out.come (o:=x) (by rw [HNE.out];exact HNN.out) (by rw [HNE.out];exact HNW.out) hp1 hp2)
    rw [HNE.out] at HDN
    clear hwp HWT
    go_wp2_with fail
    go_ret2
    have htm':Tame ⟨s.ops,s.wait ++ [x]⟩:=by
     refine ⟨HTM.out.ops,fun y hy=>?_,HTM.out.shallow,?_⟩
     ·rcases List.mem_append.1 hy with h | h
      ·exact HTM.out.wait y h
      ·rw [List.mem_singleton.1 h];exact HXF.out
     ·show s.ops.length + (s.wait ++ [x]).length ≤ 1000
      rw [List.length_append];simp only [List.length_singleton];omega
    exact ⟨_,Y,_,hs,_,by rw [HTK3.out];rfl,by rw [HTK3.out];exact OwnI.nil _ _ _,by rw [HTK3.out];exact hs8,by rw [HTK3.out];exact HDN.out,by rw [HTK3.out];exact htm',(Turn.of HB7.out).trans ht8,(fun b hb=>by cases hb),HY1.out,HY2.out,fun b hb=>HY3.out b (Nat.le_trans ht8.only.size hb)⟩
 ·rw [decide_eq_false hg] at HGD
  have HR:=Shut.mk (show z2u s x = ([],1,s) by rw [z2u,if_pos hg])
  clear hg
  go_wp2_with (first
   | (refine z01 rfl 38 (.tmp 3) rfl g3 (opV x pa pc) 38 _ rfl HC.out Tryz.underlying38 rfl HSV.out ?_)
   | (refine HGD.out.mono ?_;rintro e w2 ⟨rfl,hb2⟩))
  go_ret2
  exact DevTake.stay HS0.out HX0.out HD.out HTM.out (HB.out.trans (hb2.mono HB.out.size)) 1 HR.out
theorem zkk {X:Nat → Prop} {B:Bs} {T:Ents} {s:DagN} {hs:List (List Nat)} {M:Bh} {w:World} (h:SetAt X B T s hs M w) (hb:s.ops.length ≤ 100000) :
 Calls Tryz.prog 22 #[.pointer (some ⟨B.gs,0,none⟩)] w fun e w'=>∃ v,e = .returned v ∧ OwnI w.heap.size 25 v (z0g s.names) w' ∧ Below w.heap.size w w':=by
 have hln:T.p.length ≤ 100000:=by rw [h.ops.1];exact hb
 have HE:=Shut.mk (show z0g (T.p.map (·.1)) = z0g s.names by rw [h.ops.keys];rfl)
 have HA:=Lib.hid (zgx B.p _ w h.pm hln)
 have c0:=h.cell.1
 clear h hb hln
 go_enter Tryz.func22,Tryz.ntmps22
 go_wp2_with (refine HA.out.mono ?_;rintro e w3 ⟨v,rfl,ho,hb3⟩)
 go_ret
 exact ⟨v,rfl,by rw [← HE.out];exact ho,hb3⟩
def GetPost (s:DagN) (n:List Nat) (w:World) (e:Ending) (w':World):Prop :=
 ∃ o pa pc,OwnI w.heap.size 25 (.slice pa o.preds.length pc) o.preds w' ∧ ((o ∈ s.ops ∧ z00 o = n ∧ e = .returned (.tuple #[.agg (opV o pa pc),.int .i64 0])) ∨ (n ∉ s.names ∧ o = z05 ∧ e = .returned (.tuple #[.agg (opV o pa pc),.int .i64 5])))
theorem dev_get (X:Nat → Prop) (B:Bs) (T:Ents) (s:DagN) (hs:List (List Nat)) (M:Bh) (n:List Nat) (w:World) (h:SetAt X B T s hs M w) (hn:IdOk n) (hro:∀ x ∈ s.ops,x.Fit) :
 Calls Tryz.prog 19 #[.pointer (some ⟨B.gs,0,none⟩),.agg (z07 .u8 n).toArray] w fun e w'=>GetPost s n w e w' ∧ Below w.heap.size w w':=by
 obtain ⟨x,pa,pc,e1,e2,e3,e4,e5⟩:=z47 h.ops h.pm.nodup (fun x hx=>(hro x hx).d.ref.1) n
 have hpl:x.preds.length ≤ 70 ∧ Ids x.preds:=by
  rcases e5 with ⟨_,h1,_⟩ | ⟨_,rfl,_⟩
  ·exact ⟨(hro x h1).many,(hro x h1).preds⟩
  ·exact ⟨Nat.zero_le _,fun p hp=>by cases hp⟩
 have HPL:=Lib.hid hpl
 have x1:Blk w.heap.size 25 .u8 n (w.alloc (.cells (z07 .u8 n).toArray 25)):=heap_alloc_new w _
 have b1:Below w.heap.size w (w.alloc (.cells (z07 .u8 n).toArray 25)):=(Below.refl _ _).alloc (Nat.le_refl _) _
 have s1:(w.alloc (.cells (z07 .u8 n).toArray 25)).heap.size = w.heap.size + 1:=World.size_alloc _ _
 have b2:Below (w.alloc (.cells (z07 .u8 n).toArray 25)).heap.size (w.alloc (.cells (z07 .u8 n).toArray 25)) ((w.alloc (.cells (z07 .u8 n).toArray 25)).alloc (.cells (opV z05 none 0) 38)):=(Below.refl _ _).alloc (Nat.le_refl _) _
 have x2:Cells (w.alloc (.cells (z07 .u8 n).toArray 25)).heap.size 38 (opV z05 none 0) ((w.alloc (.cells (z07 .u8 n).toArray 25)).alloc (.cells (opV z05 none 0) 38)):=heap_alloc_new _ _
 rw [s1] at x2
 have y1:=x1.below b2
 have hb2:=b1.trans (b2.mono b1.size)
 have s2:((w.alloc (.cells (z07 .u8 n).toArray 25)).alloc (.cells (opV z05 none 0) 38)).heap.size = w.heap.size + 1 + 1:=by rw [World.size_alloc,s1]
 clear x1 b1 s1 b2
 have HN:=Lib.hid hn
 have HSN:=Lib.hid (show (Tryz.prog.info? 25).map (·.size) = some n.length by rw [hn.1];exact Tryz.sizeI)
 obtain ⟨pb,hp⟩:∃ p,decide (n ∈ s.names) = p:=⟨_,rfl⟩
 rw [show decide (n ∈ s.ops.map z00) = pb from hp] at e2
 obtain ⟨Z,hZ⟩:∃ Z,opV x pa pc = Z:=⟨_,rfl⟩
 have HE1:=Shut.mk (show Value.tuple #[atE T.p (.agg (opV z05 none 0)) n,.bool (decide (n ∈ T.p.map (·.1)))] = .tuple #[.agg Z,.bool pb] by rw [e1,e2,hZ])
 have HI1:=Lib.hid (show (Tryz.prog.info? 38).map (·.size) = some Z.size by rw [← hZ,z0b e3];exact Tryz.sizeO)
 have HL1:=Lib.hid (show (opV z05 none 0).size = Z.size by rw [← hZ,z0b e3];rfl)
 have HA1:=Lib.hid (show Z.all (·.oneCell') = true by rw [← hZ];exact zbl _ _ _)
 have HE3:=Lib.hid e3
 have HZ:=Shut.mk hZ
 have HP:=Shut.mk hp
 have HFD:=Lib.hid e5
 have HS:=Lib.hid (show (Tryz.prog.info? 38).map (·.size) = some (opV z05 none 0).size from Tryz.sizeO)
 have HS00:=Lib.hid (h.below hb2)
 have HIA:=Lib.hid (e4.below hb2)
 clear h hn e1 e2 e3 hro hp e4 e5 hpl hZ
 go_enter Tryz.func19,Tryz.ntmps19
 go_upto_region 1 with (fail)
 obtain ⟨w2,hw2⟩:∃ x,x = (w.alloc (.cells (z07 .u8 n).toArray 25)).alloc (.cells (opV z05 none 0) 38):=⟨_,rfl⟩
 rw [← hw2] at x2 y1 hb2 s2 HS00 HIA
 rw [zg0] at hw2
 rw [← hw2]
 have HX:=Lib.hid x2
 have HY:=Lib.hid y1
 have HB:=Lib.hid hb2
 have HZ2:=Shut.mk s2
 clear hw2 x2 y1 hb2 s2
 go_upto_region 3 with (fail)
 refine z0e 11 (fun q V w'=>Val q V 0 (.pointer (some ⟨B.gs,0,none⟩)) ∧ Val q V 1 (.pointer (some ⟨B.gs,0,none⟩)) ∧ Val q V 2 (.pointer (some ⟨B.gs,0,none⟩)) ∧ Val q V 3 (.map (some B.p)) ∧ Val q V 4 (.agg (z07 .u8 n).toArray) ∧ Val q V 5 (.tuple #[.agg Z,.bool pb]) ∧ Val q V 6 (.tuple #[.agg Z,.bool pb]) ∧ Val q V 7 (.agg Z) ∧ Val q V 8 (.bool pb) ∧ PutC q V w2.heap.size 9 10 38 (opV z05 none 0) (Z) w' ∧ Below w2.heap.size w2 w' ∧ Late q 9 10) (fun _=>undef) (by kernel_rfl) (by kernel_rfl) (by kernel_rfl) (by simp only [zC,zD,z0h,Act.put,zS,zA,zB]) ⟨Val.none,Val.none,Val.none,Val.none,Val.none,Val.none,Val.none,Val.none,Val.none,PutC.none,(Below.refl _ _).drew,Late.none⟩ ?_ ?_
 ·simp only [zC,zD,z0h,Nat.zero_add,Nat.reduceAdd,Act.put,zS,zA,zB]
  refine zQc ?_ (zQc ?_ (zQc ?_ (zQc ?_ (zQc ?_ (zQc ?_ (zQc ?_ (zQc ?_ (zQc ?_ (zQc ?_ (zQc ?_ (zQn)))))))))))
  all_goals (refine zQf rfl ?_;rintro q V wq hr hu ⟨h0,h1,h2,h3,h4,h5,h6,h7,h8,h9,hb,hl9⟩ K hK)
  ·exact z0f (.tmp 0) rfl _ rfl (hK _ _ ⟨.same,h1.nd,h2.nd,h3.nd,h4.nd,h5.nd,h6.nd,h7.nd,h8.nd,h9.ne (by decide) (by decide) (Below.refl _ _),hb,hl9.nd⟩)
  ·exact z0l (.tmp 12) rfl ⟨B.gs,0,none⟩ (h0 (hr { on:=0,ground:=.data } (by simp) rfl)) (hK _ _ ⟨h0.nd,.same,h2.nd,h3.nd,h4.nd,h5.nd,h6.nd,h7.nd,h8.nd,h9.ne (by decide) (by decide) (Below.refl _ _),hb,hl9.nd⟩)
  ·exact z0m 80 (.tmp 13) 0 rfl _ _ (h1 (hr { on:=1,ground:=.data } (by simp) rfl)) (z5p B.gs 0 (by decide)) (hK _ _ ⟨h0.nd,h1.nd,.same,h3.nd,h4.nd,h5.nd,h6.nd,h7.nd,h8.nd,h9.ne (by decide) (by decide) (Below.refl _ _),hb,hl9.nd⟩)
  ·exact z0n 76 (.tmp 14) rfl _ _ (h2 (hr { on:=2,ground:=.data } (by simp) rfl)) (HS00.out.below hb).cell.1 Tryz.isAgg76 (hK _ _ ⟨h0.nd,h1.nd,h2.nd,.same,h4.nd,h5.nd,h6.nd,h7.nd,h8.nd,h9.ne (by decide) (by decide) (Below.refl _ _),hb,hl9.nd⟩)
  ·exact z1k 25 (.tmp 3) rfl w.heap.size .u8 n 25 _ rfl (HY.out.below hb) Tryz.underlying25 rfl HSN.out (hK _ _ ⟨h0.nd,h1.nd,h2.nd,h3.nd,.same,h5.nd,h6.nd,h7.nd,h8.nd,h9.ne (by decide) (by decide) (Below.refl _ _),hb,hl9.nd⟩)
  ·exact z3x (.tmp 15) (.tmp 16) 76 25 38 true rfl Tryz.idKey Tryz.underlying76 (.agg (opV z05 none 0)) (z6m wq) B.p T.p (HS00.out.below hb).pm n HN.out (h3 (hr { on:=3,ground:=.data } (by simp) rfl)) (h4 (hr { on:=4,ground:=.data } (by simp) rfl)) _ (by rw [HE1.out];rfl) (hK _ _ ⟨h0.nd,h1.nd,h2.nd,h3.nd,h4.nd,.same,h6.nd,h7.nd,h8.nd,h9.ne (by decide) (by decide) (Below.refl _ _),hb,hl9.nd⟩)
  ·exact z0f (.tmp 17) rfl _ (h5 (hr { on:=5,ground:=.data } (by simp) rfl)) (hK _ _ ⟨h0.nd,h1.nd,h2.nd,h3.nd,h4.nd,h5.nd,.same,h7.nd,h8.nd,h9.ne (by decide) (by decide) (Below.refl _ _),hb,hl9.nd⟩)
  ·exact z2b (.tmp 11) 0 rfl _ _ (h6 (hr { on:=6,ground:=.data } (by simp) rfl)) (zah _ _) (hK _ _ ⟨h0.nd,h1.nd,h2.nd,h3.nd,h4.nd,h5.nd,h6.nd,.same,h8.nd,h9.ne (by decide) (by decide) (Below.refl _ _),hb,hl9.nd⟩)
  ·exact z2b (.tmp 11) 1 rfl _ _ (h6 (hr { on:=6,ground:=.data } (by simp) rfl)) (zak _ _) (hK _ _ ⟨h0.nd,h1.nd,h2.nd,h3.nd,h4.nd,h5.nd,h6.nd,h7.nd,.same,h9.ne (by decide) (by decide) (Below.refl _ _),hb,hl9.nd⟩)
  ·exact z3i 38 rfl (opV z05 none 0) z5g (hK _ _ ⟨h0.nd,h1.nd,h2.nd,h3.nd,h4.nd,h5.nd,h6.nd,h7.nd,h8.nd,PutC.made hb.size (hl9.not hu) (by decide),hb.alloc hb.size _,hl9.nd⟩)
  ·obtain ⟨g,hV,hg0,hc0⟩:=h9 (hr { on:=9,ground:=.data } (by simp) rfl)
   rw [if_neg (by rw [hu];decide)] at hc0
   refine z2c 38 (.tmp 6) (.tmp 18) rfl g _ (Z) 38 hV (h7 (hr { on:=7,ground:=.data } (by simp) rfl)) hc0 HI1.out HL1.out HA1.out ?_
   intro w' hc' hbt
   have hbn:=But.toBelow hb hbt hg0 hb.size
   exact (hK _ _ ⟨h0.nd,h1.nd,h2.nd,h3.nd,h4.nd,h5.nd,h6.nd,h7.nd,h8.nd,PutC.stored hV hg0 (by decide) hc',hbn,Late.same (hr { on:=9,ground:=.data } (by simp) rfl)⟩)
 rintro q V wq hall ⟨h0,h1,h2,h3,h4,h5,h6,h7,h8,h9,hb,hl9⟩
 have v0:=h0 (hall 0 (by decide))
 have v1:=h1 (hall 1 (by decide))
 have v2:=h2 (hall 2 (by decide))
 have v3:=h3 (hall 3 (by decide))
 have v4:=h4 (hall 4 (by decide))
 have v5:=h5 (hall 5 (by decide))
 have v6:=h6 (hall 6 (by decide))
 have v7:=h7 (hall 7 (by decide))
 have v8:=h8 (hall 8 (by decide))
 obtain ⟨g9,v9,hg9,hc9⟩:=h9 (hall 9 (by decide))
 rw [if_pos (hall 10 (by decide))] at hc9
 obtain ⟨u10,v10⟩:∃ v,V 10 = v:=⟨_,rfl⟩
 simp only [zC,zD,zE,zF,z0h,Nat.zero_add,Nat.reduceAdd,v0,v1,v2,v3,v4,v5,v6,v7,v8,v9,Act.put,zS,zA,zB]
 clear h0 h1 h2 h3 h4 h5 h6 h7 h8 v0 v1 v2 v3 v4 v5 v6 v7 v8 v9 v10 hall hl9
 have HXQ:=Lib.hid (HX.out.below hb)
 have HBQ:=Lib.hid (HB.out.trans (hb.mono HB.out.size))
 have HIQ:=Lib.hid (HIA.out.below hb)
 have HCQ:=Lib.hid hc9
 have HGQ:=Lib.hid (show w.heap.size + 1 + 1 ≤ g9 from by have:=HZ2.out;omega)
 clear hb hc9 hg9 HX HB HY HIA
 obtain ⟨w3,hw3⟩:∃ x,x = wq:=⟨_,rfl⟩
 rw [← hw3] at HXQ HBQ HIQ HCQ ⊢
 clear hw3
 cases pb with
 | false =>
   have hno:n ∉ s.names:=of_decide_eq_false HP.out
   have HNO:=Lib.hid hno
   clear hno
   go_upto_region 5 with (fail)
   refine wp_region_lit ?_
   refine z1c rfl 38 #[] rfl [] _ (by simp) z75 ?_
   simp only [Act.put,zS,zA,zB]
   refine z02 rfl 38 _ _ rfl rfl (w.heap.size + 1) (opV z05 none 0) (opV z05 none 0) 38 rfl rfl HXQ.out HS.out rfl (z1i z05 none 0) ?_
   intro w9 hc hb
   have HX9:=Lib.hid hc.out
   have HB9:=Lib.hid (show Below w.heap.size w w9 from But.toBelow HBQ.out hb.out (Nat.le_succ _) HBQ.out.size)
   clear hc hb HXQ HBQ
   go_wp2_with fail
   refine bodyPost_ret (z1m rfl _ _ (w.heap.size + 1) (opV z05 none 0) 38 _ _ rfl rfl HX9.out Tryz.underlying38 rfl HS.out) rfl ?_
   exact ⟨⟨z05,none,0,OwnI.nil _ _ _,.inr ⟨HNO.out,rfl,rfl⟩⟩,HB9.out⟩
 | true =>
   have hfd:x ∈ s.ops ∧ z00 x = n:=by
    have hin:n ∈ s.names:=of_decide_eq_true HP.out
    rcases HFD.out with ⟨_,h1,h2,_⟩ | ⟨h1,_⟩
    ·exact ⟨h1,h2⟩
    ·exact absurd hin h1
   have HF:=Lib.hid hfd
   have hcq:Cells g9 38 (opV x pa pc) w3:=by rw [HZ.out];exact HCQ.out
   have HC3:=Lib.hid hcq
   have c37:=(z0j HE3.out hcq).2.2.2
   have HCL:=Lib.hid (zel x.preds pa x.preds.length pc w3 HPL.out.2 HIQ.out rfl (by have:=HPL.out.1;omega))
   have HSZ:=Lib.hid (fun (pa':Option Addr) (pc':Nat)=>show (Tryz.prog.info? 38).map (·.size) = some (opV x pa' pc').size by rw [z0b HE3.out];exact Tryz.sizeO)
   have HSL:=Lib.hid (fun (pa':Option Addr) (pc':Nat)=>show (opV z05 none 0).size = (opV x pa' pc').size by rw [z0b HE3.out];rfl)
   clear hfd hcq
   go_wp2_with (first
    | (refine HCL.out.mono ?_; rintro e w6 ⟨pa', pc', rfl, ho6, hb6, hn6⟩
       have HO6:=Lib.hid ho6
       have HB6:=Lib.hid (HBQ.out.trans (hb6.mono HBQ.out.size))
       have HC66:=Lib.hid (HC3.out.below hb6)
       have HX6:=Lib.hid (HXQ.out.below hb6)
       have HQ6:=Lib.hid hb6.size
       have c37':=(z0j HE3.out HC66.out).2.2.2
       have f37:=HC66.out.frozen 37
       have hk7:But g9 w6 (w6.setCell ⟨g9,37,none⟩ (.slice pa' x.preds.length pc')):=(But.refl g9 w6).setCell 37 _
       have HK7:=Lib.hid hk7
       have HX7:=Lib.hid (show Cells (w.heap.size + 1) 38 (opV z05 none 0) (w6.setCell ⟨g9,37,none⟩ (.slice pa' x.preds.length pc')) from (hk7.block _ HX6.out.lt (by have:=HGQ.out;omega)).trans HX6.out)
       have HC7:=Lib.hid (show Cells g9 38 (opV x pa' pc') (w6.setCell ⟨g9,37,none⟩ (.slice pa' x.preds.length pc')) from by
        have h:=HC66.out.set 37 (.slice pa' x.preds.length pc')
        rw [show (opV x pa pc).setIfInBounds 37 (.slice pa' x.preds.length pc') = opV x pa' pc' from zbh (d:=x.d) (a:=x.author) (b:=x.depth) (L:=x.preds) (M:=x.preds) HE3.out rfl pa pa' pc pc'] at h
        exact h)
       clear ho6 hb6 hn6 hk7 HCL c37)
    | (refine z01 rfl 38 (.tmp 6) rfl g9 (opV x pa' pc') 38 _ rfl HC7.out Tryz.underlying38 rfl (HSZ.out pa' pc') ?_)
    | (refine z02 rfl 38 _ _ rfl rfl (w.heap.size + 1) (opV z05 none 0) (opV x pa' pc') 38 rfl rfl HX7.out (HSZ.out pa' pc') (HSL.out pa' pc') (z1i x pa' pc') ?_))
   intro w9 hc hb
   have HX9:=Lib.hid hc.out
   have hb67:Below w.heap.size w (w6.setCell ⟨g9,37,none⟩ (.slice pa' x.preds.length pc')):=But.toBelow HB6.out HK7.out (by have:=HGQ.out;omega) HB6.out.size
   have HB9:=Lib.hid (show Below w.heap.size w w9 from But.toBelow hb67 hb.out (Nat.le_succ _) hb67.size)
   have HOF:=Lib.hid (show OwnI w.heap.size 25 (.slice pa' x.preds.length pc') x.preds w9 from by
    have h1:∀ k,(Value.slice pa' x.preds.length pc').ownBlock = some k → g9 ≠ k:=fun k hk e=>by
     have:=(World.ownsRow.lt HO6.out k hk).1
     have:=HC3.out.lt
     omega
    have h2:∀ k,(Value.slice pa' x.preds.length pc').ownBlock = some k → w.heap.size + 1 ≠ k:=fun k hk e=>by
     have:=(World.ownsRow.lt HO6.out k hk).1
     have:=HXQ.out.lt
     omega
    exact ((HO6.out.but HK7.out h1).but hb.out h2).mono HBQ.out.size)
   clear hc hb hb67 c37' f37
   go_wp2_with fail
   refine bodyPost_ret (z1m rfl _ _ (w.heap.size + 1) (opV x pa' pc') 38 _ _ rfl rfl HX9.out Tryz.underlying38 rfl (HSZ.out pa' pc')) rfl ?_
   exact ⟨⟨x,pa',pc',HOF.out,.inl ⟨HF.out.1,HF.out.2,rfl⟩⟩,HB9.out⟩
end Go.Proofs.YtnbldbbbibpobaaGreatDoor
namespace Go.Proofs.YtnbldbbbibpobaaGreatDoor
open Go.RowKit
def z9r (a b:OpN):Bool:=decide (a.depth < b.depth) || (decide (a.depth = b.depth) && decide (z1t (z00 a) (z00 b) = -1))
theorem befN_iff {a b:OpN}:z9r a b = true ↔ a.depth < b.depth ∨ a.depth = b.depth ∧ z1t (z00 a) (z00 b) = -1:=by
 simp [z9r]
theorem zex {a b:OpN} (h:z9r a b = true) (k:z9r b a = true):False:=by
 rcases befN_iff.1 h with h1 | ⟨h1,h2⟩ <;> rcases befN_iff.1 k with k1 | ⟨k1,k2⟩
 ·omega
 ·omega
 ·omega
 ·exact z58 h2 k2
theorem zd2 {a b c:OpN} (h:z9r a b = true) (k:z9r b c = true):z9r a c = true:=by
 rw [befN_iff] at h k ⊢
 rcases h with h1 | ⟨h1,h2⟩ <;> rcases k with k1 | ⟨k1,k2⟩
 ·exact .inl (by omega)
 ·exact .inl (by omega)
 ·exact .inl (by omega)
 ·exact .inr ⟨by omega,z2q h2 k2⟩
theorem befN_irr (a:OpN):z9r a a = false:=Bool.eq_false_iff.2 fun h=>zex h h
theorem zct {a b:OpN} (hl:(z00 a).length = (z00 b).length) (hne:z00 a ≠ z00 b):z9r a b = true ∨ z9r b a = true:=by
 rw [befN_iff,befN_iff]
 rcases Int.lt_trichotomy a.depth b.depth with h | h | h
 ·exact .inl (.inl h)
 ·rcases z3m hl hne with e | e
  ·exact .inl (.inr ⟨h,e⟩)
  ·exact .inr (.inr ⟨h.symm,e⟩)
 ·exact .inr (.inl h)
def Rows (L:List OpN):Prop:=L.Pairwise fun a b=>z9r a b = true
theorem rows_eq {L M:List OpN} (h:Rows L) (k:Rows M) (hp:L.Perm M):L = M :=
 List.Perm.eq_of_pairwise (fun _ _ _ _ h1 h2=>(zex h1 h2).elim) h k hp
def z1r (L:List OpN):Nat → Nat
 | 0=>0
 | i + 1=>if z9r (L.getD i z05) (L.getD (z1r L i) z05) then i else z1r L i
theorem z7g (L:List OpN):∀ i,z1r L i ≤ i
 | 0=>Nat.le_refl _
 | i + 1 => by
   rw [z1r]
   split
   ·omega
   ·have:=z7g L i
    omega
theorem z5t (L:List OpN) {i:Nat} (h:0 < i):z1r L i < i:=by
 obtain ⟨k,rfl⟩:∃ k,i = k + 1:=⟨i - 1,by omega⟩
 rw [z1r]
 split
 ·omega
 ·have:=z7g L k
  omega
theorem zar (L:List OpN) (hd:(L.map z00).Nodup) (hl:∀ o ∈ L,(z00 o).length = 32):∀ i,i ≤ L.length → ∀ j,j < i → j ≠ z1r L i → z9r (L.getD (z1r L i) z05) (L.getD j z05) = true
 | 0,_,_,h,_=>by omega
 | i + 1, hi, j, hj, hne => by
   have ih:=zar L hd hl i (by omega)
   have hat:∀ a,a < L.length → L.getD a z05 ∈ L:=fun a ha=>by
    rw [List.getD_eq_getElem?_getD,List.getElem?_eq_getElem ha]
    exact List.getElem_mem ha
   have htot:∀ a b,a < L.length → b < L.length → a ≠ b → z9r (L.getD a z05) (L.getD b z05) = true ∨ z9r (L.getD b z05) (L.getD a z05) = true:=fun a b ha hb hab=>by
    refine zct (by rw [hl _ (hat a ha),hl _ (hat b hb)]) fun e=>hab ?_
    have h1:(L.map z00)[a]? = (L.map z00)[b]?:=by
     rw [List.getElem?_map,List.getElem?_map,List.getElem?_eq_getElem ha,List.getElem?_eq_getElem hb]
     rw [List.getD_eq_getElem?_getD,List.getD_eq_getElem?_getD,List.getElem?_eq_getElem ha,List.getElem?_eq_getElem hb] at e
     exact congrArg some e
    exact (List.getElem?_inj (by rw [List.length_map];exact ha) hd).1 h1
   have hle:=z7g L i
   rw [z1r] at hne ⊢
   split at hne
   ·rename_i hb
    rw [if_pos hb]
    by_cases h0:i = 0
    ·omega
    ·have hlt:=z5t L (i:=i) (by omega)
     by_cases hjl:j = z1r L i
     ·rw [hjl];exact hb
     ·exact zd2 hb (ih j (by omega) hjl)
   ·rename_i hb
    rw [if_neg hb]
    by_cases hji:j = i
    ·subst hji
     exact (htot _ _ (by omega) (by omega) (fun e=>hne e.symm)).resolve_right (by
      intro e
      exact hb e)
    ·exact ih j (by omega) hne
def rowF:Nat → List OpN → List OpN
 | 0,_=>[]
 | f + 1,L=>if L = [] then [] else L.getD (z1r L L.length) z05 :: rowF f (L.eraseIdx (z1r L L.length))
def z2g (L:List OpN):List OpN:=rowF L.length L
theorem zcs:∀ {L:List OpN} {k:Nat},k < L.length → (L.getD k z05 :: L.eraseIdx k).Perm L
 | [],_,h=>absurd h (Nat.not_lt_zero _)
 | _ :: _,0,_=>List.Perm.refl _
 | x :: L, k + 1, h => by
   rw [List.getD_cons_succ,List.eraseIdx_cons_succ]
   exact (List.Perm.swap _ _ _).trans ((zcs (L:=L) (k:=k) (Nat.lt_of_succ_lt_succ h)).cons x)
theorem zbn:∀ (f:Nat) (L:List OpN),L.length = f → (rowF f L).Perm L
 | 0, L, h => by
   rw [List.length_eq_zero_iff.1 h]
   exact List.Perm.refl _
 | f + 1, L, h => by
   have hne:L ≠ []:=fun e=>by rw [e] at h;cases h
   have hlt:=z5t L (i:=L.length) (by omega)
   rw [rowF,if_neg hne]
   exact ((zbn f _ (by rw [List.length_eraseIdx_of_lt hlt];omega)).cons _).trans (zcs hlt)
theorem z1e (L:List OpN):(z2g L).Perm L:=zbn _ L rfl
theorem zfi:∀ (f:Nat) (L:List OpN),L.length = f → (L.map z00).Nodup → (∀ o ∈ L,(z00 o).length = 32) → Rows (rowF f L)
 | 0,_,_,_,_=>List.Pairwise.nil
 | f + 1, L, h, hd, hl => by
   have hne:L ≠ []:=fun e=>by rw [e] at h;cases h
   have hlt:=z5t L (i:=L.length) (by omega)
   have hlen:(L.eraseIdx (z1r L L.length)).length = f:=by rw [List.length_eraseIdx_of_lt hlt];omega
   rw [rowF,if_neg hne]
   refine List.pairwise_cons.2 ⟨fun o ho=>?_,zfi f _ hlen ?_ fun o ho=>hl o (List.mem_of_mem_eraseIdx ho)⟩
   ·have ho':=((zbn f _ hlen).mem_iff).1 ho
    obtain ⟨j,hj,hjl,rfl⟩:=(List.mem_eraseIdx_iff_getElem).1 ho'
    have:=zar L hd hl L.length (Nat.le_refl _) j hj hjl
    rw [List.getD_eq_getElem?_getD (i:=j),List.getElem?_eq_getElem hj] at this
    exact this
   ·exact ((List.eraseIdx_sublist L _).map z00).nodup hd
theorem z4t {L:List OpN} (hd:(L.map z00).Nodup) (hl:∀ o ∈ L,(z00 o).length = 32):Rows (z2g L):=zfi _ L rfl hd hl
theorem zic {L M:List OpN} (h:Rows L) (hp:L.Perm M) (hd:(M.map z00).Nodup) (hl:∀ o ∈ M,(z00 o).length = 32):L = z2g M :=
 rows_eq h (z4t hd hl) (hp.trans (z1e M).symm)
theorem row_same {L M:List OpN} (hp:L.Perm M) (hd:(M.map z00).Nodup) (hl:∀ o ∈ M,(z00 o).length = 32):z2g L = z2g M :=
 zic (z4t ((hp.map z00).nodup_iff.2 hd) fun o ho=>hl o (hp.mem_iff.1 ho)) ((z1e L).trans hp) hd hl
theorem zg1:∀ a:List UInt8,Op.bytesLess a a = false
 | []=>rfl
 | x :: a => by
   rw [Op.bytesLess,zg1 a]
   simp
theorem zcx:∀ {a b:List UInt8},Op.bytesLess a b = true → Op.bytesLess b a = true → False
 | [],[],h,_=>by cases h
 | [],_ :: _,_,k=>by cases k
 | _ :: _,[],h,_=>by cases h
 | x :: a, y :: b, h, k => by
   rw [Op.bytesLess] at h k
   simp only [Bool.or_eq_true,decide_eq_true_eq,Bool.and_eq_true,beq_iff_eq] at h k
   rcases h with h | ⟨h1,h2⟩ <;> rcases k with k | ⟨k1,k2⟩
   ·exact absurd (UInt8.lt_trans h k) (UInt8.lt_irrefl _)
   ·subst k1;exact absurd h (UInt8.lt_irrefl _)
   ·subst h1;exact absurd k (UInt8.lt_irrefl _)
   ·exact zcx h2 k2
theorem z82:∀ {a b c:List UInt8},Op.bytesLess a b = true → Op.bytesLess b c = true → Op.bytesLess a c = true
 | [],[],_,h,_=>by cases h
 | _ :: _,[],_,h,_=>by cases h
 | [],_ :: _,[],_,k=>by cases k
 | _ :: _,_ :: _,[],_,k=>by cases k
 | [],_ :: _,_ :: _,_,_=>rfl
 | x :: a, y :: b, z :: c, h, k => by
   rw [Op.bytesLess] at h k ⊢
   simp only [Bool.or_eq_true,decide_eq_true_eq,Bool.and_eq_true,beq_iff_eq] at h k ⊢
   rcases h with h | ⟨rfl,h2⟩ <;> rcases k with k | ⟨rfl,k2⟩
   ·exact .inl (UInt8.lt_trans h k)
   ·exact .inl h
   ·exact .inl k
   ·exact .inr ⟨rfl,z82 h2 k2⟩
theorem z7z:∀ {a b:List UInt8},a ≠ b → Op.bytesLess a b = true ∨ Op.bytesLess b a = true
 | [],[],h=>absurd rfl h
 | [],_ :: _,_=>.inl rfl
 | _ :: _,[],_=>.inr rfl
 | x :: a, y :: b, h => by
   rw [Op.bytesLess,Op.bytesLess]
   simp only [Bool.or_eq_true,decide_eq_true_eq,Bool.and_eq_true,beq_iff_eq]
   by_cases hxy:x = y
   ·subst hxy
    rcases z7z (a:=a) (b:=b) (fun e=>h (by rw [e])) with e | e
    ·exact .inl (.inr ⟨rfl,e⟩)
    ·exact .inr (.inr ⟨rfl,e⟩)
   ·rcases UInt8.lt_or_lt_of_ne hxy with e | e
    ·exact .inl (.inl e)
    ·exact .inr (.inl e)
def Ups (L:List (List UInt8)):Prop:=L.Pairwise fun a b=>Op.bytesLess a b = true
theorem Ups.nodup {L:List (List UInt8)} (h:Ups L):L.Nodup:=h.imp fun {a b} hab e=>by
 rw [e,zg1] at hab
 cases hab
theorem ups_eq {L M:List (List UInt8)} (h:Ups L) (k:Ups M) (hm:∀ x,x ∈ L ↔ x ∈ M):L = M :=
 List.Perm.eq_of_pairwise (fun _ _ _ _ h1 h2=>(zcx h1 h2).elim) h k ((List.perm_ext_iff_of_nodup h.nodup k.nodup).2 hm)
def zbg (n:List UInt8):List (List UInt8) → List (List UInt8)
 | []=>[n]
 | x :: r=>if Op.bytesLess x n = true then x :: zbg n r else if x = n then x :: r else n :: x :: r
def z0v (L:List (List UInt8)):List (List UInt8):=L.foldl (fun out n=>zbg n out) []
theorem insT_mem {n x:List UInt8}:∀ {L:List (List UInt8)},x ∈ zbg n L ↔ x = n ∨ x ∈ L
 | []=>by simp [zbg]
 | y :: r => by
   rw [zbg]
   split
   ·rw [List.mem_cons,insT_mem,List.mem_cons]
    exact ⟨fun h=>h.elim (fun e=>.inr (.inl e)) (fun e=>e.elim .inl (fun e=>.inr (.inr e))),fun h=>h.elim (fun e=>.inr (.inl e)) (fun e=>e.elim .inl (fun e=>.inr (.inr e)))⟩
   ·split
    ·rename_i _ e
     subst e
     exact ⟨.inr,fun h=>h.elim (fun e=>List.mem_cons.2 (.inl e)) id⟩
    ·rw [List.mem_cons]
theorem zii {n:List UInt8}:∀ {L:List (List UInt8)},Ups L → Ups (zbg n L)
 | [],_=>List.pairwise_singleton _ _
 | x :: r, h => by
   obtain ⟨h1,h2⟩:=List.pairwise_cons.1 h
   rw [zbg]
   split
   ·rename_i hx
    refine List.pairwise_cons.2 ⟨fun y hy=>?_,zii h2⟩
    rcases insT_mem.1 hy with rfl | hy
    ·exact hx
    ·exact h1 y hy
   ·rename_i hx
    split
    ·exact h
    ·rename_i hne
     have hnx:=(z7z hne).resolve_left hx
     refine List.pairwise_cons.2 ⟨fun y hy=>?_,h⟩
     rcases List.mem_cons.1 hy with rfl | hy
     ·exact hnx
     ·exact z82 hnx (h1 y hy)
theorem zfw:∀ {L out:List (List UInt8)},Ups out → Ups (L.foldl (fun out n=>zbg n out) out)
 | [],_,h=>h
 | _ :: L,_,h=>zfw (L:=L) (zii h)
theorem zew {x:List UInt8}:∀ {L out:List (List UInt8)},x ∈ L.foldl (fun out n=>zbg n out) out ↔ x ∈ out ∨ x ∈ L
 | [],_=>by simp
 | n :: L, out => by
   rw [List.foldl_cons,zew (L:=L),insT_mem,List.mem_cons]
   exact ⟨fun h=>h.elim (fun e=>e.elim (fun e=>.inr (.inl e)) .inl) (fun e=>.inr (.inr e)),fun h=>h.elim (fun e=>.inl (.inr e)) (fun e=>e.elim (fun e=>.inl (.inl e)) .inr)⟩
theorem z8a (L:List (List UInt8)):Ups (z0v L):=zfw List.Pairwise.nil
theorem risingT_mem {x:List UInt8} {L:List (List UInt8)}:x ∈ z0v L ↔ x ∈ L:=by
 rw [z0v,zew]
 simp
theorem z9e {L M:List (List UInt8)} (h:Ups L) (hm:∀ x,x ∈ L ↔ x ∈ M):L = z0v M:=ups_eq h (z8a M) fun x=>(hm x).trans risingT_mem.symm
def z6l (L:List OpN) (ks:List Int):List (List UInt8):=z0v ((L.filter fun o=>decide (o.d.kind ∈ ks)).map fun o=>o.d.key)
end Go.Proofs.YtnbldbbbibpobaaGreatDoor
