/-
  Joined: The document's Rising. Written by dag/gen/gen_rising.py.; Take's steps: slices cut, literals of one laid and pushed, in a region whose order is open; what lies beside the set while it turns.; The document's At, waiting, whole: a set is looked through.
-/
import Derived.Test.YtnbldbbbibpobaaGreatDoorJ02
import Derived.Test.YtnbldbbbibpobaaGreatDoorJ04
import Derived.Test.YtnbldbbbibpobaaGreatDoorJ05
set_option maxRecDepth 100000
set_option maxHeartbeats 4000000
namespace Go.Proofs.YtnbldbbbibpobaaGreatDoor
open Go.RowKit Go.BigFrame
theorem zaw:∀ (a b:List Nat),z1s a b = -1 ∨ z1s a b = 0 ∨ z1s a b = 1
 | [],[]=>.inr (.inl (by rw [z1s];intro a x b y h;cases h))
 | [],_ :: _=>.inr (.inl (by rw [z1s];intro a x b y h;cases h))
 | _ :: _,[]=>.inr (.inl (by rw [z1s];intro a x b y h h2;cases h2))
 | x :: a, y :: b => by
   rw [z1s]
   split
   ·exact .inl rfl
   ·split
    ·exact .inr (.inr rfl)
    ·exact zaw a b
theorem z15 {L:List (List Nat)} (h:Ids L):Ids (z0e L):=fun x hx=>h x (risingN_mem.1 hx)
theorem zdz {L:List (List Nat)} {k:Nat} (h:k < L.length):z0e (L.take (k + 1)) = zae (L.getD k []) (z0e (L.take k)):=by
 rw [List.take_succ_eq_append_getElem h,zd3,List.getD_eq_getElem?_getD,List.getElem?_eq_getElem h]
 rfl
theorem OwnI.cap {B:Nat} {e:TypeId} {ao:Option Addr} {n c:Nat} {L:List (List Nat)} {w:World} (h:OwnI B e (.slice ao n c) L w):L.length ≤ c ∧ (ao = none → c = 0):=by
 rcases h.2 with ⟨h1,h2⟩ | ⟨g,cap,cur,h1,h2,h3,h4,_⟩
 ·cases h1
  exact ⟨by omega,fun _=>rfl⟩
 ·cases h1
  exact ⟨h4,fun h=>by cases h⟩
theorem IAt.drop {ap:Option Addr} {L:List (List Nat)} {w:World} {c j:Nat} (h:IAt ap L w) (hc:L.length ≤ c):IAt (if c = j then ap else ap.map (·.add (j * 32))) (L.drop j) w:=by
 by_cases hj:L.length ≤ j
 ·exact .inl (List.drop_eq_nil_of_le hj)
 rw [if_neg (by omega)]
 rcases h with rfl | ⟨b,o,rfl,h2,h3⟩
 ·exact .inl (by simp)
 ·refine .inr ⟨b,o + j * 32,by simp [Addr.add_lit],h2,fun i hi=>?_⟩
  rw [List.length_drop] at hi
  have:=h3 (j + i) (by omega)
  rw [show o + 32 * (j + i) = o + j * 32 + 32 * i by omega] at this
  rw [List.getD_eq_getElem?_getD,List.getElem?_drop,← List.getD_eq_getElem?_getD]
  exact this
theorem IAt.take {ap:Option Addr} {L:List (List Nat)} {w:World} (h:IAt ap L w) (j:Nat):IAt ap (L.take j) w:=by
 rcases h with rfl | ⟨b,o,rfl,h2,h3⟩
 ·exact .inl (by simp)
 ·refine .inr ⟨b,o,rfl,h2,fun i hi=>?_⟩
  rw [List.length_take] at hi
  rw [List.getD_eq_getElem?_getD,List.getElem?_take_of_lt (by omega),← List.getD_eq_getElem?_getD]
  exact h3 i (by omega)
theorem zcq {ap:Option Addr} {c j:Nat} (h:ap = none → c = 0):(if c = j then ap else ap.map (·.add (j * 32))) = none → c - j = 0:=by
 intro he
 split at he
 ·omega
 ·cases ap with
  | none=>rw [h rfl];omega
  | some z=>cases he
theorem z4k (ap:Option Addr) (n c j:Nat) (hj:j ≤ n) (_hc:n ≤ c) (w:World):(Instr.sliceAt 34 (.slice ap n c) (some (.int .i64 (j:Int))) none none).run Tryz.prog w = .ok (.slice (if c = j then ap else ap.map (·.add (j * 32))) (n - j) (c - j)) w:=by
 go_simp
theorem z6g (ap:Option Addr) (n c j:Nat) (hj:j ≤ n) (hc:n ≤ c) (w:World):(Instr.sliceAt 34 (.slice ap n c) none (some (.int .i64 (j:Int))) (some (.int .i64 (j:Int)))).run Tryz.prog w = .ok (.slice ap j j) w:=by
 go_simp
 intro h
 omega
theorem z4x {g:Nat} {t:TypeId} {x:List Nat} {w:World} (h:Blk g t .u8 x w):IAt (some ⟨g,0,none⟩) [x] w :=
 .inr ⟨g,0,rfl,h.lt,fun i hi j v hj=>by
  obtain rfl:i = 0:=by simpa using hi
  have e:w.cell? ⟨g,j,none⟩ = (z06 .u8 x).toArray[j]?:=Lib.cell_of_heap h j
  rw [List.getElem?_toArray] at e
  simp only [Nat.mul_zero,Nat.zero_add]
  rw [e]
  simpa using hj⟩
def RisM (x:List Nat) (O:List (List Nat)) (j:Nat) (w7:World):Nat → Value → World → Prop
 | 0,_,w'=>Below w7.heap.size w7 w'
 | 1,v,w'=>Below w7.heap.size w7 w' ∧ ∃ g,v = .slice (some ⟨g,0,none⟩) 1 1 ∧ IAt (some ⟨g,0,none⟩) [x] w'
 | 2,v,w'=>Below w7.heap.size w7 w' ∧ OwnI w7.heap.size 25 v (O.take j ++ [x]) w'
 | _,v,w'=>Below w7.heap.size w7 w' ∧ OwnI w7.heap.size 25 v (O.take j ++ [x] ++ O.drop j) w'
theorem z32 (L:List (List Nat)) (ao:Option Addr) (n c:Nat) (w:World) (hL:Ids L) (hn:L.length = n) (hat:IAt ao L w) (h63:n ≤ 1000000) :
 Calls Tryz.prog 41 #[.slice ao n c] w fun e w'=>∃ v,e = .returned v ∧ OwnI w.heap.size 25 v (z0e L) w' ∧ Below w.heap.size w w':=by
 have HL:=Lib.hid hL
 have HN:=Shut.mk hn
 have HAT:=Lib.hid hat
 clear hL hn hat
 go_enter Tryz.func41,Tryz.ntmps41
 go_wp2_with fail
 go_loopw [3,10] (fun v i wr=>∃ k:Nat,k ≤ n ∧ i = .int .i64 k ∧ OwnI w.heap.size 25 v (z0e (L.take k)) wr ∧ Below w.heap.size w wr) (fun _ i _=>n - (intOf i).toNat)
 case atStart=>exact ⟨0,Nat.zero_le _,rfl,OwnI.nil _ _ _,Below.refl _ _⟩
 case round =>
  obtain ⟨k,hk,rfl,hown,hbw⟩:=hrel
  have HBW:=Lib.hid hbw
  by_cases hlt:k < n
  ·have hri:=Ids.take HL.out k
   have HOI:=Lib.hid (z15 hri)
   have HNX:=Shut.mk (zdz (L:=L) (k:=k) (by rw [HN.out];exact hlt))
   have hol:(z0e (L.take k)).length = k:=by rw [z1x,List.length_take,HN.out];omega
   obtain ⟨O,hO⟩:∃ O,z0e (L.take k) = O:=⟨_,rfl⟩
   rw [hO] at hown HOI HNX hol
   have HOL:=Shut.mk hol
   obtain ⟨ap,cap,hv⟩:=hown.form
   subst hv
   have HOA:=Lib.hid (hown.at HOI.out)
   have HOWN:=Lib.hid hown
   rw [hol]
   have HATW:=Lib.hid (HAT.out.below hbw)
   obtain ⟨b,ob,rfl,hbl⟩:=HATW.out.some (by rw [HN.out];omega)
   have g1:=HATW.out.get (i:=k) (by rw [HN.out];omega)
   have i1:=Ids.getD HL.out (i:=k) (by rw [HN.out];omega)
   obtain ⟨x,hx⟩:∃ x,L.getD k [] = x:=⟨_,rfl⟩
   rw [hx] at g1 i1 HNX
   have HG1:=Lib.hid g1
   have HI1:=Lib.hid i1
   have HS1:=Lib.hid (show (Tryz.prog.info? 25).map (·.size) = some x.length by rw [i1.1];exact Tryz.sizeI)
   have HL2:=Lib.hid (show (List.replicate 32 0).length = x.length by rw [i1.1];rfl)
   clear hx g1 i1 hbl hbw hri hol hO hown
   go_wp2_with (first
    | (refine z0b rfl 25 _ rfl b (ob + k * 32) x _ rfl HG1.out Tryz.underlying25 rfl HS1.out ?_)
    | (refine z04 rfl 25 _ _ rfl rfl wr.heap.size .u8 (List.replicate 32 0) x 25 rfl rfl (heap_alloc_new wr _) HS1.out HL2.out ?_))
   intro w5 hc' hb'
   have HY:=Lib.hid hc'.out
   have HBY:=Lib.hid (show Below wr.heap.size wr w5 from But.toBelow ((Below.refl _ _).alloc (Nat.le_refl _) _) hb'.out (Nat.le_refl _) (by rw [World.size_alloc];exact Nat.le_succ _))
   have HB5:=Lib.hid (HBW.out.trans (HBY.out.mono HBW.out.size))
   clear hc' hb' HL2
   go_wp2_with fail
   obtain ⟨wo,hwo⟩:∃ x,x = wr:=⟨_,rfl⟩
   subst hwo
   go_loopw [6] (fun i wq=>∃ j:Nat,j ≤ k ∧ j ≤ zds x O ∧ i = .int .i64 j ∧ Below w5.heap.size w5 wq) (fun i _=>k - (intOf i).toNat)
   case atStart=>exact ⟨0,Nat.zero_le _,Nat.zero_le _,rfl,Below.refl _ _⟩
   case round =>
    obtain ⟨j,hj,hjp,rfl,hbq⟩:=hrel
    have HBQ:=Lib.hid hbq
    have HPL:=Lib.hid hjp
    have HYQ:=Lib.hid (fun (w':World) (q:Below wr.heap.size wr w')=>(HY.out.below hbq).below q)
    have HOQ:=Lib.hid ((HOA.out.below HBY.out).below hbq)
    clear hbq hjp
    by_cases hjk:j < k
    ·have HST:=Lib.hid (zcl x O j (by rw [HOL.out];exact hjk) HPL.out)
     obtain ⟨bo,oo,rfl,hbo⟩:=HOQ.out.some (by rw [HOL.out];omega)
     have g2:=HOQ.out.get (i:=j) (by rw [HOL.out];omega)
     have i2:=Ids.getD HOI.out (i:=j) (by rw [HOL.out];omega)
     obtain ⟨y,hy⟩:∃ y,O.getD j [] = y:=⟨_,rfl⟩
     rw [hy] at g2 i2 HST
     have HG2:=Lib.hid (fun (w':World) (q:Below wr.heap.size wr w')=>show w'.rangeAt bo (oo + j * 32) (z06 .u8 y) from z0g g2 q hbo)
     have HS2:=Lib.hid (show (Tryz.prog.info? 25).map (·.size) = some y.length by rw [i2.1];exact Tryz.sizeI)
     have HC:=Lib.hid (fun w'=>z6p y x i2 HI1.out w')
     have hth:=zaw y x
     obtain ⟨r,hr⟩:∃ r,z1s y x = r:=⟨_,rfl⟩
     rw [hr] at HC HST hth
     clear hy g2 i2 hbo hr
     by_cases hr1:r = -1
     ·subst hr1
      have HPS:=Lib.hid (show j + 1 ≤ zds x O from HST.out.2 rfl)
      clear hth HST
      go_upto_region 6 with (fail)
      refine z09 (fun w'=>Below wr.heap.size wr w') (by kernel_rfl) (by kernel_rfl) (Below.refl _ _).drew ?_
      repeat (first
       | go_big_quiet_skip
       | (go_big_quiet_want;refine z0q 25 _ rfl wo.heap.size .u8 x 25 _ rfl HYQ.out Tryz.underlying25 rfl HS1.out ?_;go_big_quiet_on;simp only [Act.put,zS,zA,zB])
       | (go_big_quiet_want;refine z0c 25 _ rfl bo (oo + j * 32) y _ rfl HG2.out Tryz.underlying25 rfl HS2.out ?_;go_big_quiet_on;simp only [Act.put,zS,zA,zB])
       | go_big_quiet_step ((intro hs';first
        | (go_at_call 53;exact (HC.out _).mono fun e w' h=>⟨h.1,hs'.trans (h.2.mono hs'.size)⟩)
        | rfl)))
      refine wpQuiet_nil ?_
      intro w6 hb6
      go_wp2_with fail
      exact ⟨⟨j + 1,by omega,HPS.out,by go_num,HBQ.out.trans (hb6.mono HBQ.out.size)⟩,by simp [intOf];omega⟩
     ·have hr0:¬ r < 0:=by omega
      have HPO:=Lib.hid (show zds x O ≤ j from Nat.le_of_not_lt fun h=>hr1 (HST.out.1 h))
      clear hth HST hr1
      go_upto_region 6 with (fail)
      refine z09 (fun w'=>Below wr.heap.size wr w') (by kernel_rfl) (by kernel_rfl) (Below.refl _ _).drew ?_
      repeat (first
       | go_big_quiet_skip
       | (go_big_quiet_want;refine z0q 25 _ rfl wo.heap.size .u8 x 25 _ rfl HYQ.out Tryz.underlying25 rfl HS1.out ?_;go_big_quiet_on;simp only [Act.put,zS,zA,zB])
       | (go_big_quiet_want;refine z0c 25 _ rfl bo (oo + j * 32) y _ rfl HG2.out Tryz.underlying25 rfl HS2.out ?_;go_big_quiet_on;simp only [Act.put,zS,zA,zB])
       | go_big_quiet_step ((intro hs';first
        | (go_at_call 53;exact (HC.out _).mono fun e w' h=>⟨h.1,hs'.trans (h.2.mono hs'.size)⟩)
        | rfl)))
      refine wpQuiet_nil ?_
      intro w6 hb6
      have HB6:=Lib.hid (HBQ.out.trans (hb6.mono HBQ.out.size))
      clear hb6 hr0 HG2 HS2 HC HYQ HOQ
      have HJP:=Shut.mk (show j = zds x O by have:=HPO.out;have:=HPL.out;omega)
      obtain ⟨hkc,hcn⟩:=OwnI.cap HOWN.out
      rw [HOL.out] at hkc
      have HB0:=Lib.hid (HBY.out.trans (HB6.out.mono HBY.out.size))
      have hdr:=IAt.drop (j:=j) (c:=cap) (HOA.out.below HB0.out) (by rw [HOL.out];exact hkc)
      have hsl:=z4k (some ⟨bo,oo,none⟩) k cap j hj hkc
      have hni:=zcq (j:=j) hcn
      obtain ⟨RA,hRA⟩:∃ RA:Option Addr,(if cap = j then (some ⟨bo,oo,none⟩) else Option.map (fun z:Addr=>z.add (j * 32)) (some ⟨bo,oo,none⟩)) = RA:=⟨_,rfl⟩
      rw [hRA] at hdr hni
      simp only [hRA] at hsl
      have HSL:=Lib.hid hsl
      have HNI:=Lib.hid hni
      have HDR:=Lib.hid hdr
      have HSM:=Lib.hid (fun w=>z6g (some ⟨bo,oo,none⟩) k cap j hj hkc w)
      clear hRA hdr hsl hni
      go_upto_region 8 with (fail)
      refine wp_region_lit ?_
      iterate 9 (first | go_skip | go_guarded | go_step)
      refine z5v rfl 34 (.tmp 30) (.tmp 31) rfl _ _ _ rfl rfl HSL.out ?_
      simp only [Act.put,zS,zA,zB]
      refine z0u rfl (.tmp 29) (.tmp 32) 34 25 rfl w6.heap.size (.agg (z06 .u8 (List.replicate 32 0)).toArray) rfl Tryz.underlying34 Tryz.infoI32 (.slice (some ⟨w6.heap.size,0,none⟩) 0 0) [] (O.drop j) (HOI.out.drop j) _ _ _ (by rw [List.length_drop,HOL.out]) rfl (World.ownsRow_lit w6 #[] 0 (Nat.le_refl _) (by unfold maxLen;omega) rfl) rfl (HDR.out.below ((Below.refl _ _).alloc (Nat.le_refl _) _)) HNI.out (by rw [List.length_drop,HOL.out];simp;omega) (by rw [World.size_alloc];exact Nat.le_succ _) ?_
      intro v7 w7 ho7 hg7 _
      rw [List.nil_append] at ho7
      obtain ⟨a7,c7,hv7⟩:=ho7.out.form
      rw [List.length_drop,HOL.out] at hv7
      have hb7:Below w6.heap.size w6 w7:=((Below.refl w6.heap.size _).grown hg7.out (by rw [World.size_alloc];exact Nat.le_succ _) (fun g hg=>by cases hg;exact Nat.le_refl _) |> fun q=>((Below.refl _ _).alloc (Nat.le_refl _) _).trans q)
      have HO7A:=Lib.hid (show IAt a7 (O.drop j) w7 from OwnI.at (hv7 ▸ ho7.out) (HOI.out.drop j))
      have HN7:=Lib.hid (OwnI.cap (hv7 ▸ ho7.out)).2
      have HV7:=Shut.mk hv7
      have HYW:=Lib.hid (HY.out.below (HB6.out.trans (hb7.mono HB6.out.size)))
      have HOT:=Lib.hid (show IAt (some ⟨bo,oo,none⟩) (O.take j) w7 from ((HOA.out.below HB0.out).below hb7).take j)
      have HB7:=Lib.hid (HB5.out.trans ((HB6.out.trans (hb7.mono HB6.out.size)).mono HB5.out.size))
      clear ho7 hg7 hb7 hv7 HSL HDR HNI HB0 HOA HOWN
      go_wp2_with fail
      refine z0f 9 (fun q V w'=>Vals q V [(0,.slice (some ⟨bo,oo,none⟩) k cap),(1,.int .i64 (j:Int)),(2,.int .i64 (j:Int)),(3,.slice (some ⟨bo,oo,none⟩) j j),(4,.agg (z06 .u8 x).toArray),(7,v7)] ∧ Below w7.heap.size w7 w' ∧ Chain [5,6,8] (fun w'=>Below w7.heap.size w7 w') (RisM x O j w7) q V w') (fun | 0=>u34 | 1=>u35 | 2=>u36 | 3=>u37 | 4=>u38 | 5=>u39 | 6=>u40 | 7=>u41 | 8=>u42 | _=>undef) (by kernel_rfl) (by kernel_rfl) (by kernel_rfl) (by simp only [zC,zD,z0i,Act.put,zS,zA,zB]) ⟨Vals.none,(Below.refl _ _).drew,Chain.none (Below.refl _ _).drew (fun _=>(Below.refl _ _).drew)⟩ ?_ ?_
      ·simp only [zC,zD,z0i,Nat.zero_add,Nat.reduceAdd,Act.put,zS,zA,zB]
       refine zQc ?_ (zQc ?_ (zQc ?_ (zQc ?_ (zQc ?_ (zQc ?_ (zQc ?_ (zQc ?_ (zQc ?_ (zQn)))))))))
       all_goals (refine zQf rfl ?_;rintro q V wq hr hu ⟨hVs,hb,hch⟩ K hK)
       ·exact z0h (.tmp 3) rfl _ rfl (hK _ _ ⟨hVs.set rfl,hb,hch.ne (by decide) (by decide)⟩)
       ·exact z0h (.tmp 6) rfl _ rfl (hK _ _ ⟨hVs.set rfl,hb,hch.ne (by decide) (by decide)⟩)
       ·exact z0h (.tmp 6) rfl _ rfl (hK _ _ ⟨hVs.set rfl,hb,hch.ne (by decide) (by decide)⟩)
       ·exact za5 34 (.tmp 34) (.tmp 35) (.tmp 36) rfl _ _ _ _ (hVs.get 0 (hr { on:=0,ground:=.data } (by simp) rfl) rfl) (hVs.get 1 (hr { on:=1,ground:=.data } (by simp) rfl) rfl) (hVs.get 2 (hr { on:=2,ground:=.data } (by simp) rfl) rfl) HSM.out (hK _ _ ⟨hVs.set rfl,hb,hch.ne (by decide) (by decide)⟩)
       ·exact z16 25 (.tmp 5) rfl wo.heap.size .u8 x 25 _ rfl (HYW.out.below hb) Tryz.underlying25 rfl HS1.out (hK _ _ ⟨hVs.set rfl,hb,hch.ne (by decide) (by decide)⟩)
       ·have hm:Below w7.heap.size w7 wq:=hch.at 0 (by decide) hu (.inl rfl)
        refine z1i (ops:=#[]) rfl (z17 rfl 34 25 (.tmp 38) rfl x (hVs.get 4 (hr { on:=4,ground:=.data } (by simp) rfl) rfl) HI1.out.1 Tryz.underlying34 Tryz.infoI32 ?_)
        intro w' hk' hb'
        have hbn:Below w7.heap.size w7 w':=Below.trans hm (hb'.out.mono hm.size)
        have hb':=hb'.out.mono hm.size
        have hc5:=hch.step (v:=.slice (some ⟨wq.heap.size,0,none⟩) 1 1) 0 (by decide) (by decide) hu (.inl rfl) hbn ⟨hbn,wq.heap.size,rfl,z4x hk'.out⟩
        exact ⟨rfl,(hK _ _ ⟨hVs.off rfl,hb.trans hb',hc5⟩)⟩
       ·obtain ⟨hm,g,hv5,hcl⟩:RisM x O j w7 1 (V 5) wq:=hch.at 1 (by decide) hu (.inr (hr { on:=5,ground:=.data } (by simp) rfl))
        refine z1i (ops:=#[]) rfl (z4c rfl (.tmp 37) (.tmp 39) 34 25 rfl (.agg (z06 .u8 (List.replicate 32 0)).toArray) rfl Tryz.underlying34 Tryz.infoI32 (O.take j) [x] (HOI.out.take j) (Ids.one HI1.out.1 HI1.out.2) _ j (by rw [List.length_take,HOL.out];omega) ⟨g,0,none⟩ 1 1 rfl (by decide) (hVs.get 3 (hr { on:=3,ground:=.data } (by simp) rfl) rfl) (HOT.out.below hb) hv5 hcl (by rw [List.length_take,HOL.out];simp;omega) ?_)
        intro v' w' ho' hb'
        have hbn:Below w7.heap.size w7 w':=Below.trans hm (hb'.out.mono hm.size)
        have hb':=hb'.out.mono hm.size
        have hc6:=hch.step (v:=v') 1 (by decide) (by decide) hu (.inr (hr { on:=5,ground:=.data } (by simp) rfl)) hbn ⟨hbn,ho'.out.mono hm.size⟩
        exact ⟨rfl,(hK _ _ ⟨hVs.off rfl,hb.trans hb',hc6⟩)⟩
       ·exact z0h (.tmp 7) rfl _ rfl (hK _ _ ⟨hVs.set rfl,hb,hch.ne (by decide) (by decide)⟩)
       ·obtain ⟨hm,hv6⟩:RisM x O j w7 2 (V 6) wq:=hch.at 2 (by decide) hu (.inr (hr { on:=6,ground:=.data } (by simp) rfl))
        refine z1i (ops:=#[]) rfl (z0u rfl (.tmp 40) (.tmp 41) 34 25 rfl w7.heap.size (.agg (z06 .u8 (List.replicate 32 0)).toArray) rfl Tryz.underlying34 Tryz.infoI32 _ (O.take j ++ [x]) (O.drop j) (HOI.out.drop j) a7 (k - j) c7 (by rw [List.length_drop,HOL.out]) rfl hv6 ((hVs.get 7 (hr { on:=7,ground:=.data } (by simp) rfl) rfl).trans HV7.out) (HO7A.out.below hb) HN7.out (by rw [List.length_append,List.length_take,List.length_drop,HOL.out];simp;omega) hm.size ?_)
        intro v' w' ho' hg' _
        have hb':Below w7.heap.size wq w':=(Below.refl _ _).grown hg'.out hm.size (fun g hg=>(World.ownsRow.lt hv6 g hg).1)
        have hbn:=Below.trans hm hb'
        have hc8:=hch.step (v:=v') 2 (by decide) (by decide) hu (.inr (hr { on:=6,ground:=.data } (by simp) rfl)) hbn ⟨hbn,ho'.out⟩
        exact ⟨rfl,(hK _ _ ⟨hVs.off rfl,hb.trans hb',hc8⟩)⟩
      rintro q V wq hall ⟨hVs,hb,hch⟩
      have v0:=hVs.get 0 (hall 0 (by decide)) rfl
      have v1:=hVs.get 1 (hall 1 (by decide)) rfl
      have v2:=hVs.get 2 (hall 2 (by decide)) rfl
      have v3:=hVs.get 3 (hall 3 (by decide)) rfl
      have v4:=hVs.get 4 (hall 4 (by decide)) rfl
      obtain ⟨u5,v5⟩:∃ v,V 5 = v:=⟨_,rfl⟩
      obtain ⟨u6,v6⟩:∃ v,V 6 = v:=⟨_,rfl⟩
      have v7:=hVs.get 7 (hall 7 (by decide)) rfl
      obtain ⟨u8,v8⟩:∃ v,V 8 = v:=⟨_,rfl⟩
      obtain ⟨hbl,hrow⟩:RisM x O j w7 3 (V 8) wq:=hch.fin (fun p hp=>by match p,hp with | 0,_=>exact hall 5 (by decide) | 1,_=>exact hall 6 (by decide) | 2,_=>exact hall 8 (by decide))
      have hrow:OwnI w7.heap.size 25 (V 8) (O.take j ++ [x] ++ O.drop j) wq:=hrow
      rw [v8] at hrow
      have HROW:=Lib.hid hrow
      have HBL:=Lib.hid hbl
      clear hrow hbl hch
      simp only [zC,zD,zE,zF,z0i,Nat.zero_add,Nat.reduceAdd,v0,v1,v2,v3,v4,v5,v6,v7,v8,Act.put,zS,zA,zB]
      clear hVs v0 v1 v2 v3 v4 v5 v6 v7 v8 hall
      go_wp2_with fail
      have HIN:=Shut.mk (show z0e (L.take (k + 1)) = O.take j ++ [x] ++ O.drop j by rw [HNX.out,zbo,← HJP.out];simp)
      exact ⟨⟨k + 1,by omega,by go_num,by rw [HIN.out];exact HROW.out.mono HB7.out.size,HB7.out.trans (HBL.out.mono HB7.out.size)⟩,by simp [intOf];omega⟩
    ·have HPO:=Lib.hid (show zds x O ≤ j by have:=zhm x O;rw [HOL.out] at this;omega)
     go_upto_region 6 with (fail)
     refine z09 (fun w'=>Below wr.heap.size wr w') (by kernel_rfl) (by kernel_rfl) (Below.refl _ _).drew ?_
     repeat (first
      | go_big_quiet_skip
      | go_big_quiet_step ((intro hs';rfl)))
     refine wpQuiet_nil ?_
     intro w6 hb6
     have HB6:=Lib.hid (HBQ.out.trans (hb6.mono HBQ.out.size))
     clear hb6 HYQ HOQ
     have HJP:=Shut.mk (show j = zds x O by have:=HPO.out;have:=HPL.out;omega)
     obtain ⟨hkc,hcn⟩:=OwnI.cap HOWN.out
     rw [HOL.out] at hkc
     have HB0:=Lib.hid (HBY.out.trans (HB6.out.mono HBY.out.size))
     have hdr:=IAt.drop (j:=j) (c:=cap) (HOA.out.below HB0.out) (by rw [HOL.out];exact hkc)
     have hsl:=z4k ap k cap j hj hkc
     have hni:=zcq (j:=j) hcn
     obtain ⟨RA,hRA⟩:∃ RA:Option Addr,(if cap = j then ap else Option.map (fun z:Addr=>z.add (j * 32)) ap) = RA:=⟨_,rfl⟩
     rw [hRA] at hdr hni
     simp only [hRA] at hsl
     have HSL:=Lib.hid hsl
     have HNI:=Lib.hid hni
     have HDR:=Lib.hid hdr
     have HSM:=Lib.hid (fun w=>z6g ap k cap j hj hkc w)
     clear hRA hdr hsl hni
     go_upto_region 8 with (fail)
     refine wp_region_lit ?_
     iterate 9 (first | go_skip | go_guarded | go_step)
     refine z5v rfl 34 (.tmp 30) (.tmp 31) rfl _ _ _ rfl rfl HSL.out ?_
     simp only [Act.put,zS,zA,zB]
     refine z0u rfl (.tmp 29) (.tmp 32) 34 25 rfl w6.heap.size (.agg (z06 .u8 (List.replicate 32 0)).toArray) rfl Tryz.underlying34 Tryz.infoI32 (.slice (some ⟨w6.heap.size,0,none⟩) 0 0) [] (O.drop j) (HOI.out.drop j) _ _ _ (by rw [List.length_drop,HOL.out]) rfl (World.ownsRow_lit w6 #[] 0 (Nat.le_refl _) (by unfold maxLen;omega) rfl) rfl (HDR.out.below ((Below.refl _ _).alloc (Nat.le_refl _) _)) HNI.out (by rw [List.length_drop,HOL.out];simp;omega) (by rw [World.size_alloc];exact Nat.le_succ _) ?_
     intro v7 w7 ho7 hg7 _
     rw [List.nil_append] at ho7
     obtain ⟨a7,c7,hv7⟩:=ho7.out.form
     rw [List.length_drop,HOL.out] at hv7
     have hb7:Below w6.heap.size w6 w7:=((Below.refl w6.heap.size _).grown hg7.out (by rw [World.size_alloc];exact Nat.le_succ _) (fun g hg=>by cases hg;exact Nat.le_refl _) |> fun q=>((Below.refl _ _).alloc (Nat.le_refl _) _).trans q)
     have HO7A:=Lib.hid (show IAt a7 (O.drop j) w7 from OwnI.at (hv7 ▸ ho7.out) (HOI.out.drop j))
     have HN7:=Lib.hid (OwnI.cap (hv7 ▸ ho7.out)).2
     have HV7:=Shut.mk hv7
     have HYW:=Lib.hid (HY.out.below (HB6.out.trans (hb7.mono HB6.out.size)))
     have HOT:=Lib.hid (show IAt ap (O.take j) w7 from ((HOA.out.below HB0.out).below hb7).take j)
     have HB7:=Lib.hid (HB5.out.trans ((HB6.out.trans (hb7.mono HB6.out.size)).mono HB5.out.size))
     clear ho7 hg7 hb7 hv7 HSL HDR HNI HB0 HOA HOWN
     go_wp2_with fail
     refine z0f 9 (fun q V w'=>Vals q V [(0,.slice ap k cap),(1,.int .i64 (j:Int)),(2,.int .i64 (j:Int)),(3,.slice ap j j),(4,.agg (z06 .u8 x).toArray),(7,v7)] ∧ Below w7.heap.size w7 w' ∧ Chain [5,6,8] (fun w'=>Below w7.heap.size w7 w') (RisM x O j w7) q V w') (fun | 0=>u34 | 1=>u35 | 2=>u36 | 3=>u37 | 4=>u38 | 5=>u39 | 6=>u40 | 7=>u41 | 8=>u42 | _=>undef) (by kernel_rfl) (by kernel_rfl) (by kernel_rfl) (by simp only [zC,zD,z0i,Act.put,zS,zA,zB]) ⟨Vals.none,(Below.refl _ _).drew,Chain.none (Below.refl _ _).drew (fun _=>(Below.refl _ _).drew)⟩ ?_ ?_
     ·simp only [zC,zD,z0i,Nat.zero_add,Nat.reduceAdd,Act.put,zS,zA,zB]
      refine zQc ?_ (zQc ?_ (zQc ?_ (zQc ?_ (zQc ?_ (zQc ?_ (zQc ?_ (zQc ?_ (zQc ?_ (zQn)))))))))
      all_goals (refine zQf rfl ?_;rintro q V wq hr hu ⟨hVs,hb,hch⟩ K hK)
      ·exact z0h (.tmp 3) rfl _ rfl (hK _ _ ⟨hVs.set rfl,hb,hch.ne (by decide) (by decide)⟩)
      ·exact z0h (.tmp 6) rfl _ rfl (hK _ _ ⟨hVs.set rfl,hb,hch.ne (by decide) (by decide)⟩)
      ·exact z0h (.tmp 6) rfl _ rfl (hK _ _ ⟨hVs.set rfl,hb,hch.ne (by decide) (by decide)⟩)
      ·exact za5 34 (.tmp 34) (.tmp 35) (.tmp 36) rfl _ _ _ _ (hVs.get 0 (hr { on:=0,ground:=.data } (by simp) rfl) rfl) (hVs.get 1 (hr { on:=1,ground:=.data } (by simp) rfl) rfl) (hVs.get 2 (hr { on:=2,ground:=.data } (by simp) rfl) rfl) HSM.out (hK _ _ ⟨hVs.set rfl,hb,hch.ne (by decide) (by decide)⟩)
      ·exact z16 25 (.tmp 5) rfl wo.heap.size .u8 x 25 _ rfl (HYW.out.below hb) Tryz.underlying25 rfl HS1.out (hK _ _ ⟨hVs.set rfl,hb,hch.ne (by decide) (by decide)⟩)
      ·have hm:Below w7.heap.size w7 wq:=hch.at 0 (by decide) hu (.inl rfl)
       refine z1i (ops:=#[]) rfl (z17 rfl 34 25 (.tmp 38) rfl x (hVs.get 4 (hr { on:=4,ground:=.data } (by simp) rfl) rfl) HI1.out.1 Tryz.underlying34 Tryz.infoI32 ?_)
       intro w' hk' hb'
       have hbn:Below w7.heap.size w7 w':=Below.trans hm (hb'.out.mono hm.size)
       have hb':=hb'.out.mono hm.size
       have hc5:=hch.step (v:=.slice (some ⟨wq.heap.size,0,none⟩) 1 1) 0 (by decide) (by decide) hu (.inl rfl) hbn ⟨hbn,wq.heap.size,rfl,z4x hk'.out⟩
       exact ⟨rfl,(hK _ _ ⟨hVs.off rfl,hb.trans hb',hc5⟩)⟩
      ·obtain ⟨hm,g,hv5,hcl⟩:RisM x O j w7 1 (V 5) wq:=hch.at 1 (by decide) hu (.inr (hr { on:=5,ground:=.data } (by simp) rfl))
       refine z1i (ops:=#[]) rfl (z4c rfl (.tmp 37) (.tmp 39) 34 25 rfl (.agg (z06 .u8 (List.replicate 32 0)).toArray) rfl Tryz.underlying34 Tryz.infoI32 (O.take j) [x] (HOI.out.take j) (Ids.one HI1.out.1 HI1.out.2) _ j (by rw [List.length_take,HOL.out];omega) ⟨g,0,none⟩ 1 1 rfl (by decide) (hVs.get 3 (hr { on:=3,ground:=.data } (by simp) rfl) rfl) (HOT.out.below hb) hv5 hcl (by rw [List.length_take,HOL.out];simp;omega) ?_)
       intro v' w' ho' hb'
       have hbn:Below w7.heap.size w7 w':=Below.trans hm (hb'.out.mono hm.size)
       have hb':=hb'.out.mono hm.size
       have hc6:=hch.step (v:=v') 1 (by decide) (by decide) hu (.inr (hr { on:=5,ground:=.data } (by simp) rfl)) hbn ⟨hbn,ho'.out.mono hm.size⟩
       exact ⟨rfl,(hK _ _ ⟨hVs.off rfl,hb.trans hb',hc6⟩)⟩
      ·exact z0h (.tmp 7) rfl _ rfl (hK _ _ ⟨hVs.set rfl,hb,hch.ne (by decide) (by decide)⟩)
      ·obtain ⟨hm,hv6⟩:RisM x O j w7 2 (V 6) wq:=hch.at 2 (by decide) hu (.inr (hr { on:=6,ground:=.data } (by simp) rfl))
       refine z1i (ops:=#[]) rfl (z0u rfl (.tmp 40) (.tmp 41) 34 25 rfl w7.heap.size (.agg (z06 .u8 (List.replicate 32 0)).toArray) rfl Tryz.underlying34 Tryz.infoI32 _ (O.take j ++ [x]) (O.drop j) (HOI.out.drop j) a7 (k - j) c7 (by rw [List.length_drop,HOL.out]) rfl hv6 ((hVs.get 7 (hr { on:=7,ground:=.data } (by simp) rfl) rfl).trans HV7.out) (HO7A.out.below hb) HN7.out (by rw [List.length_append,List.length_take,List.length_drop,HOL.out];simp;omega) hm.size ?_)
       intro v' w' ho' hg' _
       have hb':Below w7.heap.size wq w':=(Below.refl _ _).grown hg'.out hm.size (fun g hg=>(World.ownsRow.lt hv6 g hg).1)
       have hbn:=Below.trans hm hb'
       have hc8:=hch.step (v:=v') 2 (by decide) (by decide) hu (.inr (hr { on:=6,ground:=.data } (by simp) rfl)) hbn ⟨hbn,ho'.out⟩
       exact ⟨rfl,(hK _ _ ⟨hVs.off rfl,hb.trans hb',hc8⟩)⟩
     rintro q V wq hall ⟨hVs,hb,hch⟩
     have v0:=hVs.get 0 (hall 0 (by decide)) rfl
     have v1:=hVs.get 1 (hall 1 (by decide)) rfl
     have v2:=hVs.get 2 (hall 2 (by decide)) rfl
     have v3:=hVs.get 3 (hall 3 (by decide)) rfl
     have v4:=hVs.get 4 (hall 4 (by decide)) rfl
     obtain ⟨u5,v5⟩:∃ v,V 5 = v:=⟨_,rfl⟩
     obtain ⟨u6,v6⟩:∃ v,V 6 = v:=⟨_,rfl⟩
     have v7:=hVs.get 7 (hall 7 (by decide)) rfl
     obtain ⟨u8,v8⟩:∃ v,V 8 = v:=⟨_,rfl⟩
     obtain ⟨hbl,hrow⟩:RisM x O j w7 3 (V 8) wq:=hch.fin (fun p hp=>by match p,hp with | 0,_=>exact hall 5 (by decide) | 1,_=>exact hall 6 (by decide) | 2,_=>exact hall 8 (by decide))
     have hrow:OwnI w7.heap.size 25 (V 8) (O.take j ++ [x] ++ O.drop j) wq:=hrow
     rw [v8] at hrow
     have HROW:=Lib.hid hrow
     have HBL:=Lib.hid hbl
     clear hrow hbl hch
     simp only [zC,zD,zE,zF,z0i,Nat.zero_add,Nat.reduceAdd,v0,v1,v2,v3,v4,v5,v6,v7,v8,Act.put,zS,zA,zB]
     clear hVs v0 v1 v2 v3 v4 v5 v6 v7 v8 hall
     go_wp2_with fail
     have HIN:=Shut.mk (show z0e (L.take (k + 1)) = O.take j ++ [x] ++ O.drop j by rw [HNX.out,zbo,← HJP.out];simp)
     exact ⟨⟨k + 1,by omega,by go_num,by rw [HIN.out];exact HROW.out.mono HB7.out.size,HB7.out.trans (HBL.out.mono HB7.out.size)⟩,by simp [intOf];omega⟩
  ·obtain rfl:k = n:=by omega
   have HR:=Shut.mk (show z0e (L.take k) = z0e L by rw [List.take_of_length_le (Nat.le_of_eq HN.out)])
   have HOWN:=Lib.hid hown
   clear hown hbw
   go_wp2_with fail
   go_ret
   exact ⟨_,rfl,by rw [← HR.out];exact HOWN.out,HBW.out⟩
theorem zbz (ap:Option Addr) (n c j:Nat) (hj:j ≤ n) (hc:n ≤ c) (w:World):(Instr.sliceAt 29 (.slice ap n c) none (some (.int .i64 (j:Int))) none).run Tryz.prog w = .ok (.slice ap j c) w:=by
 go_simp
 intro h
 omega
theorem zab (ap:Option Addr) (n c j:Nat) (hj:j ≤ n) (_hc:n ≤ c) (w:World):(Instr.sliceAt 29 (.slice ap n c) (some (.int .i64 (j:Int))) none none).run Tryz.prog w = .ok (.slice (if c = j then ap else ap.map (·.add (j * 38))) (n - j) (c - j)) w:=by
 go_simp
theorem zd4 (ap:Option Addr) (n c j:Nat) (hj:j ≤ n) (hc:n ≤ c) (w:World):(Instr.sliceAt 34 (.slice ap n c) none (some (.int .i64 (j:Int))) none).run Tryz.prog w = .ok (.slice ap j c) w:=by
 go_simp
 intro h
 omega
theorem z1b (gs k:Nat) (hk:k < 4) (w:World):(Instr.fieldAt 36 (.pointer (some ⟨gs,0,none⟩)) k).run Tryz.prog w = .ok (.pointer (some ⟨gs,k,none⟩)) w:=by
 match k,hk with
 | 0,_=>go_simp
 | 1,_=>go_simp
 | 2,_=>go_simp
 | 3,_=>go_simp
theorem z54:(Tryz.prog.info? 38).map (fun i=>(i.zero,i.size,i.bytes)) = some (some (.agg (opV z05 none 0)),38,112):=by kernel_rfl
section
variable {o:Oper} {a:Act} {w:World} {K:Act → World → Prop} {Q:Exit → Act → World → Prop}
theorem z6b (z:Operand) (ho:o.op = .buildSlice 29 1 #[(0,z)]) (X:Nat → Prop) (y:OpN) (pa:Option Addr) (pc:Nat) (hy:y.d.ref.length = 32) (hz:a.eval z = .agg (opV y pa pc)) (hia:IAt pa y.preds w) (hoff:OffX X pa y.preds)
 (h:∀ w',Below w.heap.size w w' → OpsX X (some ⟨w.heap.size,0,none⟩) [y] w' → K (a.put o.dst (.slice (some ⟨w.heap.size,0,none⟩) 1 1)) w'):OpWp Tryz.prog o a w K Q:=by
 have hb:Below w.heap.size w (w.alloc (.cells (opL y pa pc).toArray 38)):=(Below.refl _ _).alloc (Nat.le_refl _) _
 refine zbu 29 38 z ho (opL y pa pc) hz (za9 29 38 (opL y pa pc) _ _ _ Tryz.underlying29 z54 (z2i hy) (by decide) (by decide)) (h _ hb ?_)
 refine .inr ⟨w.heap.size,0,rfl,by rw [World.size_alloc];exact Nat.lt_succ_self _,fun i x hx=>?_⟩
 obtain ⟨rfl,rfl⟩:i = 0 ∧ y = x:=by
  have hi:i = 0:=by
   have:=(List.getElem?_eq_some_iff.1 hx).1
   simpa using this
  subst hi
  exact ⟨rfl,by simpa using hx⟩
 refine ⟨pa,pc,fun j v hj=>?_,hia.below hb,hoff⟩
 have e:(w.alloc (.cells (opL y pa pc).toArray 38)).cell? ⟨w.heap.size,j,none⟩ = (opL y pa pc).toArray[j]?:=Lib.cell_of_heap (heap_alloc_new w _) j
 rw [List.getElem?_toArray] at e
 simp only [Nat.zero_mul,Nat.zero_add]
 rw [e]
 exact hj
theorem z43 (hg:o.guard = none) (s z:Operand) (ho:o.op = .call { callee:=.builtin .append,args:=#[s,z],argTypes:=#[29,29] }) (X:Nat → Prop) (B:Nat) (v:Value) (L M:List OpN) (hM:∀ y ∈ M,y.d.ref.length = 32) (ad:Addr) (n c:Nat) (hn:n = M.length)
 (hs:a.eval s = v) (hown:OwnX X B 38 v L w) (hX:∀ g,v.ownBlock = some g → X g) (hz:a.eval z = .slice (some ad) n c) (hsrc:OpsX X (some ad) M w) (h63:L.length + M.length ≤ 1000000) (hB:B ≤ w.heap.size)
 (h:∀ v' w',OwnX X B 38 v' (L ++ M) w' → w.grownBy w' v.ownBlock → (v'.ownBlock = v.ownBlock ∨ v'.ownBlock = some w.heap.size) → K (a.put o.dst v') w'):OpWp Tryz.prog o a w K Q :=
 z1i (ops:=#[]) hg (z1g hg s z 29 38 ho B 112 (.agg (opV z05 none 0)) rfl (by decide) Tryz.underlying29 z54 X v L M hM ad n c hn hs hown hX hz hsrc h63 hB
  (fun v' w' h1 h2 h3=>⟨rfl,h v' w' (h1.out.mono (fun _=>.inl) (Nat.le_refl _)) h2.out h3.out⟩))
theorem z6d (hg:o.guard = none) (z:Operand) (ho:o.op = .buildSlice 34 1 #[(0,z)]) (y:List Nat) (hy:y.length = 32) (hz:a.eval z = .agg (z06 .u8 y).toArray)
 (h:∀ w',Below w.heap.size w w' → IAt (some ⟨w.heap.size,0,none⟩) [y] w' → K (a.put o.dst (.slice (some ⟨w.heap.size,0,none⟩) 1 1)) w'):OpWp Tryz.prog o a w K Q :=
 z1i (ops:=#[]) hg (z17 hg 34 25 z ho y hz hy Tryz.underlying34 Tryz.infoI32 (fun w' h1 h2=>⟨rfl,h w' h2.out (z4x h1.out)⟩))
theorem z33 (hg:o.guard = none) (s z:Operand) (ho:o.op = .call { callee:=.builtin .append,args:=#[s,z],argTypes:=#[34,34] }) (B:Nat) (v:Value) (L M:List (List Nat)) (hM:Ids M) (ad:Option Addr) (n c:Nat) (hn:n = M.length)
 (hs:a.eval s = v) (hown:OwnI B 25 v L w) (hz:a.eval z = .slice ad n c) (hsrc:IAt ad M w) (hnil:ad = none → c = 0) (h63:L.length + M.length ≤ 1000000) (hB:B ≤ w.heap.size)
 (h:∀ v' w',OwnI B 25 v' (L ++ M) w' → w.grownBy w' v.ownBlock → (v'.ownBlock = v.ownBlock ∨ v'.ownBlock = some w.heap.size) → K (a.put o.dst v') w'):OpWp Tryz.prog o a w K Q :=
 z1i (ops:=#[]) hg (z0u hg s z 34 25 ho B (.agg (z06 .u8 (List.replicate 32 0)).toArray) rfl Tryz.underlying34 Tryz.infoI32 v L M hM ad n c hn hs hown hz hsrc hnil h63 hB
  (fun v' w' h1 h2 h3=>⟨rfl,h v' w' h1.out h2.out h3.out⟩))
end
def PushM (X:Nat → Prop) (wb:World) (vv:Value) (L:List OpN) (y:OpN):Nat → Value → World → Prop
 | 0,_,w'=>Below wb.heap.size wb w'
 | 1,v,w'=>Below wb.heap.size wb w' ∧ ∃ g,v = .slice (some ⟨g,0,none⟩) 1 1 ∧ OpsX X (some ⟨g,0,none⟩) [y] w'
 | _,v,w'=>Only (fun b=>vv.ownBlock = some b) wb w' ∧ OwnX X 0 38 v (L ++ [y]) w' ∧ Moved v vv wb
def PushI (wb:World) (vv:Value) (L:List (List Nat)) (y:List Nat):Nat → Value → World → Prop
 | 0,_,w'=>Below wb.heap.size wb w'
 | 1,v,w'=>Below wb.heap.size wb w' ∧ ∃ g,v = .slice (some ⟨g,0,none⟩) 1 1 ∧ IAt (some ⟨g,0,none⟩) [y] w'
 | _,v,w'=>Only (fun b=>vv.ownBlock = some b) wb w' ∧ OwnI 0 25 v (L ++ [y]) w' ∧ Moved v vv wb
theorem Moved.of {v u:Value} {w wq:World} (h:v.ownBlock = u.ownBlock ∨ v.ownBlock = some wq.heap.size) (hs:w.heap.size ≤ wq.heap.size):Moved v u w:=fun b hb=>by
 rcases h with h | h
 ·exact .inl (h ▸ hb)
 ·rw [h] at hb
  obtain rfl:wq.heap.size = b:=by injection hb
  exact .inr hs
def LocC (O:Nat → Prop) (g:Nat) (t:TypeId) (cs:Array Value) (w:World):Prop:=¬ O g ∧ Cells g t cs w
theorem LocC.turn {O O':Nat → Prop} {g:Nat} {t:TypeId} {cs:Array Value} {w w':World} (h:LocC O g t cs w) (k:Turn O O' w w'):LocC O' g t cs w' :=
 ⟨(Loc.turn ⟨h.2.lt,h.1⟩ k).2,h.2.only k.only h.1⟩
theorem LocC.below {O:Nat → Prop} {g:Nat} {t:TypeId} {cs:Array Value} {w w':World} (h:LocC O g t cs w) (k:Below w.heap.size w w'):LocC O g t cs w':=⟨h.1,h.2.below k⟩
def LocR (O:Nat → Prop) (B:Nat) (v:Value) (L:List (List Nat)) (w:World):Prop:=(∀ b,v.ownBlock = some b → ¬ O b) ∧ OwnI B 25 v L w
theorem LocR.turn {O O':Nat → Prop} {B:Nat} {v:Value} {L:List (List Nat)} {w w':World} (h:LocR O B v L w) (k:Turn O O' w w'):LocR O' B v L w' :=
 ⟨fun b hb=>(Loc.turn ⟨(World.ownsRow.lt h.2 b hb).2,h.1 b hb⟩ k).2,h.2.only k.only h.1⟩
theorem LocR.below {O:Nat → Prop} {B:Nat} {v:Value} {L:List (List Nat)} {w w':World} (h:LocR O B v L w) (k:Below w.heap.size w w'):LocR O B v L w':=⟨h.1,h.2.below k⟩
theorem atN_here {L:List (List Nat)} {n:List Nat} {k:Nat} (hk:k < L.length) (he:L.getD k [] = n) (h:∀ j,j < k → L.getD j [] ≠ n):atN L n = k:=by
 have hm:n ∈ L:=by
  rw [← he,List.getD_eq_getElem?_getD,List.getElem?_eq_getElem hk]
  exact List.getElem_mem hk
 have h1:L.idxOf n = k:=by
  have hi:=List.idxOf_lt_length_of_mem hm
  have hg:L[L.idxOf n] = n:=List.getElem_idxOf hi
  rcases Nat.lt_trichotomy (L.idxOf n) k with hlt | heq | hgt
  ·refine absurd ?_ (h _ hlt)
   rw [List.getD_eq_getElem?_getD,List.getElem?_eq_getElem hi]
   exact hg
  ·exact heq
  ·have:=List.not_of_lt_findIdx (p:=(· == n)) (xs:=L) (i:=k) hgt
   rw [List.getD_eq_getElem?_getD,List.getElem?_eq_getElem hk] at he
   simp only [Option.getD_some] at he
   simp [he] at this
 rw [atN,if_pos hm,h1]
theorem ze3 {L:List (List Nat)} {n:List Nat} (h:∀ j,j < L.length → L.getD j [] ≠ n):atN L n = -1 ∧ n ∉ L:=by
 have hm:n ∉ L:=fun hm=>by
  obtain ⟨j,hj,he⟩:=List.getElem_of_mem hm
  refine h j hj ?_
  rw [List.getD_eq_getElem?_getD,List.getElem?_eq_getElem hj]
  exact he
 exact ⟨by rw [atN,if_neg hm],hm⟩
theorem atN_neg {L:List (List Nat)} {n:List Nat}:decide (atN L n < 0) = !decide (n ∈ L):=by
 rw [atN]
 by_cases hm:n ∈ L
 ·rw [if_pos hm]
  simp [hm]
 ·simp [hm]
theorem z69 (X:Nat → Prop) (gs:Nat) (vo vw vn vq:Value) (s:DagN) (n:List Nat) (w:World) (h:RefAt X gs vo vw vn vq s w) (hn:n.length = 32) (hnl:∀ y ∈ n,y < 256) (hb:s.ops.length ≤ 1000000) :
 Calls Tryz.prog 21 #[.pointer (some ⟨gs,0,none⟩),.agg (z06 .u8 n).toArray] w fun e w'=>e = .returned (.int .i64 (atN s.names n)) ∧ Below w.heap.size w w':=by
 obtain ⟨ao,cap,rfl⟩:=h.names.form
 have hm:s.names.length ≤ 1000000:=by rw [DagN.names,List.length_map];exact hb
 have hL:Ids s.names:=z12
 have hat:=h.names.at hL
 obtain ⟨L,hLE⟩:∃ L,s.names = L:=⟨_,rfl⟩
 rw [hLE] at h hm hL hat ⊢
 have hc:=h.cell.2.2.1
 have hgs:=h.cells.lt
 obtain ⟨m,hme⟩:∃ m,L.length = m:=⟨_,rfl⟩
 rw [hme] at hc hm h
 have HM:=Shut.mk hme
 have HL:=Lib.hid hL
 have b1:Below w.heap.size w (w.alloc (.cells (z06 .u8 n).toArray 25)):=(Below.refl _ _).alloc (Nat.le_refl _) _
 have x1:Blk w.heap.size 25 .u8 n (w.alloc (.cells (z06 .u8 n).toArray 25)):=heap_alloc_new w _
 have HB:=Lib.hid b1
 have HX:=Lib.hid x1
 have HAT:=Lib.hid (hat.below b1)
 have HC:=Lib.hid ((b1.cell (p:=⟨gs,2,none⟩) hgs).trans hc)
 have HG:=Lib.hid (show gs < (w.alloc (.cells (z06 .u8 n).toArray 25)).heap.size from Nat.lt_of_lt_of_le hgs b1.size)
 have HN:=Lib.hid hn
 have HNL:=Lib.hid hnl
 have HSN:=Lib.hid (show (Tryz.prog.info? 25).map (·.size) = some n.length by rw [hn];exact Tryz.sizeI)
 clear h hLE hL hat hc hgs hme b1 x1 hn hnl hb
 go_enter Tryz.func21,Tryz.ntmps21
 go_upto_region 1 with (fail)
 obtain ⟨w1,hw1⟩:∃ x,x = w.alloc (.cells (z06 .u8 n).toArray 25):=⟨_,rfl⟩
 rw [← hw1] at HB HX HAT HC HG ⊢
 clear hw1
 have hc:=HC.out
 go_wp2_with fail
 clear hc
 go_loopw [12] (fun i wr=>∃ k:Nat,k ≤ m ∧ i = .int .i64 k ∧ (∀ j,j < k → L.getD j [] ≠ n) ∧ Below w1.heap.size w1 wr) (fun i _=>m - (intOf i).toNat)
 case atStart=>exact ⟨0,Nat.zero_le _,rfl,fun j hj=>by omega,Below.refl _ _⟩
 case round =>
  obtain ⟨k,hk,rfl,hj,hbw⟩:=hrel
  have HJ:=Lib.hid hj
  have HBW:=Lib.hid hbw
  have HXW:=Lib.hid (HX.out.below hbw)
  have HATW:=Lib.hid (HAT.out.below hbw)
  clear hj hbw
  by_cases hlt:k < m
  ·obtain ⟨b,ob,rfl,hbl⟩:=HATW.out.some (by rw [HM.out];omega)
   have g1:=HATW.out.get (i:=k) (by rw [HM.out];omega)
   have i1:=Ids.getD HL.out (i:=k) (by rw [HM.out];omega)
   obtain ⟨x,hx⟩:∃ x,L.getD k [] = x:=⟨_,rfl⟩
   rw [hx] at g1 i1
   have HXE:=Shut.mk hx
   have HG1:=Lib.hid g1
   have HS1:=Lib.hid (show (Tryz.prog.info? 25).map (·.size) = some x.length by rw [i1.1];exact Tryz.sizeI)
   have HL2:=Lib.hid (show (List.replicate 32 0).length = x.length by rw [i1.1];rfl)
   have HEQ:=Lib.hid (fun w'=>z2b x n i1.1 HN.out i1.2 HNL.out w')
   have HXL:=Lib.hid i1.1
   have hxw:=HXW.out.lt
   have hgw:w.heap.size ≠ wr.heap.size:=by omega
   clear hx g1 i1 hbl hxw
   go_wp2_with (first
    | (refine z0b rfl 25 _ rfl b (ob + k * 32) x _ rfl HG1.out Tryz.underlying25 rfl HS1.out ?_)
    | (refine z04 rfl 25 _ _ rfl rfl wr.heap.size .u8 (List.replicate 32 0) x 25 rfl rfl (heap_alloc_new wr _) HS1.out HL2.out ?_))
   intro w5 hc' hb'
   have HY:=Lib.hid hc'.out
   have HX5:=Lib.hid ((HXW.out.alloc _).but hb'.out hgw)
   have HB5:=Lib.hid (show Below w1.heap.size w1 w5 from But.toBelow (HBW.out.alloc HBW.out.size _) hb'.out HBW.out.size (Nat.le_trans HBW.out.size (by rw [World.size_alloc];exact Nat.le_succ _)))
   clear hc' hb' HL2 hgw
   have heq:=HEQ.out
   have hs1:=HS1.out
   obtain ⟨z,hz⟩:∃ z,(x == n) = z:=⟨_,rfl⟩
   rw [hz] at heq
   have HZ:=Shut.mk hz
   clear hz HEQ
   cases z with
   | true =>
     have HR:=Shut.mk (show atN L n = (k:Int) from atN_here (by rw [HM.out];exact hlt) (by rw [HXE.out];have:=HZ.out;simpa using this) HJ.out)
     go_wp2_with (first
      | (refine z03 rfl 25 (.tmp 6) rfl wr.heap.size .u8 _ 25 _ rfl HY.out Tryz.underlying25 rfl HS1.out ?_)
      | (refine z03 rfl 25 (.tmp 3) rfl w.heap.size .u8 _ 25 _ rfl HX5.out Tryz.underlying25 rfl HSN.out ?_))
     go_ret
     exact ⟨by rw [HR.out];rfl,HB.out.trans (HB5.out.mono HB.out.size)⟩
   | false =>
     have HNE:=Lib.hid (show x ≠ n by have:=HZ.out;simpa using this)
     go_wp2_with (first
      | (refine z03 rfl 25 (.tmp 6) rfl wr.heap.size .u8 _ 25 _ rfl HY.out Tryz.underlying25 rfl HS1.out ?_)
      | (refine z03 rfl 25 (.tmp 3) rfl w.heap.size .u8 _ 25 _ rfl HX5.out Tryz.underlying25 rfl HSN.out ?_))
     refine ⟨⟨k + 1,by omega,by go_num,fun q hq=>?_,HB5.out⟩,by simp [intOf];omega⟩
     by_cases hqj:q = k
     ·subst hqj
      rw [HXE.out]
      exact HNE.out
     ·exact HJ.out q (by omega)
  ·obtain rfl:k = m:=by omega
   have HR:=Shut.mk (show atN L n = -1 from (ze3 (fun j hj=>HJ.out j (by rw [← HM.out];exact hj))).1)
   go_wp2_with fail
   go_ret
   exact ⟨by rw [HR.out];rfl,HB.out.trans (HBW.out.mono HB.out.size)⟩
theorem zeb (X:Nat → Prop) (gs:Nat) (vo vw vn vq:Value) (s:DagN) (n:List Nat) (w:World) (h:RefAt X gs vo vw vn vq s w) (hn:n.length = 32) (hnl:∀ y ∈ n,y < 256) (hb:s.wait.length ≤ 1000000) :
 Calls Tryz.prog 50 #[.pointer (some ⟨gs,0,none⟩),.agg (z06 .u8 n).toArray] w fun e w'=>e = .returned (.bool (decide (n ∈ s.waits))) ∧ Below w.heap.size w w':=by
 obtain ⟨ao,cap,rfl⟩:=h.waits.form
 have hm:s.waits.length ≤ 1000000:=by rw [DagN.waits,List.length_map];exact hb
 have hL:Ids s.waits:=z12
 have hat:=h.waits.at hL
 obtain ⟨L,hLE⟩:∃ L,s.waits = L:=⟨_,rfl⟩
 rw [hLE] at h hm hL hat ⊢
 have hc:=h.cell.2.2.2
 have hgs:=h.cells.lt
 obtain ⟨m,hme⟩:∃ m,L.length = m:=⟨_,rfl⟩
 rw [hme] at hc hm h
 have HM:=Shut.mk hme
 have HL:=Lib.hid hL
 have b1:Below w.heap.size w (w.alloc (.cells (z06 .u8 n).toArray 25)):=(Below.refl _ _).alloc (Nat.le_refl _) _
 have x1:Blk w.heap.size 25 .u8 n (w.alloc (.cells (z06 .u8 n).toArray 25)):=heap_alloc_new w _
 have HB:=Lib.hid b1
 have HX:=Lib.hid x1
 have HAT:=Lib.hid (hat.below b1)
 have HC:=Lib.hid ((b1.cell (p:=⟨gs,3,none⟩) hgs).trans hc)
 have HG:=Lib.hid (show gs < (w.alloc (.cells (z06 .u8 n).toArray 25)).heap.size from Nat.lt_of_lt_of_le hgs b1.size)
 have HN:=Lib.hid hn
 have HNL:=Lib.hid hnl
 have HSN:=Lib.hid (show (Tryz.prog.info? 25).map (·.size) = some n.length by rw [hn];exact Tryz.sizeI)
 clear h hLE hL hat hc hgs hme b1 x1 hn hnl hb
 go_enter Tryz.func50,Tryz.ntmps50
 go_upto_region 1 with (fail)
 obtain ⟨w1,hw1⟩:∃ x,x = w.alloc (.cells (z06 .u8 n).toArray 25):=⟨_,rfl⟩
 rw [← hw1] at HB HX HAT HC HG ⊢
 clear hw1
 have hc:=HC.out
 go_wp2_with fail
 clear hc
 go_loopw [12] (fun i wr=>∃ k:Nat,k ≤ m ∧ i = .int .i64 k ∧ (∀ j,j < k → L.getD j [] ≠ n) ∧ Below w1.heap.size w1 wr) (fun i _=>m - (intOf i).toNat)
 case atStart=>exact ⟨0,Nat.zero_le _,rfl,fun j hj=>by omega,Below.refl _ _⟩
 case round =>
  obtain ⟨k,hk,rfl,hj,hbw⟩:=hrel
  have HJ:=Lib.hid hj
  have HBW:=Lib.hid hbw
  have HXW:=Lib.hid (HX.out.below hbw)
  have HATW:=Lib.hid (HAT.out.below hbw)
  clear hj hbw
  by_cases hlt:k < m
  ·obtain ⟨b,ob,rfl,hbl⟩:=HATW.out.some (by rw [HM.out];omega)
   have g1:=HATW.out.get (i:=k) (by rw [HM.out];omega)
   have i1:=Ids.getD HL.out (i:=k) (by rw [HM.out];omega)
   obtain ⟨x,hx⟩:∃ x,L.getD k [] = x:=⟨_,rfl⟩
   rw [hx] at g1 i1
   have HXE:=Shut.mk hx
   have HG1:=Lib.hid g1
   have HS1:=Lib.hid (show (Tryz.prog.info? 25).map (·.size) = some x.length by rw [i1.1];exact Tryz.sizeI)
   have HL2:=Lib.hid (show (List.replicate 32 0).length = x.length by rw [i1.1];rfl)
   have HEQ:=Lib.hid (fun w'=>z2b x n i1.1 HN.out i1.2 HNL.out w')
   have HXL:=Lib.hid i1.1
   have hxw:=HXW.out.lt
   have hgw:w.heap.size ≠ wr.heap.size:=by omega
   clear hx g1 i1 hbl hxw
   go_wp2_with (first
    | (refine z0b rfl 25 _ rfl b (ob + k * 32) x _ rfl HG1.out Tryz.underlying25 rfl HS1.out ?_)
    | (refine z04 rfl 25 _ _ rfl rfl wr.heap.size .u8 (List.replicate 32 0) x 25 rfl rfl (heap_alloc_new wr _) HS1.out HL2.out ?_))
   intro w5 hc' hb'
   have HY:=Lib.hid hc'.out
   have HX5:=Lib.hid ((HXW.out.alloc _).but hb'.out hgw)
   have HB5:=Lib.hid (show Below w1.heap.size w1 w5 from But.toBelow (HBW.out.alloc HBW.out.size _) hb'.out HBW.out.size (Nat.le_trans HBW.out.size (by rw [World.size_alloc];exact Nat.le_succ _)))
   clear hc' hb' HL2 hgw
   have heq:=HEQ.out
   have hs1:=HS1.out
   obtain ⟨z,hz⟩:∃ z,(x == n) = z:=⟨_,rfl⟩
   rw [hz] at heq
   have HZ:=Shut.mk hz
   clear hz HEQ
   cases z with
   | true =>
     have HR:=Shut.mk (show decide (n ∈ L) = true from decide_eq_true (by rw [show n = L.getD k [] by rw [HXE.out];exact (by have:=HZ.out;simpa using this:x = n).symm,List.getD_eq_getElem?_getD,List.getElem?_eq_getElem (by rw [HM.out];exact hlt)];exact List.getElem_mem _))
     go_wp2_with (first
      | (refine z03 rfl 25 (.tmp 6) rfl wr.heap.size .u8 _ 25 _ rfl HY.out Tryz.underlying25 rfl HS1.out ?_)
      | (refine z03 rfl 25 (.tmp 3) rfl w.heap.size .u8 _ 25 _ rfl HX5.out Tryz.underlying25 rfl HSN.out ?_))
     go_ret
     exact ⟨by rw [HR.out];rfl,HB.out.trans (HB5.out.mono HB.out.size)⟩
   | false =>
     have HNE:=Lib.hid (show x ≠ n by have:=HZ.out;simpa using this)
     go_wp2_with (first
      | (refine z03 rfl 25 (.tmp 6) rfl wr.heap.size .u8 _ 25 _ rfl HY.out Tryz.underlying25 rfl HS1.out ?_)
      | (refine z03 rfl 25 (.tmp 3) rfl w.heap.size .u8 _ 25 _ rfl HX5.out Tryz.underlying25 rfl HSN.out ?_))
     refine ⟨⟨k + 1,by omega,by go_num,fun q hq=>?_,HB5.out⟩,by simp [intOf];omega⟩
     by_cases hqj:q = k
     ·subst hqj
      rw [HXE.out]
      exact HNE.out
     ·exact HJ.out q (by omega)
  ·obtain rfl:k = m:=by omega
   have HR:=Shut.mk (show decide (n ∈ L) = false from decide_eq_false (ze3 (fun j hj=>HJ.out j (by rw [← HM.out];exact hj))).2)
   go_wp2_with fail
   go_ret
   exact ⟨by rw [HR.out];rfl,HB.out.trans (HBW.out.mono HB.out.size)⟩
theorem zdx {L P:List (List Nat)}:∀ (n:Nat),P.length = n → (∀ j,j < n → P.getD j [] ∈ L) → (P.all fun p=>decide (p ∈ L)) = true:=by
 intro n hn h
 rw [List.all_eq_true]
 intro p hp
 obtain ⟨j,hj,rfl⟩:=List.getElem_of_mem hp
 have:=h j (by omega)
 rw [List.getD_eq_getElem?_getD,List.getElem?_eq_getElem hj] at this
 exact decide_eq_true this
theorem zg1 {L P:List (List Nat)} {k:Nat} (hk:k < P.length) (h:P.getD k [] ∉ L):(P.all fun p=>decide (p ∈ L)) = false:=by
 rw [List.all_eq_false]
 refine ⟨P.getD k [],?_,by simpa using h⟩
 rw [List.getD_eq_getElem?_getD,List.getElem?_eq_getElem hk]
 exact List.getElem_mem hk
theorem zcr (X:Nat → Prop) (gs:Nat) (vo vw vn vq:Value) (s:DagN) (o:OpN) (pa:Option Addr) (pc:Nat) (w:World) (h:RefAt X gs vo vw vn vq s w) (ho:o.d.ref.length = 32) (hP:Ids o.preds) (hp:IAt pa o.preds w) (hq:o.preds.length ≤ 1000000) (hb:s.ops.length ≤ 1000000) :
 Calls Tryz.prog 51 #[.pointer (some ⟨gs,0,none⟩),.agg (opV o pa pc)] w fun e w'=>e = .returned (.bool (z1f s.names o)) ∧ Below w.heap.size w w':=by
 obtain ⟨L,hLE⟩:∃ L,s.names = L:=⟨_,rfl⟩
 have HAT:=Lib.hid (fun (n:List Nat) (hn:n.length = 32) (hnl:∀ y ∈ n,y < 256) (w1:World) (b:Below w.heap.size w w1)=>show Calls Tryz.prog 21 #[.pointer (some ⟨gs,0,none⟩),.agg (z06 .u8 n).toArray] w1 fun e w'=>e = .returned (.int .i64 (atN L n)) ∧ Below w1.heap.size w1 w' from hLE ▸ z69 X gs vo vw vn vq s n w1 (h.below b) hn hnl hb)
 have HWE:=Shut.mk (show z1f s.names o = o.preds.all fun p=>decide (p ∈ L) by rw [z1f,hLE])
 obtain ⟨W,hW⟩:∃ W,z1f s.names o = W:=⟨_,rfl⟩
 rw [hW] at HWE ⊢
 have b1:Below w.heap.size w (w.alloc (.cells (opV o pa pc) 38)):=(Below.refl _ _).alloc (Nat.le_refl _) _
 have x1:Cells w.heap.size 38 (opV o pa pc) (w.alloc (.cells (opV o pa pc) 38)):=heap_alloc_new w _
 have HB:=Lib.hid b1
 have HX:=Lib.hid x1
 have HPA:=Lib.hid (hp.below b1)
 have HO:=Lib.hid ho
 have HPI:=Lib.hid hP
 obtain ⟨m,hme⟩:∃ m,o.preds.length = m:=⟨_,rfl⟩
 have HM:=Shut.mk hme
 rw [hme] at hq
 clear h hLE hW b1 x1 hp ho hP hme hb
 go_enter Tryz.func51,Tryz.ntmps51
 go_upto_region 1 with (fail)
 obtain ⟨w1,hw1⟩:∃ x,x = w.alloc (.cells (opV o pa pc) 38):=⟨_,rfl⟩
 rw [← hw1] at HB HX HPA ⊢
 clear hw1
 obtain ⟨_,_,_,c37⟩:=z0k HO.out HX.out
 rw [HM.out] at c37
 go_wp2_with fail
 clear c37
 go_loopw [10] (fun i wr=>∃ k:Nat,k ≤ m ∧ i = .int .i64 k ∧ (∀ j,j < k → o.preds.getD j [] ∈ L) ∧ Below w1.heap.size w1 wr) (fun i _=>m - (intOf i).toNat)
 case atStart=>exact ⟨0,Nat.zero_le _,rfl,fun j hj=>by omega,Below.refl _ _⟩
 case round =>
  obtain ⟨k,hk,rfl,hj,hbw⟩:=hrel
  have HJ:=Lib.hid hj
  have HBW:=Lib.hid hbw
  have HPW:=Lib.hid (HPA.out.below hbw)
  clear hj hbw
  by_cases hlt:k < m
  ·obtain ⟨b,ob,rfl,hbl⟩:=HPW.out.some (by rw [HM.out];omega)
   have g1:=HPW.out.get (i:=k) (by rw [HM.out];omega)
   have i1:=Ids.getD HPI.out (i:=k) (by rw [HM.out];omega)
   obtain ⟨x,hx⟩:∃ x,o.preds.getD k [] = x:=⟨_,rfl⟩
   rw [hx] at g1 i1
   have HXE:=Shut.mk hx
   have HG1:=Lib.hid g1
   have HS1:=Lib.hid (show (Tryz.prog.info? 25).map (·.size) = some x.length by rw [i1.1];exact Tryz.sizeI)
   have HL2:=Lib.hid (show (List.replicate 32 0).length = x.length by rw [i1.1];rfl)
   have HC:=Lib.hid (fun w1 b=>HAT.out x i1.1 i1.2 w1 b)
   obtain ⟨q,hq2⟩:∃ q,atN L x = q:=⟨_,rfl⟩
   rw [hq2] at HC
   have HQ:=Shut.mk (show decide (q < 0) = !decide (x ∈ L) by rw [← hq2,atN_neg])
   clear hx g1 i1 hbl hq2
   go_wp2_with (first
    | (refine z0b rfl 25 _ rfl b (ob + k * 32) x _ rfl HG1.out Tryz.underlying25 rfl HS1.out ?_)
    | (refine z04 rfl 25 _ _ rfl rfl wr.heap.size .u8 (List.replicate 32 0) x 25 rfl rfl (heap_alloc_new wr _) HS1.out HL2.out ?_))
   intro w5 hc' hb'
   have HY:=Lib.hid hc'.out
   have HB5:=Lib.hid (show Below w1.heap.size w1 w5 from But.toBelow (HBW.out.alloc HBW.out.size _) hb'.out HBW.out.size (Nat.le_trans HBW.out.size (by rw [World.size_alloc];exact Nat.le_succ _)))
   clear hc' hb' HL2
   go_wp2_with (refine z03 rfl 25 (.tmp 6) rfl wr.heap.size .u8 _ 25 _ rfl HY.out Tryz.underlying25 rfl HS1.out ?_)
   refine (HC.out _ (HB.out.trans (HB5.out.mono HB.out.size))).mono ?_
   rintro e w6 ⟨rfl,hb6⟩
   have HB6:=Lib.hid (HB5.out.trans (hb6.mono HB5.out.size))
   clear hb6
   by_cases hin:x ∈ L
   ·have hqn:¬ q < 0:=by have:=HQ.out;simpa [hin] using this
    have HIN:=Lib.hid hin
    clear hin
    go_wp2_with fail
    refine ⟨⟨k + 1,by omega,by go_num,fun i hi=>?_,HB6.out⟩,by simp [intOf];omega⟩
    by_cases hqj:i = k
    ·subst hqj
     rw [HXE.out]
     exact HIN.out
    ·exact HJ.out i (by omega)
   ·have hqn:q < 0:=by have:=HQ.out;simpa [hin] using this
    have HR:=Shut.mk (show W = false by rw [HWE.out];exact zg1 (by rw [HM.out];exact hlt) (by rw [HXE.out];exact hin))
    clear hin
    go_wp2_with fail
    go_ret
    exact ⟨by rw [HR.out];rfl,HB.out.trans (HB6.out.mono HB.out.size)⟩
  ·obtain rfl:k = m:=by omega
   have HR:=Shut.mk (show W = true by rw [HWE.out];exact zdx k HM.out HJ.out)
   go_wp2_with fail
   go_ret
   exact ⟨by rw [HR.out];rfl,HB.out.trans (HBW.out.mono HB.out.size)⟩
end Go.Proofs.YtnbldbbbibpobaaGreatDoor
