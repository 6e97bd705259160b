/-
  Joined: The document's Rising. Written by dag/gen/gen_rising.py.; Take's steps: slices cut, literals of one laid and pushed, in a region whose order is open; what lies beside the set while it turns.; The developers' set, as it lies in memory: a struct of four maps; rows of names behind names.; A text copied over cells of one's own, wherever they lie; a block of cells laid over; facts of regions whose order is open: Ord (one comes behind another), NewC.turn.
-/
import Derived.Laws.IdiomCopy
import Derived.Test.YtnbldbbbibpobaaGreatDoorJ02
import Derived.Test.YtnbldbbbibpobaaGreatDoorJ03
import Derived.Test.YtnbldbbbibpobaaGreatDoorJ04
import Derived.Test.YtnbldbbbibpobaaGreatDoorJ05
import Derived.Test.YtnbldbbbibpobaaGreatDoorJ06
set_option maxRecDepth 100000
set_option maxHeartbeats 4000000
namespace Go.Proofs.YtnbldbbbibpobaaGreatDoor
open Go.RowKit Go.BigFrame
theorem zck:∀ (a b:List Nat),z1t a b = -1 ∨ z1t a b = 0 ∨ z1t a b = 1
 | [],[]=>.inr (.inl (by rw [z1t];intro a x b y h;cases h))
 | [],_ :: _=>.inr (.inl (by rw [z1t];intro a x b y h;cases h))
 | _ :: _,[]=>.inr (.inl (by rw [z1t];intro a x b y h h2;cases h2))
 | x :: a, y :: b => by
   rw [z1t]
   split
   ·exact .inl rfl
   ·split
    ·exact .inr (.inr rfl)
    ·exact zck a b
theorem z4q {L:List (List Nat)} (h:Ids L):Ids (z0g L):=fun x hx=>h x (risingN_mem.1 hx)
theorem zgw {L:List (List Nat)} {k:Nat} (h:k < L.length):z0g (L.take (k + 1)) = zc7 (L.getD k []) (z0g (L.take k)):=by
 rw [List.take_succ_eq_append_getElem h,zgg,List.getD_eq_getElem?_getD,List.getElem?_eq_getElem h]
 rfl
theorem OwnI.cap {B:Nat} {e:TypeId} {ao:Option Addr} {n c:Nat} {L:List (List Nat)} {w:World} (h:OwnI B e (.slice ao n c) L w):L.length ≤ c ∧ (ao = none → c = 0):=by
 rcases h.2 with ⟨h1,h2⟩ | ⟨g,cap,cur,h1,h2,h3,h4,_⟩
 ·cases h1
  exact ⟨by omega,fun _=>rfl⟩
 ·cases h1
  exact ⟨h4,fun h=>by cases h⟩
theorem IAt.drop {ap:Option Addr} {L:List (List Nat)} {w:World} {c j:Nat} (h:IAt ap L w) (hc:L.length ≤ c):IAt (if c = j then ap else ap.map (·.add (j * 32))) (L.drop j) w:=by
 by_cases hj:L.length ≤ j
 ·exact .inl (List.drop_eq_nil_of_le hj)
 rw [if_neg (by omega)]
 rcases h with rfl | ⟨b,o,rfl,h2,h3⟩
 ·exact .inl (by simp)
 ·refine .inr ⟨b,o + j * 32,by simp [Addr.add_lit],h2,fun i hi=>?_⟩
  rw [List.length_drop] at hi
  have:=h3 (j + i) (by omega)
  rw [show o + 32 * (j + i) = o + j * 32 + 32 * i by omega] at this
  rw [List.getD_eq_getElem?_getD,List.getElem?_drop,← List.getD_eq_getElem?_getD]
  exact this
theorem IAt.take {ap:Option Addr} {L:List (List Nat)} {w:World} (h:IAt ap L w) (j:Nat):IAt ap (L.take j) w:=by
 rcases h with rfl | ⟨b,o,rfl,h2,h3⟩
 ·exact .inl (by simp)
 ·refine .inr ⟨b,o,rfl,h2,fun i hi=>?_⟩
  rw [List.length_take] at hi
  rw [List.getD_eq_getElem?_getD,List.getElem?_take_of_lt (by omega),← List.getD_eq_getElem?_getD]
  exact h3 i (by omega)
theorem zeu {ap:Option Addr} {c j:Nat} (h:ap = none → c = 0):(if c = j then ap else ap.map (·.add (j * 32))) = none → c - j = 0:=by
 intro he
 split at he
 ·omega
 ·cases ap with
  | none=>rw [h rfl];omega
  | some z=>cases he
theorem z5k (ap:Option Addr) (n c j:Nat) (hj:j ≤ n) (_hc:n ≤ c) (w:World):(Instr.sliceAt 34 (.slice ap n c) (some (.int .i64 (j:Int))) none none).run Tryz.prog w = .ok (.slice (if c = j then ap else ap.map (·.add (j * 32))) (n - j) (c - j)) w:=by
 go_simp
theorem z7y (ap:Option Addr) (n c j:Nat) (hj:j ≤ n) (hc:n ≤ c) (w:World):(Instr.sliceAt 34 (.slice ap n c) none (some (.int .i64 (j:Int))) (some (.int .i64 (j:Int)))).run Tryz.prog w = .ok (.slice ap j j) w:=by
 go_simp
 intro h
 omega
theorem z5m {g:Nat} {t:TypeId} {x:List Nat} {w:World} (h:Blk g t .u8 x w):IAt (some ⟨g,0,none⟩) [x] w :=
 .inr ⟨g,0,rfl,h.lt,fun i hi j v hj=>by
  obtain rfl:i = 0:=by simpa using hi
  have e:w.cell? ⟨g,j,none⟩ = (z07 .u8 x).toArray[j]?:=Lib.cell_of_heap h j
  rw [List.getElem?_toArray] at e
  simp only [Nat.mul_zero,Nat.zero_add]
  rw [e]
  simpa using hj⟩
def RisM (x:List Nat) (O:List (List Nat)) (j:Nat) (w7:World):Nat → Value → World → Prop
 | 0,_,w'=>Below w7.heap.size w7 w'
 | 1,v,w'=>Below w7.heap.size w7 w' ∧ ∃ g,v = .slice (some ⟨g,0,none⟩) 1 1 ∧ IAt (some ⟨g,0,none⟩) [x] w'
 | 2,v,w'=>Below w7.heap.size w7 w' ∧ OwnI w7.heap.size 25 v (O.take j ++ [x]) w'
 | _,v,w'=>Below w7.heap.size w7 w' ∧ OwnI w7.heap.size 25 v (O.take j ++ [x] ++ O.drop j) w'
theorem z9a (L:List (List Nat)) (ao:Option Addr) (n c:Nat) (w:World) (hL:Ids L) (hn:L.length = n) (hat:IAt ao L w) (h63:n ≤ 1000000) :
 Calls Tryz.prog 41 #[.slice ao n c] w fun e w'=>∃ v,e = .returned v ∧ OwnI w.heap.size 25 v (z0g L) w' ∧ Below w.heap.size w w':=by
 have HL:=Lib.hid hL
 have HN:=Shut.mk hn
 have HAT:=Lib.hid hat
 clear hL hn hat
 go_enter Tryz.func41,Tryz.ntmps41
 go_wp2_with fail
 go_loopw [3,10] (fun v i wr=>∃ k:Nat,k ≤ n ∧ i = .int .i64 k ∧ OwnI w.heap.size 25 v (z0g (L.take k)) wr ∧ Below w.heap.size w wr) (fun _ i _=>n - (intOf i).toNat)
 case atStart=>exact ⟨0,Nat.zero_le _,rfl,OwnI.nil _ _ _,Below.refl _ _⟩
 case round =>
  obtain ⟨k,hk,rfl,hown,hbw⟩:=hrel
  have HBW:=Lib.hid hbw
  by_cases hlt:k < n
  ·have hri:=Ids.take HL.out k
   have HOI:=Lib.hid (z4q hri)
   have HNX:=Shut.mk (zgw (L:=L) (k:=k) (by rw [HN.out];exact hlt))
   have hol:(z0g (L.take k)).length = k:=by rw [z36,List.length_take,HN.out];omega
   obtain ⟨O,hO⟩:∃ O,z0g (L.take k) = O:=⟨_,rfl⟩
   rw [hO] at hown HOI HNX hol
   have HOL:=Shut.mk hol
   obtain ⟨ap,cap,hv⟩:=hown.form
   subst hv
   have HOA:=Lib.hid (hown.at HOI.out)
   have HOWN:=Lib.hid hown
   rw [hol]
   have HATW:=Lib.hid (HAT.out.below hbw)
   obtain ⟨b,ob,rfl,hbl⟩:=HATW.out.some (by rw [HN.out];omega)
   have g1:=HATW.out.get (i:=k) (by rw [HN.out];omega)
   have i1:=Ids.getD HL.out (i:=k) (by rw [HN.out];omega)
   obtain ⟨x,hx⟩:∃ x,L.getD k [] = x:=⟨_,rfl⟩
   rw [hx] at g1 i1 HNX
   have HG1:=Lib.hid g1
   have HI1:=Lib.hid i1
   have HS1:=Lib.hid (show (Tryz.prog.info? 25).map (·.size) = some x.length by rw [i1.1];exact Tryz.sizeI)
   have HL2:=Lib.hid (show (List.replicate 32 0).length = x.length by rw [i1.1];rfl)
   clear hx g1 i1 hbl hbw hri hol hO hown
   go_wp2_with (first
    | (refine z0a rfl 25 _ rfl b (ob + k * 32) x _ rfl HG1.out Tryz.underlying25 rfl HS1.out ?_)
    | (refine z06 rfl 25 _ _ rfl rfl wr.heap.size .u8 (List.replicate 32 0) x 25 rfl rfl (heap_alloc_new wr _) HS1.out HL2.out ?_))
   intro w5 hc' hb'
   have HY:=Lib.hid hc'.out
   have HBY:=Lib.hid (show Below wr.heap.size wr w5 from But.toBelow ((Below.refl _ _).alloc (Nat.le_refl _) _) hb'.out (Nat.le_refl _) (by rw [World.size_alloc];exact Nat.le_succ _))
   have HB5:=Lib.hid (HBW.out.trans (HBY.out.mono HBW.out.size))
   clear hc' hb' HL2
   go_wp2_with fail
   obtain ⟨wo,hwo⟩:∃ x,x = wr:=⟨_,rfl⟩
   subst hwo
   go_loopw [6] (fun i wq=>∃ j:Nat,j ≤ k ∧ j ≤ zgj x O ∧ i = .int .i64 j ∧ Below w5.heap.size w5 wq) (fun i _=>k - (intOf i).toNat)
   case atStart=>exact ⟨0,Nat.zero_le _,Nat.zero_le _,rfl,Below.refl _ _⟩
   case round =>
    obtain ⟨j,hj,hjp,rfl,hbq⟩:=hrel
    have HBQ:=Lib.hid hbq
    have HPL:=Lib.hid hjp
    have HYQ:=Lib.hid (fun (w':World) (q:Below wr.heap.size wr w')=>(HY.out.below hbq).below q)
    have HOQ:=Lib.hid ((HOA.out.below HBY.out).below hbq)
    clear hbq hjp
    by_cases hjk:j < k
    ·have HST:=Lib.hid (zfl x O j (by rw [HOL.out];exact hjk) HPL.out)
     obtain ⟨bo,oo,rfl,hbo⟩:=HOQ.out.some (by rw [HOL.out];omega)
     have g2:=HOQ.out.get (i:=j) (by rw [HOL.out];omega)
     have i2:=Ids.getD HOI.out (i:=j) (by rw [HOL.out];omega)
     obtain ⟨y,hy⟩:∃ y,O.getD j [] = y:=⟨_,rfl⟩
     rw [hy] at g2 i2 HST
     have HG2:=Lib.hid (fun (w':World) (q:Below wr.heap.size wr w')=>show w'.rangeAt bo (oo + j * 32) (z07 .u8 y) from z08 g2 q hbo)
     have HS2:=Lib.hid (show (Tryz.prog.info? 25).map (·.size) = some y.length by rw [i2.1];exact Tryz.sizeI)
     have HC:=Lib.hid (fun w'=>z5z y x i2 HI1.out w')
     have hth:=zck y x
     obtain ⟨r,hr⟩:∃ r,z1t y x = r:=⟨_,rfl⟩
     rw [hr] at HC HST hth
     clear hy g2 i2 hbo hr
     by_cases hr1:r = -1
     ·subst hr1
      have HPS:=Lib.hid (show j + 1 ≤ zgj x O from HST.out.2 rfl)
      clear hth HST
      go_upto_region 6 with (fail)
      refine z09 (fun w'=>Below wr.heap.size wr w') (by kernel_rfl) (by kernel_rfl) (Below.refl _ _).drew ?_
      repeat (first
       | go_big_quiet_skip
       | (go_big_quiet_want;refine z0x 25 _ rfl wo.heap.size .u8 x 25 _ rfl HYQ.out Tryz.underlying25 rfl HS1.out ?_;go_big_quiet_on;simp only [Act.put,zS,zA,zB])
       | (go_big_quiet_want;refine z0i 25 _ rfl bo (oo + j * 32) y _ rfl HG2.out Tryz.underlying25 rfl HS2.out ?_;go_big_quiet_on;simp only [Act.put,zS,zA,zB])
       | go_big_quiet_step ((intro hs';first
        | (go_at_call 53;exact (HC.out _).mono fun e w' h=>⟨h.1,hs'.trans (h.2.mono hs'.size)⟩)
        | rfl)))
      refine wpQuiet_nil ?_
      intro w6 hb6
      go_wp2_with fail
      exact ⟨⟨j + 1,by omega,HPS.out,by go_num,HBQ.out.trans (hb6.mono HBQ.out.size)⟩,by simp [intOf];omega⟩
     ·have hr0:¬ r < 0:=by omega
      have HPO:=Lib.hid (show zgj x O ≤ j from Nat.le_of_not_lt fun h=>hr1 (HST.out.1 h))
      clear hth HST hr1
      go_upto_region 6 with (fail)
      refine z09 (fun w'=>Below wr.heap.size wr w') (by kernel_rfl) (by kernel_rfl) (Below.refl _ _).drew ?_
      repeat (first
       | go_big_quiet_skip
       | (go_big_quiet_want;refine z0x 25 _ rfl wo.heap.size .u8 x 25 _ rfl HYQ.out Tryz.underlying25 rfl HS1.out ?_;go_big_quiet_on;simp only [Act.put,zS,zA,zB])
       | (go_big_quiet_want;refine z0i 25 _ rfl bo (oo + j * 32) y _ rfl HG2.out Tryz.underlying25 rfl HS2.out ?_;go_big_quiet_on;simp only [Act.put,zS,zA,zB])
       | go_big_quiet_step ((intro hs';first
        | (go_at_call 53;exact (HC.out _).mono fun e w' h=>⟨h.1,hs'.trans (h.2.mono hs'.size)⟩)
        | rfl)))
      refine wpQuiet_nil ?_
      intro w6 hb6
      have HB6:=Lib.hid (HBQ.out.trans (hb6.mono HBQ.out.size))
      clear hb6 hr0 HG2 HS2 HC HYQ HOQ
      have HJP:=Shut.mk (show j = zgj x O by have:=HPO.out;have:=HPL.out;omega)
      obtain ⟨hkc,hcn⟩:=OwnI.cap HOWN.out
      rw [HOL.out] at hkc
      have HB0:=Lib.hid (HBY.out.trans (HB6.out.mono HBY.out.size))
      have hdr:=IAt.drop (j:=j) (c:=cap) (HOA.out.below HB0.out) (by rw [HOL.out];exact hkc)
      have hsl:=z5k (some ⟨bo,oo,none⟩) k cap j hj hkc
      have hni:=zeu (j:=j) hcn
      obtain ⟨RA,hRA⟩:∃ RA:Option Addr,(if cap = j then (some ⟨bo,oo,none⟩) else Option.map (fun z:Addr=>z.add (j * 32)) (some ⟨bo,oo,none⟩)) = RA:=⟨_,rfl⟩
      rw [hRA] at hdr hni
      simp only [hRA] at hsl
      have HSL:=Lib.hid hsl
      have HNI:=Lib.hid hni
      have HDR:=Lib.hid hdr
      have HSM:=Lib.hid (fun w=>z7y (some ⟨bo,oo,none⟩) k cap j hj hkc w)
      clear hRA hdr hsl hni
      go_upto_region 8 with (fail)
      refine wp_region_lit ?_
      iterate 9 (first | go_skip | go_guarded | go_step)
      refine z27 rfl 34 (.tmp 30) (.tmp 31) rfl _ _ _ rfl rfl HSL.out ?_
      simp only [Act.put,zS,zA,zB]
      refine z0w rfl (.tmp 29) (.tmp 32) 34 25 rfl w6.heap.size (.agg (z07 .u8 (List.replicate 32 0)).toArray) rfl Tryz.underlying34 Tryz.infoI32 (.slice (some ⟨w6.heap.size,0,none⟩) 0 0) [] (O.drop j) (HOI.out.drop j) _ _ _ (by rw [List.length_drop,HOL.out]) rfl (World.ownsRow_lit w6 #[] 0 (Nat.le_refl _) (by unfold maxLen;omega) rfl) rfl (HDR.out.below ((Below.refl _ _).alloc (Nat.le_refl _) _)) HNI.out (by rw [List.length_drop,HOL.out];simp;omega) (by rw [World.size_alloc];exact Nat.le_succ _) ?_
      intro v7 w7 ho7 hg7 _
      rw [List.nil_append] at ho7
      obtain ⟨a7,c7,hv7⟩:=ho7.out.form
      rw [List.length_drop,HOL.out] at hv7
      have hb7:Below w6.heap.size w6 w7:=((Below.refl w6.heap.size _).grown hg7.out (by rw [World.size_alloc];exact Nat.le_succ _) (fun g hg=>by cases hg;exact Nat.le_refl _) |> fun q=>((Below.refl _ _).alloc (Nat.le_refl _) _).trans q)
      have HO7A:=Lib.hid (show IAt a7 (O.drop j) w7 from OwnI.at (hv7 ▸ ho7.out) (HOI.out.drop j))
      have HN7:=Lib.hid (OwnI.cap (hv7 ▸ ho7.out)).2
      have HV7:=Shut.mk hv7
      have HYW:=Lib.hid (HY.out.below (HB6.out.trans (hb7.mono HB6.out.size)))
      have HOT:=Lib.hid (show IAt (some ⟨bo,oo,none⟩) (O.take j) w7 from ((HOA.out.below HB0.out).below hb7).take j)
      have HB7:=Lib.hid (HB5.out.trans ((HB6.out.trans (hb7.mono HB6.out.size)).mono HB5.out.size))
      clear ho7 hg7 hb7 hv7 HSL HDR HNI HB0 HOA HOWN
      go_wp2_with fail
      refine z0e 9 (fun q V w'=>Vals q V [(0,.slice (some ⟨bo,oo,none⟩) k cap),(1,.int .i64 (j:Int)),(2,.int .i64 (j:Int)),(3,.slice (some ⟨bo,oo,none⟩) j j),(4,.agg (z07 .u8 x).toArray),(7,v7)] ∧ Below w7.heap.size w7 w' ∧ Chain [5,6,8] (fun w'=>Below w7.heap.size w7 w') (RisM x O j w7) q V w') (fun | 0=>u34 | 1=>u35 | 2=>u36 | 3=>u37 | 4=>u38 | 5=>u39 | 6=>u40 | 7=>u41 | 8=>u42 | _=>undef) (by kernel_rfl) (by kernel_rfl) (by kernel_rfl) (by simp only [zC,zD,z0h,Act.put,zS,zA,zB]) ⟨Vals.none,(Below.refl _ _).drew,Chain.none (Below.refl _ _).drew (fun _=>(Below.refl _ _).drew)⟩ ?_ ?_
      ·simp only [zC,zD,z0h,Nat.zero_add,Nat.reduceAdd,Act.put,zS,zA,zB]
       refine zQc ?_ (zQc ?_ (zQc ?_ (zQc ?_ (zQc ?_ (zQc ?_ (zQc ?_ (zQc ?_ (zQc ?_ (zQn)))))))))
       all_goals (refine zQf rfl ?_;rintro q V wq hr hu ⟨hVs,hb,hch⟩ K hK)
       ·exact z0f (.tmp 3) rfl _ rfl (hK _ _ ⟨hVs.set rfl,hb,hch.ne (by decide) (by decide)⟩)
       ·exact z0f (.tmp 6) rfl _ rfl (hK _ _ ⟨hVs.set rfl,hb,hch.ne (by decide) (by decide)⟩)
       ·exact z0f (.tmp 6) rfl _ rfl (hK _ _ ⟨hVs.set rfl,hb,hch.ne (by decide) (by decide)⟩)
       ·exact zbx 34 (.tmp 34) (.tmp 35) (.tmp 36) rfl _ _ _ _ (hVs.get 0 (hr { on:=0,ground:=.data } (by simp) rfl) rfl) (hVs.get 1 (hr { on:=1,ground:=.data } (by simp) rfl) rfl) (hVs.get 2 (hr { on:=2,ground:=.data } (by simp) rfl) rfl) HSM.out (hK _ _ ⟨hVs.set rfl,hb,hch.ne (by decide) (by decide)⟩)
       ·exact z1k 25 (.tmp 5) rfl wo.heap.size .u8 x 25 _ rfl (HYW.out.below hb) Tryz.underlying25 rfl HS1.out (hK _ _ ⟨hVs.set rfl,hb,hch.ne (by decide) (by decide)⟩)
       ·have hm:Below w7.heap.size w7 wq:=hch.at 0 (by decide) hu (.inl rfl)
        refine z1q (ops:=#[]) rfl (z13 rfl 34 25 (.tmp 38) rfl x (hVs.get 4 (hr { on:=4,ground:=.data } (by simp) rfl) rfl) HI1.out.1 Tryz.underlying34 Tryz.infoI32 ?_)
        intro w' hk' hb'
        have hbn:Below w7.heap.size w7 w':=Below.trans hm (hb'.out.mono hm.size)
        have hb':=hb'.out.mono hm.size
        have hc5:=hch.step (v:=.slice (some ⟨wq.heap.size,0,none⟩) 1 1) 0 (by decide) (by decide) hu (.inl rfl) hbn ⟨hbn,wq.heap.size,rfl,z5m hk'.out⟩
        exact ⟨rfl,(hK _ _ ⟨hVs.off rfl,hb.trans hb',hc5⟩)⟩
       ·obtain ⟨hm,g,hv5,hcl⟩:RisM x O j w7 1 (V 5) wq:=hch.at 1 (by decide) hu (.inr (hr { on:=5,ground:=.data } (by simp) rfl))
        refine z1q (ops:=#[]) rfl (z5c rfl (.tmp 37) (.tmp 39) 34 25 rfl (.agg (z07 .u8 (List.replicate 32 0)).toArray) rfl Tryz.underlying34 Tryz.infoI32 (O.take j) [x] (HOI.out.take j) (Ids.one HI1.out.1 HI1.out.2) _ j (by rw [List.length_take,HOL.out];omega) ⟨g,0,none⟩ 1 1 rfl (by decide) (hVs.get 3 (hr { on:=3,ground:=.data } (by simp) rfl) rfl) (HOT.out.below hb) hv5 hcl (by rw [List.length_take,HOL.out];simp;omega) ?_)
        intro v' w' ho' hb'
        have hbn:Below w7.heap.size w7 w':=Below.trans hm (hb'.out.mono hm.size)
        have hb':=hb'.out.mono hm.size
        have hc6:=hch.step (v:=v') 1 (by decide) (by decide) hu (.inr (hr { on:=5,ground:=.data } (by simp) rfl)) hbn ⟨hbn,ho'.out.mono hm.size⟩
        exact ⟨rfl,(hK _ _ ⟨hVs.off rfl,hb.trans hb',hc6⟩)⟩
       ·exact z0f (.tmp 7) rfl _ rfl (hK _ _ ⟨hVs.set rfl,hb,hch.ne (by decide) (by decide)⟩)
       ·obtain ⟨hm,hv6⟩:RisM x O j w7 2 (V 6) wq:=hch.at 2 (by decide) hu (.inr (hr { on:=6,ground:=.data } (by simp) rfl))
        refine z1q (ops:=#[]) rfl (z0w rfl (.tmp 40) (.tmp 41) 34 25 rfl w7.heap.size (.agg (z07 .u8 (List.replicate 32 0)).toArray) rfl Tryz.underlying34 Tryz.infoI32 _ (O.take j ++ [x]) (O.drop j) (HOI.out.drop j) a7 (k - j) c7 (by rw [List.length_drop,HOL.out]) rfl hv6 ((hVs.get 7 (hr { on:=7,ground:=.data } (by simp) rfl) rfl).trans HV7.out) (HO7A.out.below hb) HN7.out (by rw [List.length_append,List.length_take,List.length_drop,HOL.out];simp;omega) hm.size ?_)
        intro v' w' ho' hg' _
        have hb':Below w7.heap.size wq w':=(Below.refl _ _).grown hg'.out hm.size (fun g hg=>(World.ownsRow.lt hv6 g hg).1)
        have hbn:=Below.trans hm hb'
        have hc8:=hch.step (v:=v') 2 (by decide) (by decide) hu (.inr (hr { on:=6,ground:=.data } (by simp) rfl)) hbn ⟨hbn,ho'.out⟩
        exact ⟨rfl,(hK _ _ ⟨hVs.off rfl,hb.trans hb',hc8⟩)⟩
      rintro q V wq hall ⟨hVs,hb,hch⟩
      have v0:=hVs.get 0 (hall 0 (by decide)) rfl
      have v1:=hVs.get 1 (hall 1 (by decide)) rfl
      have v2:=hVs.get 2 (hall 2 (by decide)) rfl
      have v3:=hVs.get 3 (hall 3 (by decide)) rfl
      have v4:=hVs.get 4 (hall 4 (by decide)) rfl
      obtain ⟨u5,v5⟩:∃ v,V 5 = v:=⟨_,rfl⟩
      obtain ⟨u6,v6⟩:∃ v,V 6 = v:=⟨_,rfl⟩
      have v7:=hVs.get 7 (hall 7 (by decide)) rfl
      obtain ⟨u8,v8⟩:∃ v,V 8 = v:=⟨_,rfl⟩
      obtain ⟨hbl,hrow⟩:RisM x O j w7 3 (V 8) wq:=hch.fin (fun p hp=>by match p,hp with | 0,_=>exact hall 5 (by decide) | 1,_=>exact hall 6 (by decide) | 2,_=>exact hall 8 (by decide))
      have hrow:OwnI w7.heap.size 25 (V 8) (O.take j ++ [x] ++ O.drop j) wq:=hrow
      rw [v8] at hrow
      have HROW:=Lib.hid hrow
      have HBL:=Lib.hid hbl
      clear hrow hbl hch
      simp only [zC,zD,zE,zF,z0h,Nat.zero_add,Nat.reduceAdd,v0,v1,v2,v3,v4,v5,v6,v7,v8,Act.put,zS,zA,zB]
      clear hVs v0 v1 v2 v3 v4 v5 v6 v7 v8 hall
      go_wp2_with fail
      have HIN:=Shut.mk (show z0g (L.take (k + 1)) = O.take j ++ [x] ++ O.drop j by rw [HNX.out,zdm,← HJP.out];simp)
      exact ⟨⟨k + 1,by omega,by go_num,by rw [HIN.out];exact HROW.out.mono HB7.out.size,HB7.out.trans (HBL.out.mono HB7.out.size)⟩,by simp [intOf];omega⟩
    ·have HPO:=Lib.hid (show zgj x O ≤ j by have:=zm5 x O;rw [HOL.out] at this;omega)
     go_upto_region 6 with (fail)
     refine z09 (fun w'=>Below wr.heap.size wr w') (by kernel_rfl) (by kernel_rfl) (Below.refl _ _).drew ?_
     repeat (first
      | go_big_quiet_skip
      | go_big_quiet_step ((intro hs';rfl)))
     refine wpQuiet_nil ?_
     intro w6 hb6
     have HB6:=Lib.hid (HBQ.out.trans (hb6.mono HBQ.out.size))
     clear hb6 HYQ HOQ
     have HJP:=Shut.mk (show j = zgj x O by have:=HPO.out;have:=HPL.out;omega)
     obtain ⟨hkc,hcn⟩:=OwnI.cap HOWN.out
     rw [HOL.out] at hkc
     have HB0:=Lib.hid (HBY.out.trans (HB6.out.mono HBY.out.size))
     have hdr:=IAt.drop (j:=j) (c:=cap) (HOA.out.below HB0.out) (by rw [HOL.out];exact hkc)
     have hsl:=z5k ap k cap j hj hkc
     have hni:=zeu (j:=j) hcn
     obtain ⟨RA,hRA⟩:∃ RA:Option Addr,(if cap = j then ap else Option.map (fun z:Addr=>z.add (j * 32)) ap) = RA:=⟨_,rfl⟩
     rw [hRA] at hdr hni
     simp only [hRA] at hsl
     have HSL:=Lib.hid hsl
     have HNI:=Lib.hid hni
     have HDR:=Lib.hid hdr
     have HSM:=Lib.hid (fun w=>z7y ap k cap j hj hkc w)
     clear hRA hdr hsl hni
     go_upto_region 8 with (fail)
     refine wp_region_lit ?_
     iterate 9 (first | go_skip | go_guarded | go_step)
     refine z27 rfl 34 (.tmp 30) (.tmp 31) rfl _ _ _ rfl rfl HSL.out ?_
     simp only [Act.put,zS,zA,zB]
     refine z0w rfl (.tmp 29) (.tmp 32) 34 25 rfl w6.heap.size (.agg (z07 .u8 (List.replicate 32 0)).toArray) rfl Tryz.underlying34 Tryz.infoI32 (.slice (some ⟨w6.heap.size,0,none⟩) 0 0) [] (O.drop j) (HOI.out.drop j) _ _ _ (by rw [List.length_drop,HOL.out]) rfl (World.ownsRow_lit w6 #[] 0 (Nat.le_refl _) (by unfold maxLen;omega) rfl) rfl (HDR.out.below ((Below.refl _ _).alloc (Nat.le_refl _) _)) HNI.out (by rw [List.length_drop,HOL.out];simp;omega) (by rw [World.size_alloc];exact Nat.le_succ _) ?_
     intro v7 w7 ho7 hg7 _
     rw [List.nil_append] at ho7
     obtain ⟨a7,c7,hv7⟩:=ho7.out.form
     rw [List.length_drop,HOL.out] at hv7
     have hb7:Below w6.heap.size w6 w7:=((Below.refl w6.heap.size _).grown hg7.out (by rw [World.size_alloc];exact Nat.le_succ _) (fun g hg=>by cases hg;exact Nat.le_refl _) |> fun q=>((Below.refl _ _).alloc (Nat.le_refl _) _).trans q)
     have HO7A:=Lib.hid (show IAt a7 (O.drop j) w7 from OwnI.at (hv7 ▸ ho7.out) (HOI.out.drop j))
     have HN7:=Lib.hid (OwnI.cap (hv7 ▸ ho7.out)).2
     have HV7:=Shut.mk hv7
     have HYW:=Lib.hid (HY.out.below (HB6.out.trans (hb7.mono HB6.out.size)))
     have HOT:=Lib.hid (show IAt ap (O.take j) w7 from ((HOA.out.below HB0.out).below hb7).take j)
     have HB7:=Lib.hid (HB5.out.trans ((HB6.out.trans (hb7.mono HB6.out.size)).mono HB5.out.size))
     clear ho7 hg7 hb7 hv7 HSL HDR HNI HB0 HOA HOWN
     go_wp2_with fail
     refine z0e 9 (fun q V w'=>Vals q V [(0,.slice ap k cap),(1,.int .i64 (j:Int)),(2,.int .i64 (j:Int)),(3,.slice ap j j),(4,.agg (z07 .u8 x).toArray),(7,v7)] ∧ Below w7.heap.size w7 w' ∧ Chain [5,6,8] (fun w'=>Below w7.heap.size w7 w') (RisM x O j w7) q V w') (fun | 0=>u34 | 1=>u35 | 2=>u36 | 3=>u37 | 4=>u38 | 5=>u39 | 6=>u40 | 7=>u41 | 8=>u42 | _=>undef) (by kernel_rfl) (by kernel_rfl) (by kernel_rfl) (by simp only [zC,zD,z0h,Act.put,zS,zA,zB]) ⟨Vals.none,(Below.refl _ _).drew,Chain.none (Below.refl _ _).drew (fun _=>(Below.refl _ _).drew)⟩ ?_ ?_
     ·simp only [zC,zD,z0h,Nat.zero_add,Nat.reduceAdd,Act.put,zS,zA,zB]
      refine zQc ?_ (zQc ?_ (zQc ?_ (zQc ?_ (zQc ?_ (zQc ?_ (zQc ?_ (zQc ?_ (zQc ?_ (zQn)))))))))
      all_goals (refine zQf rfl ?_;rintro q V wq hr hu ⟨hVs,hb,hch⟩ K hK)
      ·exact z0f (.tmp 3) rfl _ rfl (hK _ _ ⟨hVs.set rfl,hb,hch.ne (by decide) (by decide)⟩)
      ·exact z0f (.tmp 6) rfl _ rfl (hK _ _ ⟨hVs.set rfl,hb,hch.ne (by decide) (by decide)⟩)
      ·exact z0f (.tmp 6) rfl _ rfl (hK _ _ ⟨hVs.set rfl,hb,hch.ne (by decide) (by decide)⟩)
      ·exact zbx 34 (.tmp 34) (.tmp 35) (.tmp 36) rfl _ _ _ _ (hVs.get 0 (hr { on:=0,ground:=.data } (by simp) rfl) rfl) (hVs.get 1 (hr { on:=1,ground:=.data } (by simp) rfl) rfl) (hVs.get 2 (hr { on:=2,ground:=.data } (by simp) rfl) rfl) HSM.out (hK _ _ ⟨hVs.set rfl,hb,hch.ne (by decide) (by decide)⟩)
      ·exact z1k 25 (.tmp 5) rfl wo.heap.size .u8 x 25 _ rfl (HYW.out.below hb) Tryz.underlying25 rfl HS1.out (hK _ _ ⟨hVs.set rfl,hb,hch.ne (by decide) (by decide)⟩)
      ·have hm:Below w7.heap.size w7 wq:=hch.at 0 (by decide) hu (.inl rfl)
       refine z1q (ops:=#[]) rfl (z13 rfl 34 25 (.tmp 38) rfl x (hVs.get 4 (hr { on:=4,ground:=.data } (by simp) rfl) rfl) HI1.out.1 Tryz.underlying34 Tryz.infoI32 ?_)
       intro w' hk' hb'
       have hbn:Below w7.heap.size w7 w':=Below.trans hm (hb'.out.mono hm.size)
       have hb':=hb'.out.mono hm.size
       have hc5:=hch.step (v:=.slice (some ⟨wq.heap.size,0,none⟩) 1 1) 0 (by decide) (by decide) hu (.inl rfl) hbn ⟨hbn,wq.heap.size,rfl,z5m hk'.out⟩
       exact ⟨rfl,(hK _ _ ⟨hVs.off rfl,hb.trans hb',hc5⟩)⟩
      ·obtain ⟨hm,g,hv5,hcl⟩:RisM x O j w7 1 (V 5) wq:=hch.at 1 (by decide) hu (.inr (hr { on:=5,ground:=.data } (by simp) rfl))
       refine z1q (ops:=#[]) rfl (z5c rfl (.tmp 37) (.tmp 39) 34 25 rfl (.agg (z07 .u8 (List.replicate 32 0)).toArray) rfl Tryz.underlying34 Tryz.infoI32 (O.take j) [x] (HOI.out.take j) (Ids.one HI1.out.1 HI1.out.2) _ j (by rw [List.length_take,HOL.out];omega) ⟨g,0,none⟩ 1 1 rfl (by decide) (hVs.get 3 (hr { on:=3,ground:=.data } (by simp) rfl) rfl) (HOT.out.below hb) hv5 hcl (by rw [List.length_take,HOL.out];simp;omega) ?_)
       intro v' w' ho' hb'
       have hbn:Below w7.heap.size w7 w':=Below.trans hm (hb'.out.mono hm.size)
       have hb':=hb'.out.mono hm.size
       have hc6:=hch.step (v:=v') 1 (by decide) (by decide) hu (.inr (hr { on:=5,ground:=.data } (by simp) rfl)) hbn ⟨hbn,ho'.out.mono hm.size⟩
       exact ⟨rfl,(hK _ _ ⟨hVs.off rfl,hb.trans hb',hc6⟩)⟩
      ·exact z0f (.tmp 7) rfl _ rfl (hK _ _ ⟨hVs.set rfl,hb,hch.ne (by decide) (by decide)⟩)
      ·obtain ⟨hm,hv6⟩:RisM x O j w7 2 (V 6) wq:=hch.at 2 (by decide) hu (.inr (hr { on:=6,ground:=.data } (by simp) rfl))
       refine z1q (ops:=#[]) rfl (z0w rfl (.tmp 40) (.tmp 41) 34 25 rfl w7.heap.size (.agg (z07 .u8 (List.replicate 32 0)).toArray) rfl Tryz.underlying34 Tryz.infoI32 _ (O.take j ++ [x]) (O.drop j) (HOI.out.drop j) a7 (k - j) c7 (by rw [List.length_drop,HOL.out]) rfl hv6 ((hVs.get 7 (hr { on:=7,ground:=.data } (by simp) rfl) rfl).trans HV7.out) (HO7A.out.below hb) HN7.out (by rw [List.length_append,List.length_take,List.length_drop,HOL.out];simp;omega) hm.size ?_)
       intro v' w' ho' hg' _
       have hb':Below w7.heap.size wq w':=(Below.refl _ _).grown hg'.out hm.size (fun g hg=>(World.ownsRow.lt hv6 g hg).1)
       have hbn:=Below.trans hm hb'
       have hc8:=hch.step (v:=v') 2 (by decide) (by decide) hu (.inr (hr { on:=6,ground:=.data } (by simp) rfl)) hbn ⟨hbn,ho'.out⟩
       exact ⟨rfl,(hK _ _ ⟨hVs.off rfl,hb.trans hb',hc8⟩)⟩
     rintro q V wq hall ⟨hVs,hb,hch⟩
     have v0:=hVs.get 0 (hall 0 (by decide)) rfl
     have v1:=hVs.get 1 (hall 1 (by decide)) rfl
     have v2:=hVs.get 2 (hall 2 (by decide)) rfl
     have v3:=hVs.get 3 (hall 3 (by decide)) rfl
     have v4:=hVs.get 4 (hall 4 (by decide)) rfl
     obtain ⟨u5,v5⟩:∃ v,V 5 = v:=⟨_,rfl⟩
     obtain ⟨u6,v6⟩:∃ v,V 6 = v:=⟨_,rfl⟩
     have v7:=hVs.get 7 (hall 7 (by decide)) rfl
     obtain ⟨u8,v8⟩:∃ v,V 8 = v:=⟨_,rfl⟩
     obtain ⟨hbl,hrow⟩:RisM x O j w7 3 (V 8) wq:=hch.fin (fun p hp=>by match p,hp with | 0,_=>exact hall 5 (by decide) | 1,_=>exact hall 6 (by decide) | 2,_=>exact hall 8 (by decide))
     have hrow:OwnI w7.heap.size 25 (V 8) (O.take j ++ [x] ++ O.drop j) wq:=hrow
     rw [v8] at hrow
     have HROW:=Lib.hid hrow
     have HBL:=Lib.hid hbl
     clear hrow hbl hch
     simp only [zC,zD,zE,zF,z0h,Nat.zero_add,Nat.reduceAdd,v0,v1,v2,v3,v4,v5,v6,v7,v8,Act.put,zS,zA,zB]
     clear hVs v0 v1 v2 v3 v4 v5 v6 v7 v8 hall
     go_wp2_with fail
     have HIN:=Shut.mk (show z0g (L.take (k + 1)) = O.take j ++ [x] ++ O.drop j by rw [HNX.out,zdm,← HJP.out];simp)
     exact ⟨⟨k + 1,by omega,by go_num,by rw [HIN.out];exact HROW.out.mono HB7.out.size,HB7.out.trans (HBL.out.mono HB7.out.size)⟩,by simp [intOf];omega⟩
  ·obtain rfl:k = n:=by omega
   have HR:=Shut.mk (show z0g (L.take k) = z0g L by rw [List.take_of_length_le (Nat.le_of_eq HN.out)])
   have HOWN:=Lib.hid hown
   clear hown hbw
   go_wp2_with fail
   go_ret
   exact ⟨_,rfl,by rw [← HR.out];exact HOWN.out,HBW.out⟩
theorem za7 (ap:Option Addr) (n c j:Nat) (hj:j ≤ n) (hc:n ≤ c) (w:World):(Instr.sliceAt 29 (.slice ap n c) none (some (.int .i64 (j:Int))) none).run Tryz.prog w = .ok (.slice ap j c) w:=by
 go_simp
 intro h
 omega
theorem z7t (ap:Option Addr) (n c j:Nat) (hj:j ≤ n) (_hc:n ≤ c) (w:World):(Instr.sliceAt 29 (.slice ap n c) (some (.int .i64 (j:Int))) none none).run Tryz.prog w = .ok (.slice (if c = j then ap else ap.map (·.add (j * 38))) (n - j) (c - j)) w:=by
 go_simp
theorem z74 (ap:Option Addr) (n c j:Nat) (hj:j ≤ n) (hc:n ≤ c) (w:World):(Instr.sliceAt 34 (.slice ap n c) none (some (.int .i64 (j:Int))) none).run Tryz.prog w = .ok (.slice ap j c) w:=by
 go_simp
 intro h
 omega
theorem z1f (gs k:Nat) (hk:k < 4) (w:World):(Instr.fieldAt 36 (.pointer (some ⟨gs,0,none⟩)) k).run Tryz.prog w = .ok (.pointer (some ⟨gs,k,none⟩)) w:=by
 match k,hk with
 | 0,_=>go_simp
 | 1,_=>go_simp
 | 2,_=>go_simp
 | 3,_=>go_simp
theorem z2s:(Tryz.prog.info? 38).map (fun i=>(i.zero,i.size,i.bytes)) = some (some (.agg (opV z05 none 0)),38,112):=by kernel_rfl
section
variable {o:Oper} {a:Act} {w:World} {K:Act → World → Prop} {Q:Exit → Act → World → Prop}
theorem z7j (z:Operand) (ho:o.op = .buildSlice 29 1 #[(0,z)]) (X:Nat → Prop) (y:OpN) (pa:Option Addr) (pc:Nat) (hy:y.d.ref.length = 32) (hz:a.eval z = .agg (opV y pa pc)) (hia:IAt pa y.preds w) (hoff:OffX X pa y.preds)
 (h:∀ w',Below w.heap.size w w' → OpsX X (some ⟨w.heap.size,0,none⟩) [y] w' → K (a.put o.dst (.slice (some ⟨w.heap.size,0,none⟩) 1 1)) w'):OpWp Tryz.prog o a w K Q:=by
 have hb:Below w.heap.size w (w.alloc (.cells (opL y pa pc).toArray 38)):=(Below.refl _ _).alloc (Nat.le_refl _) _
 refine z8k 29 38 z ho (opL y pa pc) hz (z3s 29 38 (opL y pa pc) _ _ _ Tryz.underlying29 z2s (z16 hy) (by decide) (by decide)) (h _ hb ?_)
 refine .inr ⟨w.heap.size,0,rfl,by rw [World.size_alloc];exact Nat.lt_succ_self _,fun i x hx=>?_⟩
 obtain ⟨rfl,rfl⟩:i = 0 ∧ y = x:=by
  have hi:i = 0:=by
   have:=(List.getElem?_eq_some_iff.1 hx).1
   simpa using this
  subst hi
  exact ⟨rfl,by simpa using hx⟩
 refine ⟨pa,pc,fun j v hj=>?_,hia.below hb,hoff⟩
 have e:(w.alloc (.cells (opL y pa pc).toArray 38)).cell? ⟨w.heap.size,j,none⟩ = (opL y pa pc).toArray[j]?:=Lib.cell_of_heap (heap_alloc_new w _) j
 rw [List.getElem?_toArray] at e
 simp only [Nat.zero_mul,Nat.zero_add]
 rw [e]
 exact hj
theorem z30 (hg:o.guard = none) (s z:Operand) (ho:o.op = .call { callee:=.builtin .append,args:=#[s,z],argTypes:=#[29,29] }) (X:Nat → Prop) (B:Nat) (v:Value) (L M:List OpN) (hM:∀ y ∈ M,y.d.ref.length = 32) (ad:Addr) (n c:Nat) (hn:n = M.length)
 (hs:a.eval s = v) (hown:OwnX X B 38 v L w) (hX:∀ g,v.ownBlock = some g → X g) (hz:a.eval z = .slice (some ad) n c) (hsrc:OpsX X (some ad) M w) (h63:L.length + M.length ≤ 1000000) (hB:B ≤ w.heap.size)
 (h:∀ v' w',OwnX X B 38 v' (L ++ M) w' → w.grownBy w' v.ownBlock → (v'.ownBlock = v.ownBlock ∨ v'.ownBlock = some w.heap.size) → K (a.put o.dst v') w'):OpWp Tryz.prog o a w K Q :=
 z1q (ops:=#[]) hg (z17 hg s z 29 38 ho B 112 (.agg (opV z05 none 0)) rfl (by decide) Tryz.underlying29 z2s X v L M hM ad n c hn hs hown hX hz hsrc h63 hB
  (fun v' w' h1 h2 h3=>⟨rfl,h v' w' (h1.out.mono (fun _=>.inl) (Nat.le_refl _)) h2.out h3.out⟩))
theorem z7m (hg:o.guard = none) (z:Operand) (ho:o.op = .buildSlice 34 1 #[(0,z)]) (y:List Nat) (hy:y.length = 32) (hz:a.eval z = .agg (z07 .u8 y).toArray)
 (h:∀ w',Below w.heap.size w w' → IAt (some ⟨w.heap.size,0,none⟩) [y] w' → K (a.put o.dst (.slice (some ⟨w.heap.size,0,none⟩) 1 1)) w'):OpWp Tryz.prog o a w K Q :=
 z1q (ops:=#[]) hg (z13 hg 34 25 z ho y hz hy Tryz.underlying34 Tryz.infoI32 (fun w' h1 h2=>⟨rfl,h w' h2.out (z5m h1.out)⟩))
theorem z3n (hg:o.guard = none) (s z:Operand) (ho:o.op = .call { callee:=.builtin .append,args:=#[s,z],argTypes:=#[34,34] }) (B:Nat) (v:Value) (L M:List (List Nat)) (hM:Ids M) (ad:Option Addr) (n c:Nat) (hn:n = M.length)
 (hs:a.eval s = v) (hown:OwnI B 25 v L w) (hz:a.eval z = .slice ad n c) (hsrc:IAt ad M w) (hnil:ad = none → c = 0) (h63:L.length + M.length ≤ 1000000) (hB:B ≤ w.heap.size)
 (h:∀ v' w',OwnI B 25 v' (L ++ M) w' → w.grownBy w' v.ownBlock → (v'.ownBlock = v.ownBlock ∨ v'.ownBlock = some w.heap.size) → K (a.put o.dst v') w'):OpWp Tryz.prog o a w K Q :=
 z1q (ops:=#[]) hg (z0w hg s z 34 25 ho B (.agg (z07 .u8 (List.replicate 32 0)).toArray) rfl Tryz.underlying34 Tryz.infoI32 v L M hM ad n c hn hs hown hz hsrc hnil h63 hB
  (fun v' w' h1 h2 h3=>⟨rfl,h v' w' h1.out h2.out h3.out⟩))
end
def PushM (X:Nat → Prop) (wb:World) (vv:Value) (L:List OpN) (y:OpN):Nat → Value → World → Prop
 | 0,_,w'=>Below wb.heap.size wb w'
 | 1,v,w'=>Below wb.heap.size wb w' ∧ ∃ g,v = .slice (some ⟨g,0,none⟩) 1 1 ∧ OpsX X (some ⟨g,0,none⟩) [y] w'
 | _,v,w'=>Only (fun b=>vv.ownBlock = some b) wb w' ∧ OwnX X 0 38 v (L ++ [y]) w' ∧ Moved v vv wb
def PushI (wb:World) (vv:Value) (L:List (List Nat)) (y:List Nat):Nat → Value → World → Prop
 | 0,_,w'=>Below wb.heap.size wb w'
 | 1,v,w'=>Below wb.heap.size wb w' ∧ ∃ g,v = .slice (some ⟨g,0,none⟩) 1 1 ∧ IAt (some ⟨g,0,none⟩) [y] w'
 | _,v,w'=>Only (fun b=>vv.ownBlock = some b) wb w' ∧ OwnI 0 25 v (L ++ [y]) w' ∧ Moved v vv wb
theorem Moved.of {v u:Value} {w wq:World} (h:v.ownBlock = u.ownBlock ∨ v.ownBlock = some wq.heap.size) (hs:w.heap.size ≤ wq.heap.size):Moved v u w:=fun b hb=>by
 rcases h with h | h
 ·exact .inl (h ▸ hb)
 ·rw [h] at hb
  obtain rfl:wq.heap.size = b:=by injection hb
  exact .inr hs
def LocC (O:Nat → Prop) (g:Nat) (t:TypeId) (cs:Array Value) (w:World):Prop:=¬ O g ∧ Cells g t cs w
theorem LocC.turn {O O':Nat → Prop} {g:Nat} {t:TypeId} {cs:Array Value} {w w':World} (h:LocC O g t cs w) (k:Turn O O' w w'):LocC O' g t cs w' :=
 ⟨(Loc.turn ⟨h.2.lt,h.1⟩ k).2,h.2.only k.only h.1⟩
theorem LocC.below {O:Nat → Prop} {g:Nat} {t:TypeId} {cs:Array Value} {w w':World} (h:LocC O g t cs w) (k:Below w.heap.size w w'):LocC O g t cs w':=⟨h.1,h.2.below k⟩
def LocR (O:Nat → Prop) (B:Nat) (v:Value) (L:List (List Nat)) (w:World):Prop:=(∀ b,v.ownBlock = some b → ¬ O b) ∧ OwnI B 25 v L w
theorem LocR.turn {O O':Nat → Prop} {B:Nat} {v:Value} {L:List (List Nat)} {w w':World} (h:LocR O B v L w) (k:Turn O O' w w'):LocR O' B v L w' :=
 ⟨fun b hb=>(Loc.turn ⟨(World.ownsRow.lt h.2 b hb).2,h.1 b hb⟩ k).2,h.2.only k.only h.1⟩
theorem LocR.below {O:Nat → Prop} {B:Nat} {v:Value} {L:List (List Nat)} {w w':World} (h:LocR O B v L w) (k:Below w.heap.size w w'):LocR O B v L w':=⟨h.1,h.2.below k⟩
theorem Tryz.idKey:IdKey Tryz.prog 25 :=
 IdKey.of (by kernel_rfl) 5 Tryz.underlying25 Tryz.underlying5 (by kernel_rfl) (by kernel_rfl) (by kernel_rfl) (by kernel_rfl) (by kernel_rfl)
structure Bs where
 gs:Nat
 p:Nat
 w:Nat
 h:Nat
 b:Nat
structure Ents where
 p:List (List Nat × Value)
 w:List (List Nat × Value)
 b:List (List Nat × Value)
def EntsO (X:Nat → Prop) (L:List OpN) (E:List (List Nat × Value)) (w:World):Prop :=
 E.length = L.length ∧ ∀ (i:Nat) (x:OpN),L[i]? = some x → ∃ pa pc,E[i]? = some (z00 x,.agg (opV x pa pc)) ∧ IAt pa x.preds w ∧ OffX X pa x.preds
structure EntsB (X:Nat → Prop) (M:Bh) (E:List (List Nat × Value)) (w:World):Prop where
 len:E.length = M.length
 ent:∀ (i:Nat) (q:List Nat × List (List Nat)),M[i]? = some q → ∃ v,E[i]? = some (q.1,v) ∧ OwnI 0 25 v q.2 w ∧ ∀ b,v.ownBlock = some b → X b
 apart:∀ (i j:Nat) (p q:List Nat) (u v:Value),E[i]? = some (p,u) → E[j]? = some (q,v) → i ≠ j → ∀ b,u.ownBlock = some b → v.ownBlock ≠ some b
 ids:∀ q ∈ M,Ids q.2
def z41 (hs:List (List Nat)):List (List Nat × Value):=hs.map fun n=>(n,.agg #[])
structure SetAt (X:Nat → Prop) (B:Bs) (T:Ents) (s:DagN) (hs:List (List Nat)) (M:Bh) (w:World):Prop where
 cells:Cells B.gs 80 #[.map (some B.p),.map (some B.w),.map (some B.h),.map (some B.b)] w
 pm:MapN B.p T.p w
 wm:MapN B.w T.w w
 hm:MapN B.h (z41 hs) w
 bm:MapN B.b T.b w
 ops:EntsO X s.ops T.p w
 wait:EntsO X s.wait T.w w
 beh:EntsB X M T.b w
 mine:X B.gs ∧ X B.p ∧ X B.w ∧ X B.h ∧ X B.b
 apart:B.p ≠ B.w ∧ B.p ≠ B.h ∧ B.p ≠ B.b ∧ B.w ≠ B.h ∧ B.w ≠ B.b ∧ B.h ≠ B.b
def SetO (B:Bs) (T:Ents):Nat → Prop:=fun b=>b = B.gs ∨ b = B.p ∨ b = B.w ∨ b = B.h ∨ b = B.b ∨ ∃ p v,(p,v) ∈ T.b ∧ v.ownBlock = some b
section
variable {X Y O:Nat → Prop} {B:Bs} {T:Ents} {s:DagN} {hs:List (List Nat)} {M:Bh} {w w':World} {E:List (List Nat × Value)} {L:List OpN}
theorem EntsO.only (h:EntsO X L E w) (k:Only O w w') (hO:∀ b,O b → X b):EntsO X L E w' :=
 ⟨h.1,fun i x hx=>by
  obtain ⟨pa,pc,h1,h2,h3⟩:=h.2 i x hx
  exact ⟨pa,pc,h1,h2.only k (h3.mono hO),h3⟩⟩
theorem EntsO.below (h:EntsO X L E w) (k:Below w.heap.size w w'):EntsO X L E w':=h.only (Only.of (O:=fun _=>False) k) (fun _ e=>e.elim)
theorem EntsO.mono (h:EntsO X L E w) (hY:∀ b,Y b → X b):EntsO Y L E w :=
 ⟨h.1,fun i x hx=>by
  obtain ⟨pa,pc,h1,h2,h3⟩:=h.2 i x hx
  exact ⟨pa,pc,h1,h2,h3.mono hY⟩⟩
theorem EntsO.keys (h:EntsO X L E w):E.map (·.1) = L.map z00:=by
 refine List.ext_getElem? fun i=>?_
 rw [List.getElem?_map,List.getElem?_map]
 cases hx:L[i]? with
 | none=>rw [List.getElem?_eq_none (by rw [h.1];exact List.getElem?_eq_none_iff.1 hx)];rfl
 | some x =>
   obtain ⟨pa,pc,h1,_⟩:=h.2 i x hx
   rw [h1]
   rfl
theorem EntsO.push (h:EntsO X L E w) (x:OpN) (pa:Option Addr) (pc:Nat) (h1:IAt pa x.preds w) (h2:OffX X pa x.preds):EntsO X (L ++ [x]) (E ++ [(z00 x,.agg (opV x pa pc))]) w:=by
 refine ⟨by rw [List.length_append,List.length_append,h.1];rfl,fun i y hy=>?_⟩
 rcases Nat.lt_trichotomy i L.length with hi | hi | hi
 ·rw [List.getElem?_append_left hi] at hy
  rw [List.getElem?_append_left (by rw [h.1];exact hi)]
  exact h.2 i y hy
 ·subst hi
  rw [List.getElem?_append_right (Nat.le_refl _),Nat.sub_self] at hy
  obtain rfl:x = y:=by simpa using hy
  refine ⟨pa,pc,?_,h1,h2⟩
  rw [← h.1,List.getElem?_append_right (Nat.le_refl _),Nat.sub_self]
  rfl
 ·rw [List.getElem?_eq_none (by simp;omega)] at hy
  cases hy
theorem EntsO.erase (h:EntsO X L E w) (i:Nat):EntsO X (L.eraseIdx i) (E.eraseIdx i) w:=by
 refine ⟨by simp only [List.length_eraseIdx,h.1],fun j y hy=>?_⟩
 rw [List.getElem?_eraseIdx] at hy ⊢
 split at hy
 ·rename_i hj
  rw [if_pos hj]
  exact h.2 j y hy
 ·rename_i hj
  rw [if_neg hj]
  exact h.2 (j + 1) y hy
theorem EntsO.here (h:EntsO X L E w) (hd:(E.map (·.1)).Nodup) {i:Nat} {x:OpN} (hx:L[i]? = some x):∃ pa pc,E[i]? = some (z00 x,.agg (opV x pa pc)) ∧ E.lookup (z00 x) = some (.agg (opV x pa pc)) ∧ IAt pa x.preds w ∧ OffX X pa x.preds:=by
 obtain ⟨pa,pc,h1,h2,h3⟩:=h.2 i x hx
 exact ⟨pa,pc,h1,z3e hd h1,h2,h3⟩
theorem EntsO.not (h:EntsO X L E w) {n:List Nat} (hn:n ∉ L.map z00):E.lookup n = none:=z21 (by rw [h.keys];exact hn)
theorem EntsB.below (h:EntsB X M E w) (k:Below w.heap.size w w'):EntsB X M E w' :=
 ⟨h.len,fun i q hq=>by
  obtain ⟨v,h1,h2,h3⟩:=h.ent i q hq
  exact ⟨v,h1,h2.below k,h3⟩,h.apart,h.ids⟩
theorem EntsB.only (h:EntsB X M E w) (k:Only O w w') (hO:∀ p v b,(p,v) ∈ E → v.ownBlock = some b → ¬ O b):EntsB X M E w' :=
 ⟨h.len,fun i q hq=>by
  obtain ⟨v,h1,h2,h3⟩:=h.ent i q hq
  exact ⟨v,h1,h2.only k (fun g hg=>hO _ _ g (List.mem_of_getElem? h1) hg),h3⟩,h.apart,h.ids⟩
theorem EntsB.mono (h:EntsB X M E w) (hY:∀ p v b,(p,v) ∈ E → v.ownBlock = some b → Y b):EntsB Y M E w :=
 ⟨h.len,fun i q hq=>by
  obtain ⟨v,h1,h2,h3⟩:=h.ent i q hq
  exact ⟨v,h1,h2,fun b hb=>hY _ _ b (List.mem_of_getElem? h1) hb⟩,h.apart,h.ids⟩
theorem EntsB.keys (h:EntsB X M E w):E.map (·.1) = M.map (·.1):=by
 refine List.ext_getElem? fun i=>?_
 rw [List.getElem?_map,List.getElem?_map]
 cases hx:M[i]? with
 | none=>rw [List.getElem?_eq_none (by rw [h.len];exact List.getElem?_eq_none_iff.1 hx)];rfl
 | some q =>
   obtain ⟨v,h1,_⟩:=h.ent i q hx
   rw [h1]
   rfl
theorem EntsB.x (h:EntsB X M E w) {p:List Nat} {v:Value} {b:Nat} (hm:(p,v) ∈ E) (hb:v.ownBlock = some b):X b ∧ b < w.heap.size:=by
 obtain ⟨i,hi,he⟩:=List.getElem_of_mem hm
 have hi2:i < M.length:=by rw [← h.len];exact hi
 obtain ⟨u,h1,h2,h3⟩:=h.ent i M[i] (List.getElem?_eq_getElem hi2)
 rw [List.getElem?_eq_getElem hi,he] at h1
 cases h1
 exact ⟨h3 b hb,(World.ownsRow.lt h2 b hb).2⟩
theorem EntsB.row (h:EntsB X M E w) (hd:(E.map (·.1)).Nodup) (p:List Nat):OwnI 0 25 (atE E (.slice none 0 0) p) (atB M p) w ∧ (∀ b,(atE E (.slice none 0 0) p).ownBlock = some b → X b ∧ ∃ q v,(q,v) ∈ E ∧ v.ownBlock = some b) ∧ Ids (atB M p):=by
 by_cases hp:p ∈ M.map (·.1)
 ·obtain ⟨l,hl⟩:=z2l hp
  obtain ⟨i,hi⟩:=z5y hl
  obtain ⟨v,h1,h2,h3⟩:=h.ent i _ hi
  rw [atE,z3e hd h1,atB,atE,hl]
  exact ⟨h2,fun b hb=>⟨h3 b hb,p,v,List.mem_of_getElem? h1,hb⟩,h.ids _ (z9b hl)⟩
 ·rw [atE,z21 (by rw [h.keys];exact hp),atB,atE,z21 hp]
  exact ⟨OwnI.nil _ _ _,fun b hb=>(by cases hb),fun x hx=>by cases hx⟩
theorem EntsB.put (h:EntsB X M E w) (hd:(E.map (·.1)).Nodup) (p:List Nat) {v:Value} {l:List (List Nat)} (hl:Ids l) (c:Nat) (hc:∀ q u b,(q,u) ∈ E → u.ownBlock = some b → b ≠ c) (k:Only (fun b=>(atE E (.slice none 0 0) p).ownBlock = some b ∨ b = c) w w') (hv:OwnI 0 25 v l w') (hm:Moved v (atE E (.slice none 0 0) p) w) (hX:∀ b,v.ownBlock = some b → X b) :
 EntsB X (z3c M p l) (z3c E p v) w' ∧ ∀ q u b,(q,u) ∈ z3c E p v → u.ownBlock = some b → (∃ q u,(q,u) ∈ E ∧ u.ownBlock = some b) ∨ w.heap.size ≤ b:=by
 have hkE:=h.keys
 by_cases hp:p ∈ M.map (·.1)
 ·obtain ⟨l0,hl0⟩:=z2l hp
  obtain ⟨i,hi⟩:=z5y hl0
  obtain ⟨v0,h1,h2,h3⟩:=h.ent i _ hi
  have hat:atE E (.slice none 0 0) p = v0:=by rw [atE,z3e hd h1];rfl
  rw [hat] at k hm
  have hdM:(M.map (·.1)).Nodup:=hkE ▸ hd
  rw [z9o hdM l hi,z9o hd v h1]
  have hil:i < E.length:=(List.getElem?_eq_some_iff.1 h1).1
  have off:∀ (j:Nat) (q:List Nat) (u:Value),E[j]? = some (q,u) → j ≠ i → ∀ b,u.ownBlock = some b → v.ownBlock ≠ some b:=fun j q u hj hji b hb hvb=>by
   rcases hm b hvb with e | e
   ·exact h.apart j i q p u v0 hj h1 hji b hb e
   ·have:=(h.x (List.mem_of_getElem? hj) hb).2
    omega
  refine ⟨⟨by rw [List.length_set,List.length_set,h.len],fun j q hq=>?_,fun a c p' q' u1 u2 ha hc hac b hb=>?_,fun q hq=>?_⟩,fun q u b hq hb=>?_⟩
  ·by_cases hji:i = j
   ·subst hji
    rw [List.getElem?_set_self (by rw [← h.len];exact hil)] at hq
    obtain rfl:=Option.some.inj hq
    exact ⟨v,List.getElem?_set_self hil,hv,hX⟩
   ·rw [List.getElem?_set_ne hji] at hq
    obtain ⟨u,g1,g2,g3⟩:=h.ent j q hq
    exact ⟨u,by rw [List.getElem?_set_ne hji];exact g1,g2.only k (fun b hb e=>e.elim (fun e=>h.apart i j p q.1 v0 u h1 g1 hji b e hb) (hc _ _ b (List.mem_of_getElem? g1) hb)),g3⟩
  ·by_cases hia:i = a
   ·subst hia
    rw [List.getElem?_set_self hil] at ha
    cases ha
    rw [List.getElem?_set_ne hac] at hc
    intro e
    exact off c q' u2 hc (Ne.symm hac) b e hb
   ·rw [List.getElem?_set_ne hia] at ha
    by_cases hic:i = c
    ·subst hic
     rw [List.getElem?_set_self hil] at hc
     cases hc
     exact off a p' u1 ha (Ne.symm hia) b hb
    ·rw [List.getElem?_set_ne hic] at hc
     exact h.apart a c p' q' u1 u2 ha hc hac b hb
  ·rcases List.mem_or_eq_of_mem_set hq with hq | rfl
   ·exact h.ids q hq
   ·exact hl
  ·rcases List.mem_or_eq_of_mem_set hq with hq | hq
   ·exact .inl ⟨q,u,hq,hb⟩
   ·cases hq
    exact (hm b hb).imp (fun e=>⟨p,v0,List.mem_of_getElem? h1,e⟩) id
 ·have hpE:p ∉ E.map (·.1):=by rw [hkE];exact hp
  have hat:atE E (.slice none 0 0) p = .slice none 0 0:=by rw [atE,z21 hpE];rfl
  rw [hat] at k hm
  have k2:Only (fun b=>b = c) w w':=⟨k.os,k.tape,k.output,k.size,fun i hi hn=>k.block i hi (fun e=>e.elim (fun e=>by cases e) hn)⟩
  have new:∀ b,v.ownBlock = some b → w.heap.size ≤ b:=fun b hb=>(hm b hb).elim (fun e=>by cases e) id
  rw [z1u hp,z1u hpE]
  have hlen:=h.len
  have last:(E ++ [(p,v)])[E.length]? = some (p,v):=by rw [List.getElem?_append_right (Nat.le_refl _),Nat.sub_self];rfl
  have lt_of:∀ {j:Nat} {q:List Nat} {u:Value},(E ++ [(p,v)])[j]? = some (q,u) → E[j]? = some (q,u) ∨ (j = E.length ∧ q = p ∧ u = v):=fun {j q u} hj=>by
   rcases Nat.lt_trichotomy j E.length with hjl | hjl | hjl
   ·rw [List.getElem?_append_left hjl] at hj;exact .inl hj
   ·subst hjl;rw [last] at hj;cases hj;exact .inr ⟨rfl,rfl,rfl⟩
   ·rw [List.getElem?_eq_none (by simp;omega)] at hj;cases hj
  refine ⟨⟨by simp [h.len],fun j q hq=>?_,fun a c p' q' u1 u2 ha hc hac b hb=>?_,fun q hq=>?_⟩,fun q u b hq hb=>?_⟩
  ·rcases Nat.lt_trichotomy j M.length with hj | hj | hj
   ·rw [List.getElem?_append_left hj] at hq
    obtain ⟨u,g1,g2,g3⟩:=h.ent j q hq
    exact ⟨u,by rw [List.getElem?_append_left (by omega)];exact g1,g2.only k2 (fun b hb=>hc _ _ b (List.mem_of_getElem? g1) hb),g3⟩
   ·subst hj
    rw [List.getElem?_append_right (Nat.le_refl _),Nat.sub_self] at hq
    obtain rfl:(p,l) = q:=by simpa using hq
    exact ⟨v,by rw [← hlen];exact last,hv,hX⟩
   ·rw [List.getElem?_eq_none (by simp;omega)] at hq
    cases hq
  ·rcases lt_of ha with ha' | ⟨h1,h2,h3⟩
   ·rcases lt_of hc with hc' | ⟨g1,g2,g3⟩
    ·exact h.apart a c p' q' u1 u2 ha' hc' hac b hb
    ·subst g3
     intro e
     have:=(h.x (List.mem_of_getElem? ha') hb).2
     have:=new b e
     omega
   ·subst h3
    rcases lt_of hc with hc' | ⟨g1,g2,g3⟩
    ·intro e
     have:=(h.x (List.mem_of_getElem? hc') e).2
     have:=new b hb
     omega
    ·exact absurd (h1.trans g1.symm) hac
  ·rcases List.mem_append.1 hq with hq | hq
   ·exact h.ids q hq
   ·obtain rfl:=List.mem_singleton.1 hq
    exact hl
  ·rcases List.mem_append.1 hq with hq | hq
   ·exact .inl ⟨q,u,hq,hb⟩
   ·have:=List.mem_singleton.1 hq
    cases this
    exact .inr (new b hb)
theorem EntsB.del (h:EntsB X M E w) (hd:(E.map (·.1)).Nodup) (p:List Nat):EntsB X (z5b M p) (z5b E p) w:=by
 have hkE:=h.keys
 by_cases hp:p ∈ M.map (·.1)
 ·obtain ⟨l0,hl0⟩:=z2l hp
  obtain ⟨i,hi⟩:=z5y hl0
  obtain ⟨v0,h1,_⟩:=h.ent i _ hi
  rw [z92 (hkE ▸ hd) hi,z92 hd h1]
  have get:∀ {β:Type} (l:List β) (j:Nat) ,(l.eraseIdx i)[j]? = l[if j < i then j else j + 1]?:=fun l j=>by rw [List.getElem?_eraseIdx];split <;> rfl
  refine ⟨by simp only [List.length_eraseIdx,h.len],fun j q hq=>?_,fun a c p' q' u1 u2 ha hc hac b hb=>?_,fun q hq=>h.ids q ((List.eraseIdx_sublist _ _).subset hq)⟩
  ·rw [get] at hq ⊢
   exact h.ent _ q hq
  ·rw [get] at ha hc
   exact h.apart _ _ p' q' u1 u2 ha hc (by split <;> split <;> omega) b hb
 ·rw [z4j hp,z4j (by rw [hkE];exact hp)]
  exact h
theorem SetO.x (h:SetAt X B T s hs M w) {b:Nat} (hb:SetO B T b):X b ∧ b < w.heap.size:=by
 rcases hb with rfl | rfl | rfl | rfl | rfl | ⟨p,v,hm,hb⟩
 ·exact ⟨h.mine.1,h.cells.lt⟩
 ·exact ⟨h.mine.2.1,h.pm.lt⟩
 ·exact ⟨h.mine.2.2.1,h.wm.lt⟩
 ·exact ⟨h.mine.2.2.2.1,h.hm.lt⟩
 ·exact ⟨h.mine.2.2.2.2,h.bm.lt⟩
 ·exact h.beh.x hm hb
theorem SetAt.below (h:SetAt X B T s hs M w) (k:Below w.heap.size w w'):SetAt X B T s hs M w' :=
 ⟨h.cells.below k,h.pm.below k,h.wm.below k,h.hm.below k,h.bm.below k,h.ops.below k,h.wait.below k,h.beh.below k,h.mine,h.apart⟩
theorem SetAt.only (h:SetAt X B T s hs M w) (k:Only O w w') (hO:∀ b,O b → X b) (hd:∀ b,SetO B T b → ¬ O b):SetAt X B T s hs M w' :=
 ⟨h.cells.only k (hd _ (.inl rfl)),h.pm.only k (hd _ (.inr (.inl rfl))),h.wm.only k (hd _ (.inr (.inr (.inl rfl)))),h.hm.only k (hd _ (.inr (.inr (.inr (.inl rfl))))),h.bm.only k (hd _ (.inr (.inr (.inr (.inr (.inl rfl)))))),
  h.ops.only k hO,h.wait.only k hO,h.beh.only k (fun p v b hm hb=>hd b (.inr (.inr (.inr (.inr (.inr ⟨p,v,hm,hb⟩)))))),h.mine,h.apart⟩
theorem SetAt.mono (h:SetAt X B T s hs M w) (hY:∀ b,Y b → X b) (hO:∀ b,SetO B T b → Y b):SetAt Y B T s hs M w :=
 ⟨h.cells,h.pm,h.wm,h.hm,h.bm,h.ops.mono hY,h.wait.mono hY,h.beh.mono (fun p v b hm hb=>hO b (.inr (.inr (.inr (.inr (.inr ⟨p,v,hm,hb⟩)))))),
  ⟨hO _ (.inl rfl),hO _ (.inr (.inl rfl)),hO _ (.inr (.inr (.inl rfl))),hO _ (.inr (.inr (.inr (.inl rfl)))),hO _ (.inr (.inr (.inr (.inr (.inl rfl)))))⟩,h.apart⟩
theorem SetAt.gsne (h:SetAt X B T s hs M w):B.gs ≠ B.p ∧ B.gs ≠ B.w ∧ B.gs ≠ B.h ∧ B.gs ≠ B.b :=
 ⟨fun e=>h.pm.notCells (e ▸ h.cells),fun e=>h.wm.notCells (e ▸ h.cells),fun e=>h.hm.notCells (e ▸ h.cells),fun e=>h.bm.notCells (e ▸ h.cells)⟩
theorem SetAt.rowne (h:SetAt X B T s hs M w) {p:List Nat} {v:Value} (hm:(p,v) ∈ T.b):v.ownBlock ≠ some B.gs ∧ v.ownBlock ≠ some B.p ∧ v.ownBlock ≠ some B.w ∧ v.ownBlock ≠ some B.h ∧ v.ownBlock ≠ some B.b:=by
 obtain ⟨i,hi,he⟩:=List.getElem_of_mem hm
 have hi2:i < M.length:=by rw [← h.beh.len];exact hi
 obtain ⟨u,h1,h2,h3⟩:=h.beh.ent i M[i] (List.getElem?_eq_getElem hi2)
 rw [List.getElem?_eq_getElem hi,he] at h1
 cases h1
 exact ⟨z11 h2 h.cells (by decide),h.pm.notRow h2,h.wm.notRow h2,h.hm.notRow h2,h.bm.notRow h2⟩
theorem SetAt.putP (h:SetAt X B T s hs M w) {E':List (List Nat × Value)} {L':List OpN} (k:Only (fun b=>b = B.p) w w') (hE:MapN B.p E' w') (hO:EntsO X L' E' w) :
 SetAt X B ⟨E',T.w,T.b⟩ ⟨L',s.wait⟩ hs M w' ∧ Turn (SetO B T) (SetO B ⟨E',T.w,T.b⟩) w w':=by
 obtain ⟨g1,g2,g3,g4⟩:=h.gsne
 obtain ⟨a1,a2,a3,a4,a5,a6⟩:=h.apart
 have hX:∀ b,b = B.p → X b:=fun b e=>e ▸ h.mine.2.1
 exact ⟨⟨h.cells.only k g1,hE,h.wm.only k (Ne.symm a1),h.hm.only k (Ne.symm a2),h.bm.only k (Ne.symm a3),hO.only k hX,h.wait.only k hX,h.beh.only k (fun p v b hm hb e=>(h.rowne hm).2.1 (e ▸ hb)),h.mine,h.apart⟩,
  ⟨k.os,k.tape,k.output,k.size,fun i hi hn=>k.block i hi (fun e=>hn (.inr (.inl e)))⟩,fun b hb=>.inl hb⟩
theorem SetAt.putW (h:SetAt X B T s hs M w) {E':List (List Nat × Value)} {L':List OpN} (k:Only (fun b=>b = B.w) w w') (hE:MapN B.w E' w') (hO:EntsO X L' E' w) :
 SetAt X B ⟨T.p,E',T.b⟩ ⟨s.ops,L'⟩ hs M w' ∧ Turn (SetO B T) (SetO B ⟨T.p,E',T.b⟩) w w':=by
 obtain ⟨g1,g2,g3,g4⟩:=h.gsne
 obtain ⟨a1,a2,a3,a4,a5,a6⟩:=h.apart
 have hX:∀ b,b = B.w → X b:=fun b e=>e ▸ h.mine.2.2.1
 exact ⟨⟨h.cells.only k g2,h.pm.only k a1,hE,h.hm.only k (Ne.symm a4),h.bm.only k (Ne.symm a5),h.ops.only k hX,hO.only k hX,h.beh.only k (fun p v b hm hb e=>(h.rowne hm).2.2.1 (e ▸ hb)),h.mine,h.apart⟩,
  ⟨k.os,k.tape,k.output,k.size,fun i hi hn=>k.block i hi (fun e=>hn (.inr (.inr (.inl e))))⟩,fun b hb=>.inl hb⟩
theorem SetAt.putH (h:SetAt X B T s hs M w) {hs':List (List Nat)} (k:Only (fun b=>b = B.h) w w') (hE:MapN B.h (z41 hs') w') :
 SetAt X B T s hs' M w' ∧ Turn (SetO B T) (SetO B T) w w':=by
 obtain ⟨g1,g2,g3,g4⟩:=h.gsne
 obtain ⟨a1,a2,a3,a4,a5,a6⟩:=h.apart
 have hX:∀ b,b = B.h → X b:=fun b e=>e ▸ h.mine.2.2.2.1
 exact ⟨⟨h.cells.only k g3,h.pm.only k a2,h.wm.only k a4,hE,h.bm.only k (Ne.symm a6),h.ops.only k hX,h.wait.only k hX,h.beh.only k (fun p v b hm hb e=>(h.rowne hm).2.2.2.1 (e ▸ hb)),h.mine,h.apart⟩,
  ⟨k.os,k.tape,k.output,k.size,fun i hi hn=>k.block i hi (fun e=>hn (.inr (.inr (.inr (.inl e)))))⟩,fun b hb=>.inl hb⟩
theorem SetAt.putB (h:SetAt X B T s hs M w) (p:List Nat) {v:Value} {l:List (List Nat)} (hl:Ids l) (k:Only (fun b=>(atE T.b (.slice none 0 0) p).ownBlock = some b ∨ b = B.b) w w') (hv:OwnI 0 25 v l w') (hm:Moved v (atE T.b (.slice none 0 0) p) w) (hX:∀ b,v.ownBlock = some b → X b) (hE:MapN B.b (z3c T.b p v) w') :
 SetAt X B ⟨T.p,T.w,z3c T.b p v⟩ s hs (z3c M p l) w' ∧ Turn (SetO B T) (SetO B ⟨T.p,T.w,z3c T.b p v⟩) w w':=by
 obtain ⟨g1,g2,g3,g4⟩:=h.gsne
 obtain ⟨a1,a2,a3,a4,a5,a6⟩:=h.apart
 obtain ⟨r1,r2,_⟩:=h.beh.row h.bm.nodup p
 have hOX:∀ b,((atE T.b (.slice none 0 0) p).ownBlock = some b ∨ b = B.b) → X b:=fun b e=>e.elim (fun e=>(r2 b e).1) (fun e=>e ▸ h.mine.2.2.2.2)
 have ne:∀ c,(c = B.gs ∨ c = B.p ∨ c = B.w ∨ c = B.h) → ¬ ((atE T.b (.slice none 0 0) p).ownBlock = some c ∨ c = B.b):=by
  intro c hc e
  rcases e with e | e
  ·obtain ⟨q,u,hmem,hu⟩:=(r2 c e).2
   obtain ⟨n1,n2,n3,n4,_⟩:=h.rowne hmem
   rcases hc with rfl | rfl | rfl | rfl
   ·exact n1 hu
   ·exact n2 hu
   ·exact n3 hu
   ·exact n4 hu
  ·subst e
   rcases hc with e | e | e | e
   ·exact g4 e.symm
   ·exact a3 e.symm
   ·exact a5 e.symm
   ·exact a6 e.symm
 obtain ⟨hb,hnew⟩:=h.beh.put h.bm.nodup p hl B.b (fun q u b hq hu e=>(h.rowne hq).2.2.2.2 (e ▸ hu)) k hv hm hX
 refine ⟨⟨h.cells.only k (ne _ (.inl rfl)),h.pm.only k (ne _ (.inr (.inl rfl))),h.wm.only k (ne _ (.inr (.inr (.inl rfl)))),h.hm.only k (ne _ (.inr (.inr (.inr rfl)))),hE,h.ops.only k hOX,h.wait.only k hOX,hb,h.mine,h.apart⟩,?_,?_⟩
 ·exact ⟨k.os,k.tape,k.output,k.size,fun i hi hn=>k.block i hi (fun e=>hn (e.elim (fun e=>by
   obtain ⟨q,u,hmem,hu⟩:=(r2 i e).2
   exact .inr (.inr (.inr (.inr (.inr ⟨q,u,hmem,hu⟩))))) (fun e=>.inr (.inr (.inr (.inr (.inl e)))))))⟩
 ·rintro b (hb | hb | hb | hb | hb | ⟨q,u,hq,hu⟩)
  ·exact .inl (.inl hb)
  ·exact .inl (.inr (.inl hb))
  ·exact .inl (.inr (.inr (.inl hb)))
  ·exact .inl (.inr (.inr (.inr (.inl hb))))
  ·exact .inl (.inr (.inr (.inr (.inr (.inl hb)))))
  ·exact (hnew q u b hq hu).imp (fun e=>.inr (.inr (.inr (.inr (.inr e))))) id
theorem SetAt.delB (h:SetAt X B T s hs M w) (p:List Nat) (k:Only (fun b=>b = B.b) w w') (hE:MapN B.b (z5b T.b p) w') :
 SetAt X B ⟨T.p,T.w,z5b T.b p⟩ s hs (z5b M p) w' ∧ Turn (SetO B T) (SetO B ⟨T.p,T.w,z5b T.b p⟩) w w':=by
 obtain ⟨g1,g2,g3,g4⟩:=h.gsne
 obtain ⟨a1,a2,a3,a4,a5,a6⟩:=h.apart
 have hX:∀ b,b = B.b → X b:=fun b e=>e ▸ h.mine.2.2.2.2
 refine ⟨⟨h.cells.only k g4,h.pm.only k a3,h.wm.only k a5,h.hm.only k a6,hE,h.ops.only k hX,h.wait.only k hX,?_,h.mine,h.apart⟩,
  ⟨k.os,k.tape,k.output,k.size,fun i hi hn=>k.block i hi (fun e=>hn (.inr (.inr (.inr (.inr (.inl e))))))⟩,?_⟩
 ·refine (h.beh.del h.bm.nodup p).only k (fun q u b hq hu e=>?_)
  have hq':(q,u) ∈ T.b:=(List.mem_filter.1 hq).1
  exact (h.rowne hq').2.2.2.2 (e ▸ hu)
 ·rintro b (hb | hb | hb | hb | hb | ⟨q,u,hq,hu⟩)
  ·exact .inl (.inl hb)
  ·exact .inl (.inr (.inl hb))
  ·exact .inl (.inr (.inr (.inl hb)))
  ·exact .inl (.inr (.inr (.inr (.inl hb))))
  ·exact .inl (.inr (.inr (.inr (.inr (.inl hb)))))
  ·exact .inl (.inr (.inr (.inr (.inr (.inr ⟨q,u,(List.mem_filter.1 hq).1,hu⟩)))))
theorem SetAt.cell (h:SetAt X B T s hs M w):w.cell? ⟨B.gs,0,none⟩ = some (.map (some B.p)) ∧ w.cell? ⟨B.gs,1,none⟩ = some (.map (some B.w)) ∧ w.cell? ⟨B.gs,2,none⟩ = some (.map (some B.h)) ∧ w.cell? ⟨B.gs,3,none⟩ = some (.map (some B.b)) :=
 ⟨by rw [h.cells.at];rfl,by rw [h.cells.at];rfl,by rw [h.cells.at];rfl,by rw [h.cells.at];rfl⟩
end
end Go.Proofs.YtnbldbbbibpobaaGreatDoor
namespace Go.Proofs.YtnbldbbbibpobaaGreatDoor
open Go.RowKit
theorem NewC.turn {s:Nat → Bool} {V:Nat → Value} {B i j:Nat} {t:TypeId} {cs:Array Value} {w w':World} {u:Value} (h:NewC s V B j t cs w) (hne:j ≠ i) (hk:∀ g,Cells g t cs w → Cells g t cs w'):NewC (fun j=>s j || j == i) (upd V i u) B j t cs w':=fun hs=>by
 obtain ⟨g,e,hg,hc⟩:=h (z83 hne hs)
 exact ⟨g,by rw [z23 V u hne];exact e,hg,hk g hc⟩
end Go.Proofs.YtnbldbbbibpobaaGreatDoor
