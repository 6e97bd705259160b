/-
  The law ViewsReal: for every input it answers true, and its arguments read as they did. Condition: the round constants' table lies as the program's text lays it (the card ties it).
-/
import Derived.Test.YtjomgkiphecljaaGreatDoorJ01
import Derived.Test.YtjomgkiphecljaaGreatDoorJ02
import Derived.Test.YtjomgkiphecljaaGreatDoorJ03
import Derived.Test.YtjomgkiphecljaaGreatDoorJ04
import Derived.Test.YtjomgkiphecljaaGreatDoorJ05
import Derived.Test.YtjomgkiphecljaaGreatDoorJ06
import Derived.Test.YtjomgkiphecljaaGreatDoorJ07
import Derived.Test.YtjomgkiphecljaaGreatDoorJ08
import Derived.Test.YtjomgkiphecljaaGreatDoorJ09
import Derived.Test.YtjomgkiphecljaaGreatDoorJ10
import Derived.Test.YtjomgkiphecljaaGreatDoorJ11
import Derived.Test.YtjomgkiphecljaaGreatDoorJ12
import Derived.Test.YtjomgkiphecljaaGreatDoorJ13
import Derived.Test.YtjomgkiphecljaaGreatDoorJ14
import Derived.Test.YtjomgkiphecljaaGreatDoorJ15
import Derived.Test.YtjomgkiphecljaaGreatDoorJ16
import Derived.Test.YtjomgkiphecljaaGreatDoorJ17
import Derived.Test.YtjomgkiphecljaaGreatDoorJ18
import Derived.Test.YtjomgkiphecljaaGreatDoorJ19
import Derived.Test.YtjomgkiphecljaaGreatDoorJ20
import Derived.Test.YtjomgkiphecljaaGreatDoorJ21
import Derived.Test.YtjomgkiphecljaaGreatDoorJ22
import Derived.Test.YtjomgkiphecljaaGreatDoorJ23
import Derived.Test.YtjomgkiphecljaaGreatDoorJ24
import Derived.Test.YtjomgkiphecljaaGreatDoorJ25
import Derived.Test.YtjomgkiphecljaaGreatDoorJ26
import Derived.Test.YtjomgkiphecljaaGreatDoorJ27
set_option maxRecDepth 100000
set_option maxHeartbeats 20000000
namespace Go.Proofs.YtjomgkiphecljaaGreatDoor
open Go.RowKit
theorem zh8 {key:List UInt8} {L:List OpN} (hd:(L.map z02).Nodup) (hl:∀ o ∈ L,(z02 o).length = 32):z2o key L = ([],false) ∨ (z2o key L).2 = true ∧ ∃ o ∈ L,o.d.kind = 3 ∧ o.d.key = key ∧ o.d.val = (z2o key L).1:=by
 have h:=zcp key L.length L rfl hd hl
 rw [z2o]
 obtain ⟨b,hb⟩:∃ b,z5p key L = b:=⟨_,rfl⟩
 rw [hb] at h ⊢
 cases b with
 | none=>exact .inl rfl
 | some x =>
   obtain ⟨h1,h2,_⟩:=h.some x rfl
   exact .inr ⟨rfl,x,h1,h2.1,h2.2,rfl⟩
open Go.BigFrame
theorem zjr {s:DagN} (hn:s.names.Nodup) (key:List UInt8):z2o key s.ops = ([],false) ∨ (z2o key s.ops).2 = true ∧ z61 s.ops 3 key (z2o key s.ops).1 = true:=by
 rcases zh8 (key:=key) (L:=s.ops) hn fun o _=>z0z o with h | ⟨h1,o,h2,h3,h4,h5⟩
 ·exact .inl h
 ·exact .inr ⟨h1,realN_iff.2 ⟨o,h2,h3,h4,h5⟩⟩
namespace viewsReal
theorem walk (W:World) (hk:KAt W) (ao:Option Addr) (l:List MakeN) (c:Nat) (hs:MksAt ao l W) (hn:∀ x ∈ l,x.In) (ht:l.length ≤ 140737488351232) (key:List UInt8) (_hz:key.length ≤ 140737488351232) :
 Calls Tryz.prog 4 #[.slice ao l.length c,.string ⟨key.toArray⟩] W fun e W'=>e = .returned (.bool true) ∧ Below W.heap.size W W':=by
 have HAL:=Lib.hid (zmb W hk)
 have HBO:=Lib.hid (fun w1 (b:Below W.heap.size W w1)=>both12 W ao l c w1 hs hn ht b (hk.below b))
 obtain ⟨nl,hnl⟩:∃ i,l.length = i:=⟨_,rfl⟩
 rw [hnl] at HBO ⊢
 clear hs hn ht hk hnl _hz
 go_enter Tryz.func4,Tryz.ntmps4
 go_wp2_with fail
 refine HAL.out.mono ?_
 rintro e w1 ⟨rfl,hb1⟩
 have HB1:=Lib.hid hb1
 clear hb1
 by_cases h100:key.length ≤ 100
 ·have g2:decide ((100:Int) < (key.length:Int)) = false:=decide_eq_false (by omega)
  go_wp2_with fail
  refine (HBO.out w1 HB1.out).mono ?_
  rintro e w2 ⟨Z,X,B,gs,T,s,hs,M,vo,vw,vn,vq,rfl,hset,hinv,htm,hdp,hgd,href,hb2⟩
  have HB2:=Lib.hid (HB1.out.trans (hb2.mono HB1.out.size))
  have hops:s.ops.length ≤ 1000:=by have:=htm.many;omega
  have HMB:=Lib.hid (zbw X B T s hs M key w2 hset hinv.nodupN htm)
  have HVL:=Lib.hid (fun w' (b:Below w2.heap.size w2 w')=>zhj X B T s hs M key w' (hset.below b) hinv.nodupN htm hgd)
  have HRL:=Lib.hid (fun kind value w' (b:Below w2.heap.size w2 w')=>real_any Z gs vo vw vn vq s kind key value w' (href.below b) htm.ops hops)
  have HRV:=Lib.hid (zjr hinv.nodupN key)
  clear hset hinv htm hdp hgd href hb2 hops HBO HAL g2 h100
  go_wp2_with fail
  refine HMB.out.mono ?_
  rintro e w3 ⟨v3,V,rfl,ho3,hVl,hVr,_,hb3⟩
  have hup:=z7g V
  have hmem:∀ x ∈ z1a V,z61 s.ops 1 key x = true:=fun x hx=>hVr x (risingT_mem.1 hx)
  have hlen:(z1a V).length ≤ 1000:=by
   have h1:=z5n V V.length (Nat.le_refl _)
   rw [List.take_length] at h1
   omega
  obtain ⟨R,hR⟩:∃ z,z1a V = z:=⟨_,rfl⟩
  rw [hR] at ho3 hup hmem hlen
  obtain ⟨a3,c3,rfl⟩:=ho3.form
  obtain ⟨n,hne⟩:∃ z,R.length = z:=⟨_,rfl⟩
  rw [hne] at hlen
  have HN:=Shut.mk hne
  have HO3:=Lib.hid (z1r (ho3:OwnS w2.heap.size (.slice a3 R.length c3) R w3))
  rw [hne]
  have HUP:=Lib.hid hup
  have HME:=Lib.hid hmem
  have HB3:=Lib.hid hb3
  clear ho3 hVl hVr hb3 hup hmem hR hne HMB
  go_wp2_with fail
  go_loopw [27] (fun i wr=>∃ k:Nat,i = .int .i64 k ∧ k ≤ n ∧ Below w2.heap.size w2 wr ∧ StrsAt a3 R wr) (fun i _=>n - (intOf i).toNat)
  case atStart=>exact ⟨0,rfl,Nat.zero_le _,HB3.out,HO3.out⟩
  case round =>
   clear HO3
   obtain ⟨wi,rfl⟩:∃ z,z = wr:=⟨_,rfl⟩
   obtain ⟨k,rfl,hk,hb,ho⟩:=hrel
   have HBI:=Lib.hid hb
   have HOI:=Lib.hid ho
   clear hb ho
   by_cases hlt:k < n
   ·obtain ⟨b,ob,rfl,hbl,hc⟩:=HOI.out.resolve_left (fun e=>by have:=HN.out;rw [e] at this;simp at this;omega)
    have ck:=hc k (by rw [HN.out];exact hlt)
    obtain ⟨y,hy⟩:∃ y,R[k]'(by rw [HN.out];exact hlt) = y:=⟨_,rfl⟩
    rw [hy] at ck
    have hym:y ∈ R:=hy ▸ List.getElem_mem _
    have hrc:=HRL.out 1 y wi HBI.out
    rw [HME.out y hym] at hrc
    have HRC:=Lib.hid hrc
    have HLB:=Lib.hid hbl
    clear hrc hym
    cases k with
    | zero =>
      rw [Nat.add_zero] at ck
      clear hc hy hbl
      go_wp2_with (refine HRC.out.mono ?_;rintro e w5 ⟨rfl,hb5⟩;have HB5:=Lib.hid (HBI.out.trans (hb5.mono HBI.out.size));have HO5:=Lib.hid (HOI.out.below hb5);clear hb5)
      exact ⟨⟨1,by go_num,by omega,HB5.out,HO5.out⟩,by simp [intOf];omega⟩
    | succ m =>
      have cm:=hc m (by rw [HN.out];omega)
      have hlt2:=List.pairwise_iff_getElem.1 HUP.out m (m + 1) (by rw [HN.out];omega) (by rw [HN.out];omega) (Nat.lt_succ_self m)
      rw [hy] at hlt2
      obtain ⟨z,hz⟩:∃ z,R[m]'(by rw [HN.out];omega) = z:=⟨_,rfl⟩
      rw [hz] at cm hlt2
      have HCM:=Lib.hid cm
      obtain ⟨kk,hkk⟩:∃ kk,m + 1 = kk:=⟨_,rfl⟩
      rw [hkk] at ck hlt ⊢
      have hk1:(kk:Int) - 1 = (m:Int):=by omega
      have hk0:(0:Int) < (kk:Int):=by omega
      have hmn:(m:Int) < (n:Int):=by omega
      have hkn:kk ≤ 1000:=by omega
      have hge:∀ w,(binOp .geq 9 (.string ⟨z.toArray⟩) (.string ⟨y.toArray⟩)).run Tryz.prog w = .ok (.bool false) w:=fun w=>by
       simp [binOp,Op.stringOp,hlt2]
      clear hc hy hz hbl cm hkk hk
      go_wp2_with (refine HRC.out.mono ?_;rintro e w5 ⟨rfl,hb5⟩;have cm5:=(hb5.cell (p:=⟨b,ob + m,none⟩) HLB.out).trans HCM.out;have HB5:=Lib.hid (HBI.out.trans (hb5.mono HBI.out.size));have HO5:=Lib.hid (HOI.out.below hb5);clear hb5)
      exact ⟨⟨kk + 1,by go_num,by omega,HB5.out,HO5.out⟩,by simp [intOf];omega⟩
   ·obtain rfl:k = n:=by omega
    have HVC:=Lib.hid (HVL.out wi HBI.out)
    have HRC:=Lib.hid (fun value w' (b:Below wi.heap.size wi w')=>HRL.out 3 value w' (HBI.out.trans (b.mono HBI.out.size)))
    obtain ⟨⟨vv,vb⟩,hvv⟩:∃ z,z2o key s.ops = z:=⟨_,rfl⟩
    rw [hvv] at HVC
    have hrv:=HRV.out
    rw [hvv] at hrv
    clear hvv HRV HVL HRL
    rcases hrv with h | ⟨h1,h2⟩
    ·cases h
     go_wp2_with fail
     refine HVC.out.mono ?_
     rintro e w5 ⟨rfl,hb5⟩
     have HB5:=Lib.hid (HBI.out.trans (hb5.mono HBI.out.size))
     clear hb5
     go_wp2_with fail
     go_ret
     exact ⟨rfl,HB2.out.trans (HB5.out.mono HB2.out.size)⟩
    ·obtain rfl:vb = true:=h1
     have HR3:=Shut.mk h2
     clear h2
     go_wp2_with fail
     refine HVC.out.mono ?_
     rintro e w5 ⟨rfl,hb5⟩
     have HRC5:=Lib.hid (HRC.out vv w5 hb5)
     rw [HR3.out] at HRC5
     have HB5:=Lib.hid (HBI.out.trans (hb5.mono HBI.out.size))
     clear hb5
     go_wp2_with (refine HRC5.out.mono ?_;rintro e w6 ⟨rfl,hb6⟩;have HB6:=Lib.hid (HB5.out.trans (hb6.mono HB5.out.size));clear hb6)
     go_ret
     exact ⟨rfl,HB2.out.trans (HB6.out.mono HB2.out.size)⟩
 ·have g2:decide ((100:Int) < (key.length:Int)) = true:=decide_eq_true (by omega)
  go_wp2_with fail
  go_ret
  exact ⟨rfl,HB1.out⟩
end viewsReal
end Go.Proofs.YtjomgkiphecljaaGreatDoor
namespace Go.Proofs.YtjomgkiphecljaaGreatDoor.viewsReal
open Go.ChangeShapes Go.WideShapes Go.ChangeAt Go.RowKit
open Go.ChangeMaps (open_string shut_string)
set_option linter.unusedVariables false
theorem zcr (os:Os):laidMet Tryz.prog Rows.viewsRealRow.laid ((z5a os).forCall (fun _ _=>0) ⟨#[],#[.slice none 0 0,.string ByteArray.empty],[]⟩).memory :=
 laidMet_of_run' 8 (by kernel_rfl) (by kernel_rfl)
theorem reads (os:Os) {H:Type} (enc:TypeId × Value → H):∃ x,DataW.whole enc Tryz.prog ((z5a os).forCall (fun _ _=>0) ⟨#[],#[.slice none 0 0,.string ByteArray.empty],[]⟩).memory Tryz.f4.params.toList Rows.viewsRealSpec.vars false (#[.slice none 0 0,.string ByteArray.empty]:Array Value).toList 8 = some x :=
 ⟨([.nil,.lit (.string [])],[],[]),by kernel_rfl⟩
theorem lifted (os:Os) (started:os.Started) (H:Type) (enc:TypeId × Value → H) (F:Stop.Interp) :
 ReturnsInHanded {} Tryz.checked os 4 .any ((OpenSpec.ofChange Rows.viewsRealSpec).preRow enc Tryz.prog Tryz.f4 Rows.viewsRealRow.domain false Rows.viewsRealRow.laid) (((OpenSpec.ofChange Rows.viewsRealSpec).at F).post enc Tryz.prog Tryz.f4 false true false false):=by
 obtain ⟨x,hx⟩:=reads os enc
 refine returnsInHanded_of_row (C:=Tryz.checked) (s:=OpenSpec.ofChange Rows.viewsRealSpec) zkg started (by kernel_rfl) Tryz.func4
  (witness_row_at (enc:=enc) (C:=Tryz.checked) false (z5a os) #[.slice none 0 0,.string ByteArray.empty] rfl (by kernel_rfl) (by kernel_rfl) (by kernel_rfl)
   (OpenSpec.preRow_of_cond 8 hx rfl (fun k hk=>by cases hk) (by kernel_rfl) (zcr os))) ?_
 intro W base args ds gs before hval0 hW hcnd _ hsz0 hL _ _
 have hk:KAt W:=k_laid hL
 have hsz:(DataW.weightsEach Tryz.prog (Tryz.f4.params.toList ++ (OpenSpec.ofChange Rows.viewsRealSpec).bare.plain.varTypes Tryz.prog) (ds ++ gs)).all (· ≤ reachBytes) = true:=hsz0
 have hval:∀ (j:Nat) t v,Tryz.f4.params[j]? = some t → args[j]? = some v → Value.okWide Tryz.prog W .any base t v:=hval0
 have hW':=hW
 obtain ⟨p,q,hA0,hV,rfl,hfz,hnd⟩:=hW
 have hA:DataW.TrodAll enc Tryz.prog W 0 (fun _=>true) true Tryz.f4.params.toList args.toList ds p:=hA0
 rw [Tryz.params4] at hA hval hsz
 obtain ⟨v0,vs0,d0,ds0,p0,q0,hargs,rfl,rfl,h0,r0⟩:=trodAll_cons hA
 obtain ⟨v1,vs1,d1,ds1,p1,q1,rfl,rfl,rfl,h1,r1⟩:=trodAll_cons r0
 obtain ⟨rfl,rfl,rfl⟩:=trodAll_nil r1
 obtain rfl:args = #[v0,v1]:=by cases args;simp_all
 obtain ⟨rfl,rfl⟩:=trodVars_none hV
 have k0:=h0
 have lt0:∀ x ∈ p0,x.block < W.heap.size:=by obtain ⟨m,hm⟩:=k0;exact DataW.trod_lt m _ _ _ hm
 have z0:∀ n ∈ DataW.weights Tryz.prog 22 d0,n ≤ 140737488351232:=fun n hn=>of_decide_eq_true (List.all_eq_true.1 hsz n (DataW.weights_mem_each (j:=0) (t:=22) rfl rfl n hn))
 obtain ⟨ao0,l0,c0,rfl,s0,n0,t0⟩:=zbs (hval 0 22 v0 rfl rfl) h0 z0
 obtain ⟨a1,rfl,rfl,rfl,w1⟩:=open_string Tryz.underlying9 (hval 1 9 v1 rfl rfl) h1
 have z1:a1.data.toList.length ≤ 140737488351232:=sized_string hsz (j:=1) (t:=9) rfl rfl
 clear hA0 hval0
 refine (walk W hk ao0 l0 c0 s0 n0 t0 a1.data.toList z1).mono fun e W' ⟨he,bel⟩=>?_
 subst he
 exact ⟨_,rfl,_,_,_,[],_,[],hW',trodAll_mk1 (shut_bool Tryz.underlying4 _),(trodAll_cons_mk (Below.trod zam (by kernel_rfl) (of_decide_eq_true (by kernel_rfl)) k0 bel lt0) (trodAll_cons_mk (shut_string Tryz.underlying9 w1) trodAll_mk0)),rfl,bel.frame _,fun h=>by cases h⟩
theorem said:Rows.ViewsRealSaid :=
 OpenClaim.holds_of_cond 4 Tryz.f4 rfl rfl rfl rfl rfl rfl rfl ⟨rfl,rfl,rfl,rfl,rfl⟩ rfl rfl rfl rfl rfl (by kernel_rfl) Tryz.func4 (by kernel_rfl)
  (of_decide_eq_true (by kernel_rfl)) (by unfold Func.isWrapper;first | (rw [if_pos (by decide +kernel)];kernel_rfl) | (rw [if_neg (by decide +kernel)];exact ⟨rfl,rfl⟩))
  (fun os started H enc _ F=>by rw [OpenClaim.pre_eq_preRow];exact lifted os started H enc F)
theorem zab (f : FuncId) (fn : Func) (hf : Tryz.pinned.checked.prog.funcNamed "tribunal/tribunallaw12.ViewsReal" = some f) (hfn : Tryz.pinned.checked.prog.funcs[f]? = some fn) :
 true = Tryz.pinned.checked.prog.looks [] ∧ ∀ (j:Nat) t,fn.params[j]? = some t → Tryz.pinned.checked.prog.wantsStandIn t = false:=by
 obtain rfl : f = 4 := Option.some.inj ((show Tryz.prog.funcNamed "tribunal/tribunallaw12.ViewsReal" = some 4 by kernel_rfl).symm.trans hf) |>.symm
 obtain rfl:fn = Tryz.f4:=(Option.some.inj (Tryz.func4.symm.trans hfn)).symm
 refine ⟨by kernel_rfl,fun j t ht=>?_⟩
 have hall:Tryz.f4.params.toList.all (fun t=>!Tryz.prog.wantsStandIn t) = true:=by kernel_rfl
 have hm:t ∈ Tryz.f4.params.toList:=Array.mem_toList_iff.2 (Array.mem_of_getElem? ht)
 have h0:=List.all_eq_true.1 hall t hm
 have h1:Tryz.prog.wantsStandIn t = false:=by simpa using h0
 exact h1
theorem proved:Rows.ViewsRealCardSaid :=
 Claim7.holds_tied_plain_at .later [] _ _ _ _ said (fun _ h=>by cases h) (by kernel_rfl) (fun _ h=>by cases h) viewsReal_row_tie rfl ⟨rfl,rfl⟩ (by kernel_rfl) rfl zab (by kernel_rfl)
#print axioms proved
end Go.Proofs.YtjomgkiphecljaaGreatDoor.viewsReal
