/-
  Joined: What the laws of layer 12 ask first: alive.
-/
import Derived.Test.YtjomgkiphecljaaGreatDoorJ05
import Derived.Test.YtjomgkiphecljaaGreatDoorJ21
import Derived.Test.YtjomgkiphecljaaGreatDoorJ23
import Derived.Test.YtjomgkiphecljaaGreatDoorJ24
set_option maxRecDepth 100000
set_option maxHeartbeats 8000000
namespace Go.Proofs.YtjomgkiphecljaaGreatDoor
open Go.RowKit Go.BigFrame
theorem built_wA:Tryz.prog.built 47 [(0,.int .i64 1),(1,.string ⟨#[107]⟩),(2,.string ⟨#[120]⟩)] = some (z0p wA):=by
 rw [zcf]
 refine (z1z zai 0 0 1 _ _ [] [.int .i64 0] (.string ⟨#[]⟩ :: .string ⟨#[]⟩ :: z05 .u8 zeroI) [.int .i64 1] rfl rfl rfl rfl rfl).trans ?_
 refine (z1z zai 1 1 1 (.string ⟨#[107]⟩) _ [.int .i64 1] [.string ⟨#[]⟩] (.string ⟨#[]⟩ :: z05 .u8 zeroI) [.string ⟨#[107]⟩] rfl rfl rfl rfl rfl).trans ?_
 refine (z1z zai 2 2 1 (.string ⟨#[120]⟩) [] [.int .i64 1,.string ⟨#[107]⟩] [.string ⟨#[]⟩] (z05 .u8 zeroI) [.string ⟨#[120]⟩] rfl rfl rfl rfl rfl).trans ?_
 rw [z6v]
 rfl
theorem built_wD:Tryz.prog.built 47 [(0,.int .i64 2),(1,.string ⟨#[107]⟩),(2,.string ⟨#[120]⟩)] = some (z0p wD):=by
 rw [zcf]
 refine (z1z zai 0 0 1 _ _ [] [.int .i64 0] (.string ⟨#[]⟩ :: .string ⟨#[]⟩ :: z05 .u8 zeroI) [.int .i64 2] rfl rfl rfl rfl rfl).trans ?_
 refine (z1z zai 1 1 1 (.string ⟨#[107]⟩) _ [.int .i64 2] [.string ⟨#[]⟩] (.string ⟨#[]⟩ :: z05 .u8 zeroI) [.string ⟨#[107]⟩] rfl rfl rfl rfl rfl).trans ?_
 refine (z1z zai 2 2 1 (.string ⟨#[120]⟩) [] [.int .i64 2,.string ⟨#[107]⟩] [.string ⟨#[]⟩] (z05 .u8 zeroI) [.string ⟨#[120]⟩] rfl rfl rfl rfl rfl).trans ?_
 rw [z6v]
 rfl
theorem zed (d:DraftN) (hd:d.ref.length = 32):Tryz.prog.built 49 [(0,.agg (z0p d)),(2,.int .i64 1)] = some (opV ⟨d,0,1,[]⟩ none 0):=by
 rw [zgx]
 refine (z1z zcc 0 0 35 _ _ [] (z1b zdm) [.int .i64 0,.int .i64 0,.slice none 0 0] (z1b d) rfl rfl (z0r hd) rfl rfl).trans ?_
 show Instr.fill _ (z1b d ++ ([Value.int .i64 0] ++ ([Value.int .i64 0] ++ [Value.slice none 0 0]))).toArray _ = _
 rw [← List.append_assoc]
 refine ((z1z zcc 2 36 1 (.int .i64 1) [] (z1b d ++ [.int .i64 0]) [.int .i64 0] [.slice none 0 0] [.int .i64 1] rfl rfl rfl rfl (by rw [List.length_append,z0r hd];rfl)).trans ?_)
 rw [z6v,List.append_assoc]
 rfl
theorem adds_al:adds [107] [aV,dV] = [[120]]:=by
 have hp:=(z24 [aV,dV]).filter (z6b fun o=>decide (o.d.key = [107]))
 have hf:[aV,dV].filter (z6b fun o=>decide (o.d.key = [107])) = [aV]:=by decide
 rw [hf] at hp
 rw [adds,List.perm_singleton.1 hp]
 rfl
theorem zmb (w:World) (hk:KAt w):Calls Tryz.prog 5 #[] w fun e w'=>e = .returned (.bool true) ∧ Below w.heap.size w w':=by
 obtain ⟨X,hX⟩:∃ X:Nat → Prop,X = fun b=>w.heap.size ≤ b:=⟨_,rfl⟩
 have HX:=Lib.hid (show ∀ b,X b ↔ w.heap.size ≤ b from fun b=>by rw [hX])
 have HK:=Lib.hid hk
 have HA:=Lib.hid built_wA
 have HD:=Lib.hid built_wD
 have HAO:=Lib.hid (show Tryz.prog.built 49 [(0,.agg (z0p wA)),(2,.int .i64 1)] = some (opV aV none 0) from zed wA rfl)
 have HDO:=Lib.hid (show Tryz.prog.built 49 [(0,.agg (z0p wD)),(2,.int .i64 1)] = some (opV dV none 0) from zed wD rfl)
 clear hk hX
 go_enter Tryz.func5,Tryz.ntmps5
 go_wp2_with fail
 refine (zle X w (fun b h=>(HX.out b).2 h)).mono ?_
 rintro e w1 ⟨B,rfl,hs1,hb1⟩
 have HS1:=Lib.hid hs1
 have HB1:=Lib.hid hb1
 clear hs1 hb1
 go_wp2_with (first
  | (refine z0n rfl 47 _ rfl [(0,.int .i64 1),(1,.string ⟨#[107]⟩),(2,.string ⟨#[120]⟩)] _ (by rw [List.map_toArray];rfl) HA.out ?_)
  | (refine z0n rfl 49 _ rfl [(0,.agg (z0p wA)),(2,.int .i64 1)] _ (by rw [List.map_toArray];rfl) HAO.out ?_))
 refine (zcu X B ⟨[],[],[]⟩ DagN.new [] [] aV none 0 w1 HS1.out (fun b h=>(HX.out b).2 (Nat.le_trans HB1.out.size h)) DInv.new zcq aV_fit (.inl rfl) (HK.out.below HB1.out) (by decide)).mono ?_
 rintro e w5 ⟨v5,X5,T5,hs5,M5,rfl,ho5,hset5,hd5,ht5,htu5,_,hx1,hx2,hx3⟩
 rw [vw_take1] at hset5 hd5 ht5
 have HB5:=Lib.hid (Only.toBelow HB1.out htu5.only (fun b h=>(HX.out b).1 (SetO.x HS1.out h).1) HB1.out.size)
 have HS5:=Lib.hid hset5
 have HD5:=Lib.hid hd5
 have HT5:=Lib.hid ht5
 have HX5:=Lib.hid hx1
 have HX53:=Lib.hid hx3
 clear hset5 hd5 ht5 ho5 htu5 hx1 hx2 hx3 HS1
 go_wp2_with (first
  | (refine z0n rfl 47 _ rfl [(0,.int .i64 2),(1,.string ⟨#[107]⟩),(2,.string ⟨#[120]⟩)] _ (by rw [List.map_toArray];rfl) HD.out ?_)
  | (refine z0n rfl 49 _ rfl [(0,.agg (z0p wD)),(2,.int .i64 1)] _ (by rw [List.map_toArray];rfl) HDO.out ?_))
 refine (zcu X5 B T5 ⟨[aV],[]⟩ hs5 M5 dV none 0 w5 HS5.out HX53.out HD5.out HT5.out dV_fit (.inl rfl) (HK.out.below HB5.out) (by decide)).mono ?_
 rintro e w6 ⟨v6,X6,T6,hs6,M6,rfl,ho6,hset6,hd6,ht6,htu6,_,hx1,hx2,hx3⟩
 rw [vw_take2] at hset6 hd6 ht6
 have HB6:=Lib.hid (Only.toBelow HB5.out htu6.only (fun b h=>(HX.out b).1 (HX5.out b (SetO.x HS5.out h).1)) HB5.out.size)
 have HMB:=Lib.hid (zbw X6 B T6 _ hs6 M6 [107] w6 hset6 vw_nodup ht6)
 clear hset6 hd6 ht6 ho6 htu6 hx1 hx2 hx3 HS5 HD5 HT5
 go_wp2_with fail
 refine HMB.out.mono ?_
 rintro e w7 ⟨v7,V,rfl,ho7,_,_,hV,hb7⟩
 have hV:=hV (fun o ho=>by
  rcases List.mem_cons.1 ho with rfl | ho
  ·rfl
  ·obtain rfl:=List.mem_singleton.1 ho
   rfl)
 rw [adds_al] at hV
 subst hV
 have ho7:OwnS w6.heap.size v7 [[120]] w7:=ho7
 obtain ⟨g,c,rfl,_,_,hg⟩:=ho7.formB.resolve_left (fun h=>by cases h.2)
 have c0:w7.cell? ⟨g,0,none⟩ = some (.string ⟨#[120]⟩):=by
  have:=World.ownsRow.cells ho7 (g:=g) rfl 0 (.string ⟨#[120]⟩) rfl
  rwa [Addr.add_lit] at this
 have HB7:=Lib.hid (HB6.out.trans (hb7.mono HB6.out.size))
 have hl:([[120]]:List (List UInt8)).length = 1:=rfl
 rw [hl]
 clear ho7 hb7 HMB hl hg
 go_wp2_with fail
 go_ret
 exact ⟨rfl,HB7.out⟩
end Go.Proofs.YtjomgkiphecljaaGreatDoor
