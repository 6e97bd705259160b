/-
  The walk of the law KeysSign.
-/
import Derived.Test.YtcjjhddppcmgoaaDoorAlive6
namespace Go.Proofs.YtcjjhddppcmgoaaDoor.keysSign
open Go.RowKit Go.BigFrame

set_option maxHeartbeats 1000000 in
set_option maxRecDepth 100000 in
theorem walk (w : World) (hk : KAt w) (seed : List UInt8) (_hs : seed.length ≤ 140737488351232) (h : Int) (_wh : (Lit.int .i64 h).wf = true) (i : Int) (_wi : (Lit.int .i64 i).wf = true) (t : List UInt8) (_ht : t.length ≤ 140737488351232) :
    Calls Tryd.prog 4 #[.string ⟨seed.toArray⟩, .int .i64 h, .int .i64 i, .string ⟨t.toArray⟩] w fun e w' => e = .returned (.bool true) ∧ Below w.heap.size w w' := by
  have HK := Lib.hid hk
  clear hk
  go_enter Tryd.func4, Tryd.ntmps4
  go_wp2_with fail
  refine (alive6_any w HK.out).mono ?_
  rintro e w1 ⟨rfl, hb1⟩
  have HB1 := Lib.hid hb1
  have HK1 := Lib.hid (HK.out.below hb1)
  clear hb1 HK
  by_cases c1 : 64 < seed.length
  · have c1' : (64 : Int) < seed.length := by omega
    go_wp2_with fail
    go_ret
    exact ⟨rfl, HB1.out⟩
  have c1' : ¬ (64 : Int) < seed.length := by omega
  by_cases c2 : 512 < t.length
  · have c2' : (512 : Int) < t.length := by omega
    go_wp2_with fail
    go_ret
    exact ⟨rfl, HB1.out⟩
  have c2' : ¬ (512 : Int) < t.length := by omega
  by_cases c3 : h < 1
  · go_wp2_with fail
    go_ret
    exact ⟨rfl, HB1.out⟩
  by_cases c4 : 3 < h
  · go_wp2_with fail
    go_ret
    exact ⟨rfl, HB1.out⟩
  obtain ⟨n, rfl⟩ : ∃ n : Nat, h = n := ⟨h.toNat, by omega⟩
  have hn1 : 1 ≤ n := by omega
  have hn8 : n ≤ 8 := by omega
  have HS := Lib.hid (show seed.length ≤ 64 by omega)
  have HT := Lib.hid (show t.length ≤ 1000000 by omega)
  go_wp2_with fail
  refine (dev_new seed n w1 HS.out hn1 hn8 HK1.out).mono ?_
  rintro e w2 ⟨⟨v, rfl, hv⟩, hb2⟩
  have HV2 := Lib.hid hv
  have HB2 := Lib.hid (HB1.out.trans (hb2.mono HB1.out.size))
  have HK2 := Lib.hid (HK1.out.below hb2)
  clear hv hb2 HB1 HK1
  go_wp2_with fail
  have HM := Shut.mk (show 2 ^ n = 2 ^ n from rfl)
  have hm256 : 2 ^ n ≤ 256 := Nat.le_trans (Nat.pow_le_pow_right (by decide) hn8) (by decide)
  by_cases hbad : i < 0 ∨ ((2 ^ n : Nat) : Int) ≤ i
  · refine (dev_sign_spent v seed n i t w2 HV2.out hbad).mono ?_
    rintro e w3 ⟨rfl, hb3⟩
    have HV3 := Lib.hid (HV2.out.below hb3)
    have HB3 := Lib.hid (HB2.out.trans (hb3.mono HB2.out.size))
    clear hb3 HV2 HB2 HK2
    by_cases h0 : i < 0
    · clear hbad
      go_wp2_with fail
      go_ret
      exact ⟨rfl, HB3.out⟩
    · have h1 := hbad.resolve_left h0
      clear hbad
      go_wp2_with fail
      refine (dev_count v seed n w3 HV3.out).mono ?_
      rintro e w4 ⟨rfl, hb4⟩
      have HB4 := Lib.hid (HB3.out.trans (hb4.mono HB3.out.size))
      clear hb4 HB3 HM
      generalize 2 ^ n = m at *
      go_wp2_with fail
      go_ret
      exact ⟨rfl, HB4.out⟩
  · obtain ⟨j, rfl⟩ : ∃ j : Nat, i = j := ⟨i.toNat, by omega⟩
    have hj : j < 2 ^ n := by omega
    have h1 : ¬ ((2 ^ n : Nat) : Int) ≤ (j : Int) := by omega
    clear hbad
    have HSG := Lib.hid (fun v w (k : KeysIs v seed n w) hk => dev_sign6 v seed n j t w k hj HT.out hk)
    have HRF := Lib.hid (fun ao cap w hE => ref_sign6 seed n j t ao cap w (by have := HS.out; omega) hn8 hj HT.out hE)
    have hlen := signK_len seed hj t
    have hver := ver_sign seed hn1 hn8 hj t
    have HVR := Lib.hid (fun w hk => dev_verify6 (rootK seed n) (n : Int) (j : Int) t (signK seed n j t) w (rootK_ok seed n).1 (rootK_ok seed n).2 (by omega) (by omega) (by omega) (by omega) HT.out (by omega) hk)
    rw [hver] at HVR
    obtain ⟨S, hS⟩ : ∃ S, signK seed n j t = S := ⟨_, rfl⟩
    rw [hS] at HSG HRF HVR
    have HND := Lib.hid (fun v w (k : KeysIs v seed n w) => dev_node v seed n w k)
    obtain ⟨r, hr⟩ : ∃ r, rootK seed n = r := ⟨_, rfl⟩
    rw [hr] at HVR HND
    have HLV := Lib.hid (fun w => ref_leaves seed (n : Int) w (by have := HS.out; omega))
    have HLO := Lib.hid (leavesN_ok seed (2 ^ n))
    rw [wideN_ok hn1 hn8] at HLV
    have HCT := Lib.hid (fun v w (k : KeysIs v seed n w) => dev_count v seed n w k)
    have HLL := Lib.hid (leavesN_len seed (2 ^ n))
    obtain ⟨m, hm⟩ : ∃ m, 2 ^ n = m := ⟨_, rfl⟩
    rw [hm] at HRF HLV HLO HCT HLL h1 hj hm256
    clear hver hlen hS hr hm HM
    refine (HSG.out v w2 HV2.out HK2.out).mono ?_
    rintro e w3 ⟨rfl, hb3⟩
    have HV3 := Lib.hid (HV2.out.below hb3)
    have HB3 := Lib.hid (HB2.out.trans (hb3.mono HB2.out.size))
    have HK3 := Lib.hid (HK2.out.below hb3)
    clear hb3 HV2 HB2 HK2
    go_wp2_with fail
    refine (HCT.out v w3 HV3.out).mono ?_
    rintro e w4 ⟨rfl, hb4⟩
    have HV4 := Lib.hid (HV3.out.below hb4)
    have HB4 := Lib.hid (HB3.out.trans (hb4.mono HB3.out.size))
    have HK4 := Lib.hid (HK3.out.below hb4)
    clear hb4 HV3 HB3 HK3
    go_wp2_with fail
    refine (HSG.out v w4 HV4.out HK4.out).mono ?_
    rintro e w5 ⟨rfl, hb5⟩
    have HV5 := Lib.hid (HV4.out.below hb5)
    have HB5 := Lib.hid (HB4.out.trans (hb5.mono HB4.out.size))
    have HK5 := Lib.hid (HK4.out.below hb5)
    clear hb5 HV4 HB4 HK4
    go_wp2_with fail
    refine (HLV.out w5).mono ?_
    rintro e w6 ⟨⟨lv, rfl, ho⟩, hb6⟩
    obtain ⟨a1, q1, rfl⟩ := ho.form
    have HE6 := Lib.hid (ho.at HLO.out)
    have HV6 := Lib.hid (HV5.out.below hb6)
    have HB6 := Lib.hid (HB5.out.trans (hb6.mono HB5.out.size))
    have HK6 := Lib.hid (HK5.out.below hb6)
    rw [HLL.out]
    clear ho hb6 HV5 HB5 HK5
    go_wp2_with fail
    refine (HRF.out a1 q1 w6 HE6.out).mono ?_
    rintro e w7 ⟨rfl, hb7⟩
    have HV7 := Lib.hid (HV6.out.below hb7)
    have HB7 := Lib.hid (HB6.out.trans (hb7.mono HB6.out.size))
    have HK7 := Lib.hid (HK6.out.below hb7)
    clear hb7 HV6 HB6 HK6 HE6
    go_wp2_with fail
    refine (HND.out v w7 HV7.out).mono ?_
    rintro e w8 ⟨rfl, hb8⟩
    have HB8 := Lib.hid (HB7.out.trans (hb8.mono HB7.out.size))
    have HK8 := Lib.hid (HK7.out.below hb8)
    clear hb8 HV7 HB7 HK7
    go_wp2_with fail
    refine (HVR.out w8 HK8.out).mono ?_
    rintro e w9 ⟨rfl, hb9⟩
    have HB9 := Lib.hid (HB8.out.trans (hb9.mono HB8.out.size))
    clear hb9 HB8 HK8
    go_wp2_with fail
    go_ret
    exact ⟨rfl, HB9.out⟩
end Go.Proofs.YtcjjhddppcmgoaaDoor.keysSign
