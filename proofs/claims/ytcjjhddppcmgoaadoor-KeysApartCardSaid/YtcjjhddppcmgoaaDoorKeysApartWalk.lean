/-
  The walk of the law KeysApart.
-/
import Derived.Test.YtcjjhddppcmgoaaDoorAlive6
import Derived.Test.YtcjjhddppcmgoaaDoorNode
namespace Go.Proofs.YtcjjhddppcmgoaaDoor.keysApart
open Go.RowKit Go.BigFrame

set_option maxHeartbeats 1000000 in
set_option maxRecDepth 100000 in
theorem walk (w : World) (hk : KAt w) (a : List UInt8) (_ha : a.length ≤ 140737488351232) (b : List UInt8) (_hb : b.length ≤ 140737488351232) (h : Int) (_wh : (Lit.int .i64 h).wf = true) (i : Int) (_wi : (Lit.int .i64 i).wf = true) (t : List UInt8) (_ht : t.length ≤ 140737488351232) :
    Calls Tryd.prog 7 #[.string ⟨a.toArray⟩, .string ⟨b.toArray⟩, .int .i64 h, .int .i64 i, .string ⟨t.toArray⟩] w fun e w' => e = .returned (.bool true) ∧ Below w.heap.size w w' := by
  have HK := Lib.hid hk
  clear hk
  go_enter Tryd.func7, Tryd.ntmps7
  go_wp2_with fail
  refine (alive6_any w HK.out).mono ?_
  rintro e w1 ⟨rfl, hb1⟩
  have HB1 := Lib.hid hb1
  have HK1 := Lib.hid (HK.out.below hb1)
  clear hb1 HK
  by_cases c1 : 64 < a.length
  · have c1' : (64 : Int) < a.length := by omega
    go_wp2_with fail
    go_ret
    exact ⟨rfl, HB1.out⟩
  have c1' : ¬ (64 : Int) < a.length := by omega
  by_cases c2 : 64 < b.length
  · have c2' : (64 : Int) < b.length := by omega
    go_wp2_with fail
    go_ret
    exact ⟨rfl, HB1.out⟩
  have c2' : ¬ (64 : Int) < b.length := by omega
  by_cases c3 : 512 < t.length
  · have c3' : (512 : Int) < t.length := by omega
    go_wp2_with fail
    go_ret
    exact ⟨rfl, HB1.out⟩
  have c3' : ¬ (512 : Int) < t.length := by omega
  by_cases c4 : h < 1
  · go_wp2_with fail
    go_ret
    exact ⟨rfl, HB1.out⟩
  by_cases c5 : 2 < h
  · go_wp2_with fail
    go_ret
    exact ⟨rfl, HB1.out⟩
  by_cases c6 : i < 0
  · go_wp2_with fail
    go_ret
    exact ⟨rfl, HB1.out⟩
  by_cases c7 : 1 < i
  · go_wp2_with fail
    go_ret
    exact ⟨rfl, HB1.out⟩
  obtain ⟨n, rfl⟩ : ∃ n : Nat, h = n := ⟨h.toNat, by omega⟩
  obtain ⟨j, rfl⟩ : ∃ j : Nat, i = j := ⟨i.toNat, by omega⟩
  have hn1 : 1 ≤ n := by omega
  have hn8 : n ≤ 8 := by omega
  have hj : j < 2 ^ n := Nat.lt_of_lt_of_le (show j < 2 ^ 1 by omega) (Nat.pow_le_pow_right (by decide) hn1)
  have HNA := Lib.hid (fun w hk => dev_new a n w (by omega) hn1 hn8 hk)
  have HNB := Lib.hid (fun w hk => dev_new b n w (by omega) hn1 hn8 hk)
  have HT := Lib.hid (show t.length ≤ 1000000 by omega)
  have HSG := Lib.hid (fun v w (k : KeysIs v a n w) hk => dev_sign6 v a n j t w k hj HT.out hk)
  have HDA := Lib.hid (fun v w (k : KeysIs v a n w) => dev_node v a n w k)
  have HDB := Lib.hid (fun v w (k : KeysIs v b n w) => dev_node v b n w k)
  have hlen := signK_len a hj t
  have hl2 : (signK a n j t).length ≤ 1000000 := by omega
  have HV := Lib.hid (fun w hk => dev_verify6 (rootK b n) (n : Int) (j : Int) t (signK a n j t) w (rootK_ok b n).1 (rootK_ok b n).2 (by omega) (by omega) (by omega) (by omega) HT.out hl2 hk)
  have HF := Lib.hid (fun w => ref_verify6 (rootK b n) (n : Int) (j : Int) t (signK a n j t) w (rootK_ok b n).1 (rootK_ok b n).2 (by omega) (by omega) (by omega) (by omega) HT.out hl2)
  have eaa := fun w => equal_node (rootK a n) (rootK a n) n n (rootK_ok a n).1 (rootK_ok a n).1 (rootK_ok a n).2 (rootK_ok a n).2 w
  rw [beq_self_eq_true, beq_self_eq_true, Bool.true_and] at eaa
  have HAB := Shut.mk (fun h : a = b => show rootK a n = rootK b n by rw [h])
  obtain ⟨S, hS⟩ : ∃ S, signK a n j t = S := ⟨_, rfl⟩
  obtain ⟨ra, hra⟩ : ∃ r, rootK a n = r := ⟨_, rfl⟩
  obtain ⟨rb, hrb⟩ : ∃ r, rootK b n = r := ⟨_, rfl⟩
  rw [hS] at HSG HV HF
  rw [hra] at HDA eaa HAB
  rw [hrb] at HDB HV HF HAB
  obtain ⟨V, hV⟩ : ∃ V, verK rb n j t S = V := ⟨_, rfl⟩
  rw [hV] at HV HF
  have hVV : (V == V) = true := beq_self_eq_true _
  clear hlen hl2 hS hra hrb hV
  go_wp2_with fail
  refine (HNA.out w1 HK1.out).mono ?_
  rintro e w2 ⟨⟨v1, rfl, kv1⟩, hb2⟩
  have HB2 := Lib.hid (HB1.out.trans (hb2.mono HB1.out.size))
  have HK2 := Lib.hid (HK1.out.below hb2)
  have P1_2 := Lib.hid kv1
  clear kv1
  clear hb2 HB1 HK1 
  go_wp2_with fail
  refine (HNB.out w2 HK2.out).mono ?_
  rintro e w3 ⟨⟨v2, rfl, kv2⟩, hb3⟩
  have HB3 := Lib.hid (HB2.out.trans (hb3.mono HB2.out.size))
  have HK3 := Lib.hid (HK2.out.below hb3)
  have P1_3 := Lib.hid (P1_2.out.below hb3)
  have P2_3 := Lib.hid kv2
  clear kv2
  clear hb3 HB2 HK2 P1_2
  go_wp2_with fail
  refine (HNA.out w3 HK3.out).mono ?_
  rintro e w4 ⟨⟨v3, rfl, kv3⟩, hb4⟩
  have HB4 := Lib.hid (HB3.out.trans (hb4.mono HB3.out.size))
  have HK4 := Lib.hid (HK3.out.below hb4)
  have P1_4 := Lib.hid (P1_3.out.below hb4)
  have P2_4 := Lib.hid (P2_3.out.below hb4)
  have P3_4 := Lib.hid kv3
  clear kv3
  clear hb4 HB3 HK3 P1_3 P2_3
  go_wp2_with fail
  refine (HDA.out v1 w4 P1_4.out).mono ?_
  rintro e w5 ⟨rfl, hb5⟩
  have HB5 := Lib.hid (HB4.out.trans (hb5.mono HB4.out.size))
  have HK5 := Lib.hid (HK4.out.below hb5)
  have P1_5 := Lib.hid (P1_4.out.below hb5)
  have P2_5 := Lib.hid (P2_4.out.below hb5)
  have P3_5 := Lib.hid (P3_4.out.below hb5)
  clear hb5 HB4 HK4 P1_4 P2_4 P3_4
  go_wp2_with fail
  refine (HDA.out v3 w5 P3_5.out).mono ?_
  rintro e w6 ⟨rfl, hb6⟩
  have HB6 := Lib.hid (HB5.out.trans (hb6.mono HB5.out.size))
  have HK6 := Lib.hid (HK5.out.below hb6)
  have P1_6 := Lib.hid (P1_5.out.below hb6)
  have P2_6 := Lib.hid (P2_5.out.below hb6)
  have P3_6 := Lib.hid (P3_5.out.below hb6)
  clear hb6 HB5 HK5 P1_5 P2_5 P3_5
  go_wp2_with fail
  refine (HSG.out v1 w6 P1_6.out HK6.out).mono ?_
  rintro e w7 ⟨rfl, hb7⟩
  have HB7 := Lib.hid (HB6.out.trans (hb7.mono HB6.out.size))
  have HK7 := Lib.hid (HK6.out.below hb7)
  have P1_7 := Lib.hid (P1_6.out.below hb7)
  have P2_7 := Lib.hid (P2_6.out.below hb7)
  have P3_7 := Lib.hid (P3_6.out.below hb7)
  clear hb7 HB6 HK6 P1_6 P2_6 P3_6
  go_wp2_with fail
  refine (HDB.out v2 w7 P2_7.out).mono ?_
  rintro e w8 ⟨rfl, hb8⟩
  have HB8 := Lib.hid (HB7.out.trans (hb8.mono HB7.out.size))
  have HK8 := Lib.hid (HK7.out.below hb8)
  have P1_8 := Lib.hid (P1_7.out.below hb8)
  have P2_8 := Lib.hid (P2_7.out.below hb8)
  have P3_8 := Lib.hid (P3_7.out.below hb8)
  clear hb8 HB7 HK7 P1_7 P2_7 P3_7
  go_wp2_with fail
  refine (HV.out w8 HK8.out).mono ?_
  rintro e w9 ⟨rfl, hb9⟩
  have HB9 := Lib.hid (HB8.out.trans (hb9.mono HB8.out.size))
  have HK9 := Lib.hid (HK8.out.below hb9)
  have P1_9 := Lib.hid (P1_8.out.below hb9)
  have P2_9 := Lib.hid (P2_8.out.below hb9)
  have P3_9 := Lib.hid (P3_8.out.below hb9)
  clear hb9 HB8 HK8 P1_8 P2_8 P3_8
  go_wp2_with fail
  refine (HDB.out v2 w9 P2_9.out).mono ?_
  rintro e w10 ⟨rfl, hb10⟩
  have HB10 := Lib.hid (HB9.out.trans (hb10.mono HB9.out.size))
  have HK10 := Lib.hid (HK9.out.below hb10)
  have P1_10 := Lib.hid (P1_9.out.below hb10)
  have P2_10 := Lib.hid (P2_9.out.below hb10)
  have P3_10 := Lib.hid (P3_9.out.below hb10)
  clear hb10 HB9 HK9 P1_9 P2_9 P3_9
  go_wp2_with fail
  refine (HF.out w10).mono ?_
  rintro e w11 ⟨rfl, hb11⟩
  have HB11 := Lib.hid (HB10.out.trans (hb11.mono HB10.out.size))
  have HK11 := Lib.hid (HK10.out.below hb11)
  have P1_11 := Lib.hid (P1_10.out.below hb11)
  have P2_11 := Lib.hid (P2_10.out.below hb11)
  have P3_11 := Lib.hid (P3_10.out.below hb11)
  clear hb11 HB10 HK10 P1_10 P2_10 P3_10
  by_cases hab : a = b
  · obtain rfl := HAB.out hab
    subst hab
    go_wp2_with fail
    refine (HDB.out v2 w11 P2_11.out).mono ?_
    rintro e wx ⟨rfl, hbx⟩
    have HBX := Lib.hid (HB11.out.trans (hbx.mono HB11.out.size))
    have PX := Lib.hid (P1_11.out.below hbx)
    clear hbx HB11
    go_wp2_with fail
    refine (HDA.out v1 wx PX.out).mono ?_
    rintro e wy ⟨rfl, hby⟩
    have HBY := Lib.hid (HBX.out.trans (hby.mono HBX.out.size))
    clear hby HBX
    go_wp2_with fail
    go_ret
    exact ⟨rfl, HBY.out⟩
  · have hne : ((⟨a.toArray⟩ : ByteArray) != ⟨b.toArray⟩) = true := by
      rw [bne, beq_toListBytes, ByteArray.toList_eq, ByteArray.toList_eq]
      simpa using hab
    go_wp2_with fail
    go_ret
    exact ⟨rfl, HB11.out⟩
end Go.Proofs.YtcjjhddppcmgoaaDoor.keysApart
