/-
  The developers' mix: a block's rounds.
-/
import Derived.Test.YtlgmlnhjanjplaaDoorBlk
namespace Go.Proofs.YtlgmlnhjanjplaaDoor
open Go.RowKit

set_option maxHeartbeats 4000000 in
set_option maxRecDepth 100000 in
theorem mix_loop1 {q0 q1 q2 q3 q4 q5 q6 q7 wb : Nat} {t : TypeId} {Wl : List Nat} {w : World}
    {ca0 ca1 ca2 ca3 ub13 ub14 ub15 ca16 ca17 ca18 ca19 ca20 ca21 ca22 ca23 ca24 ca25 ca26 ca27 ca28 ca29 ca30 ca31 ca32 ca33 ca34 ca35 ca36 ca37 ca38
    ca39 ca40 ca41 ca42 ca43 ca44 ca45 ca46 ca47 ca48 ca49 ca50 ca51 ub53 ub54 ub55 ub56 ub57 ub58 ub59 ub60 ub61 ub62 ub63 ub64 ub65 ub66 ub67 ub68 ub69
    ub70 ub71 ub72 ub73 ub74 ub75 ub76 ub77 ub78 ub79 ub80 ub81 ub82 ub83 ub84 ub85 ub86 ub87 ub88 ub89 ub90 ub91 ub92 ub93 ub94 ub95 ub96 ub97 ub98 ub99
    ub100 ub101 ub102 ub103 ub104 ub105 ub106 ub107 ub108 ub109 ub110 ub111 ub112 ub113 ub114 ca115 ca116 ca117 ca118 ca119 ca120 ca121 ca122 ca123 ca124 ca125 ca126 ca127 ca128 ca129
    ca130 ca131 ca132 ca133 ca134 ca135 ca136 ca137 : Value}
    (HOK : Hid (S8.Ok ⟨q0, q1, q2, q3, q4, q5, q6, q7⟩)) (HWl : Hid (∀ x ∈ Wl, x < 4294967296)) (HWL : Hid (Wl.length = 64)) (HW : Hid (Blk wb t .u32 Wl w)) (HK : Hid (KAt w))
    (R : Act → World → Prop)
    (hexit : Hid (∀ (p0 p1 p2 p3 p4 p5 p6 p7 : Nat) (w1 : World), rl ⟨q0, q1, q2, q3, q4, q5, q6, q7⟩ Wl 64 = ⟨p0, p1, p2, p3, p4, p5, p6, p7⟩ ∧ Below w.heap.size w w1 → ∀ {vb13 vb14 vb15 vb52 vb53 vb54 vb55 vb56 vb57 vb58 vb59 vb60 vb61 vb62 vb63 vb64 vb65 vb66 vb67 vb68 vb69 vb70 vb71 vb72 vb73 vb74 vb75 vb76 vb77 vb78
    vb79 vb80 vb81 vb82 vb83 vb84 vb85 vb86 vb87 vb88 vb89 vb90 vb91 vb92 vb93 vb94 vb95 vb96 vb97 vb98 vb99 vb100 vb101 vb102 vb103 vb104 vb105 vb106 vb107 vb108
    vb109 vb110 vb111 vb112 vb113 vb114 : Value},
      R ⟨List.toArray (ca0 :: ca1 :: ca2 :: ca3 :: .pointer (some ⟨wb, 0, none⟩) :: .int .u32 (p0 : Int) :: .int .u32 (p1 : Int) :: .int .u32 (p2 : Int) :: .int .u32 (p3 : Int) :: .int .u32 (p4 : Int) :: .int .u32 (p5 : Int) :: .int .u32 (p6 : Int) ::
      .int .u32 (p7 : Int) :: vb13 :: vb14 :: vb15 :: ca16 :: ca17 :: ca18 :: ca19 :: ca20 :: ca21 :: ca22 :: ca23 :: ca24 :: ca25 :: ca26 :: ca27 :: ca28 :: ca29 :: ca30 :: ca31 :: ca32 :: ca33 :: ca34 :: ca35 :: ca36 :: ca37 ::
      ca38 :: ca39 :: ca40 :: ca41 :: ca42 :: ca43 :: ca44 :: ca45 :: ca46 :: ca47 :: ca48 :: ca49 :: ca50 :: ca51 :: vb52 :: vb53 :: vb54 :: vb55 :: vb56 :: vb57 :: vb58 :: vb59 :: vb60 :: vb61 :: vb62 :: vb63 :: vb64 :: vb65 ::
      vb66 :: vb67 :: vb68 :: vb69 :: vb70 :: vb71 :: vb72 :: vb73 :: vb74 :: vb75 :: vb76 :: vb77 :: vb78 :: vb79 :: vb80 :: vb81 :: vb82 :: vb83 :: vb84 :: vb85 :: vb86 :: vb87 :: vb88 :: vb89 :: vb90 :: vb91 :: vb92 :: vb93 ::
      vb94 :: vb95 :: vb96 :: vb97 :: vb98 :: vb99 :: vb100 :: vb101 :: vb102 :: vb103 :: vb104 :: vb105 :: vb106 :: vb107 :: vb108 :: vb109 :: vb110 :: vb111 :: vb112 :: vb113 :: vb114 :: ca115 :: ca116 :: ca117 :: ca118 :: ca119 ::
      ca120 :: ca121 :: ca122 :: ca123 :: ca124 :: ca125 :: ca126 :: ca127 :: ca128 :: ca129 :: ca130 :: ca131 :: ca132 :: ca133 :: ca134 :: ca135 :: ca136 :: ca137 :: []), []⟩ w1)) :
    Code.wp Tryd.prog (Code.loop (loopAt Tryd.f41 0)) (Ends 0 R) ⟨List.toArray (ca0 :: ca1 :: ca2 :: ca3 :: .pointer (some ⟨wb, 0, none⟩) :: .int .u32 (q0 : Int) :: .int .u32 (q1 : Int) :: .int .u32 (q2 : Int) :: .int .u32 (q3 : Int) :: .int .u32 (q4 : Int) :: .int .u32 (q5 : Int) :: .int .u32 (q6 : Int) ::
      .int .u32 (q7 : Int) :: ub13 :: ub14 :: ub15 :: ca16 :: ca17 :: ca18 :: ca19 :: ca20 :: ca21 :: ca22 :: ca23 :: ca24 :: ca25 :: ca26 :: ca27 :: ca28 :: ca29 :: ca30 :: ca31 :: ca32 :: ca33 :: ca34 :: ca35 :: ca36 :: ca37 ::
      ca38 :: ca39 :: ca40 :: ca41 :: ca42 :: ca43 :: ca44 :: ca45 :: ca46 :: ca47 :: ca48 :: ca49 :: ca50 :: ca51 :: .int .i64 0 :: ub53 :: ub54 :: ub55 :: ub56 :: ub57 :: ub58 :: ub59 :: ub60 :: ub61 :: ub62 :: ub63 :: ub64 ::
      ub65 :: ub66 :: ub67 :: ub68 :: ub69 :: ub70 :: ub71 :: ub72 :: ub73 :: ub74 :: ub75 :: ub76 :: ub77 :: ub78 :: ub79 :: ub80 :: ub81 :: ub82 :: ub83 :: ub84 :: ub85 :: ub86 :: ub87 :: ub88 :: ub89 :: ub90 :: ub91 :: ub92 ::
      ub93 :: ub94 :: ub95 :: ub96 :: ub97 :: ub98 :: ub99 :: ub100 :: ub101 :: ub102 :: ub103 :: ub104 :: ub105 :: ub106 :: ub107 :: ub108 :: ub109 :: ub110 :: ub111 :: ub112 :: ub113 :: ub114 :: ca115 :: ca116 :: ca117 :: ca118 ::
      ca119 :: ca120 :: ca121 :: ca122 :: ca123 :: ca124 :: ca125 :: ca126 :: ca127 :: ca128 :: ca129 :: ca130 :: ca131 :: ca132 :: ca133 :: ca134 :: ca135 :: ca136 :: ca137 :: []), []⟩ w := by
  conv => arg 2; arg 1; whnf

  go_loopw [5, 6, 7, 8, 9, 10, 11, 12, 52] (fun s0 s1 s2 s3 s4 s5 s6 s7 i wq => ∃ k p0 p1 p2 p3 p4 p5 p6 p7 : Nat, k ≤ 64 ∧ i = .int .i64 k ∧ rl ⟨q0, q1, q2, q3, q4, q5, q6, q7⟩ Wl k = ⟨p0, p1, p2, p3, p4, p5, p6, p7⟩ ∧ Below w.heap.size w wq ∧ s0 = .int .u32 (p0 : Int) ∧ s1 = .int .u32 (p1 : Int) ∧ s2 = .int .u32 (p2 : Int) ∧ s3 = .int .u32 (p3 : Int) ∧ s4 = .int .u32 (p4 : Int) ∧ s5 = .int .u32 (p5 : Int) ∧ s6 = .int .u32 (p6 : Int) ∧ s7 = .int .u32 (p7 : Int)) (fun _ _ _ _ _ _ _ _ i _ => 64 - (intOf i).toNat)
  case atStart => exact ⟨0, q0, q1, q2, q3, q4, q5, q6, q7, by omega, rfl, rfl, Below.refl _ _, rfl, rfl, rfl, rfl, rfl, rfl, rfl, rfl⟩
  case round =>
    obtain ⟨k, p0, p1, p2, p3, p4, p5, p6, p7, hk, rfl, hr, hb, rfl, rfl, rfl, rfl, rfl, rfl, rfl, rfl⟩ := hrel
    have hok := rl_ok HOK.out Wl k
    rw [hr] at hok
    have HR := Lib.hid hr
    have HB := Lib.hid hb
    clear hr hb
    by_cases hlk : k < 64
    · have cK := HK.out.below HB.out k hlk
      have cW := (HW.out.below HB.out).cell k (by rw [HWL.out]; exact hlk)
      have xK := getD_lt shaK_lt (by decide) k
      have xW := getD_lt HWl.out (by decide) k
      have HX := Lib.hid (show rl ⟨q0, q1, q2, q3, q4, q5, q6, q7⟩ Wl (k + 1) = rnd (rl ⟨q0, q1, q2, q3, q4, q5, q6, q7⟩ Wl k) (shaK.getD k 0) (Wl.getD k 0) from rfl)
      rw [HR.out] at HX
      generalize shaK.getD k 0 = kk at cK xK HX
      generalize Wl.getD k 0 = ww at cW xW HX
      obtain ⟨b0, b1, b2, b3, b4, b5, b6, b7⟩ := hok
      simp only at b0 b1 b2 b3 b4 b5 b6 b7
      have bk : (k : Int) < 64 := by omega
      go_wp2_with fail
      go_quiet (first | (go_at_call 52; refine Calls.quiet_of_same (right_int _ _ _ (by assumption) (by decide) (by decide))))
      go_wp2_with fail
      rw [t_int p0 p1 p2 p3 p4 p5 p6 p7 kk ww b4 b5 b6]
      have HT := Lib.hid (show rnd ⟨p0, p1, p2, p3, p4, p5, p6, p7⟩ kk ww = ⟨(tN ⟨p0, p1, p2, p3, p4, p5, p6, p7⟩ kk ww + uN ⟨p0, p1, p2, p3, p4, p5, p6, p7⟩) % 4294967296, p0, p1, p2, (p3 + tN ⟨p0, p1, p2, p3, p4, p5, p6, p7⟩ kk ww) % 4294967296, p4, p5, p6⟩ from rfl)
      rw [HT.out] at HX
      have ht := tN_lt ⟨p0, p1, p2, p3, p4, p5, p6, p7⟩ kk ww
      have hu := uN_lt ⟨p0, p1, p2, p3, p4, p5, p6, p7⟩
      have HU := Lib.hid (u_int p0 p1 p2 p3 p4 p5 p6 p7 b0 b1 b2)
      clear HT
      generalize tN ⟨p0, p1, p2, p3, p4, p5, p6, p7⟩ kk ww = tt at ht HX ⊢
      generalize uN ⟨p0, p1, p2, p3, p4, p5, p6, p7⟩ = uu at hu HX HU
      refine (right_lit p0 _ 2 _ b0 rfl (by decide) (by decide)).mono ?_
      rintro e w5 ⟨rfl, rfl⟩
      go_wp2_with fail
      refine (right_lit p0 _ 13 _ b0 rfl (by decide) (by decide)).mono ?_
      rintro e w5 ⟨rfl, rfl⟩
      go_wp2_with fail
      refine (right_lit p0 _ 22 _ b0 rfl (by decide) (by decide)).mono ?_
      rintro e w5 ⟨rfl, rfl⟩
      go_wp2_with fail
      rw [HU.out]
      exact ⟨⟨k + 1, (tt + uu) % 4294967296, p0, p1, p2, (p3 + tt) % 4294967296, p4, p5, p6, by omega, by go_num, HX.out, drawn_below HB.out nq,
        by rw [show (((tt + uu) % 4294967296 : Nat) : Int) = ((tt : Int) + (uu : Int)) % 4294967296 by omega], rfl, rfl, rfl,
        by rw [show (((p3 + tt) % 4294967296 : Nat) : Int) = ((p3 : Int) + (tt : Int)) % 4294967296 by omega], rfl, rfl, rfl⟩, by simp [intOf]; omega⟩
    · obtain rfl : k = 64 := by omega
      rw [show ((64 : Nat) : Int) = 64 from rfl]
      go_wp2_with fail
      exact ends_exit (hexit.out _ _ _ _ _ _ _ _ _ ⟨HR.out, HB.out⟩)
end Go.Proofs.YtlgmlnhjanjplaaDoor
