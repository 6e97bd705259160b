/-
  The rounds over a block.
-/
import Derived.Test.YthgfpojfnhkckaaDoorBlocks
import Derived.Test.YthgfpojfnhkckaaDoorSched
/-! The developers' mix: a block's rounds. -/
namespace Go.Proofs.YthgfpojfnhkckaaDoor
open Go.RowKit

set_option maxHeartbeats 4000000 in
set_option maxRecDepth 100000 in
theorem mix_loop1 {q0 q1 q2 q3 q4 q5 q6 q7 wb : Nat} {t : TypeId} {Wl : List Nat} {w : World}
    {ca0 ca1 ca2 ca3 ub13 ub14 ub15 ca16 ca17 ca18 ca19 ca20 ca21 ca22 ca23 ca24 ca25 ca26 ca27 ca28 ca29 ca30 ca31 ca32 ca33 ca34 ca35 ca36 ca37 ca38
    ca39 ca40 ca41 ca42 ca43 ca44 ca45 ca46 ca47 ca48 ca49 ca50 ca51 ub53 ub54 ub55 ub56 ub57 ub58 ub59 ub60 ub61 ub62 ub63 ub64 ub65 ub66 ub67 ub68 ub69
    ub70 ub71 ub72 ub73 ub74 ub75 ub76 ub77 ub78 ub79 ub80 ub81 ub82 ub83 ub84 ub85 ub86 ub87 ub88 ub89 ub90 ub91 ub92 ub93 ub94 ub95 ub96 ub97 ub98 ub99
    ub100 ub101 ub102 ub103 ub104 ub105 ub106 ub107 ub108 ub109 ub110 ub111 ub112 ub113 ub114 ca115 ca116 ca117 ca118 ca119 ca120 ca121 ca122 ca123 ca124 ca125 ca126 ca127 ca128 ca129
    ca130 ca131 ca132 ca133 ca134 ca135 ca136 ca137 : Value}
    (HOK : Hid (S8.Ok ⟨q0, q1, q2, q3, q4, q5, q6, q7⟩)) (HWl : Hid (∀ x ∈ Wl, x < 4294967296)) (HWL : Hid (Wl.length = 64)) (HW : Hid (Blk wb t .u32 Wl w)) (HK : Hid (KAt w))
    (R : Act → World → Prop)
    (hexit : Hid (∀ (p0 p1 p2 p3 p4 p5 p6 p7 : Nat) (w1 : World), rl ⟨q0, q1, q2, q3, q4, q5, q6, q7⟩ Wl 64 = ⟨p0, p1, p2, p3, p4, p5, p6, p7⟩ ∧ Below w.heap.size w w1 → ∀ {vb13 vb14 vb15 vb52 vb53 vb54 vb55 vb56 vb57 vb58 vb59 vb60 vb61 vb62 vb63 vb64 vb65 vb66 vb67 vb68 vb69 vb70 vb71 vb72 vb73 vb74 vb75 vb76 vb77 vb78
    vb79 vb80 vb81 vb82 vb83 vb84 vb85 vb86 vb87 vb88 vb89 vb90 vb91 vb92 vb93 vb94 vb95 vb96 vb97 vb98 vb99 vb100 vb101 vb102 vb103 vb104 vb105 vb106 vb107 vb108
    vb109 vb110 vb111 vb112 vb113 vb114 : Value},
      R ⟨List.toArray (ca0 :: ca1 :: ca2 :: ca3 :: .pointer (some ⟨wb, 0, none⟩) :: .int .u32 (p0 : Int) :: .int .u32 (p1 : Int) :: .int .u32 (p2 : Int) :: .int .u32 (p3 : Int) :: .int .u32 (p4 : Int) :: .int .u32 (p5 : Int) :: .int .u32 (p6 : Int) ::
      .int .u32 (p7 : Int) :: vb13 :: vb14 :: vb15 :: ca16 :: ca17 :: ca18 :: ca19 :: ca20 :: ca21 :: ca22 :: ca23 :: ca24 :: ca25 :: ca26 :: ca27 :: ca28 :: ca29 :: ca30 :: ca31 :: ca32 :: ca33 :: ca34 :: ca35 :: ca36 :: ca37 ::
      ca38 :: ca39 :: ca40 :: ca41 :: ca42 :: ca43 :: ca44 :: ca45 :: ca46 :: ca47 :: ca48 :: ca49 :: ca50 :: ca51 :: vb52 :: vb53 :: vb54 :: vb55 :: vb56 :: vb57 :: vb58 :: vb59 :: vb60 :: vb61 :: vb62 :: vb63 :: vb64 :: vb65 ::
      vb66 :: vb67 :: vb68 :: vb69 :: vb70 :: vb71 :: vb72 :: vb73 :: vb74 :: vb75 :: vb76 :: vb77 :: vb78 :: vb79 :: vb80 :: vb81 :: vb82 :: vb83 :: vb84 :: vb85 :: vb86 :: vb87 :: vb88 :: vb89 :: vb90 :: vb91 :: vb92 :: vb93 ::
      vb94 :: vb95 :: vb96 :: vb97 :: vb98 :: vb99 :: vb100 :: vb101 :: vb102 :: vb103 :: vb104 :: vb105 :: vb106 :: vb107 :: vb108 :: vb109 :: vb110 :: vb111 :: vb112 :: vb113 :: vb114 :: ca115 :: ca116 :: ca117 :: ca118 :: ca119 ::
      ca120 :: ca121 :: ca122 :: ca123 :: ca124 :: ca125 :: ca126 :: ca127 :: ca128 :: ca129 :: ca130 :: ca131 :: ca132 :: ca133 :: ca134 :: ca135 :: ca136 :: ca137 :: []), []⟩ w1)) :
    Code.wp Tryd.prog (Code.loop (loopAt Tryd.f40 0)) (Ends 0 R) ⟨List.toArray (ca0 :: ca1 :: ca2 :: ca3 :: .pointer (some ⟨wb, 0, none⟩) :: .int .u32 (q0 : Int) :: .int .u32 (q1 : Int) :: .int .u32 (q2 : Int) :: .int .u32 (q3 : Int) :: .int .u32 (q4 : Int) :: .int .u32 (q5 : Int) :: .int .u32 (q6 : Int) ::
      .int .u32 (q7 : Int) :: ub13 :: ub14 :: ub15 :: ca16 :: ca17 :: ca18 :: ca19 :: ca20 :: ca21 :: ca22 :: ca23 :: ca24 :: ca25 :: ca26 :: ca27 :: ca28 :: ca29 :: ca30 :: ca31 :: ca32 :: ca33 :: ca34 :: ca35 :: ca36 :: ca37 ::
      ca38 :: ca39 :: ca40 :: ca41 :: ca42 :: ca43 :: ca44 :: ca45 :: ca46 :: ca47 :: ca48 :: ca49 :: ca50 :: ca51 :: .int .i64 0 :: ub53 :: ub54 :: ub55 :: ub56 :: ub57 :: ub58 :: ub59 :: ub60 :: ub61 :: ub62 :: ub63 :: ub64 ::
      ub65 :: ub66 :: ub67 :: ub68 :: ub69 :: ub70 :: ub71 :: ub72 :: ub73 :: ub74 :: ub75 :: ub76 :: ub77 :: ub78 :: ub79 :: ub80 :: ub81 :: ub82 :: ub83 :: ub84 :: ub85 :: ub86 :: ub87 :: ub88 :: ub89 :: ub90 :: ub91 :: ub92 ::
      ub93 :: ub94 :: ub95 :: ub96 :: ub97 :: ub98 :: ub99 :: ub100 :: ub101 :: ub102 :: ub103 :: ub104 :: ub105 :: ub106 :: ub107 :: ub108 :: ub109 :: ub110 :: ub111 :: ub112 :: ub113 :: ub114 :: ca115 :: ca116 :: ca117 :: ca118 ::
      ca119 :: ca120 :: ca121 :: ca122 :: ca123 :: ca124 :: ca125 :: ca126 :: ca127 :: ca128 :: ca129 :: ca130 :: ca131 :: ca132 :: ca133 :: ca134 :: ca135 :: ca136 :: ca137 :: []), []⟩ w := by
  conv => arg 2; arg 1; whnf

  go_loopw [5, 6, 7, 8, 9, 10, 11, 12, 52] (fun s0 s1 s2 s3 s4 s5 s6 s7 i wq => ∃ k p0 p1 p2 p3 p4 p5 p6 p7 : Nat, k ≤ 64 ∧ i = .int .i64 k ∧ rl ⟨q0, q1, q2, q3, q4, q5, q6, q7⟩ Wl k = ⟨p0, p1, p2, p3, p4, p5, p6, p7⟩ ∧ Below w.heap.size w wq ∧ s0 = .int .u32 (p0 : Int) ∧ s1 = .int .u32 (p1 : Int) ∧ s2 = .int .u32 (p2 : Int) ∧ s3 = .int .u32 (p3 : Int) ∧ s4 = .int .u32 (p4 : Int) ∧ s5 = .int .u32 (p5 : Int) ∧ s6 = .int .u32 (p6 : Int) ∧ s7 = .int .u32 (p7 : Int)) (fun _ _ _ _ _ _ _ _ i _ => 64 - (intOf i).toNat)
  case atStart => exact ⟨0, q0, q1, q2, q3, q4, q5, q6, q7, by omega, rfl, rfl, Below.refl _ _, rfl, rfl, rfl, rfl, rfl, rfl, rfl, rfl⟩
  case round =>
    obtain ⟨k, p0, p1, p2, p3, p4, p5, p6, p7, hk, rfl, hr, hb, rfl, rfl, rfl, rfl, rfl, rfl, rfl, rfl⟩ := hrel
    have hok := rl_ok HOK.out Wl k
    rw [hr] at hok
    have HR := Lib.hid hr
    have HB := Lib.hid hb
    clear hr hb
    by_cases hlk : k < 64
    · have cK := HK.out.below HB.out k hlk
      have cW := (HW.out.below HB.out).cell k (by rw [HWL.out]; exact hlk)
      have xK := getD_lt shaK_lt (by decide) k
      have xW := getD_lt HWl.out (by decide) k
      have HX := Lib.hid (show rl ⟨q0, q1, q2, q3, q4, q5, q6, q7⟩ Wl (k + 1) = rnd (rl ⟨q0, q1, q2, q3, q4, q5, q6, q7⟩ Wl k) (shaK.getD k 0) (Wl.getD k 0) from rfl)
      rw [HR.out] at HX
      generalize shaK.getD k 0 = kk at cK xK HX
      generalize Wl.getD k 0 = ww at cW xW HX
      obtain ⟨b0, b1, b2, b3, b4, b5, b6, b7⟩ := hok
      simp only at b0 b1 b2 b3 b4 b5 b6 b7
      have bk : (k : Int) < 64 := by omega
      go_wp2_with fail
      go_quiet (first | (go_at_call 48; refine Calls.quiet_of_same (right_int _ _ _ (by assumption) (by decide) (by decide))))
      go_wp2_with fail
      rw [t_int p0 p1 p2 p3 p4 p5 p6 p7 kk ww b4 b5 b6]
      have HT := Lib.hid (show rnd ⟨p0, p1, p2, p3, p4, p5, p6, p7⟩ kk ww = ⟨(tN ⟨p0, p1, p2, p3, p4, p5, p6, p7⟩ kk ww + uN ⟨p0, p1, p2, p3, p4, p5, p6, p7⟩) % 4294967296, p0, p1, p2, (p3 + tN ⟨p0, p1, p2, p3, p4, p5, p6, p7⟩ kk ww) % 4294967296, p4, p5, p6⟩ from rfl)
      rw [HT.out] at HX
      have ht := tN_lt ⟨p0, p1, p2, p3, p4, p5, p6, p7⟩ kk ww
      have hu := uN_lt ⟨p0, p1, p2, p3, p4, p5, p6, p7⟩
      have HU := Lib.hid (u_int p0 p1 p2 p3 p4 p5 p6 p7 b0 b1 b2)
      clear HT
      generalize tN ⟨p0, p1, p2, p3, p4, p5, p6, p7⟩ kk ww = tt at ht HX ⊢
      generalize uN ⟨p0, p1, p2, p3, p4, p5, p6, p7⟩ = uu at hu HX HU
      refine (right_lit p0 _ 2 _ b0 rfl (by decide) (by decide)).mono ?_
      rintro e w5 ⟨rfl, rfl⟩
      go_wp2_with fail
      refine (right_lit p0 _ 13 _ b0 rfl (by decide) (by decide)).mono ?_
      rintro e w5 ⟨rfl, rfl⟩
      go_wp2_with fail
      refine (right_lit p0 _ 22 _ b0 rfl (by decide) (by decide)).mono ?_
      rintro e w5 ⟨rfl, rfl⟩
      go_wp2_with fail
      rw [HU.out]
      exact ⟨⟨k + 1, (tt + uu) % 4294967296, p0, p1, p2, (p3 + tt) % 4294967296, p4, p5, p6, by omega, by go_num, HX.out, drawn_below HB.out nq,
        by rw [show (((tt + uu) % 4294967296 : Nat) : Int) = ((tt : Int) + (uu : Int)) % 4294967296 by omega], rfl, rfl, rfl,
        by rw [show (((p3 + tt) % 4294967296 : Nat) : Int) = ((p3 : Int) + (tt : Int)) % 4294967296 by omega], rfl, rfl, rfl⟩, by simp [intOf]; omega⟩
    · obtain rfl : k = 64 := by omega
      rw [show ((64 : Nat) : Int) = 64 from rfl]
      go_wp2_with fail
      exact ends_exit (hexit.out _ _ _ _ _ _ _ _ _ ⟨HR.out, HB.out⟩)
end Go.Proofs.YthgfpojfnhkckaaDoor

/-! The developers' mix: the sums behind the rounds. -/
namespace Go.Proofs.YthgfpojfnhkckaaDoor
open Go.RowKit

set_option maxHeartbeats 4000000 in
set_option maxRecDepth 100000 in
theorem mix_loop2 {bs : Nat} {t : TypeId} {h0 vv : S8} {w : World}
    {ca1 ca2 ca3 ca4 ca5 ca6 ca7 ca8 ca9 ca10 ca11 ca12 ca13 ca14 ca15 ub16 ub17 ca18 ca19 ca20 ca21 ca22 ca23 ca24 ca25 ca26 ca27 ca28 ca29 ca30
    ca31 ca32 ca33 ca34 ca35 ca36 ca37 ca38 ca39 ca40 ca41 ca42 ca43 ca44 ca45 ca46 ca47 ca48 ca49 ca50 ca51 ca52 ca53 ca54 ca55 ca56 ca57 ca58 ca59 ca60
    ca61 ca62 ca63 ca64 ca65 ca66 ca67 ca68 ca69 ca70 ca71 ca72 ca73 ca74 ca75 ca76 ca77 ca78 ca79 ca80 ca81 ca82 ca83 ca84 ca85 ca86 ca87 ca88 ca89 ca90
    ca91 ca92 ca93 ca94 ca95 ca96 ca97 ca98 ca99 ca100 ca101 ca102 ca103 ca104 ca105 ca106 ca107 ca108 ca109 ca110 ca111 ca112 ca113 ca114 ca115 ca116 ca117 ca118 ca119 ca120
    ca121 ca122 ub125 ub126 ub127 ub128 ub129 ub130 ub131 ub132 ub133 ub134 ub135 ub136 ub137 : Value}
    (HOH : Hid h0.Ok) (HOV : Hid vv.Ok) (HH : Hid (Blk bs t .u32 h0.list w))
    (R : Act → World → Prop)
    (hexit : Hid (∀  (w1 : World), Blk bs t .u32 (addS h0 vv).list w1 ∧ But bs w w1 → ∀ {vb16 vb17 vb124 vb125 vb126 vb127 vb128 vb129 vb130 vb131 vb132 vb133 vb134 vb135 vb136 vb137 : Value},
      R ⟨List.toArray (.pointer (some ⟨bs, 0, none⟩) :: ca1 :: ca2 :: ca3 :: ca4 :: ca5 :: ca6 :: ca7 :: ca8 :: ca9 :: ca10 :: ca11 :: ca12 :: ca13 :: ca14 :: ca15 :: vb16 :: vb17 :: ca18 :: ca19 :: ca20 :: ca21 :: ca22 :: ca23 :: ca24 :: ca25 ::
      ca26 :: ca27 :: ca28 :: ca29 :: ca30 :: ca31 :: ca32 :: ca33 :: ca34 :: ca35 :: ca36 :: ca37 :: ca38 :: ca39 :: ca40 :: ca41 :: ca42 :: ca43 :: ca44 :: ca45 :: ca46 :: ca47 :: ca48 :: ca49 :: ca50 :: ca51 :: ca52 :: ca53 ::
      ca54 :: ca55 :: ca56 :: ca57 :: ca58 :: ca59 :: ca60 :: ca61 :: ca62 :: ca63 :: ca64 :: ca65 :: ca66 :: ca67 :: ca68 :: ca69 :: ca70 :: ca71 :: ca72 :: ca73 :: ca74 :: ca75 :: ca76 :: ca77 :: ca78 :: ca79 :: ca80 :: ca81 ::
      ca82 :: ca83 :: ca84 :: ca85 :: ca86 :: ca87 :: ca88 :: ca89 :: ca90 :: ca91 :: ca92 :: ca93 :: ca94 :: ca95 :: ca96 :: ca97 :: ca98 :: ca99 :: ca100 :: ca101 :: ca102 :: ca103 :: ca104 :: ca105 :: ca106 :: ca107 :: ca108 ::
      ca109 :: ca110 :: ca111 :: ca112 :: ca113 :: ca114 :: ca115 :: ca116 :: ca117 :: ca118 :: ca119 :: ca120 :: ca121 :: ca122 :: .agg (nums .u32 vv.list).toArray :: vb124 :: vb125 :: vb126 :: vb127 :: vb128 :: vb129 :: vb130 ::
      vb131 :: vb132 :: vb133 :: vb134 :: vb135 :: vb136 :: vb137 :: []), []⟩ w1)) :
    Code.wp Tryd.prog (Code.loop (loopAt Tryd.f40 1)) (Ends 2 R) ⟨List.toArray (.pointer (some ⟨bs, 0, none⟩) :: ca1 :: ca2 :: ca3 :: ca4 :: ca5 :: ca6 :: ca7 :: ca8 :: ca9 :: ca10 :: ca11 :: ca12 :: ca13 :: ca14 :: ca15 :: ub16 :: ub17 :: ca18 :: ca19 :: ca20 :: ca21 :: ca22 :: ca23 :: ca24 :: ca25 ::
      ca26 :: ca27 :: ca28 :: ca29 :: ca30 :: ca31 :: ca32 :: ca33 :: ca34 :: ca35 :: ca36 :: ca37 :: ca38 :: ca39 :: ca40 :: ca41 :: ca42 :: ca43 :: ca44 :: ca45 :: ca46 :: ca47 :: ca48 :: ca49 :: ca50 :: ca51 :: ca52 :: ca53 ::
      ca54 :: ca55 :: ca56 :: ca57 :: ca58 :: ca59 :: ca60 :: ca61 :: ca62 :: ca63 :: ca64 :: ca65 :: ca66 :: ca67 :: ca68 :: ca69 :: ca70 :: ca71 :: ca72 :: ca73 :: ca74 :: ca75 :: ca76 :: ca77 :: ca78 :: ca79 :: ca80 :: ca81 ::
      ca82 :: ca83 :: ca84 :: ca85 :: ca86 :: ca87 :: ca88 :: ca89 :: ca90 :: ca91 :: ca92 :: ca93 :: ca94 :: ca95 :: ca96 :: ca97 :: ca98 :: ca99 :: ca100 :: ca101 :: ca102 :: ca103 :: ca104 :: ca105 :: ca106 :: ca107 :: ca108 ::
      ca109 :: ca110 :: ca111 :: ca112 :: ca113 :: ca114 :: ca115 :: ca116 :: ca117 :: ca118 :: ca119 :: ca120 :: ca121 :: ca122 :: .agg (nums .u32 vv.list).toArray :: .int .i64 0 :: ub125 :: ub126 :: ub127 :: ub128 :: ub129 ::
      ub130 :: ub131 :: ub132 :: ub133 :: ub134 :: ub135 :: ub136 :: ub137 :: []), []⟩ w := by
  conv => arg 2; arg 1; whnf

  go_loopw [124] (fun i wq => ∃ k : Nat, k ≤ 8 ∧ i = .int .i64 k ∧ Blk bs t .u32 (addL h0.list vv.list k) wq ∧ But bs w wq) (fun i _ => 8 - (intOf i).toNat)
  case atStart => exact ⟨0, by omega, rfl, HH.out, But.refl _ _⟩
  case round =>
    clear HH
    obtain ⟨k, hk, rfl, ho, hb2⟩ := hrel
    have HH := Lib.hid ho
    have HB := Lib.hid hb2
    clear ho hb2
    by_cases hlk : k < 8
    · have hlen := addL_len h0.list vv.list k
      rw [S8.list_len] at hlen
      have c1 := HH.out.cell k (by omega)
      have hf := HH.out.frozen k
      rw [addL_at _ _ _ _ (Nat.le_refl k)] at c1
      have hx := getD_lt HOH.out.lt (by decide) k
      have hy := getD_lt HOV.out.lt (by decide) k
      have HS := Lib.hid (HH.out.set k ((h0.list.getD k 0 + vv.list.getD k 0) % 4294967296))
      have HA := Lib.hid (show addL h0.list vv.list (k + 1) = (addL h0.list vv.list k).set k ((h0.list.getD k 0 + vv.list.getD k 0) % 4294967296) from rfl)
      have hix := fun w => run_index_nums (P := Tryd.prog) 67 64 8 .u32 vv.list k w Tryd.underlying67 (S8.list_len vv) Tryd.sizeOf64 Tryd.isAgg64 hlk
      generalize h0.list.getD k 0 = x at c1 hx HS HA
      generalize vv.list.getD k 0 = y at hix hy HS HA
      have bk : (k : Int) < 8 := by omega
      clear hlen
      go_wp2_with fail
      clear hix
      go_region
      go_wp2_with fail
      have hv : (((x + y) % 4294967296 : Nat) : Int) = ((x : Int) + (y : Int)) % 4294967296 := by omega
      exact ⟨⟨k + 1, by omega, by go_num, by
        rw [HA.out]
        have h := HS.out
        rw [hv] at h
        exact h, (HB.out.setCell _ _).drew⟩, by simp [intOf]; omega⟩
    · obtain rfl : k = 8 := by omega
      rw [show ((8 : Nat) : Int) = 8 from rfl]
      go_wp2_with fail
      exact ends_exit (hexit.out _ ⟨by have := HH.out; rwa [addL_eight] at this, HB.out⟩)
end Go.Proofs.YthgfpojfnhkckaaDoor

/-! The developers' mix: the next block, taken into the state. -/
namespace Go.Proofs.YthgfpojfnhkckaaDoor
open Go.RowKit

set_option maxHeartbeats 4000000 in
set_option maxRecDepth 100000 in
theorem mix_any (bs bb : Nat) (ts tb : TypeId) (v : S8) (bl : List Nat) (w : World) (hv : v.Ok) (hlen : bl.length = 64) (hbl : ∀ x ∈ bl, x < 256)
    (hs : Blk bs ts .u32 v.list w) (hc : Blk bb tb .u8 bl w) (hk : KAt w) :
    Calls Tryd.prog 40 #[.pointer (some ⟨bs, 0, none⟩), .pointer (some ⟨bb, 0, none⟩)] w fun e w' => e = .returned (.tuple #[]) ∧ Blk bs ts .u32 (block v (bAt bl)).list w' ∧ But bs w w' := by
  have HV := Lib.hid hv
  have HS := Lib.hid hs
  have HK := Lib.hid hk
  have HSC := Lib.hid (schedule_any bb tb bl w hlen hbl hc)
  have HWl := Lib.hid (wl_lt (bAt_lt hbl) 64)
  have HWL := Lib.hid (wl_len (bAt bl) 64)
  have HBL := Lib.hid (show block v (bAt bl) = addS v (rl v (wl (bAt bl) 64) 64) from rfl)
  clear hv hs hk hlen hbl hc
  go_enter Tryd.func40, Tryd.ntmps40
  go_wp2_with fail
  refine HSC.out.mono ?_
  rintro e w1 ⟨rfl, hb⟩
  generalize wl (bAt bl) 64 = Wl at HWl HWL HBL ⊢
  clear HSC
  have HI := Lib.hid (show (Tryd.prog.info? 83).map (·.size) = some (nums .u32 Wl).toArray.size by rw [nums_size, HWL.out]; exact Tryd.infoW)
  have HL2 := Lib.hid (show (nums .u32 (List.replicate 64 0)).toArray.size = (nums .u32 Wl).toArray.size by rw [nums_size, nums_size, HWL.out, List.length_replicate])
  have HZ := Lib.hid (show Blk w1.heap.size 83 .u32 (List.replicate 64 0) (w1.alloc (.cells (nums .u32 (List.replicate 64 0)).toArray 83)) from heap_alloc_new w1 _)
  have HB := Lib.hid hb
  clear hb
  go_wp2_with (refine wpList_store_rowTo rfl 83 _ _ rfl rfl w1.heap.size (nums .u32 Wl).toArray rfl rfl 83 _ HZ.out HI.out HL2.out (nums_all _ _) ?_)
  change Code.wp _ _ _ _ ((w1.alloc (.cells (nums .u32 (List.replicate 64 0)).toArray 83)).setRow w1.heap.size (nums .u32 Wl).toArray)
  obtain ⟨w2, hw2⟩ : ∃ x, x = (w1.alloc (.cells (nums .u32 (List.replicate 64 0)).toArray 83)).setRow w1.heap.size (nums .u32 Wl).toArray := ⟨_, rfl⟩
  rw [← hw2]
  have hsz := HB.out.size
  have HW := Lib.hid (show Blk w1.heap.size 83 .u32 Wl w2 by rw [hw2]; exact HZ.out.row)
  have hb2 : Below w.heap.size w w2 := by rw [hw2]; exact below_setRow (HB.out.alloc hsz _) hsz _
  have HS2 := Lib.hid (HS.out.below hb2)
  have HK2 := Lib.hid (HK.out.below hb2)
  have HB2 := Lib.hid hb2
  have hlt := HS.out.lt
  clear hw2 hb2 HS HK HB HZ HI HL2
  obtain ⟨q0, q1, q2, q3, q4, q5, q6, q7⟩ := v
  have c0 : w2.cell? ⟨bs, 0, none⟩ = some (.int .u32 (q0 : Int)) := HS2.out.cell 0 (by rw [S8.list_len]; omega)
  have c1 : w2.cell? ⟨bs, 1, none⟩ = some (.int .u32 (q1 : Int)) := HS2.out.cell 1 (by rw [S8.list_len]; omega)
  have c2 : w2.cell? ⟨bs, 2, none⟩ = some (.int .u32 (q2 : Int)) := HS2.out.cell 2 (by rw [S8.list_len]; omega)
  have c3 : w2.cell? ⟨bs, 3, none⟩ = some (.int .u32 (q3 : Int)) := HS2.out.cell 3 (by rw [S8.list_len]; omega)
  have c4 : w2.cell? ⟨bs, 4, none⟩ = some (.int .u32 (q4 : Int)) := HS2.out.cell 4 (by rw [S8.list_len]; omega)
  have c5 : w2.cell? ⟨bs, 5, none⟩ = some (.int .u32 (q5 : Int)) := HS2.out.cell 5 (by rw [S8.list_len]; omega)
  have c6 : w2.cell? ⟨bs, 6, none⟩ = some (.int .u32 (q6 : Int)) := HS2.out.cell 6 (by rw [S8.list_len]; omega)
  have c7 : w2.cell? ⟨bs, 7, none⟩ = some (.int .u32 (q7 : Int)) := HS2.out.cell 7 (by rw [S8.list_len]; omega)
  go_quiet (fail)
  clear c0 c1 c2 c3 c4 c5 c6 c7
  go_wp2_with fail
  refine wp_ends (mix_loop1 HV HWl HWL (Lib.hid (HW.out.drawn nq)) (Lib.hid (show KAt (w2.drewN nq) from HK2.out)) _ (Lib.hid ?_))
  rintro p0 p1 p2 p3 p4 p5 p6 p7 w3 ⟨hr, hb3⟩
  intros
  have hok := rl_ok HV.out Wl 64
  rw [hr] at hok
  have HOK := Lib.hid hok
  have HR := Lib.hid hr
  have hb4 : Below w.heap.size w w3 := (drawn_below HB2.out nq).trans (hb3.mono HB2.out.size)
  have HS3 := Lib.hid ((HS2.out.drawn nq).below hb3)
  have HB3 := Lib.hid hb4
  clear hr hb3 hb4 hok HS2 HK2 HB2 HW HWl HWL
  go_wp2_with fail
  refine wp_ends (mix_loop2 (vv := ⟨p0, p1, p2, p3, p4, p5, p6, p7⟩) HV HOK HS3 _ (Lib.hid ?_))
  rintro w4 ⟨ho, hb4⟩
  intros
  have HO := Lib.hid (show Blk bs ts .u32 (block ⟨q0, q1, q2, q3, q4, q5, q6, q7⟩ (bAt bl)).list w4 by rw [HBL.out, HR.out]; exact ho)
  have HB4 := Lib.hid ((But.refl bs w).below HB3.out |>.trans hb4)
  clear ho hb4
  go_wp2_with fail
  exact bodyPost_end (results_none rfl _ _ _) rfl ⟨rfl, HO.out, HB4.out⟩
end Go.Proofs.YthgfpojfnhkckaaDoor
