/-
  The developers' mix: the sums behind the rounds.
-/
import Derived.Test.YtlgmlnhjanjplaaDoorBlk
namespace Go.Proofs.YtlgmlnhjanjplaaDoor
open Go.RowKit

set_option maxHeartbeats 4000000 in
set_option maxRecDepth 100000 in
theorem mix_loop2 {bs : Nat} {t : TypeId} {h0 vv : S8} {w : World}
    {ca1 ca2 ca3 ca4 ca5 ca6 ca7 ca8 ca9 ca10 ca11 ca12 ca13 ca14 ca15 ub16 ub17 ca18 ca19 ca20 ca21 ca22 ca23 ca24 ca25 ca26 ca27 ca28 ca29 ca30
    ca31 ca32 ca33 ca34 ca35 ca36 ca37 ca38 ca39 ca40 ca41 ca42 ca43 ca44 ca45 ca46 ca47 ca48 ca49 ca50 ca51 ca52 ca53 ca54 ca55 ca56 ca57 ca58 ca59 ca60
    ca61 ca62 ca63 ca64 ca65 ca66 ca67 ca68 ca69 ca70 ca71 ca72 ca73 ca74 ca75 ca76 ca77 ca78 ca79 ca80 ca81 ca82 ca83 ca84 ca85 ca86 ca87 ca88 ca89 ca90
    ca91 ca92 ca93 ca94 ca95 ca96 ca97 ca98 ca99 ca100 ca101 ca102 ca103 ca104 ca105 ca106 ca107 ca108 ca109 ca110 ca111 ca112 ca113 ca114 ca115 ca116 ca117 ca118 ca119 ca120
    ca121 ca122 ub125 ub126 ub127 ub128 ub129 ub130 ub131 ub132 ub133 ub134 ub135 ub136 ub137 : Value}
    (HOH : Hid h0.Ok) (HOV : Hid vv.Ok) (HH : Hid (Blk bs t .u32 h0.list w))
    (R : Act → World → Prop)
    (hexit : Hid (∀  (w1 : World), Blk bs t .u32 (addS h0 vv).list w1 ∧ But bs w w1 → ∀ {vb16 vb17 vb124 vb125 vb126 vb127 vb128 vb129 vb130 vb131 vb132 vb133 vb134 vb135 vb136 vb137 : Value},
      R ⟨List.toArray (.pointer (some ⟨bs, 0, none⟩) :: ca1 :: ca2 :: ca3 :: ca4 :: ca5 :: ca6 :: ca7 :: ca8 :: ca9 :: ca10 :: ca11 :: ca12 :: ca13 :: ca14 :: ca15 :: vb16 :: vb17 :: ca18 :: ca19 :: ca20 :: ca21 :: ca22 :: ca23 :: ca24 :: ca25 ::
      ca26 :: ca27 :: ca28 :: ca29 :: ca30 :: ca31 :: ca32 :: ca33 :: ca34 :: ca35 :: ca36 :: ca37 :: ca38 :: ca39 :: ca40 :: ca41 :: ca42 :: ca43 :: ca44 :: ca45 :: ca46 :: ca47 :: ca48 :: ca49 :: ca50 :: ca51 :: ca52 :: ca53 ::
      ca54 :: ca55 :: ca56 :: ca57 :: ca58 :: ca59 :: ca60 :: ca61 :: ca62 :: ca63 :: ca64 :: ca65 :: ca66 :: ca67 :: ca68 :: ca69 :: ca70 :: ca71 :: ca72 :: ca73 :: ca74 :: ca75 :: ca76 :: ca77 :: ca78 :: ca79 :: ca80 :: ca81 ::
      ca82 :: ca83 :: ca84 :: ca85 :: ca86 :: ca87 :: ca88 :: ca89 :: ca90 :: ca91 :: ca92 :: ca93 :: ca94 :: ca95 :: ca96 :: ca97 :: ca98 :: ca99 :: ca100 :: ca101 :: ca102 :: ca103 :: ca104 :: ca105 :: ca106 :: ca107 :: ca108 ::
      ca109 :: ca110 :: ca111 :: ca112 :: ca113 :: ca114 :: ca115 :: ca116 :: ca117 :: ca118 :: ca119 :: ca120 :: ca121 :: ca122 :: .agg (nums .u32 vv.list).toArray :: vb124 :: vb125 :: vb126 :: vb127 :: vb128 :: vb129 :: vb130 ::
      vb131 :: vb132 :: vb133 :: vb134 :: vb135 :: vb136 :: vb137 :: []), []⟩ w1)) :
    Code.wp Tryd.prog (Code.loop (loopAt Tryd.f41 1)) (Ends 2 R) ⟨List.toArray (.pointer (some ⟨bs, 0, none⟩) :: ca1 :: ca2 :: ca3 :: ca4 :: ca5 :: ca6 :: ca7 :: ca8 :: ca9 :: ca10 :: ca11 :: ca12 :: ca13 :: ca14 :: ca15 :: ub16 :: ub17 :: ca18 :: ca19 :: ca20 :: ca21 :: ca22 :: ca23 :: ca24 :: ca25 ::
      ca26 :: ca27 :: ca28 :: ca29 :: ca30 :: ca31 :: ca32 :: ca33 :: ca34 :: ca35 :: ca36 :: ca37 :: ca38 :: ca39 :: ca40 :: ca41 :: ca42 :: ca43 :: ca44 :: ca45 :: ca46 :: ca47 :: ca48 :: ca49 :: ca50 :: ca51 :: ca52 :: ca53 ::
      ca54 :: ca55 :: ca56 :: ca57 :: ca58 :: ca59 :: ca60 :: ca61 :: ca62 :: ca63 :: ca64 :: ca65 :: ca66 :: ca67 :: ca68 :: ca69 :: ca70 :: ca71 :: ca72 :: ca73 :: ca74 :: ca75 :: ca76 :: ca77 :: ca78 :: ca79 :: ca80 :: ca81 ::
      ca82 :: ca83 :: ca84 :: ca85 :: ca86 :: ca87 :: ca88 :: ca89 :: ca90 :: ca91 :: ca92 :: ca93 :: ca94 :: ca95 :: ca96 :: ca97 :: ca98 :: ca99 :: ca100 :: ca101 :: ca102 :: ca103 :: ca104 :: ca105 :: ca106 :: ca107 :: ca108 ::
      ca109 :: ca110 :: ca111 :: ca112 :: ca113 :: ca114 :: ca115 :: ca116 :: ca117 :: ca118 :: ca119 :: ca120 :: ca121 :: ca122 :: .agg (nums .u32 vv.list).toArray :: .int .i64 0 :: ub125 :: ub126 :: ub127 :: ub128 :: ub129 ::
      ub130 :: ub131 :: ub132 :: ub133 :: ub134 :: ub135 :: ub136 :: ub137 :: []), []⟩ w := by
  conv => arg 2; arg 1; whnf

  go_loopw [124] (fun i wq => ∃ k : Nat, k ≤ 8 ∧ i = .int .i64 k ∧ Blk bs t .u32 (addL h0.list vv.list k) wq ∧ But bs w wq) (fun i _ => 8 - (intOf i).toNat)
  case atStart => exact ⟨0, by omega, rfl, HH.out, But.refl _ _⟩
  case round =>
    clear HH
    obtain ⟨k, hk, rfl, ho, hb2⟩ := hrel
    have HH := Lib.hid ho
    have HB := Lib.hid hb2
    clear ho hb2
    by_cases hlk : k < 8
    · have hlen := addL_len h0.list vv.list k
      rw [S8.list_len] at hlen
      have c1 := HH.out.cell k (by omega)
      have hf := HH.out.frozen k
      rw [addL_at _ _ _ _ (Nat.le_refl k)] at c1
      have hx := getD_lt HOH.out.lt (by decide) k
      have hy := getD_lt HOV.out.lt (by decide) k
      have HS := Lib.hid (HH.out.set k ((h0.list.getD k 0 + vv.list.getD k 0) % 4294967296))
      have HA := Lib.hid (show addL h0.list vv.list (k + 1) = (addL h0.list vv.list k).set k ((h0.list.getD k 0 + vv.list.getD k 0) % 4294967296) from rfl)
      have hix := fun w => run_index_nums (P := Tryd.prog) 63 62 8 .u32 vv.list k w Tryd.underlying63 (S8.list_len vv) Tryd.sizeOf62 Tryd.isAgg62 hlk
      generalize h0.list.getD k 0 = x at c1 hx HS HA
      generalize vv.list.getD k 0 = y at hix hy HS HA
      have bk : (k : Int) < 8 := by omega
      clear hlen
      go_wp2_with fail
      clear hix
      go_region
      go_wp2_with fail
      have hv : (((x + y) % 4294967296 : Nat) : Int) = ((x : Int) + (y : Int)) % 4294967296 := by omega
      exact ⟨⟨k + 1, by omega, by go_num, by
        rw [HA.out]
        have h := HS.out
        rw [hv] at h
        exact h, (HB.out.setCell _ _).drew⟩, by simp [intOf]; omega⟩
    · obtain rfl : k = 8 := by omega
      rw [show ((8 : Nat) : Int) = 8 from rfl]
      go_wp2_with fail
      exact ends_exit (hexit.out _ ⟨by have := HH.out; rwa [addL_eight] at this, HB.out⟩)
end Go.Proofs.YtlgmlnhjanjplaaDoor
