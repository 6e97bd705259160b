/-
  The document's Path.
-/
import Derived.Test.YtgmckanjgnpbhaaDoorElem5
namespace Go.Proofs.YtgmckanjgnpbhaaDoor
open Go.RowKit Go.BigFrame

theorem sib_fit {h k i : Nat} (hk : k < h) (hi : i < 2 ^ h) : (sibN (i / 2 ^ k) + 1) * 2 ^ k ≤ 2 ^ h :=
  Nat.le_trans (Nat.mul_le_mul_right _ (sib_lt hk hi)) (Nat.div_mul_le_self _ _)

set_option maxHeartbeats 1000000 in
set_option maxRecDepth 100000 in
theorem ref_path (L : List (List Nat)) (i h : Nat) (ao : Option Addr) (cap : Nat) (w : World) (hL : Elems L) (hE : EAt ao L w) (hn : L.length = 2 ^ h) (h8 : h ≤ 8) (hi : i < L.length) :
    Calls Tryd.prog 16 #[.slice ao L.length cap, .int .i64 i] w fun e w' => (∃ v, e = .returned v ∧ OwnE w.heap.size 27 v (pathN L i h) w') ∧ Below w.heap.size w w' := by
  have HE := Lib.hid hE
  have LE := Lib.hid hL
  have HH := Shut.mk (show heightN L.length = h by rw [hn, heightN_pow])
  have h256 : L.length ≤ 256 := by rw [hn]; exact Nat.le_trans (Nat.pow_le_pow_right (by decide) h8) (by decide)
  have HF := Lib.hid (fun k (hk : k < h) => show (sibN (i / 2 ^ k) + 1) * 2 ^ k ≤ L.length by rw [hn]; exact sib_fit hk (by rw [← hn]; exact hi))
  have HQ := Lib.hid (fun k => show i / 2 ^ k ≤ 256 from Nat.le_trans (Nat.div_le_self _ _) (by omega))
  clear hE hL hn
  go_enter Tryd.func16, Tryd.ntmps16
  go_wp2_with fail
  go_loopw [1, 5, 6] (fun a v n wq => ∃ k : Nat, k ≤ h ∧ n = .int .i64 k ∧ a = .int .i64 ((i / 2 ^ k : Nat) : Int) ∧ OwnE w.heap.size 27 v (pathN L i k) wq ∧ Below w.heap.size w wq) (fun _ _ n _ => h - (intOf n).toNat)
  case atStart => exact ⟨0, by omega, rfl, by simp, OwnE.nil _ _ _, Below.refl _ _⟩
  case round =>
    obtain ⟨k, hk, rfl, rfl, ho, hb⟩ := hrel
    have HB := Lib.hid hb
    have HO0 := Lib.hid ho
    clear ho hb
    go_wp2_with fail
    refine (height_any L.length wr (by omega)).mono ?_
    rintro e w1 ⟨rfl, rfl⟩
    rw [HH.out]
    by_cases hlk : k < h
    · have hlk2 : (k : Int) < (h : Int) := by omega
      have ho := HO0.out
      clear HO0
      obtain ⟨a1, c1, rfl⟩ := ho.form
      rw [pathN_len] at ho ⊢
      have HO := Lib.hid ho
      have HP := Shut.mk (pathN_next L i k)
      have HPL := Shut.mk (pathN_len L i k)
      have HE1 := Lib.hid (HE.out.below HB.out)
      have hf := HF.out k hlk
      have hd := HQ.out k
      have HD := Shut.mk (show i / 2 ^ (k + 1) = i / 2 ^ k / 2 by rw [Nat.pow_succ, Nat.div_div_eq_div_mul])
      obtain ⟨q, hq⟩ : ∃ q, i / 2 ^ k = q := ⟨_, rfl⟩
      obtain ⟨M, hM⟩ : ∃ M, pathN L i k = M := ⟨_, rfl⟩
      rw [hq] at HP HD hf hd ⊢
      rw [hM] at HO HP HPL
      clear ho hq hM
      by_cases hpar : q % 2 = 1
      · have HS := Shut.mk (show sibN q = q - 1 by unfold sibN; rw [if_pos hpar])
        rw [HS.out] at hf HP
        have hp2 : ((q : Int) % 2 = 1) := by omega
        have HF1 := Lib.hid (show (q - 1 + 1) * 2 ^ k ≤ L.length from hf)
        obtain ⟨hx1, hx2⟩ := atN_ok LE.out k (q - 1) (Nat.lt_of_lt_of_le (Nat.mul_lt_mul_of_pos_right (Nat.lt_succ_self _) (Nat.two_pow_pos k)) hf)
        clear HS hf
        go_wp2_with fail
        have c1 := ref_at L _ cap LE.out h256 k (q - 1) w1 HE1.out HF1.out (by omega)
        rw [show ((q - 1 : Nat) : Int) = (q : Int) - 1 by omega] at c1
        refine c1.mono ?_
        rintro e w2 ⟨rfl, hb2⟩
        have HO2 := Lib.hid (HO.out.below hb2)
        have HB2 := Lib.hid (HB.out.trans (hb2.mono HB.out.size))
        obtain ⟨x, hx⟩ : ∃ x, atN L k (q - 1) = x := ⟨_, rfl⟩
        rw [hx] at HP hx1 hx2 ⊢
        have HX1 := Lib.hid hx1
        have HX2 := Lib.hid hx2
        clear hb2 HO HB HE1 c1 hx hx1 hx2 HF1
        go_wp2_with (refine wpList_build_elem rfl 24 27 (.tmp 26) rfl x rfl HX1.out Tryd.underlying24 Tryd.infoE16 ?_)
        intro w3 hl3 hb3
        have HL3 := Lib.hid (blk_news hl3.out)
        have HO3 := Lib.hid (HO2.out.below hb3.out)
        have HB3 := Lib.hid (HB2.out.trans (hb3.out.mono HB2.out.size))
        clear hl3 hb3 HO2 HB2
        go_wp2_with (at_builtin; refine wpList_append_elems rfl (.tmp 22) (.tmp 27) 24 27 rfl w.heap.size _ rfl Tryd.underlying24 Tryd.infoE16 _ M [x] (Elems.one HX1.out HX2.out) ⟨w2.heap.size, 0, none⟩ 1 1 rfl rfl HO3.out rfl (by rw [flatE_one]; exact HL3.out) (by rw [HPL.out]; simp; omega) HB3.out.size ?_)
        intro v4 w4 ho4 hb4
        have HB4 := Lib.hid (HB3.out.trans hb4.out)
        clear hb4 HB3
        go_wp2_with fail
        exact ⟨⟨k + 1, by omega, by go_num, by rw [HD.out]; go_num, by rw [HP.out]; exact ho4.out, HB4.out⟩, by simp [intOf]; omega⟩
      · have HS := Shut.mk (show sibN q = q + 1 by unfold sibN; rw [if_neg hpar])
        rw [HS.out] at hf HP
        have hp2 : ¬ ((q : Int) % 2 = 1) := by omega
        have HF1 := Lib.hid (show (q + 1 + 1) * 2 ^ k ≤ L.length from hf)
        obtain ⟨hx1, hx2⟩ := atN_ok LE.out k (q + 1) (Nat.lt_of_lt_of_le (Nat.mul_lt_mul_of_pos_right (Nat.lt_succ_self _) (Nat.two_pow_pos k)) hf)
        clear HS hf
        go_wp2_with fail
        have c1 := ref_at L _ cap LE.out h256 k (q + 1) w1 HE1.out HF1.out (by omega)
        rw [show ((q + 1 : Nat) : Int) = (q : Int) + 1 by omega] at c1
        refine c1.mono ?_
        rintro e w2 ⟨rfl, hb2⟩
        have HO2 := Lib.hid (HO.out.below hb2)
        have HB2 := Lib.hid (HB.out.trans (hb2.mono HB.out.size))
        obtain ⟨x, hx⟩ : ∃ x, atN L k (q + 1) = x := ⟨_, rfl⟩
        rw [hx] at HP hx1 hx2 ⊢
        have HX1 := Lib.hid hx1
        have HX2 := Lib.hid hx2
        clear hb2 HO HB HE1 c1 hx hx1 hx2 HF1
        go_wp2_with (refine wpList_build_elem rfl 24 27 (.tmp 26) rfl x rfl HX1.out Tryd.underlying24 Tryd.infoE16 ?_)
        intro w3 hl3 hb3
        have HL3 := Lib.hid (blk_news hl3.out)
        have HO3 := Lib.hid (HO2.out.below hb3.out)
        have HB3 := Lib.hid (HB2.out.trans (hb3.out.mono HB2.out.size))
        clear hl3 hb3 HO2 HB2
        go_wp2_with (at_builtin; refine wpList_append_elems rfl (.tmp 22) (.tmp 27) 24 27 rfl w.heap.size _ rfl Tryd.underlying24 Tryd.infoE16 _ M [x] (Elems.one HX1.out HX2.out) ⟨w2.heap.size, 0, none⟩ 1 1 rfl rfl HO3.out rfl (by rw [flatE_one]; exact HL3.out) (by rw [HPL.out]; simp; omega) HB3.out.size ?_)
        intro v4 w4 ho4 hb4
        have HB4 := Lib.hid (HB3.out.trans hb4.out)
        clear hb4 HB3
        go_wp2_with fail
        exact ⟨⟨k + 1, by omega, by go_num, by rw [HD.out]; go_num, by rw [HP.out]; exact ho4.out, HB4.out⟩, by simp [intOf]; omega⟩
    · have hlk2 : ¬ (k : Int) < (h : Int) := by omega
      obtain rfl : k = h := by omega
      go_wp2_with fail
      go_ret
      exact ⟨⟨_, rfl, HO0.out⟩, HB.out⟩
end Go.Proofs.YtgmckanjgnpbhaaDoor
