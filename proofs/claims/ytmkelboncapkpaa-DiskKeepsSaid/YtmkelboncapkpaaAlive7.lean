/-
  What the laws of layer 7 ask first: alive.
-/
import Derived.Test.YtmkelboncapkpaaGreat7
namespace Go.Proofs.Ytmkelboncapkpaa
open Go.RowKit Go.BigFrame

/-- A disk that the call made: it owns nothing that was there before. -/
def Lone (B : Nat) (w0 : World) (v : Value) (s : DS) (w : World) : Prop := ∃ O, DiskIs O v s w ∧ (∀ b, O b → B ≤ b) ∧ Below B w0 w ∧ B ≤ w.heap.size
theorem Lone.step {B : Nat} {w0 : World} {v : Value} {s' : DS} {w w' : World} {O O' : Nat → Prop} (hO : ∀ b, O b → B ≤ b) (hb : Below B w0 w) (hB : B ≤ w.heap.size) (hd : DiskIs O' v s' w') (ht : Turn O O' w w') : Lone B w0 v s' w' :=
  ⟨O', hd, fun b h => (ht.own b h).elim (hO b) (Nat.le_trans hB), Only.toBelow hb ht.only hO hB, Nat.le_trans hB ht.only.size⟩
theorem Lone.below {B : Nat} {w0 : World} {v : Value} {s : DS} {w w' : World} (h : Lone B w0 v s w) (k : Below w.heap.size w w') : Lone B w0 v s w' := by
  obtain ⟨O, hd, hO, hb, hB⟩ := h
  exact ⟨O, hd.only (Only.of (O := fun _ => False) k) (fun _ _ => id), hO, hb.trans (k.mono hB), Nat.le_trans hB k.size⟩

set_option maxHeartbeats 4000000 in
set_option maxRecDepth 100000 in
theorem alive7_any (w : World) :
    Calls Try.prog 7 #[] w fun e w' => e = .returned (.bool true) ∧ Below w.heap.size w w' := by
  have HF0 := Lib.hid ((fit_new 2).mono (show 0 ≤ 999999 by omega))
  have HF1 := Lib.hid (((fit_new 2).write 0 [1]).mono (show 0 + 1 ≤ 999999 by omega))
  have HF2 := Lib.hid ((((fit_new 2).write 0 [1]).gone 1).mono (show 0 + 1 ≤ 999999 by omega))
  have HF3 := Lib.hid ((((fit_new 2).write 0 [1]).gone 1).on.mono (show 0 + 1 ≤ 999999 by omega))
  have HRB := Shut.mk (show readB (onS (goneS (writeS (newS 2) 0 [1]) 1)) 0 = padN [1] by decide)
  have HWY := Shut.mk (show whyS (onS (goneS (writeS (newS 2) 0 [1]) 1)) 0 = 0 by decide)
  have HAC := Shut.mk (show (onS (goneS (writeS (newS 2) 0 [1]) 1)).acts = 1 by decide)
  have HSZ := Shut.mk (show (onS (goneS (writeS (newS 2) 0 [1]) 1)).safe.length = 2 by decide)
  have HPL := Shut.mk (show (padN [1]).length = 128 by decide)
  have HP0 := Lib.hid (show ∃ h : 0 < (padN [1]).length, (padN [1])[0].toNat = 1 from ⟨by decide, by decide⟩)
  obtain ⟨s0, h0⟩ : ∃ s, newS 2 = s := ⟨_, rfl⟩
  rw [h0] at HF0 HF1 HF2 HF3 HRB HWY HAC HSZ
  obtain ⟨s1, h1⟩ : ∃ s, writeS s0 0 [1] = s := ⟨_, rfl⟩
  rw [h1] at HF1 HF2 HF3 HRB HWY HAC HSZ
  obtain ⟨s2, h2⟩ : ∃ s, goneS s1 1 = s := ⟨_, rfl⟩
  rw [h2] at HF2 HF3 HRB HWY HAC HSZ
  obtain ⟨s3, h3⟩ : ∃ s, onS s2 = s := ⟨_, rfl⟩
  rw [h3] at HF3 HRB HWY HAC HSZ
  obtain ⟨Z, hZ⟩ : ∃ Z, padN [1] = Z := ⟨_, rfl⟩
  rw [hZ] at HRB HPL HP0
  have H0 := Shut.mk h0
  have H1 := Shut.mk h1
  have H2 := Shut.mk h2
  have H3 := Shut.mk h3
  clear h0 h1 h2 h3 hZ
  go_enter Try.func7, Try.ntmps7
  go_wp2_with fail
  refine (dev7_new 2 w).mono ?_
  rintro e w1 ⟨⟨v, O, rfl, hd, hO⟩, hb⟩
  rw [H0.out] at hd
  have HL := Lib.hid (show Lone w.heap.size w v s0 w1 from ⟨O, hd, hO, hb, hb.size⟩)
  obtain ⟨ad, rfl⟩ := hd.ptr
  clear hd hO hb
  go_wp2_with fail
  have hba : Below w1.heap.size w1 (w1.alloc (.cells #[.int .u8 1] 5)) := (Below.refl _ _).alloc (Nat.le_refl _) _
  have hnum : NumsAt (some ⟨w1.heap.size, 0, none⟩) .u8 (byteNs [1]) (w1.alloc (.cells #[.int .u8 1] 5)) := .inr ⟨w1.heap.size, 0, rfl, by simp, fun j hj => by
    obtain rfl : j = 0 := by rw [byteNs_len] at hj; simp at hj; omega
    rw [Lib.cell_of_heap (heap_alloc_new w1 _)]; rfl⟩
  obtain ⟨O1, hd1, hO1, hb1, hB1⟩ := HL.out
  have hd2 := hd1.only (Only.of (O := fun _ => False) hba) (fun _ _ => id)
  refine (dev7_write O1 _ s0 0 [1] (some ⟨w1.heap.size, 0, none⟩) 1 _ hd2 HF0.out hnum (fun _ a ha e => by
    obtain rfl := Option.some.inj ha
    exact absurd (hd1.lt _ e) (Nat.lt_irrefl _)) (by decide)).mono ?_
  rintro e w2 ⟨rfl, O', hd', ht'⟩
  rw [H1.out] at hd'
  have HL2 := Lib.hid (Lone.step hO1 (hb1.trans (hba.mono hB1)) (Nat.le_trans hB1 hba.size) hd' ht')
  clear hd1 hO1 hb1 hB1 hd2 hba hnum hd' ht' HL
  go_wp2_with fail
  obtain ⟨O2, hd2, hO2, hb2, hB2⟩ := HL2.out
  refine (dev7_off O2 _ s1 1 w2 hd2 HF1.out (by decide)).mono ?_
  rintro e w3 ⟨rfl, O', hd', ht'⟩
  rw [H2.out] at hd'
  have HL3 := Lib.hid (Lone.step hO2 hb2 hB2 hd' ht')
  clear hd2 hO2 hb2 hB2 hd' ht' HL2
  go_wp2_with fail
  obtain ⟨O3, hd3, hO3, hb3, hB3⟩ := HL3.out
  refine (dev7_on O3 _ s2 w3 hd3 HF2.out).mono ?_
  rintro e w4 ⟨rfl, O', hd', ht'⟩
  rw [H3.out] at hd'
  have HL4 := Lib.hid (Lone.step hO3 hb3 hB3 hd' ht')
  clear hd3 hO3 hb3 hB3 hd' ht' HL3
  go_wp2_with fail
  obtain ⟨O4, hd4, hO4, hb4, hB4⟩ := HL4.out
  have hrd := dev7_read O4 _ s3 0 w4 hd4 HF3.out
  rw [HRB.out, HWY.out] at hrd
  refine hrd.mono ?_
  rintro e w5 ⟨⟨ao, co, rfl, hnb⟩, hb5⟩
  have HL5 := Lib.hid (HL4.out.below hb5)
  obtain ⟨hz, hz1⟩ := HP0.out
  rcases hnb with hnil | ⟨g, o, rfl, _, _, hcell⟩
  · rw [hnil] at hz; cases hz
  have c0 := (hcell 0 hz).1
  rw [hz1, Nat.add_zero] at c0
  rw [HPL.out]
  clear hrd hcell hb5 hd4 hO4 hb4 hB4 HL4 hz hz1
  go_wp2_with fail
  obtain ⟨O5, hd5, hO5, hb5, hB5⟩ := HL5.out
  refine (dev7_size O5 _ s3 w5 hd5 HF3.out).mono ?_
  rintro e w6 ⟨rfl, hb6⟩
  rw [HSZ.out]
  have HL6 := Lib.hid (HL5.out.below hb6)
  clear hd5 hO5 hb5 hB5 hb6 HL5 c0
  go_wp2_with fail
  obtain ⟨O6, hd6, hO6, hb6, hB6⟩ := HL6.out
  refine (dev7_acts O6 _ s3 w6 hd6 HF3.out).mono ?_
  rintro e w7 ⟨rfl, hb7⟩
  rw [HAC.out]
  have HB7 := Lib.hid (hb6.trans (hb7.mono hB6))
  clear hd6 hO6 hb6 hB6 hb7 HL6
  go_wp2_with fail
  go_ret
  exact ⟨rfl, HB7.out⟩
end Go.Proofs.Ytmkelboncapkpaa
