/-
  The developers' parted.
-/
import Derived.Test.YthgfpojfnhkckaaOpDevM
import Derived.Test.YthgfpojfnhkckaaCopyT
namespace Go.Proofs.Ythgfpojfnhkckaa
open Go.RowKit Go.BigFrame

/-- The first i names of a text's k, the others zero. -/
def partI (s : List UInt8) (k i : Nat) : List (List Nat) := idsOf i s ++ List.replicate (k - i) (List.replicate 32 0)
theorem partI_zero (s : List UInt8) (k : Nat) : partI s k 0 = List.replicate k (List.replicate 32 0) := rfl
theorem partI_full (s : List UInt8) (k : Nat) : partI s k k = idsOf k s := by simp [partI]
theorem partI_len (s : List UInt8) {k i : Nat} (h : i ≤ k) : (partI s k i).length = k := by
  rw [partI, List.length_append, idsOf_len, List.length_replicate]; omega
theorem partI_ok {s : List UInt8} {k i : Nat} (h : 32 * i ≤ s.length) : Ids (partI s k i) := Ids.append (idsOf_ok' i s h) (Ids.zeros _)
theorem partI_set (s : List UInt8) {k i : Nat} (h : i < k) : (partI s k i).set i (byteNs ((s.drop (32 * i)).take 32)) = partI s k (i + 1) := by
  rw [partI, partI, idsOf_snoc, List.set_append_right _ _ (by rw [idsOf_len]; exact Nat.le_refl _), idsOf_len, Nat.sub_self, show k - i = (k - (i + 1)) + 1 by omega, List.replicate_succ, List.set_cons_zero, List.append_assoc]
  rfl
set_option maxHeartbeats 4000000 in
set_option maxRecDepth 100000 in
theorem dev_parted (s : List UInt8) (w : World) (hs : s.length ≤ 1000000) :
    Calls Try.prog 36 #[.string ⟨s.toArray⟩] w fun e w' => (∃ v, e = .returned v ∧ OwnI w.heap.size 23 v (idsOf (s.length / 32) s) w') ∧ Below w.heap.size w w' := by
  obtain ⟨i0, hi, hz0, hz1, hz2⟩ := info_parts Try.infoI32
  have HIF := Lib.hid hi
  have HZ0 := Lib.hid hz0
  have HZ1 := Lib.hid hz1
  have HZ2 := Lib.hid hz2
  obtain ⟨k, hk⟩ : ∃ k, s.length / 32 = k := ⟨_, rfl⟩
  have HS := Lib.hid (show 32 * k ≤ s.length by omega)
  have HKB := Lib.hid (show k ≤ 1000000 by omega)
  have hkb := HKB.out
  have HQ := Lib.hid (show (s.length : Int) / 32 = (k : Int) by omega)
  have HQ2 := Lib.hid (show (s.length : Int).tdiv 32 = (k : Int) by rw [Int.tdiv_eq_ediv_of_nonneg (by omega)]; exact HQ.out)
  rw [hk]
  clear hi hz0 hz1 hz2 hk
  go_enter Try.func36, Try.ntmps36
  go_wp2_with (at_make; refine wpList_make_full _ rfl _ _ 26 rfl w.heap.size 23 i0 _ 32 Try.underlying26 HIF.out HZ0.out HZ1.out .i64 .i64 _ _ k rfl rfl (by first | rfl | exact HQ.out | exact HQ2.out) (by first | rfl | exact HQ.out | exact HQ2.out) (by rw [HZ2.out]; have := HKB.out; omega) (by unfold maxLen; have := HKB.out; omega) (Nat.le_refl _) ?_)
  intro w2 ho2 hg2
  have hb2 : Below w.heap.size w w2 := (Below.refl w.heap.size w).grown hg2 (Nat.le_refl _) (by intro g hg; cases hg)
  have HO2 := Lib.hid (show OwnI w.heap.size 23 (.slice (some ⟨w.heap.size, 0, none⟩) k k) (partI s k 0) w2 by rw [partI_zero]; exact OwnI.made ho2)
  have HB2 := Lib.hid hb2
  obtain ⟨g, hg⟩ : ∃ g, g = w.heap.size := ⟨_, rfl⟩
  rw [← hg] at HO2 ⊢
  have HGW := Lib.hid (show w.heap.size ≤ g by omega)
  have HGE := Shut.mk hg
  clear ho2 hg2 hb2 hg
  go_wp2_with fail
  go_loopw [11] (fun n wq => ∃ i : Nat, i ≤ k ∧ n = .int .i64 i ∧ OwnI g 23 (.slice (some ⟨g, 0, none⟩) k k) (partI s k i) wq ∧ Below w.heap.size w wq) (fun n _ => k - (intOf n).toNat)
  case atStart => exact ⟨0, by omega, rfl, HO2.out, HB2.out⟩
  case round =>
    clear HO2 HB2
    obtain ⟨i, hik, rfl, ho, hb⟩ := hrel
    have HO := Lib.hid ho
    have HB := Lib.hid hb
    clear ho hb
    by_cases hli : i < k
    · have hli2 : (i : Int) < (k : Int) := by omega
      have hbd : (i : Int) * 32 ≤ (s.length : Int) := by have := HS.out; omega
      have hcut : (⟨s.toArray⟩ : ByteArray).extract (i * 32) s.length = ⟨(s.drop (i * 32)).toArray⟩ := extract_tail s (i * 32)
      have hsl : (⟨s.toArray⟩ : ByteArray).size = s.length := by simp [ByteArray.size]
      have HPS := Shut.mk (partI_set s hli)
      have HPE := Lib.hid (partI_ok (s := s) (k := k) (i := i) (by have := HS.out; omega))
      have HPL := Shut.mk (partI_len s (Nat.le_of_lt hli))
      have H16 := Lib.hid (show 32 ≤ (s.drop (i * 32)).length by rw [List.length_drop]; have := HS.out; omega)
      have HPT := Shut.mk (show byteNs ((s.drop (i * 32)).take 32) = byteNs ((s.drop (32 * i)).take 32) by rw [Nat.mul_comm i 32])
      obtain ⟨P0, hP0⟩ : ∃ P0, partI s k i = P0 := ⟨_, rfl⟩
      rw [hP0] at HPS HPE HPL HO
      clear hP0
      go_upto_region 5 with (fail)
      refine wp_region_class_tail (fun w' => Below wr.heap.size wr w') 8 (by kernel_rfl) (by kernel_rfl) (Below.refl _ _).drew ?_
      simp only [List.take_succ_cons, List.take_zero, List.drop_succ_cons, List.drop_zero]
      repeat go_big_quiet_step ((intro hs'; rfl))
      refine wpQuiet_nil ?_
      intro w4 hs4
      rw [hcut]
      have HO4 := Lib.hid (HO.out.below hs4)
      have HB4 := Lib.hid (HB.out.trans (hs4.mono HB.out.size))
      obtain ⟨S', hS'⟩ : ∃ S', s.drop (i * 32) = S' := ⟨_, rfl⟩
      rw [hS'] at H16 HPT ⊢
      clear hs4 HO HB hcut hsl hbd hS'
      have HTH := Lib.hid (HO4.out.there HPL.out.symm HPE.out hli)
      have HMN := Lib.hid (show min S'.length 32 = 32 from Nat.min_eq_right H16.out)
      refine wpList_copy_text rfl (.tmp 17) (.tmp 21) 58 9 rfl 5 Try.underlying58 (by kernel_rfl) g (i * 32) 32 32 S' rfl rfl (fun j hj => by rw [Nat.mul_comm i 32]; exact (HTH.out j (by rw [HMN.out] at hj; exact hj)).1) (fun j hj => by rw [Nat.mul_comm i 32]; exact (HTH.out j (by rw [HMN.out] at hj; exact hj)).2) ?_
      have ho5 := HO4.out.set HPL.out.symm HPE.out hli (x := byteNs (S'.take 32)) (by rw [byteNs_len, List.length_take]; have := HMN.out; omega) (byteNs_lt _)
      have hb5 := But.cells (nums .u8 (byteNs (S'.take 32))) (32 * i) w4 (But.refl g w4)
      rw [Nat.mul_comm i 32]
      obtain ⟨w5, hw5⟩ : ∃ x, x = w4.setCells g (32 * i) (nums .u8 (byteNs (S'.take 32))) := ⟨_, rfl⟩
      rw [← hw5] at ho5 hb5 ⊢
      have HO5 := Lib.hid (show OwnI g 23 (.slice (some ⟨g, 0, none⟩) k k) (partI s k (i + 1)) w5 by rw [← HPS.out, ← HPT.out]; exact ho5)
      have HB5 := Lib.hid (show Below w.heap.size w w5 from But.toBelow HB4.out hb5 HGW.out HB4.out.size)
      clear ho5 hb5 hw5 HO4 HB4 HPS HPE HPL HPT HTH HMN
      simp only [Act.put, List.setIfInBounds_toArray, List.set_cons_zero, List.set_cons_succ]
      go_wp2_with fail
      exact ⟨⟨i + 1, by omega, by go_num, HO5.out, HB5.out⟩, by simp [intOf]; omega⟩
    · obtain rfl : i = k := by omega
      have hnw : ¬ (i : Int) < (i : Int) := by omega
      rw [partI_full] at HO
      have HOr := Lib.hid (HO.out.mono HGW.out)
      clear HO
      go_wp2_with fail
      go_ret
      exact ⟨⟨_, rfl, HOr.out⟩, HB.out⟩
end Go.Proofs.Ythgfpojfnhkckaa
