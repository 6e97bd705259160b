/-
  The document's number, id, Same, SameAll.
-/
import Derived.Test.YthgfpojfnhkckaaOpGoodR
import Derived.Test.YthgfpojfnhkckaaTakes3
namespace Go.Proofs.Ythgfpojfnhkckaa
open Go.RowKit Go.BigFrame

theorem ref_number (s : List UInt8) (w : World) (hs : s.length ≤ 9223372036854775000) :
    Calls Try.prog 34 #[.string ⟨s.toArray⟩] w fun e w' => ∃ x : Nat, e = .returned (.tuple #[.int .i64 x, .bool (allNum s).isSome]) ∧ (∀ n, allNum s = some n → x = n) ∧ Below w.heap.size w w' := by
  have hc := rtn_any s w hs
  have HA := Shut.mk (show allNum s = match takeNum s with | some (n, []) => some n | _ => none from rfl)
  cases ht : takeNum s with
  | none =>
    rw [ht] at hc HA
    simp only [Option.getD_none, Option.isSome_none] at hc
    have HC := Lib.hid hc
    clear hc ht hs
    go_enter Try.func34, Try.ntmps34
    go_wp2_with fail
    refine HC.out.mono ?_
    rintro e w1 ⟨rfl, hb⟩
    have HB := Lib.hid hb
    clear hb
    go_wp2_with fail
    go_ret2
    exact ⟨0, by rw [HA.out]; rfl, fun n h => (by rw [HA.out] at h; cases h), HB.out⟩
  | some p =>
    obtain ⟨n, r⟩ := p
    rw [ht] at hc HA
    simp only [Option.getD_some, Option.isSome_some] at hc
    have HC := Lib.hid hc
    clear hc ht hs
    cases r with
    | nil =>
      go_enter Try.func34, Try.ntmps34
      go_wp2_with fail
      refine HC.out.mono ?_
      rintro e w1 ⟨rfl, hb⟩
      have HB := Lib.hid hb
      clear hb
      go_wp2_with fail
      go_ret2
      exact ⟨n, by rw [HA.out]; rfl, fun m h => (by rw [HA.out] at h; simpa using h), HB.out⟩
    | cons c r =>
      have hne : ((c :: r) == []) = false := rfl
      obtain ⟨q, hq⟩ : ∃ q, c :: r = q := ⟨_, rfl⟩
      rw [hq] at HC hne
      clear hq
      go_enter Try.func34, Try.ntmps34
      go_wp2_with fail
      refine HC.out.mono ?_
      rintro e w1 ⟨rfl, hb⟩
      have HB := Lib.hid hb
      clear hb
      go_wp2_with fail
      go_ret2
      exact ⟨n, by rw [HA.out]; rfl, fun m h => (by rw [HA.out] at h; cases h), HB.out⟩

theorem Try.sizeA32 : (Try.prog.info? 23).map (·.size) = some 32 := by kernel_rfl
def idP (s : List UInt8) (k : Nat) : List Nat := (byteNs s).take k ++ List.replicate (32 - k) 0
theorem idP_len {s : List UInt8} (hs : s.length = 32) {k : Nat} (hk : k ≤ 32) : (idP s k).length = 32 := by
  rw [idP, List.length_append, List.length_take, byteNs_len, List.length_replicate]
  omega
theorem idP_zero (s : List UInt8) : idP s 0 = List.replicate 32 0 := rfl
theorem idP_full {s : List UInt8} (hs : s.length = 32) : idP s 32 = byteNs s := by
  rw [idP, List.take_of_length_le (by rw [byteNs_len]; omega)]
  simp
theorem idP_step {s : List UInt8} (hs : s.length = 32) {k : Nat} (hk : k < 32) : (idP s k).set k (s[k]'(by omega)).toNat = idP s (k + 1) := by
  have hkb : k < (byteNs s).length := by rw [byteNs_len]; omega
  have e : (byteNs s)[k] = (s[k]'(by omega)).toNat := by simp [byteNs]
  rw [idP, idP, List.set_append_right _ _ (by rw [List.length_take]; omega), List.length_take, show k - min k (byteNs s).length = 0 by omega, List.take_succ_eq_append_getElem hkb, show 32 - k = (32 - (k + 1)) + 1 by omega, List.replicate_succ, List.set_cons_zero, e]
  simp

set_option maxHeartbeats 2000000 in
set_option maxRecDepth 100000 in
theorem ref_id (s : List UInt8) (w : World) (hs : s.length = 32) :
    Calls Try.prog 35 #[.string ⟨s.toArray⟩] w fun e w' => e = .returned (.agg (nums .u8 (byteNs s)).toArray) ∧ Below w.heap.size w w' := by
  have HL := Lib.hid hs
  clear hs
  go_enter Try.func35, Try.ntmps35
  go_upto_region 2 with (fail)
  change Code.wp _ _ _ _ ((w.alloc (.cells (nums .u8 (List.replicate 32 0)).toArray 23)).alloc (.cells (nums .u8 (List.replicate 32 0)).toArray 23))
  obtain ⟨w1, hw1⟩ : ∃ x, x = ((w.alloc (.cells (nums .u8 (List.replicate 32 0)).toArray 23)).alloc (.cells (nums .u8 (List.replicate 32 0)).toArray 23)) := ⟨_, rfl⟩
  rw [← hw1]
  have h3 : Blk w.heap.size 23 .u8 (List.replicate 32 0) w1 ∧ Blk (w.heap.size + 1) 23 .u8 (List.replicate 32 0) w1 ∧ Below w.heap.size w w1 := by
    rw [hw1]
    exact two_new w _ _ _ _
  obtain ⟨hr, hc, hb⟩ := h3
  rw [← idP_zero s] at hc
  have HR := Lib.hid hr
  have HC := Lib.hid hc
  have HB := Lib.hid hb
  clear hw1 hr hc hb
  go_wp2_with fail
  go_loopw [5] (fun i wq => ∃ k : Nat, k ≤ 32 ∧ i = .int .i64 k ∧ Blk (w.heap.size + 1) 23 .u8 (idP s k) wq ∧ But (w.heap.size + 1) w1 wq) (fun i _ => 32 - (intOf i).toNat)
  case atStart => exact ⟨0, by omega, rfl, HC.out, But.refl _ _⟩
  case round =>
    clear HC
    obtain ⟨k, hk, rfl, hc, hb⟩ := hrel
    have HC := Lib.hid hc
    have HB1 := Lib.hid hb
    clear hc hb
    by_cases hlk : k < 32
    · have hks : k < s.length := by rw [HL.out]; exact hlk
      have c2 := HC.out.cell k (by rw [idP_len HL.out hk]; exact hlk)
      have hf := HC.out.frozen k
      have HS := Lib.hid (HC.out.set k (s[k]'hks).toNat)
      rw [idP_step HL.out hlk] at HS
      have hat : ∀ h, ((⟨s.toArray⟩ : ByteArray)[k]'h) = s[k]'hks := fun _ => rfl
      have b3 : (k : Int) < (s.length : Int) := by omega
      generalize s[k]'hks = x at hat HS
      generalize (idP s k).getD k 0 = y at c2
      have b1 : (k : Int) < 32 := by omega
      go_wp2_with fail
      exact ⟨⟨k + 1, by omega, by go_num, HS.out, HB1.out.setCell _ _⟩, by simp [intOf]; omega⟩
    · obtain rfl : k = 32 := by omega
      rw [show ((32 : Nat) : Int) = 32 from rfl]
      rw [idP_full HL.out] at HC
      have HR1 := Lib.hid (HR.out.but HB1.out (by omega))
      have HBB := Lib.hid (show Below w.heap.size w wr from But.toBelow HB.out HB1.out (by omega) HB.out.size)
      have HI := Lib.hid (show (Try.prog.info? 23).map (·.size) = some (byteNs s).length by rw [byteNs_len, HL.out]; exact Try.sizeA32)
      have HL2 := Lib.hid (show (List.replicate 32 0).length = (byteNs s).length by rw [byteNs_len, HL.out]; rfl)
      go_wp2_with (first | (refine wpList_load_nums rfl 23 _ rfl (w.heap.size + 1) .u8 _ 23 _ rfl HC.out Try.underlying23 rfl HI.out ?_) | (refine wpList_store_nums rfl 23 _ _ rfl rfl (w.heap.size) .u8 _ (byteNs s) 23 rfl rfl HR1.out HI.out HL2.out ?_))
      intro w7 hc hb
      have HC7 := Lib.hid (show Blk (w.heap.size) 23 .u8 (byteNs s) w7 from hc.out)
      have HB7 := Lib.hid (show Below w.heap.size w w7 from But.toBelow HBB.out hb.out (by omega) HBB.out.size)
      clear hc hb
      go_wp2_with fail
      exact bodyPost_ret (results_nums rfl _ _ (w.heap.size) .u8 _ 23 _ rfl HC7.out Try.underlying23 rfl HI.out) rfl ⟨rfl, HB7.out⟩
end Go.Proofs.Ythgfpojfnhkckaa
