/-
  pack.Num: the number's bytes.
-/
import Derived.Shelf.Small.Bits
import Derived.Shelf.Strconv.Itoa0
import Derived.Test.YthgfpojfnhkckaaDoorProg
import Derived.Test.YthgfpojfnhkckaaDoorBase
import Derived.Laws.IdiomStrings
import Derived.Deep.OwnRows
import Derived.Lib.Walk
namespace Go.Proofs
open Go.Shelf Go.RowKit
def Tryd.lays125_ren : Go.Shelf.Ren := ⟨fun | 125 => 29 | 128 => 37 | 129 => 38 | n => n, fun | 46 => 58 | 3 => 3 | 51 => 64 | 53 => 66 | 4 => 4 | 5 => 5 | 9 => 9 | n => n, fun | n => n⟩
theorem Tryd.lays125 : Go.Proofs.Lays.n125 Tryd.prog Tryd.lays125_ren := {
  mixed := by kernel_rfl
  f125 := Tryd.func29.trans (congrArg some (by kernel_rfl))
  f128 := Tryd.func37.trans (congrArg some (by kernel_rfl))
  f129 := Tryd.func38.trans (congrArg some (by kernel_rfl))
  t3 := Tryd.underlying3
  a3 := Tryd.isAgg3
  z3 := Tryd.sizeOf3
  v3 := Tryd.zeroValue3
  t4 := Tryd.underlying4
  a4 := Tryd.isAgg4
  z4 := Tryd.sizeOf4
  v4 := Tryd.zeroValue4
  t5 := Tryd.underlying5
  a5 := Tryd.isAgg5
  z5 := Tryd.sizeOf5
  v5 := Tryd.zeroValue5
  t9 := Tryd.underlying9
  a9 := Tryd.isAgg9
  z9 := Tryd.sizeOf9
  v9 := Tryd.zeroValue9
  t46 := Tryd.underlying58
  a46 := Tryd.isAgg58
  z46 := Tryd.sizeOf58
  v46 := Tryd.zeroValue58
  t51 := Tryd.underlying64
  a51 := Tryd.isAgg64
  z51 := Tryd.sizeOf64
  v51 := Tryd.zeroValue64
  t53 := Tryd.underlying66
  a53 := Tryd.isAgg66
  z53 := Tryd.sizeOf66
  v53 := Tryd.zeroValue66 }
theorem Tryd.bits_Len (x : Int) (w : World) (h0 : 0 ≤ x) (h1 : x ≤ 18446744073709551615) :
    Calls Tryd.prog 29 #[.int .u64 x] w fun e w' => e = .returned (.int .i64 (Lib.bitLen x.toNat)) ∧ w' = w := Any.bits_Len Tryd.lays125 x w h0 h1
end Go.Proofs

namespace Go.Proofs.YthgfpojfnhkckaaDoor
open Go.RowKit

theorem Tryd.infoByte : (Tryd.prog.info? 5).map (fun i => (i.zero, i.size, i.bytes)) = some (some (.int .u8 0), 1, 1) := by kernel_rfl

/-- What the row of bytes holds behind k rounds. -/
def numRow (n L k j : Nat) : Value := if j = 0 then .int .u8 L else if L - k < j then .int .u8 ((n : Int) / 2 ^ (8 * (L - j)) % 256) else .int .u8 0

theorem numRow_at {n L : Nat} (hL : (dig n).length = L) (h8 : L ≤ 8) (j : Nat) (hj : j < (numB n).length) : numRow n L L j = .int .u8 ((numB n)[j].toNat : Int) := by
  unfold numRow
  cases j with
  | zero =>
    rw [if_pos rfl]
    have : (numB n)[0].toNat = L := by simp only [numB, List.getElem_cons_zero, hL]; simp; omega
    rw [this]
  | succ j =>
    have hj2 : j < (dig n).length := by rw [numB_length] at hj; omega
    rw [if_neg (by omega), if_pos (by omega)]
    have e : (numB n)[j + 1].toNat = n / 256 ^ (L - (j + 1)) % 256 := by
      simp only [numB, List.getElem_cons_succ]
      rw [dig_get n j hj2, hL, show L - 1 - j = L - (j + 1) by omega]
    rw [e, show (256 : Nat) = 2 ^ 8 by decide, ← Nat.pow_mul]
    simp

theorem numRow_step {n L k : Nat} (hk : k < L) (i : Nat) :
    (fun j => if j = L - k then Value.int .u8 ((n : Int) / 2 ^ (8 * k) % 256) else numRow n L k j) i = numRow n L (k + 1) i := by
  unfold numRow
  by_cases e : i = L - k
  · subst e
    rw [if_neg (by omega), if_pos (by omega), show L - (L - k) = k by omega]
    simp
  · simp only [e, if_false]
    by_cases e0 : i = 0
    · simp [e0]
    · simp only [e0, if_false]
      by_cases e1 : L - k < i
      · rw [if_pos e1, if_pos (by omega)]
      · rw [if_neg e1, if_neg (by omega)]

set_option maxHeartbeats 1000000 in
theorem num_any (n : Nat) (w : World) (hn : n < 9223372036854775808) :
    Calls Tryd.prog 18 #[.int .i64 n] w fun e w' => e = .returned (.string ⟨(numB n).toArray⟩) ∧ Below w.heap.size w w' := by
  have b1 := bitLen_le hn
  have b2 : ((Lib.bitLen n : Int) + 7) / 8 = ((dig n).length : Int) := by have := bitLen_dig hn; omega
  have h8 := dig_length_8 hn
  have hD := Lib.hid (rfl : dig n = dig n)
  generalize hL : (dig n).length = L at b2 h8
  have HL := Lib.hid hL
  clear hL hD
  have hmk := run_make_row' (P := Tryd.prog) 41 5 (.int .u8 0) 1 Tryd.underlying41 Tryd.infoByte rfl .i64 .i64 (1 + L) (by omega) (by omega)
  simp only [Int.natCast_add, Int.natCast_one] at hmk
  have hrow := World.rowIs_made w (.int .u8 0) (1 + L) 5
  have hrow2 := hrow.set 0 (.int .u8 (L : Int))
  have c0 := hrow.cell (i := 0) (by omega)
  have f0 := hrow.frozen 0
  have HR := Lib.hid hrow2
  clear hrow hrow2
  go_enter Tryd.func18, Tryd.ntmps18
  go_wp2_with (go_at_call 29; refine (Tryd.bits_Len _ _ (by omega) (by omega)).mono ?_; rintro e w' ⟨rfl, rfl⟩)
  rw [b2]
  have B2 := Lib.hid b2
  clear b2 c0 f0 HR hmk
  go_loopw [21] (fun i wr => ∃ k : Nat, k ≤ L ∧ i = .int .i64 k ∧ wr.rowIs w'.heap.size 5 (1 + L) (numRow n L k) ∧ Below w'.heap.size w' wr) (fun i _ => L - (intOf i).toNat)
  case atStart =>
    refine ⟨0, Nat.zero_le _, rfl, ?_, (Below.refl _ _).alloc (Nat.le_refl _) _⟩
    have h := World.rowIs_alloc w' ((madeCells #[Value.int IntKind.u8 0] (1 + L)).setIfInBounds 0 (Value.int IntKind.u8 ↑L)) 5 (numRow n L 0) (by
      intro i hi
      simp only [Array.size_setIfInBounds, size_madeCells] at hi
      rw [Array.getElem?_setIfInBounds]
      unfold numRow
      by_cases e : i = 0
      · subst e; simp [size_madeCells]
      · rw [if_neg (by omega), if_neg e, if_neg (by omega)]
        simp [madeCells, hi, Nat.mod_one])
    simpa [size_madeCells] using h
  case round =>
    obtain ⟨k, hk, rfl, hrow, hbel⟩ := hrel
    by_cases hlt : k < L
    · have c0 := hrow.cell (i := L - k) (by omega)
      have f0 := hrow.frozen (L - k)
      have HR := Lib.hid hrow
      have HB := Lib.hid hbel
      clear hrow hbel
      go_wp2
      refine ⟨⟨k + 1, by omega, by go_num, ?_, HB.out.setCell (by simp) _⟩, by simp [intOf]; omega⟩
      exact (HR.out.set (L - k) _).congr (fun i _ => numRow_step hlt i)
    · have hkL : k = L := by omega
      subst hkL
      have hconv : (convert 41 9 (.slice (some ⟨w'.heap.size, 0, none⟩) (1 + k) (1 + k))).run Tryd.prog wr = .ok (.string ⟨(numB n).toArray⟩) wr := by
        have hlen : (numB n).length = 1 + k := by rw [numB_length, HL.out]
        rw [← hlen]
        refine run_convert_bytes_back wr _ _ 5 ⟨w'.heap.size, 0, none⟩ _ (numB n) Tryd.underlying41 Tryd.underlying5 Tryd.underlying9 ?_
        intro j hj
        have := hrow.cell (i := j) (by omega)
        rw [numRow_at HL.out h8 j hj] at this
        rw [show Addr.add ⟨w'.heap.size, 0, none⟩ j = ⟨w'.heap.size, j, none⟩ by simp only [Addr.add]; split <;> simp_all]
        exact this
      have HB := Lib.hid hbel
      clear hrow hbel
      go_wp2
      go_ret
      exact ⟨rfl, HB.out⟩

set_option maxHeartbeats 1000000 in
theorem num_neg (n : Int) (w : World) (hn : n < 0) (hlo : -9223372036854775808 ≤ n) :
    Calls Tryd.prog 18 #[.int .i64 n] w fun e w' => e = .returned (.string ⟨#[0]⟩) ∧ Below w.heap.size w w' := by
  have b0 : Lib.bitLen 0 = 0 := by decide
  have hmax : max n 0 = 0 := by omega
  have hmk : ∀ w : World, (Instr.makeSlice 41 (.int .i64 1) (.int .i64 1)).run Tryd.prog w = .ok (.slice (some ⟨w.heap.size, 0, none⟩) 1 1) (w.alloc (.cells #[.int .u8 0] 5)) := fun w => by kernel_rfl
  have hconv : (convert 41 9 (.slice (some ⟨w.heap.size, 0, none⟩) 1 1)).run Tryd.prog (w.alloc (.cells #[.int .u8 0] 5)) = .ok (.string ⟨#[0]⟩) (w.alloc (.cells #[.int .u8 0] 5)) := by
    refine run_convert_bytes_back _ _ _ 5 ⟨w.heap.size, 0, none⟩ _ [0] Tryd.underlying41 Tryd.underlying5 Tryd.underlying9 ?_
    intro j hj
    have : j = 0 := by simpa using hj
    subst this
    simp [Addr.add]
  go_enter Tryd.func18, Tryd.ntmps18
  go_wp2_with (go_at_call 29; refine (Tryd.bits_Len _ _ (by omega) (by omega)).mono ?_; rintro e w' ⟨rfl, rfl⟩)
  refine wp_loop_rounds 1 ?_
  rw [rounds_succ]
  go_wp2
  go_ret
  exact ⟨rfl, (Below.refl _ _).alloc (Nat.le_refl _) _⟩

/-- pack.Num at whatever number. -/
theorem num_int (n : Int) (w : World) (hlo : -9223372036854775808 ≤ n) (hhi : n ≤ 9223372036854775807) :
    Calls Tryd.prog 18 #[.int .i64 n] w fun e w' => e = .returned (.string ⟨(numB n.toNat).toArray⟩) ∧ Below w.heap.size w w' := by
  by_cases h : n < 0
  · have e : numB n.toNat = [0] := by rw [show n.toNat = 0 by omega]; simp [numB, dig_zero]
    rw [e]
    exact num_neg n w h hlo
  · obtain ⟨m, rfl⟩ : ∃ m : Nat, n = m := ⟨n.toNat, by omega⟩
    exact num_any m w (by omega)
end Go.Proofs.YthgfpojfnhkckaaDoor
