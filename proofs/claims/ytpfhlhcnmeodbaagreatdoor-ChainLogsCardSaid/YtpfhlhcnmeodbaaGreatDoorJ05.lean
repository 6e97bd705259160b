/-
  Joined: pack.Num: the number's bytes.; A builder of the call's own; pack.List.; The document's own Num, Text and List, walked.; Sum and Cut, the developers' and the document's.; Cut.; The worlds of a statement that calls what makes memory: the round constants' table lies there.; Hexadecimal digits; arrays of bytes compared and read; the worlds of a statement.; Chains: encode, next, Walk, the developers' and the document's.
-/
import Derived.BigQuiet
import Derived.Deep.Cut
import Derived.Deep.OwnRows
import Derived.Deep.QuietTactic
import Derived.Laws.AppendOwnNone
import Derived.Laws.IdiomStrings
import Derived.Lib.AppendStr
import Derived.Lib.Builder
import Derived.Lib.UnsafeStr
import Derived.Lib.Walk
import Derived.Shelf.Small.Bits
import Derived.Shelf.Strconv.Itoa0
import Derived.Shelf.Strings.Builder1
import Derived.Shelf.Strings.BuilderF
import Derived.Shelf.Strings.BuilderK
import Derived.StillTailTactics
import Derived.Stop.BytesEq
import Derived.Test.YtpfhlhcnmeodbaaGreatDoorProg
import Derived.Test.YtpfhlhcnmeodbaaGreatDoorJ01
import Derived.Test.YtpfhlhcnmeodbaaGreatDoorJ02
import Derived.Test.YtpfhlhcnmeodbaaGreatDoorJ03
import Derived.Test.YtpfhlhcnmeodbaaGreatDoorJ04
namespace Go.Proofs
open Go.Shelf Go.RowKit
def Tryz.lays125_ren : Go.Shelf.Ren := ⟨fun | 125 => 84 | 128 => 101 | 129 => 102 | n => n, fun | 46 => 131 | 3 => 3 | 51 => 143 | 53 => 142 | 4 => 4 | 5 => 5 | 9 => 9 | n => n, fun | n => n⟩
theorem Tryz.lays125 : Go.Proofs.Lays.n125 Tryz.prog Tryz.lays125_ren := {
  mixed := by kernel_rfl
  f125 := Tryz.func84.trans (congrArg some (by kernel_rfl))
  f128 := Tryz.func101.trans (congrArg some (by kernel_rfl))
  f129 := Tryz.func102.trans (congrArg some (by kernel_rfl))
  t3 := Tryz.underlying3
  a3 := Tryz.isAgg3
  z3 := Tryz.sizeOf3
  v3 := Tryz.zeroValue3
  t4 := Tryz.underlying4
  a4 := Tryz.isAgg4
  z4 := Tryz.sizeOf4
  v4 := Tryz.zeroValue4
  t5 := Tryz.underlying5
  a5 := Tryz.isAgg5
  z5 := Tryz.sizeOf5
  v5 := Tryz.zeroValue5
  t9 := Tryz.underlying9
  a9 := Tryz.isAgg9
  z9 := Tryz.sizeOf9
  v9 := Tryz.zeroValue9
  t46 := Tryz.underlying131
  a46 := Tryz.isAgg131
  z46 := Tryz.sizeOf131
  v46 := Tryz.zeroValue131
  t51 := Tryz.underlying143
  a51 := Tryz.isAgg143
  z51 := Tryz.sizeOf143
  v51 := Tryz.zeroValue143
  t53 := Tryz.underlying142
  a53 := Tryz.isAgg142
  z53 := Tryz.sizeOf142
  v53 := Tryz.zeroValue142 }
theorem Tryz.bits_Len (x : Int) (w : World) (h0 : 0 ≤ x) (h1 : x ≤ 18446744073709551615) :
    Calls Tryz.prog 84 #[.int .u64 x] w fun e w' => e = .returned (.int .i64 (Lib.bitLen x.toNat)) ∧ w' = w := Any.bits_Len Tryz.lays125 x w h0 h1
end Go.Proofs
namespace Go.Proofs.YtpfhlhcnmeodbaaGreatDoor
open Go.RowKit
theorem Tryz.infoByte : (Tryz.prog.info? 5).map (fun i => (i.zero, i.size, i.bytes)) = some (some (.int .u8 0), 1, 1) := by kernel_rfl
def numRow (n L k j : Nat) : Value := if j = 0 then .int .u8 L else if L - k < j then .int .u8 ((n : Int) / 2 ^ (8 * (L - j)) % 256) else .int .u8 0
theorem numRow_at {n L : Nat} (hL : (dig n).length = L) (h8 : L ≤ 8) (j : Nat) (hj : j < (numB n).length) : numRow n L L j = .int .u8 ((numB n)[j].toNat : Int) := by
  unfold numRow
  cases j with
  | zero =>
    rw [if_pos rfl]
    have : (numB n)[0].toNat = L := by simp only [numB, List.getElem_cons_zero, hL]; simp; omega
    rw [this]
  | succ j =>
    have hj2 : j < (dig n).length := by rw [numB_length] at hj; omega
    rw [if_neg (by omega), if_pos (by omega)]
    have e : (numB n)[j + 1].toNat = n / 256 ^ (L - (j + 1)) % 256 := by
      simp only [numB, List.getElem_cons_succ]
      rw [dig_get n j hj2, hL, show L - 1 - j = L - (j + 1) by omega]
    rw [e, show (256 : Nat) = 2 ^ 8 by decide, ← Nat.pow_mul]
    simp
theorem numRow_step {n L k : Nat} (hk : k < L) (i : Nat) :
    (fun j => if j = L - k then Value.int .u8 ((n : Int) / 2 ^ (8 * k) % 256) else numRow n L k j) i = numRow n L (k + 1) i := by
  unfold numRow
  by_cases e : i = L - k
  · subst e
    rw [if_neg (by omega), if_pos (by omega), show L - (L - k) = k by omega]
    simp
  · simp only [e, if_false]
    by_cases e0 : i = 0
    · simp [e0]
    · simp only [e0, if_false]
      by_cases e1 : L - k < i
      · rw [if_pos e1, if_pos (by omega)]
      · rw [if_neg e1, if_neg (by omega)]
set_option maxHeartbeats 1000000 in
theorem num_any (n : Nat) (w : World) (hn : n < 9223372036854775808) :
    Calls Tryz.prog 50 #[.int .i64 n] w fun e w' => e = .returned (.string ⟨(numB n).toArray⟩) ∧ Below w.heap.size w w' := by
  have b1 := bitLen_le hn
  have b2 : ((Lib.bitLen n : Int) + 7) / 8 = ((dig n).length : Int) := by have := bitLen_dig hn; omega
  have h8 := dig_length_8 hn
  have hD := Lib.hid (rfl : dig n = dig n)
  generalize hL : (dig n).length = L at b2 h8
  have HL := Lib.hid hL
  clear hL hD
  have hmk := run_make_row' (P := Tryz.prog) 97 5 (.int .u8 0) 1 Tryz.underlying97 Tryz.infoByte rfl .i64 .i64 (1 + L) (by omega) (by omega)
  simp only [Int.natCast_add, Int.natCast_one] at hmk
  have hrow := World.rowIs_made w (.int .u8 0) (1 + L) 5
  have hrow2 := hrow.set 0 (.int .u8 (L : Int))
  have c0 := hrow.cell (i := 0) (by omega)
  have f0 := hrow.frozen 0
  have HR := Lib.hid hrow2
  clear hrow hrow2
  go_enter Tryz.func50, Tryz.ntmps50
  go_wp2_with (go_at_call 84; refine (Tryz.bits_Len _ _ (by omega) (by omega)).mono ?_; rintro e w' ⟨rfl, rfl⟩)
  rw [b2]
  have B2 := Lib.hid b2
  clear b2 c0 f0 HR hmk
  go_loopw [21] (fun i wr => ∃ k : Nat, k ≤ L ∧ i = .int .i64 k ∧ wr.rowIs w'.heap.size 5 (1 + L) (numRow n L k) ∧ Below w'.heap.size w' wr) (fun i _ => L - (intOf i).toNat)
  case atStart =>
    refine ⟨0, Nat.zero_le _, rfl, ?_, (Below.refl _ _).alloc (Nat.le_refl _) _⟩
    have h := World.rowIs_alloc w' ((madeCells #[Value.int IntKind.u8 0] (1 + L)).setIfInBounds 0 (Value.int IntKind.u8 ↑L)) 5 (numRow n L 0) (by
      intro i hi
      simp only [Array.size_setIfInBounds, size_madeCells] at hi
      rw [Array.getElem?_setIfInBounds]
      unfold numRow
      by_cases e : i = 0
      · subst e; simp [size_madeCells]
      · rw [if_neg (by omega), if_neg e, if_neg (by omega)]
        simp [madeCells, hi, Nat.mod_one])
    simpa [size_madeCells] using h
  case round =>
    obtain ⟨k, hk, rfl, hrow, hbel⟩ := hrel
    by_cases hlt : k < L
    · have c0 := hrow.cell (i := L - k) (by omega)
      have f0 := hrow.frozen (L - k)
      have HR := Lib.hid hrow
      have HB := Lib.hid hbel
      clear hrow hbel
      go_wp2
      refine ⟨⟨k + 1, by omega, by go_num, ?_, HB.out.setCell (by simp) _⟩, by simp [intOf]; omega⟩
      exact (HR.out.set (L - k) _).congr (fun i _ => numRow_step hlt i)
    · have hkL : k = L := by omega
      subst hkL
      have hconv : (convert 97 9 (.slice (some ⟨w'.heap.size, 0, none⟩) (1 + k) (1 + k))).run Tryz.prog wr = .ok (.string ⟨(numB n).toArray⟩) wr := by
        have hlen : (numB n).length = 1 + k := by rw [numB_length, HL.out]
        rw [← hlen]
        refine run_convert_bytes_back wr _ _ 5 ⟨w'.heap.size, 0, none⟩ _ (numB n) Tryz.underlying97 Tryz.underlying5 Tryz.underlying9 ?_
        intro j hj
        have := hrow.cell (i := j) (by omega)
        rw [numRow_at HL.out h8 j hj] at this
        rw [show Addr.add ⟨w'.heap.size, 0, none⟩ j = ⟨w'.heap.size, j, none⟩ by simp only [Addr.add]; split <;> simp_all]
        exact this
      have HB := Lib.hid hbel
      clear hrow hbel
      go_wp2
      go_ret
      exact ⟨rfl, HB.out⟩
set_option maxHeartbeats 1000000 in
theorem num_neg (n : Int) (w : World) (hn : n < 0) (hlo : -9223372036854775808 ≤ n) :
    Calls Tryz.prog 50 #[.int .i64 n] w fun e w' => e = .returned (.string ⟨#[0]⟩) ∧ Below w.heap.size w w' := by
  have b0 : Lib.bitLen 0 = 0 := by decide
  have hmax : max n 0 = 0 := by omega
  have hmk : ∀ w : World, (Instr.makeSlice 97 (.int .i64 1) (.int .i64 1)).run Tryz.prog w = .ok (.slice (some ⟨w.heap.size, 0, none⟩) 1 1) (w.alloc (.cells #[.int .u8 0] 5)) := fun w => by kernel_rfl
  have hconv : (convert 97 9 (.slice (some ⟨w.heap.size, 0, none⟩) 1 1)).run Tryz.prog (w.alloc (.cells #[.int .u8 0] 5)) = .ok (.string ⟨#[0]⟩) (w.alloc (.cells #[.int .u8 0] 5)) := by
    refine run_convert_bytes_back _ _ _ 5 ⟨w.heap.size, 0, none⟩ _ [0] Tryz.underlying97 Tryz.underlying5 Tryz.underlying9 ?_
    intro j hj
    have : j = 0 := by simpa using hj
    subst this
    simp [Addr.add]
  go_enter Tryz.func50, Tryz.ntmps50
  go_wp2_with (go_at_call 84; refine (Tryz.bits_Len _ _ (by omega) (by omega)).mono ?_; rintro e w' ⟨rfl, rfl⟩)
  refine wp_loop_rounds 1 ?_
  rw [rounds_succ]
  go_wp2
  go_ret
  exact ⟨rfl, (Below.refl _ _).alloc (Nat.le_refl _) _⟩
theorem num_int (n : Int) (w : World) (hlo : -9223372036854775808 ≤ n) (hhi : n ≤ 9223372036854775807) :
    Calls Tryz.prog 50 #[.int .i64 n] w fun e w' => e = .returned (.string ⟨(numB n.toNat).toArray⟩) ∧ Below w.heap.size w w' := by
  by_cases h : n < 0
  · have e : numB n.toNat = [0] := by rw [show n.toNat = 0 by omega]; simp [numB, dig_zero]
    rw [e]
    exact num_neg n w h hlo
  · obtain ⟨m, rfl⟩ : ∃ m : Nat, n = m := ⟨n.toNat, by omega⟩
    exact num_any m w (by omega)
end Go.Proofs.YtpfhlhcnmeodbaaGreatDoor
namespace Go.Proofs
open Go.Shelf Go.RowKit
def Tryz.lays169_ren : Go.Shelf.Ren := ⟨fun | 169 => 83 | n => n, fun | 70 => 122 | 9 => 9 | 0 => 0 | 72 => 124 | 37 => 97 | 127 => 137 | 3 => 3 | 5 => 5 | n => n, fun | n => n⟩
theorem Tryz.lays169 : Go.Proofs.Lays.n169 Tryz.prog Tryz.lays169_ren := {
  mixed := by kernel_rfl
  f169 := Tryz.func83.trans (congrArg some (by kernel_rfl))
  t0 := Tryz.underlying0
  a0 := Tryz.isAgg0
  z0 := Tryz.sizeOf0
  v0 := Tryz.zeroValue0
  t3 := Tryz.underlying3
  a3 := Tryz.isAgg3
  z3 := Tryz.sizeOf3
  v3 := Tryz.zeroValue3
  t9 := Tryz.underlying9
  a9 := Tryz.isAgg9
  z9 := Tryz.sizeOf9
  v9 := Tryz.zeroValue9
  t37 := Tryz.underlying97
  a37 := Tryz.isAgg97
  z37 := Tryz.sizeOf97
  v37 := Tryz.zeroValue97
  t70 := Tryz.underlying122
  a70 := Tryz.isAgg122
  z70 := Tryz.sizeOf122
  v70 := Tryz.zeroValue122
  t72 := Tryz.underlying124
  a72 := Tryz.isAgg124
  z72 := Tryz.sizeOf124
  v72 := Tryz.zeroValue124
  t127 := Tryz.underlying137
  a127 := Tryz.isAgg137
  z127 := Tryz.sizeOf137
  v127 := Tryz.zeroValue137 }
theorem Tryz.Builder_Extra_169 : Builder.Extra Tryz.prog Tryz.lays169_ren := {
  sizeBuilder := by kernel_rfl
  liesBuilder := by kernel_rfl
  t5 := Tryz.underlying5
  a5 := Tryz.isAgg5
  z5 := Tryz.sizeOf5
  v5 := Tryz.zeroValue5
  infoByte := by kernel_rfl
  cellsByte := by kernel_rfl
  sizeByte := by kernel_rfl
  neB5 := by decide }
theorem Tryz.Builder_String_any (B b : Nat) (l : List UInt8) (w : World) (h : Lib.IsBuilder 124 5 B b (Lib.byteCells l) w) (hBw : B ≤ w.heap.size) :
    Calls Tryz.prog 83 #[.pointer (some ⟨b, 0, none⟩)] w fun e w' => e = .returned (.string ⟨l.toArray⟩) ∧ Below B w w' := Any.Builder_String_any Tryz.lays169 Tryz.Builder_Extra_169 B b l w h hBw
end Go.Proofs
namespace Go.Proofs.YtpfhlhcnmeodbaaGreatDoor
open Go.RowKit
theorem builder_below {T e : TypeId} {B b : Nat} {bs : List Value} {w w' : World} (h : Lib.IsBuilder T e B b bs w) (k : Below w.heap.size w w') : Lib.IsBuilder T e B b bs w' := by
  have one : ∀ p, Lib.BuilderAt T e B b p bs w → Lib.BuilderAt T e B b p bs w' := by
    intro p hp
    have hlt := hp.lt
    obtain ⟨hB, v, hb, hown, hne⟩ := hp
    refine ⟨hB, v, (k.block b hlt).trans hb, ?_, hne⟩
    exact hown.kept (row := none) ⟨k.os, k.tape, k.output, k.size, fun i hi _ => k.block i hi⟩ (by
      rcases h : v.ownBlock with _ | g
      · exact Or.inl rfl
      · exact Or.inr (by simp))
  rcases h with h | h
  · exact Or.inl (one _ h)
  · exact Or.inr (one _ h)
set_option maxHeartbeats 1000000 in
set_option maxRecDepth 100000 in
theorem copyCheck_used (b : Nat) (w : World) (h0 : w.cell? ⟨b, 0, none⟩ = some (.pointer (some ⟨b, 0, none⟩))) :
    Calls Tryz.prog 100 #[.pointer (some ⟨b, 0, none⟩)] w fun e w' => e = .returned (.tuple #[]) ∧ w' = w := by
  obtain ⟨j, hj, _⟩ := Option.map_eq_some_iff.1 Tryz.Builder_Extra_169.sizeBuilder
  go_enter Tryz.func100, Tryz.ntmps100
  go_wp2
  rw [Lib.run_neq_ptr_same w _ Tryz.underlying122 hj]
  go_wp2
  go_end0
  exact ⟨rfl, rfl⟩
set_option maxHeartbeats 1000000 in
set_option maxRecDepth 100000 in
theorem copyCheck_fresh (b : Nat) (w : World) (h0 : w.cell? ⟨b, 0, none⟩ = some (.pointer none)) (hsh : w.shape? b = some (124, 2)) (hfz : w.frozen? ⟨b, 0, none⟩ = false) :
    Calls Tryz.prog 100 #[.pointer (some ⟨b, 0, none⟩)] w fun e w' => e = .returned (.tuple #[]) ∧ w' = w.setCell ⟨b, 0, none⟩ (.pointer (some ⟨b, 0, none⟩)) := by
  obtain ⟨j, hj, hjs⟩ := Option.map_eq_some_iff.1 Tryz.Builder_Extra_169.sizeBuilder
  go_enter Tryz.func100, Tryz.ntmps100
  go_wp2
  rw [Lib.run_to_unsafe w ⟨b, 0, none⟩ Tryz.underlying122 Tryz.underlying158 hj (by rw [hjs]; decide) hsh (Nat.zero_lt_succ 1)]
  simp only [Result.andThen]
  rw [Oper.upon_value]
  go_wp2
  rw [run_callFunc_extern Tryz.func113 (by kernel_rfl) (by kernel_rfl) (by kernel_rfl) (e := Extern.AbiNoEscape.same) (by kernel_rfl)]
  rw [Lib.run_noEscape]
  simp only [Result.andThen]
  rw [Oper.upon_value]
  go_wp2
  rw [Lib.run_from_unsafe w ⟨b, 0, none⟩ Tryz.underlying158 Tryz.underlying122 hj hsh Tryz.Builder_Extra_169.liesBuilder]
  simp only [Result.andThen]
  rw [Oper.upon_value]
  go_wp2
  go_end0
  exact ⟨rfl, rfl⟩
theorem copyCheck_any (B b : Nat) (bs : List Value) (w : World) (h : Lib.IsBuilder 124 5 B b bs w) :
    Calls Tryz.prog 100 #[.pointer (some ⟨b, 0, none⟩)] w fun e w' => e = .returned (.tuple #[]) ∧ (Lib.BuilderAt 124 5 B b (.pointer (some ⟨b, 0, none⟩)) bs w' ∧ Below B w w') := by
  rcases h with h | h
  · refine (copyCheck_fresh b w h.cell0 h.shape h.frozen0).mono ?_
    rintro e w' ⟨rfl, rfl⟩
    exact ⟨rfl, h.used _, (Below.refl B w).setCell (p := ⟨b, 0, none⟩) h.1 _⟩
  · refine (copyCheck_used b w h.cell0).mono ?_
    rintro e w' ⟨rfl, rfl⟩
    exact ⟨rfl, h, Below.refl B _⟩
set_option maxHeartbeats 2000000 in
set_option maxRecDepth 100000 in
theorem writeString_any (B b : Nat) (bs : List Value) (s : ByteArray) (w : World) (h : Lib.IsBuilder 124 5 B b bs w) (hlen : bs.length + s.size ≤ 140737488355328) (hBw : B ≤ w.heap.size) :
    Calls Tryz.prog 82 #[.pointer (some ⟨b, 0, none⟩), .string s] w fun e w' => e = .returned (.tuple #[.int .i64 s.size, .nilIface]) ∧ (Lib.IsBuilder 124 5 B b (bs ++ Lib.strCells s) w' ∧ Below B w w') := by
  obtain ⟨i0, hi, hz0, hz1, hz2⟩ := info_parts Tryz.Builder_Extra_169.infoByte
  have hi : Tryz.prog.info? 5 = some i0 := hi
  go_enter Tryz.func82, Tryz.ntmps82
  go_wp2_with (go_at_call 100; refine (copyCheck_any B b bs _ h).mono ?_)
  rintro e w1 ⟨rfl, h1, hb1⟩
  obtain ⟨hB, v, hbk, hown, hne⟩ := h1
  have c0 : w1.cell? ⟨b, 0, none⟩ = some (.pointer (some ⟨b, 0, none⟩)) := by rw [Lib.cell_of_heap hbk]; rfl
  have c1 : w1.cell? ⟨b, 1, none⟩ = some v := by rw [Lib.cell_of_heap hbk]; rfl
  go_wp2_with (at_builtin; refine Lib.wpList_append_own_string _ rfl _ _ 97 9 rfl B 5 i0 Tryz.underlying97 Tryz.underlying9 hi hz0 hz1 hz2 _ _ _ rfl hown s rfl ?c3 ?c4 ?c5 ?_)
  case c3 => unfold maxLen; omega
  case c4 => omega
  case c5 => have := hb1.size; omega
  intro v' w2 hown' hgrow _
  have hlt : b < w1.heap.size := lt_of_block hbk
  have hb2 : w2.heap[b]? = some (.cells #[.pointer (some ⟨b, 0, none⟩), v] 124 (0, 0)) := by
    rw [hgrow.block b hlt (fun e => hne e.symm)]
    exact hbk
  have d0 : w2.cell? ⟨b, 0, none⟩ = some (.pointer (some ⟨b, 0, none⟩)) := by rw [Lib.cell_of_heap hb2]; rfl
  have d1 : w2.cell? ⟨b, 1, none⟩ = some v := by rw [Lib.cell_of_heap hb2]; rfl
  have f1 : w2.frozen? ⟨b, 1, none⟩ = false := Lib.frozen_of_heap hb2 1
  obtain ⟨ao, n', cap, rfl⟩ : ∃ ao n' cap, v' = .slice ao n' cap := by
    rcases hown'.2 with ⟨hv, _⟩ | ⟨g, cap, cur, hv, _⟩
    · exact ⟨_, _, _, hv⟩
    · exact ⟨_, _, _, hv⟩
  go_wp2
  go_ret2
  refine ⟨rfl, Or.inr ?_, ?_⟩
  · exact Lib.BuilderAt.put (T := 124) (e := 5) hB hb2 (bs' := bs ++ Lib.strCells s) (by simpa [Lib.strCells_length] using hown') (by decide)
  · exact (hb1.grown hgrow (by have := hb1.size; omega) (fun k hk => (hown.lt k hk).1)).setCell (p := ⟨b, 1, none⟩) hB _
end Go.Proofs.YtpfhlhcnmeodbaaGreatDoor
namespace Go.Proofs.YtpfhlhcnmeodbaaGreatDoor
open Go.RowKit
theorem byteCells_text (l : List UInt8) : Lib.strCells ⟨l.toArray⟩ = Lib.byteCells l := by simp [Lib.strCells, Lib.byteCells]
set_option maxHeartbeats 1000000 in
theorem list_any (ao : Option Addr) (cap : Nat) (l : List (List UInt8)) (w : World) (h : StrsAt ao l w) (hl : l.length ≤ 9223372036854775807) (hlen : (listB l).length ≤ 140737488355328) :
    Calls Tryz.prog 49 #[.slice ao l.length cap] w fun e w' => e = .returned (.string ⟨(listB l).toArray⟩) ∧ Below w.heap.size w w' := by
  have hfresh := Lib.fresh_isBuilder 124 5 w
  have HF := Lib.hid hfresh
  have HS := Lib.hid h
  clear hfresh h
  go_enter Tryz.func49, Tryz.ntmps49
  go_wp2_with fail
  refine (num_any l.length _ (by omega)).mono ?_
  rintro e w1 ⟨rfl, hb1⟩
  have hA := (Below.refl w.heap.size w).alloc (Nat.le_refl _) (.cells #[Value.pointer none, Value.slice none 0 0] 124)
  have HI1 := Lib.hid (builder_below HF.out hb1)
  have HB1 := Lib.hid (hA.trans (hb1.mono (by simp)))
  have hsz1 := hb1.size
  simp at hsz1
  have hlb := listB_length l
  have HL := Lib.hid hlb
  clear hb1 HF hA
  go_wp2_with fail
  have hnum := HL.out
  refine (writeString_any w.heap.size w.heap.size [] _ _ HI1.out (by show _ + (List.toArray _).size ≤ _; simp; omega) (by omega)).mono ?_
  rintro e w2 ⟨rfl, hI2, hb2⟩
  rw [byteCells_text, List.nil_append] at hI2
  have HI2 := Lib.hid hI2
  have HB2 := Lib.hid (HB1.out.trans hb2)
  clear hI2 hb2 HI1 HB1 hsz1 hnum
  go_wp2_with fail
  go_loopw [12] (fun i wr => ∃ q : Nat, q ≤ l.length ∧ i = .int .i64 q ∧ Lib.IsBuilder 124 5 w.heap.size w.heap.size (Lib.byteCells (numB l.length ++ textsB (l.take q))) wr ∧ Below w.heap.size w wr) (fun i _ => l.length - (intOf i).toNat)
  case atStart => exact ⟨0, Nat.zero_le _, rfl, by simpa [textsB] using HI2.out, HB2.out⟩
  case round =>
    obtain ⟨q, hq, rfl, hI, hbel⟩ := hrel
    by_cases hlt : q < l.length
    · have hparts := textsB_parts l q hlt
      have htl := textB_length l[q]
      have hpos := numB_pos l[q].length
      have hlist := HL.out
      have HP := Lib.hid hparts
      have HT := Lib.hid htl
      have hcell : ∃ b o, ao = some ⟨b, o, none⟩ ∧ wr.cell? ⟨b, o + q, none⟩ = some (.string ⟨l[q].toArray⟩) := by
        rcases HS.out.below hbel with h | ⟨b, o, ha, hb, hc⟩
        · subst h; simp at hlt
        · exact ⟨b, o, ha, hc q hlt⟩
      obtain ⟨cb, co, hao, hc⟩ := hcell
      have hlq : l[q].length ≤ 140737488355328 := by omega
      have hsum : (numB l.length).length + (textsB (l.take q)).length + (numB l[q].length).length + l[q].length ≤ 140737488355328 := by omega
      have HI := Lib.hid hI
      have HB := Lib.hid hbel
      subst hao
      clear hI hbel hparts htl hlist
      go_wp2_with fail
      refine (num_any l[q].length _ (by omega)).mono ?_
      rintro e w3 ⟨rfl, hb3⟩
      have HI3 := Lib.hid (builder_below HI.out hb3)
      have hsz3 := HB.out.size
      have HB3 := Lib.hid (HB.out.trans (hb3.mono hsz3))
      clear hb3 HI HB hc
      go_wp2_with fail
      refine (writeString_any w.heap.size w.heap.size _ _ _ HI3.out (by show _ + (List.toArray _).size ≤ _; rw [Lib.byteCells_length]; simp; omega) HB3.out.size).mono ?_
      rintro e w4 ⟨rfl, hI4, hb4⟩
      rw [byteCells_text, ← Lib.byteCells_append] at hI4
      have HI4 := Lib.hid hI4
      have HB4 := Lib.hid (HB3.out.trans hb4)
      clear hb4 hI4 HI3 HB3 hsz3
      go_wp2_with fail
      refine (writeString_any w.heap.size w.heap.size _ _ _ HI4.out (by show _ + (List.toArray _).size ≤ _; rw [Lib.byteCells_length]; simp; omega) HB4.out.size).mono ?_
      rintro e w5 ⟨rfl, hI5, hb5⟩
      rw [byteCells_text, ← Lib.byteCells_append] at hI5
      have HI5 := Lib.hid (show Lib.IsBuilder 124 5 w.heap.size w.heap.size (Lib.byteCells (numB l.length ++ textsB (l.take (q + 1)))) w5 by rw [textsB_take_succ l q hlt]; simpa [List.append_assoc] using hI5)
      have HB5 := Lib.hid (HB4.out.trans hb5)
      clear hb5 hI5 HI4 HB4
      go_wp2_with fail
      refine ⟨⟨q + 1, by omega, by go_num, HI5.out, HB5.out⟩, by simp [intOf]; omega⟩
    · obtain rfl : q = l.length := by omega
      rw [List.take_length] at hI
      have HI := Lib.hid hI
      have HB := Lib.hid hbel
      clear hI hbel
      go_wp2_with fail
      refine (Tryz.Builder_String_any w.heap.size w.heap.size _ _ HI.out HB.out.size).mono ?_
      rintro e w3 ⟨rfl, hb3⟩
      have HB3 := Lib.hid (HB.out.trans hb3)
      clear hb3 HI HB
      go_wp2_with fail
      go_ret
      exact ⟨rfl, HB3.out⟩
end Go.Proofs.YtpfhlhcnmeodbaaGreatDoor
namespace Go.Proofs.YtpfhlhcnmeodbaaGreatDoor
open Go.RowKit
theorem conv1 (w : World) (d : UInt8) : (convert 97 9 (.slice (some ⟨w.heap.size, 0, none⟩) 1 1)).run Tryz.prog (w.alloc (.cells #[.int .u8 (d.toNat : Int)] 5)) = .ok (.string ⟨#[d]⟩) (w.alloc (.cells #[.int .u8 (d.toNat : Int)] 5)) := by
  refine run_convert_bytes_back _ _ _ 5 ⟨w.heap.size, 0, none⟩ _ [d] Tryz.underlying97 Tryz.underlying5 Tryz.underlying9 ?_
  intro j hj
  have : j = 0 := by simpa using hj
  subst this
  simp [Addr.add]
theorem cat_cons (d : UInt8) (r : List UInt8) : (({ data := #[d] } : ByteArray) ++ { data := r.toArray }) = { data := (d :: r).toArray } := by
  apply ByteArray.ext; rw [ByteArray.data_append]; simp
theorem ofNat_mod_int (m : Nat) : ((UInt8.ofNat (m % 256)).toNat : Int) = (m : Int) % 256 := by
  rw [toNat_ofNat_mod]; omega
set_option maxHeartbeats 1000000 in
theorem rnumref_any (n : Nat) (w : World) (hn : n < 9223372036854775808) :
    Calls Tryz.prog 71 #[.int .i64 n] w fun e w' => e = .returned (.string ⟨(numB n).toArray⟩) ∧ Below w.heap.size w w' := by
  have h8 := dig_length_8 hn
  go_enter Tryz.func71, Tryz.ntmps71
  go_wp2_with fail
  go_loopw [0, 3, 4] (fun a s k wr => ∃ (m : Nat) (r : List UInt8), m < 9223372036854775808 ∧ dig m ++ r = dig n ∧ a = .int .i64 m ∧ s = .string ⟨r.toArray⟩ ∧ k = .int .i64 r.length ∧ Below w.heap.size w wr) (fun a _ _ _ => (intOf a).toNat)
  case atStart => exact ⟨n, [], hn, by simp, rfl, rfl, rfl, Below.refl _ _⟩
  case round =>
    obtain ⟨m, r, hm, hd, rfl, rfl, rfl, hbel⟩ := hrel
    have hr : r.length ≤ 8 := by have := congrArg List.length hd; simp at this; omega
    have HD := Lib.hid hd
    have HB := Lib.hid hbel
    clear hd hbel
    by_cases h0 : 0 < m
    · have hconv := conv1 wr (UInt8.ofNat (m % 256))
      rw [ofNat_mod_int] at hconv
      have hcat := cat_cons (UInt8.ofNat (m % 256)) r
      go_wp2_with fail
      refine ⟨⟨m / 256, UInt8.ofNat (m % 256) :: r, by omega, ?_, by go_num, rfl, by go_num, HB.out.alloc HB.out.size _⟩, by simp [intOf]; omega⟩
      rw [← HD.out, dig_pos (n := m) (by omega), List.append_assoc]; rfl
    · have e0 : m = 0 := by omega
      subst e0
      have hconv := conv1 wr (UInt8.ofNat r.length)
      rw [show ((UInt8.ofNat r.length).toNat : Int) = (r.length : Int) by simp; omega] at hconv
      have hcat := cat_cons (UInt8.ofNat r.length) r
      go_wp2_with fail
      go_ret
      refine ⟨?_, HB.out.alloc HB.out.size _⟩
      have e : r = dig n := by have := HD.out; rwa [dig_zero, List.nil_append] at this
      rw [numB, ← e]; rfl
theorem rtextref_any (s : List UInt8) (w : World) (hs : s.length ≤ 9223372036854775000) :
    Calls Tryz.prog 98 #[.string ⟨s.toArray⟩] w fun e w' => e = .returned (.string ⟨(textB s).toArray⟩) ∧ Below w.heap.size w w' := by
  have hcat : (({ data := (numB s.length).toArray } : ByteArray) ++ { data := s.toArray }) = { data := (textB s).toArray } := by
    apply ByteArray.ext; rw [ByteArray.data_append]; simp [textB]
  go_enter Tryz.func98, Tryz.ntmps98
  go_wp2_with fail
  refine (rnumref_any s.length _ (by omega)).mono ?_
  rintro e w1 ⟨rfl, hb⟩
  have HB := Lib.hid hb
  have hn := numB_length_9 (n := s.length) (by omega)
  clear hb
  go_wp2_with fail
  go_ret
  exact ⟨rfl, HB.out⟩
set_option maxHeartbeats 1000000 in
theorem rlistref_any (ao : Option Addr) (cap : Nat) (l : List (List UInt8)) (w : World) (h : StrsAt ao l w) (hl : l.length ≤ 9223372036854775807) (hlen : (listB l).length ≤ 9223372036854775000) :
    Calls Tryz.prog 77 #[.slice ao l.length cap] w fun e w' => e = .returned (.string ⟨(listB l).toArray⟩) ∧ Below w.heap.size w w' := by
  have HS := Lib.hid h
  have hlb := listB_length l
  have HL := Lib.hid hlb
  clear h hlb
  go_enter Tryz.func77, Tryz.ntmps77
  go_wp2_with fail
  refine (rnumref_any l.length _ (by omega)).mono ?_
  rintro e w1 ⟨rfl, hb1⟩
  have HB1 := Lib.hid hb1
  clear hb1
  go_wp2_with fail
  go_loopw [3, 11] (fun s i wr => ∃ q : Nat, q ≤ l.length ∧ i = .int .i64 q ∧ s = .string ⟨(numB l.length ++ textsB (l.take q)).toArray⟩ ∧ Below w.heap.size w wr) (fun _ i _ => l.length - (intOf i).toNat)
  case atStart => exact ⟨0, Nat.zero_le _, rfl, by simp [textsB], HB1.out⟩
  case round =>
    obtain ⟨q, hq, rfl, rfl, hbel⟩ := hrel
    by_cases hlt : q < l.length
    · have hparts := textsB_parts l q hlt
      have hlist := HL.out
      have hcell : ∃ b o, ao = some ⟨b, o, none⟩ ∧ wr.cell? ⟨b, o + q, none⟩ = some (.string ⟨l[q].toArray⟩) := by
        rcases HS.out.below hbel with h | ⟨b, o, ha, hb, hc⟩
        · subst h; simp at hlt
        · exact ⟨b, o, ha, hc q hlt⟩
      obtain ⟨cb, co, hao, hc⟩ := hcell
      have htl := textB_length l[q]
      have hlq : l[q].length ≤ 9223372036854775000 := by omega
      have hsum : (numB l.length).length + (textsB (l.take q)).length + (textB l[q]).length ≤ 9223372036854775000 := by omega
      have hcat : (({ data := (numB l.length ++ textsB (l.take q)).toArray } : ByteArray) ++ { data := (textB l[q]).toArray }) = { data := (numB l.length ++ textsB (l.take (q + 1))).toArray } := by
        apply ByteArray.ext; rw [ByteArray.data_append, textsB_take_succ l q hlt]; simp [textB, List.append_assoc]
      have HB := Lib.hid hbel
      subst hao
      clear hbel hparts htl hlist
      go_wp2_with fail
      refine (rtextref_any l[q] _ hlq).mono ?_
      rintro e w3 ⟨rfl, hb3⟩
      have HB3 := Lib.hid (HB.out.trans (hb3.mono HB.out.size))
      clear hb3 HB hc
      go_wp2_with fail
      exact ⟨⟨q + 1, by omega, by go_num, rfl, HB3.out⟩, by simp [intOf]; omega⟩
    · obtain rfl : q = l.length := by omega
      have HB := Lib.hid hbel
      clear hbel
      go_wp2_with fail
      go_ret
      exact ⟨by rw [List.take_length]; rfl, HB.out⟩
end Go.Proofs.YtpfhlhcnmeodbaaGreatDoor
namespace Go.Proofs.YtpfhlhcnmeodbaaGreatDoor
open Go.RowKit
theorem strs_one (l : List (List UInt8)) : ∀ u ∈ strs l, u.oneCell' = true := by
  intro u hu
  simp only [strs, List.mem_map] at hu
  obtain ⟨n, _, rfl⟩ := hu
  rfl
theorem ownS_one (w : World) (p : List UInt8) : OwnS w.heap.size (.slice (some ⟨w.heap.size, 0, none⟩) 1 1) [p] (w.alloc (.cells #[.string ⟨p.toArray⟩] 9)) := by
  have h := World.ownsRow_lit (base := w.heap.size) (e := 9) (size := 1) w #[.string ⟨p.toArray⟩] 1 (Nat.le_refl _) (by unfold maxLen; omega) rfl
  exact h
theorem wpList_append_texts {w : World} {ops : Array Oper} {rest : List Oper} {o : Oper} {a : Act} {Q : Exit → Act → World → Prop} (hgd : o.guard = none) (s x : Operand)
    (ho : o.op = .call { callee := .builtin .append, args := #[s, x], argTypes := #[115, 115] })
    (B : Nat) (v : Value) (l m : List (List UInt8)) (ao : Option Addr) (c : Nat) (hs : a.eval s = v) (hown : OwnS B v l w) (hx : a.eval x = .slice ao m.length c) (hsrc : StrsAt ao m w) (hnil : ao = none → c = 0)
    (hlen : l.length + m.length ≤ 8796093022208) (hB : B ≤ w.heap.size)
    (h : ∀ v' w', Hid (OwnS B v' (l ++ m) w') → Hid (Below B w w') → wpList Tryz.prog ops Q rest (a.put o.dst v') w') : wpList Tryz.prog ops Q (o :: rest) a w := by
  obtain ⟨i, hi, hz0, hz1, hz2⟩ := info_parts Tryz.infoString
  cases ao with
  | none =>
    obtain rfl := hnil rfl
    have hm : m = [] := by
      rcases hsrc with h | ⟨b, o', h, _⟩
      · exact h
      · cases h
    subst hm
    refine wpList_append_own_none hgd s x _ ho B 9 i 1 Tryz.underlying115 hi v l.length (strs l) hs hown hx (h _ _ ?_ (Below.refl _ _))
    rw [List.append_nil]
    exact hown
  | some ad =>
    refine wpList_append_own_at w hgd s x _ ho B 9 i (.string ⟨#[]⟩) 1 16 Tryz.underlying115 hi hz0 hz1 hz2 rfl (by decide) v l.length (strs l) hs hown ad m.length c (strs m) hx (by rw [strs_length, Nat.mul_one]) ?_ (strs_one m)
      (by unfold maxLen; omega) (by omega) hB ?_
    · intro j u hj
      rcases hsrc with h0 | ⟨b, o', h0, _, hc⟩
      · subst h0; simp [strs] at hj
      · obtain rfl := Option.some.inj h0
        have hj' : j < m.length := by
          have := (List.getElem?_eq_some_iff.1 hj).1
          rwa [strs_length] at this
        have e : (⟨b, o', none⟩ : Addr).add j = ⟨b, o' + j, none⟩ := by simp only [Addr.add]; split <;> simp_all
        rw [e, hc j hj', ← hj, strs, List.getElem?_map, List.getElem?_eq_getElem hj']
        rfl
    · intro v' w' h2 hg _ _
      refine h v' w' ?_ ((Below.refl B w).grown hg hB (fun k hk => (World.ownsRow.lt hown k hk).1))
      show w'.ownsRow B 9 1 v' (l ++ m).length (strs (l ++ m))
      rw [List.length_append, show strs (l ++ m) = strs l ++ strs m by simp [strs]]
      exact h2
set_option maxHeartbeats 4000000 in
set_option maxRecDepth 100000 in
theorem dev_sum (p : List UInt8) (ao : Option Addr) (c : Nat) (l : List (List UInt8)) (w : World) (hs : StrsAt ao l w) (hnil : ao = none → c = 0) (hl : l.length ≤ 8796093000000) (hb : (listB (p :: l)).length ≤ 140737488350000) (hk : KAt w) :
    Calls Tryz.prog 81 #[.string ⟨p.toArray⟩, .slice ao l.length c] w fun e w' => e = .returned (.agg (nums .u8 (shaN (listB (p :: l)))).toArray) ∧ Below w.heap.size w w' := by
  have HS := Lib.hid hs
  have HK := Lib.hid hk
  have HN := Lib.hid hnil
  have HLB := Lib.hid hb
  clear hs hk hnil hb
  go_enter Tryz.func81, Tryz.ntmps81
  go_upto_region 1 with (fail)
  change Code.wp _ _ _ _ (w.alloc (.cells (nums .u8 (List.replicate 32 0)).toArray 43))
  obtain ⟨wa, hwa⟩ : ∃ x, x = w.alloc (.cells (nums .u8 (List.replicate 32 0)).toArray 43) := ⟨_, rfl⟩
  rw [← hwa]
  have hb : Below w.heap.size w wa := by rw [hwa]; exact (Below.refl _ _).alloc (Nat.le_refl _) _
  have HR := Lib.hid (show Blk w.heap.size 43 .u8 (List.replicate 32 0) wa by rw [hwa]; exact heap_alloc_new w _)
  have HKa := Lib.hid (HK.out.below hb)
  have HSa := Lib.hid (HS.out.below hb)
  have HB := Lib.hid hb
  clear hwa hb HK HS
  have hsza := HB.out.size
  go_wp2_with (at_builtin; refine wpList_append_texts rfl _ _ rfl wa.heap.size _ [p] l ao c rfl (ownS_one wa p) rfl (HSa.out.below ((Below.refl _ _).alloc (Nat.le_refl _) _)) HN.out (by simp; omega) (by simp) ?_)
  intro v w1 hown hb1
  have hb1' : Below wa.heap.size wa w1 := ((Below.refl wa.heap.size wa).alloc (Nat.le_refl _) _).trans hb1.out
  obtain ⟨a1, c1, rfl⟩ := hown.out.form
  have HO := Lib.hid (show OwnS wa.heap.size (.slice a1 (p :: l).length c1) (p :: l) w1 from hown.out)
  have HR1 := Lib.hid (HR.out.below hb1')
  have HK1 := Lib.hid (HKa.out.below hb1')
  have HB1 := Lib.hid (HB.out.trans (hb1'.mono hsza))
  clear hown hb1 hb1' HR HKa HSa
  go_wp2_with fail
  refine (list_any a1 c1 (p :: l) w1 (strsAt_own HO.out) (by simp; omega) (by have := HLB.out; omega)).mono ?_
  rintro e w2 ⟨rfl, hb2⟩
  have HR2 := Lib.hid (HR1.out.below hb2)
  have HK2 := Lib.hid (HK1.out.below hb2)
  have HB2 := Lib.hid (HB1.out.trans (hb2.mono HB1.out.size))
  clear hb2 HR1 HK1 HB1 HO
  go_wp2_with fail
  refine (dev_of (listB (p :: l)) w2 HLB.out HK2.out).mono ?_
  rintro e w3 ⟨rfl, hb3⟩
  have HR3 := Lib.hid (HR2.out.below hb3)
  have HB3 := Lib.hid (HB2.out.trans (hb3.mono HB2.out.size))
  have HI := Lib.hid (show (Tryz.prog.info? 43).map (·.size) = some (shaN (listB (p :: l))).length by rw [shaN_len]; exact Tryz.infoId)
  have HL := Lib.hid (show (List.replicate 32 0).length = (shaN (listB (p :: l))).length by rw [shaN_len, List.length_replicate])
  clear hb3 HR2 HK2 HB2
  go_wp2_with (refine wpList_store_nums rfl 43 _ _ rfl rfl w.heap.size .u8 _ (shaN (listB (p :: l))) 43 rfl rfl HR3.out HI.out HL.out ?_)
  intro w7 hc hb
  have HC7 := Lib.hid (show Blk w.heap.size 43 .u8 (shaN (listB (p :: l))) w7 from hc.out)
  have HB7 := Lib.hid (show Below w.heap.size w w7 from But.toBelow HB3.out hb.out (Nat.le_refl _) HB3.out.size)
  clear hc hb
  go_wp2_with fail
  exact bodyPost_ret (results_nums rfl _ _ w.heap.size .u8 _ 43 _ rfl HC7.out Tryz.underlying43 rfl HI.out) rfl ⟨rfl, HB7.out⟩
set_option maxHeartbeats 4000000 in
set_option maxRecDepth 100000 in
theorem ref_sum (p : List UInt8) (ao : Option Addr) (c : Nat) (l : List (List UInt8)) (w : World) (hs : StrsAt ao l w) (hnil : ao = none → c = 0) (hl : l.length ≤ 8796093000000) (hb : (listB (p :: l)).length ≤ 140737488350000) :
    Calls Tryz.prog 70 #[.string ⟨p.toArray⟩, .slice ao l.length c] w fun e w' => e = .returned (.agg (nums .u8 (shaN (listB (p :: l)))).toArray) ∧ Below w.heap.size w w' := by
  have HS := Lib.hid hs
  have HN := Lib.hid hnil
  have HLB := Lib.hid hb
  clear hs hnil hb
  go_enter Tryz.func70, Tryz.ntmps70
  go_upto_region 1 with (fail)
  change Code.wp _ _ _ _ (w.alloc (.cells (nums .u8 (List.replicate 32 0)).toArray 43))
  obtain ⟨wa, hwa⟩ : ∃ x, x = w.alloc (.cells (nums .u8 (List.replicate 32 0)).toArray 43) := ⟨_, rfl⟩
  rw [← hwa]
  have hb : Below w.heap.size w wa := by rw [hwa]; exact (Below.refl _ _).alloc (Nat.le_refl _) _
  have HR := Lib.hid (show Blk w.heap.size 43 .u8 (List.replicate 32 0) wa by rw [hwa]; exact heap_alloc_new w _)
  have HSa := Lib.hid (HS.out.below hb)
  have HB := Lib.hid hb
  clear hwa hb HS
  have hsza := HB.out.size
  go_wp2_with (at_builtin; refine wpList_append_texts rfl _ _ rfl wa.heap.size _ [p] l ao c rfl (ownS_one wa p) rfl (HSa.out.below ((Below.refl _ _).alloc (Nat.le_refl _) _)) HN.out (by simp; omega) (by simp) ?_)
  intro v w1 hown hb1
  have hb1' : Below wa.heap.size wa w1 := ((Below.refl wa.heap.size wa).alloc (Nat.le_refl _) _).trans hb1.out
  obtain ⟨a1, c1, rfl⟩ := hown.out.form
  have HO := Lib.hid (show OwnS wa.heap.size (.slice a1 (p :: l).length c1) (p :: l) w1 from hown.out)
  have HR1 := Lib.hid (HR.out.below hb1')
  have HB1 := Lib.hid (HB.out.trans (hb1'.mono hsza))
  clear hown hb1 hb1' HR HSa
  go_wp2_with fail
  refine (rlistref_any a1 c1 (p :: l) w1 (strsAt_own HO.out) (by simp; omega) (by have := HLB.out; omega)).mono ?_
  rintro e w2 ⟨rfl, hb2⟩
  have HR2 := Lib.hid (HR1.out.below hb2)
  have HB2 := Lib.hid (HB1.out.trans (hb2.mono HB1.out.size))
  clear hb2 HR1 HB1 HO
  go_wp2_with fail
  refine (of_any (listB (p :: l)) w2 HLB.out).mono ?_
  rintro e w3 ⟨rfl, hb3⟩
  have HR3 := Lib.hid (HR2.out.below hb3)
  have HB3 := Lib.hid (HB2.out.trans (hb3.mono HB2.out.size))
  have HI := Lib.hid (show (Tryz.prog.info? 43).map (·.size) = some (shaN (listB (p :: l))).length by rw [shaN_len]; exact Tryz.infoId)
  have HL := Lib.hid (show (List.replicate 32 0).length = (shaN (listB (p :: l))).length by rw [shaN_len, List.length_replicate])
  clear hb3 HR2 HB2
  go_wp2_with (refine wpList_store_nums rfl 43 _ _ rfl rfl w.heap.size .u8 _ (shaN (listB (p :: l))) 43 rfl rfl HR3.out HI.out HL.out ?_)
  intro w7 hc hb
  have HC7 := Lib.hid (show Blk w.heap.size 43 .u8 (shaN (listB (p :: l))) w7 from hc.out)
  have HB7 := Lib.hid (show Below w.heap.size w w7 from But.toBelow HB3.out hb.out (Nat.le_refl _) HB3.out.size)
  clear hc hb
  go_wp2_with fail
  exact bodyPost_ret (results_nums rfl _ _ w.heap.size .u8 _ 43 _ rfl HC7.out Tryz.underlying43 rfl HI.out) rfl ⟨rfl, HB7.out⟩
end Go.Proofs.YtpfhlhcnmeodbaaGreatDoor
namespace Go.Proofs.YtpfhlhcnmeodbaaGreatDoor
open Go.RowKit
theorem Tryz.infoE : (Tryz.prog.info? 29).map (fun i => i.size) = some 16 := by kernel_rfl
theorem three_new (w : World) (l m n : List Nat) (t u v : TypeId) : Blk w.heap.size t .u8 l (((w.alloc (.cells (nums .u8 l).toArray t)).alloc (.cells (nums .u8 m).toArray u)).alloc (.cells (nums .u8 n).toArray v)) ∧
    Blk (w.heap.size + 1) u .u8 m (((w.alloc (.cells (nums .u8 l).toArray t)).alloc (.cells (nums .u8 m).toArray u)).alloc (.cells (nums .u8 n).toArray v)) ∧
    Blk (w.heap.size + 2) v .u8 n (((w.alloc (.cells (nums .u8 l).toArray t)).alloc (.cells (nums .u8 m).toArray u)).alloc (.cells (nums .u8 n).toArray v)) ∧
    Below w.heap.size w (((w.alloc (.cells (nums .u8 l).toArray t)).alloc (.cells (nums .u8 m).toArray u)).alloc (.cells (nums .u8 n).toArray v)) := by
  have h1 : Blk w.heap.size t .u8 l (w.alloc (.cells (nums .u8 l).toArray t)) := heap_alloc_new w _
  have h2 : Blk (w.heap.size + 1) u .u8 m ((w.alloc (.cells (nums .u8 l).toArray t)).alloc (.cells (nums .u8 m).toArray u)) := by
    have h := heap_alloc_new (w.alloc (.cells (nums .u8 l).toArray t)) (.cells (nums .u8 m).toArray u)
    rw [World.size_alloc] at h
    exact h
  have h3 : Blk (w.heap.size + 2) v .u8 n (((w.alloc (.cells (nums .u8 l).toArray t)).alloc (.cells (nums .u8 m).toArray u)).alloc (.cells (nums .u8 n).toArray v)) := by
    have h := heap_alloc_new ((w.alloc (.cells (nums .u8 l).toArray t)).alloc (.cells (nums .u8 m).toArray u)) (.cells (nums .u8 n).toArray v)
    rw [World.size_alloc, World.size_alloc] at h
    exact h
  exact ⟨(h1.alloc _).alloc _, h2.alloc _, h3, (((Below.refl _ w).alloc (Nat.le_refl _) _).alloc (by simp) _).alloc (by simp; omega) _⟩
def cutP (l : List Nat) (k : Nat) : List Nat := l.take k ++ List.replicate (16 - k) 0
theorem cutP_len {l : List Nat} {k : Nat} (hl : 16 ≤ l.length) (hk : k ≤ 16) : (cutP l k).length = 16 := by
  simp [cutP]
  omega
theorem cutP_full (l : List Nat) : cutP l 16 = l.take 16 := by simp [cutP]
theorem cutP_set {l : List Nat} {k : Nat} (hl : 16 ≤ l.length) (hk : k < 16) : (cutP l k).set k (l.getD k 0) = cutP l (k + 1) := by
  unfold cutP
  have hk2 : (l.take k).length = k := by simp; omega
  rw [List.set_append_right _ _ (by omega), hk2, Nat.sub_self, show 16 - k = (16 - (k + 1)) + 1 by omega, List.replicate_succ, List.set_cons_zero, List.take_succ_eq_append_getElem (by omega), List.append_assoc, List.getD_eq_getElem?_getD, List.getElem?_eq_getElem (by omega)]
  rfl
set_option maxHeartbeats 4000000 in
set_option maxRecDepth 100000 in
theorem ref_cut (l : List Nat) (w : World) (hl : l.length = 32) :
    Calls Tryz.prog 69 #[.agg (nums .u8 l).toArray] w fun e w' => e = .returned (.agg (nums .u8 (l.take 16)).toArray) ∧ Below w.heap.size w w' := by
  have HL := Lib.hid hl
  clear hl
  go_enter Tryz.func69, Tryz.ntmps69
  go_upto_region 2 with (fail)
  change Code.wp _ _ _ _ (((w.alloc (.cells (nums .u8 l).toArray 43)).alloc (.cells (nums .u8 (List.replicate 16 0)).toArray 29)).alloc (.cells (nums .u8 (List.replicate 16 0)).toArray 29))
  obtain ⟨w1, hw1⟩ : ∃ x, x = ((w.alloc (.cells (nums .u8 l).toArray 43)).alloc (.cells (nums .u8 (List.replicate 16 0)).toArray 29)).alloc (.cells (nums .u8 (List.replicate 16 0)).toArray 29) := ⟨_, rfl⟩
  rw [← hw1]
  have h3 : Blk w.heap.size 43 .u8 l w1 ∧ Blk (w.heap.size + 1) 29 .u8 (List.replicate 16 0) w1 ∧ Blk (w.heap.size + 2) 29 .u8 (List.replicate 16 0) w1 ∧ Below w.heap.size w w1 := by
    rw [hw1]
    exact three_new w _ _ _ _ _ _
  obtain ⟨hd, hr, hc, hb⟩ := h3
  have HD := Lib.hid hd
  have HR := Lib.hid hr
  have HC := Lib.hid hc
  have HB := Lib.hid hb
  clear hw1 hd hr hc hb
  go_wp2_with fail
  go_loopw [5] (fun i wq => ∃ k : Nat, k ≤ 16 ∧ i = .int .i64 k ∧ Blk (w.heap.size + 2) 29 .u8 (cutP l k) wq ∧ But (w.heap.size + 2) w1 wq) (fun i _ => 16 - (intOf i).toNat)
  case atStart => exact ⟨0, by omega, rfl, HC.out, But.refl _ _⟩
  case round =>
    clear HC
    obtain ⟨k, hk, rfl, hc, hb⟩ := hrel
    have HC := Lib.hid hc
    have HB1 := Lib.hid hb
    clear hc hb
    by_cases hlk : k < 16
    · have c1 := (HD.out.but HB1.out (by omega)).cell k (by rw [HL.out]; omega)
      have c2 := HC.out.cell k (by rw [cutP_len (by rw [HL.out]; omega) hk]; omega)
      have hf := HC.out.frozen k
      have HS := Lib.hid (HC.out.set k (l.getD k 0))
      rw [cutP_set (by rw [HL.out]; omega) hlk] at HS
      generalize l.getD k 0 = x at c1 HS
      generalize (cutP l k).getD k 0 = y at c2
      have b1 : (k : Int) < 32 := by omega
      have b2 : (k : Int) < 16 := by omega
      go_wp2_with fail
      exact ⟨⟨k + 1, by omega, by go_num, HS.out, HB1.out.setCell _ _⟩, by simp [intOf]; omega⟩
    · obtain rfl : k = 16 := by omega
      rw [show ((16 : Nat) : Int) = 16 from rfl]
      rw [cutP_full] at HC
      have HR1 := Lib.hid (HR.out.but HB1.out (by omega))
      have HBB := Lib.hid (show Below w.heap.size w wr from But.toBelow HB.out HB1.out (by omega) HB.out.size)
      have HI := Lib.hid (show (Tryz.prog.info? 29).map (·.size) = some (l.take 16).length by rw [List.length_take, HL.out]; exact Tryz.infoE)
      have HL2 := Lib.hid (show (List.replicate 16 0).length = (l.take 16).length by rw [List.length_take, HL.out]; rfl)
      go_wp2_with (first | (refine wpList_load_nums rfl 29 _ rfl (w.heap.size + 2) .u8 _ 29 _ rfl HC.out Tryz.underlying29 rfl HI.out ?_) | (refine wpList_store_nums rfl 29 _ _ rfl rfl (w.heap.size + 1) .u8 _ (l.take 16) 29 rfl rfl HR1.out HI.out HL2.out ?_))
      intro w7 hc hb
      have HC7 := Lib.hid (show Blk (w.heap.size + 1) 29 .u8 (l.take 16) w7 from hc.out)
      have HB7 := Lib.hid (show Below w.heap.size w w7 from But.toBelow HBB.out hb.out (by omega) HBB.out.size)
      clear hc hb
      go_wp2_with fail
      exact bodyPost_ret (results_nums rfl _ _ (w.heap.size + 1) .u8 _ 29 _ rfl HC7.out Tryz.underlying29 rfl HI.out) rfl ⟨rfl, HB7.out⟩
set_option maxHeartbeats 4000000 in
set_option maxRecDepth 100000 in
theorem dev_cut (l : List Nat) (w : World) (hl : l.length = 32) :
    Calls Tryz.prog 80 #[.agg (nums .u8 l).toArray] w fun e w' => e = .returned (.agg (nums .u8 (l.take 16)).toArray) ∧ Below w.heap.size w w' := by
  have HL := Lib.hid hl
  clear hl
  go_enter Tryz.func80, Tryz.ntmps80
  go_upto_region 2 with (fail)
  change Code.wp _ _ _ _ (((w.alloc (.cells (nums .u8 l).toArray 43)).alloc (.cells (nums .u8 (List.replicate 16 0)).toArray 29)).alloc (.cells (nums .u8 (List.replicate 16 0)).toArray 29))
  obtain ⟨w1, hw1⟩ : ∃ x, x = ((w.alloc (.cells (nums .u8 l).toArray 43)).alloc (.cells (nums .u8 (List.replicate 16 0)).toArray 29)).alloc (.cells (nums .u8 (List.replicate 16 0)).toArray 29) := ⟨_, rfl⟩
  rw [← hw1]
  have h3 : Blk w.heap.size 43 .u8 l w1 ∧ Blk (w.heap.size + 1) 29 .u8 (List.replicate 16 0) w1 ∧ Blk (w.heap.size + 2) 29 .u8 (List.replicate 16 0) w1 ∧ Below w.heap.size w w1 := by
    rw [hw1]
    exact three_new w _ _ _ _ _ _
  obtain ⟨hd, hr, hc, hb⟩ := h3
  have HD := Lib.hid hd
  have HR := Lib.hid hr
  have HC := Lib.hid hc
  have HB := Lib.hid hb
  clear hw1 hd hr hc hb
  obtain ⟨w2, hw2⟩ : ∃ x, x = w1.drew := ⟨_, rfl⟩
  refine wp_region_still_tail 2 (by kernel_rfl) (by kernel_rfl) ?_
  simp only [List.take_succ_cons, List.take_zero, List.drop_succ_cons, List.drop_zero]
  change wpStill _ _ w1.drew (fun a' => wpList _ _ _ _ a' w1.drew) _ _
  rw [← hw2]
  have HD2 := Lib.hid (show Blk w.heap.size 43 .u8 l w2 by rw [hw2]; exact HD.out)
  have HC2 := Lib.hid (show Blk (w.heap.size + 2) 29 .u8 (List.replicate 16 0) w2 by rw [hw2]; exact HC.out)
  have HR2 := Lib.hid (show Blk (w.heap.size + 1) 29 .u8 (List.replicate 16 0) w2 by rw [hw2]; exact HR.out)
  have HB2 := Lib.hid (show Below w.heap.size w w2 by rw [hw2]; exact HB.out.drew)
  clear hw2 HD HC HR HB
  repeat still_step
  refine wpStill_nil ?_
  refine wpList_copy_splice rfl _ _ 97 97 rfl 5 Tryz.underlying97 (by kernel_rfl) _ _ 16 16 32 32 rfl rfl (w.heap.size + 2) 0 (nums .u8 (List.replicate 16 0)) 29 HC2.out (nums .u8 (l.take 16)) ?hn (fun _ => ⟨rfl, _, rfl, ?hcell⟩) ?hfit (nums_one _ _) (w.heap.size + 2) w2 (Below.refl _ _) (Nat.le_refl _) ?_
  case hn => rw [nums_len, List.length_take, HL.out]; rfl
  case hfit => rw [nums_len, nums_len, List.length_take, HL.out]; decide
  case hcell =>
    intro j v hj
    have hj' : j < 16 := by
      have := (List.getElem?_eq_some_iff.1 hj).1
      rw [nums_len, List.length_take, HL.out] at this
      omega
    have h := HD2.out.cell j (by rw [HL.out]; omega)
    rw [Addr.add_lit, Nat.zero_add, h, ← hj, nums, List.getElem?_map, List.getElem?_take, if_pos hj', List.getD_eq_getElem?_getD, List.getElem?_eq_getElem (by rw [HL.out]; omega)]
    rfl
  intro w3 hc hb
  have hsp : splice (nums .u8 (List.replicate 16 0)) 0 (nums .u8 (l.take 16)) = nums .u8 (l.take 16) := by
    unfold splice
    rw [List.take_zero, List.nil_append, List.drop_of_length_le (by rw [nums_len, nums_len, List.length_take, List.length_replicate, HL.out]; decide), List.append_nil]
  have HC3 := Lib.hid (show Blk (w.heap.size + 2) 29 .u8 (l.take 16) w3 by have h := hc.out; rw [hsp] at h; exact h)
  have HR3 := Lib.hid (show Blk (w.heap.size + 1) 29 .u8 (List.replicate 16 0) w3 from (hb.block _ (by omega)).trans HR2.out)
  have HB3 := Lib.hid (HB2.out.trans (hb.mono (by omega)))
  clear hc hb hsp HC2 HR2 HB2 HD2
  have HI := Lib.hid (show (Tryz.prog.info? 29).map (·.size) = some (l.take 16).length by rw [List.length_take, HL.out]; exact Tryz.infoE)
  have HL2 := Lib.hid (show (List.replicate 16 0).length = (l.take 16).length by rw [List.length_take, HL.out]; rfl)
  go_wp2_with (first | (refine wpList_load_nums rfl 29 _ rfl (w.heap.size + 2) .u8 _ 29 _ rfl HC3.out Tryz.underlying29 rfl HI.out ?_) | (refine wpList_store_nums rfl 29 _ _ rfl rfl (w.heap.size + 1) .u8 _ (l.take 16) 29 rfl rfl HR3.out HI.out HL2.out ?_))
  intro w7 hc hb
  have HC7 := Lib.hid (show Blk (w.heap.size + 1) 29 .u8 (l.take 16) w7 from hc.out)
  have HB7 := Lib.hid (show Below w.heap.size w w7 from But.toBelow HB3.out hb.out (by omega) HB3.out.size)
  clear hc hb
  go_wp2_with fail
  exact bodyPost_ret (results_nums rfl _ _ (w.heap.size + 1) .u8 _ 29 _ rfl HC7.out Tryz.underlying29 rfl HI.out) rfl ⟨rfl, HB7.out⟩
end Go.Proofs.YtpfhlhcnmeodbaaGreatDoor
namespace Go.Proofs.YtpfhlhcnmeodbaaGreatDoor
open Go.RowKit
def SS (w1 w' : World) : Prop := Below w1.heap.size w1 w' ∧ KAt w'
theorem SS.start {w1 : World} (h : KAt w1) : SS w1 w1.drew := ⟨(Below.refl _ _).drew, h⟩
theorem SS.next {w1 wp w' : World} (h : SS w1 wp) (hb : Below wp.heap.size wp w') : SS w1 w' := ⟨h.1.trans (hb.mono h.1.size), h.2.below hb⟩
theorem shaN_lt (s : List UInt8) : ∀ x ∈ shaN s, x < 256 := by
  intro x hx
  simp only [shaN, outN, List.mem_map] at hx
  obtain ⟨i, _, rfl⟩ := hx
  exact Nat.mod_lt _ (by decide)
end Go.Proofs.YtpfhlhcnmeodbaaGreatDoor
namespace Go.Proofs.YtpfhlhcnmeodbaaGreatDoor
open Go.RowKit
theorem and_15' : ∀ n : Fin 256, bits BinOp.and IntKind.u8 (n.val : Int) 15 = ((n.val % 16 : Nat) : Int) := by decide +kernel
theorem and_15 (x : Nat) (h : x < 256) : bits BinOp.and IntKind.u8 (x : Int) 15 = ((x % 16 : Nat) : Int) := and_15' ⟨x, h⟩
end Go.Proofs.YtpfhlhcnmeodbaaGreatDoor
namespace Go.Proofs.YtpfhlhcnmeodbaaGreatDoor
open Go.RowKit
def placeB (i c : Int) : List UInt8 := numB i.toNat ++ numB c.toNat
theorem placeB_len {i c : Int} (hi : i ≤ 9223372036854775807) (hc : c ≤ 9223372036854775807) : (placeB i c).length ≤ 18 := by
  have h1 := numB_length_9 (n := i.toNat) (by omega)
  have h2 := numB_length_9 (n := c.toNat) (by omega)
  rw [placeB, List.length_append]
  omega
def nextN (x : List Nat) (s : Nat) (pl : List UInt8) : List Nat := (shaN (listB [[115], txt x, numB s, pl])).take 16
theorem nextN_len (x : List Nat) (s : Nat) (pl : List UInt8) : (nextN x s pl).length = 16 := by
  rw [nextN, List.length_take, shaN_len]; rfl
theorem nextN_lt (x : List Nat) (s : Nat) (pl : List UInt8) : ∀ y ∈ nextN x s pl, y < 256 := fun y hy => shaN_lt _ y (List.mem_of_mem_take hy)
def walkN (x : List Nat) (pl : List UInt8) (s : Nat) : Nat → List Nat
  | 0 => x
  | k + 1 => nextN (walkN x pl s k) (s + k) pl
theorem walkN_len {x : List Nat} (hx : x.length = 16) (pl : List UInt8) (s k : Nat) : (walkN x pl s k).length = 16 := by
  cases k with
  | zero => exact hx
  | succ k => exact nextN_len _ _ _
theorem walkN_lt {x : List Nat} (hx : ∀ y ∈ x, y < 256) (pl : List UInt8) (s k : Nat) : ∀ y ∈ walkN x pl s k, y < 256 := by
  cases k with
  | zero => exact hx
  | succ k => exact nextN_lt _ _ _
theorem walkN_add (x : List Nat) (pl : List UInt8) (s j k : Nat) : walkN (walkN x pl s j) pl (s + j) k = walkN x pl s (j + k) := by
  induction k with
  | zero => rfl
  | succ k ih => rw [← Nat.add_assoc, walkN, walkN, ih, Nat.add_assoc]
def walkI (x : List Nat) (pl : List UInt8) (a b : Int) : List Nat := walkN x pl (max a 0).toNat ((min b 15).toNat - (max a 0).toNat)
theorem parts3_small {x : List Nat} (hx : x.length = 16) {s : Nat} (hs : s < 9223372036854775808) {pl : List UInt8} (hp : pl.length ≤ 18) : (listB [[115], txt x, numB s, pl]).length ≤ 140737488350000 := by
  have h1 := numB_length_9 hs
  have h2 := numB_length_9 (n := [[115], txt x, numB s, pl].length) (by simp)
  have h3 : (textsB [[115], txt x, numB s, pl]).length ≤ 1000 := by
    have e1 := numB_length_9 (n := (txt x).length) (by rw [txt_len, hx]; decide)
    have e2 := numB_length_9 (n := (numB s).length) (by omega)
    have e3 := numB_length_9 (n := pl.length) (by omega)
    have e4 := numB_length_9 (n := ([115] : List UInt8).length) (by decide)
    simp only [textsB_cons, List.length_append, textB_length, txt_len, hx, List.length_cons, List.length_nil, show textsB [] = [] from rfl] at *
    omega
  rw [listB_length]
  omega
theorem Tryz.infoP : (Tryz.prog.info? 134).map (fun i => i.size) = some 2 := by kernel_rfl
end Go.Proofs.YtpfhlhcnmeodbaaGreatDoor
namespace Go.Proofs.YtpfhlhcnmeodbaaGreatDoor
open Go.RowKit Go.BigFrame
set_option maxHeartbeats 4000000 in
set_option maxRecDepth 100000 in
theorem dev_encode (i c : Int) (w : World) (hi0 : -9223372036854775808 ≤ i) (hi : i ≤ 9223372036854775807) (hc0 : -9223372036854775808 ≤ c) (hc : c ≤ 9223372036854775807) :
    Calls Tryz.prog 104 #[.agg #[.int .i64 i, .int .i64 c]] w fun e w' => e = .returned (.string ⟨(placeB i c).toArray⟩) ∧ Below w.heap.size w w' := by
  go_enter Tryz.func104, Tryz.ntmps104
  go_upto_region 1 with (fail)
  obtain ⟨w1, hw1⟩ : ∃ x, x = w.alloc (.cells #[.int .i64 i, .int .i64 c] 134) := ⟨_, rfl⟩
  rw [← hw1]
  have hb : Below w.heap.size w w1 := by rw [hw1]; exact (Below.refl _ _).alloc (Nat.le_refl _) _
  have hg : w1.heap[w.heap.size]? = some (.cells #[.int .i64 i, .int .i64 c] 134 (0, 0)) := by rw [hw1]; exact heap_alloc_new w _
  have HI := Lib.hid (show w1.cell? ⟨w.heap.size, 0, none⟩ = some (.int .i64 i) by rw [Lib.cell_of_heap hg]; rfl)
  have HC := Lib.hid (show w1.cell? ⟨w.heap.size, 1, none⟩ = some (.int .i64 c) by rw [Lib.cell_of_heap hg]; rfl)
  have HB := Lib.hid hb
  have HG := Lib.hid (lt_of_block hg)
  clear hw1 hb hg
  have hcat := cat2 (numB i.toNat) (numB c.toNat)
  have q1 := numB_length_9 (n := i.toNat) (by omega)
  have q2 := numB_length_9 (n := c.toNat) (by omega)
  refine wp_region_class_tail (fun w' => Below w1.heap.size w1 w') 6 (by kernel_rfl) (by kernel_rfl) (Below.refl _ _).drew ?_
  simp only [List.take_succ_cons, List.take_zero, List.drop_succ_cons, List.drop_zero]
  repeat (first
    | (go_big_quiet_want; refine quiet_load_cell 3 _ rfl ⟨w.heap.size, 0, none⟩ _ rfl (fun w' h => (h.cell (p := ⟨w.heap.size, 0, none⟩) HG.out).trans HI.out) Tryz.isAgg3 ?_; go_big_quiet_on; simp only [Act.put, List.setIfInBounds_toArray, List.set_cons_zero, List.set_cons_succ])
    | (go_big_quiet_want; refine quiet_load_cell 3 _ rfl ⟨w.heap.size, 1, none⟩ _ rfl (fun w' h => (h.cell (p := ⟨w.heap.size, 1, none⟩) HG.out).trans HC.out) Tryz.isAgg3 ?_; go_big_quiet_on; simp only [Act.put, List.setIfInBounds_toArray, List.set_cons_zero, List.set_cons_succ])
    | go_big_quiet_step ((intro hs; first
        | rfl
        | (go_at_call_of 50 (Value.int .i64 i); exact (num_int i _ hi0 hi).mono fun e w' h => ⟨h.1, hs.trans (h.2.mono hs.size)⟩)
        | (go_at_call_of 50 (Value.int .i64 c); exact (num_int c _ hc0 hc).mono fun e w' h => ⟨h.1, hs.trans (h.2.mono hs.size)⟩))))
  refine wpQuiet_nil ?_
  intro w2 hs
  have HS := Lib.hid hs
  clear hs
  go_wp2_with fail
  go_ret
  exact ⟨rfl, HB.out.trans (HS.out.mono HB.out.size)⟩
set_option maxHeartbeats 4000000 in
set_option maxRecDepth 100000 in
theorem dev_next (x : List Nat) (s : Int) (pl : List UInt8) (w : World) (hx : x.length = 16) (hl : ∀ y ∈ x, y < 256) (hs0 : -9223372036854775808 ≤ s) (hs : s ≤ 9223372036854775807) (hp : pl.length ≤ 18) (hk : KAt w) :
    Calls Tryz.prog 105 #[.agg (nums .u8 x).toArray, .int .i64 s, .string ⟨pl.toArray⟩] w fun e w' => e = .returned (.agg (nums .u8 (nextN x s.toNat pl)).toArray) ∧ Below w.heap.size w w' := by
  have HX := Lib.hid hx
  have HL := Lib.hid hl
  have HK := Lib.hid hk
  clear hx hl hk
  go_enter Tryz.func105, Tryz.ntmps105
  go_upto_region 1 with (fail)
  change Code.wp _ _ _ _ ((w.alloc (.cells (nums .u8 x).toArray 29)).alloc (.cells (nums .u8 (List.replicate 16 0)).toArray 29))
  obtain ⟨w1, hw1⟩ : ∃ x', x' = (w.alloc (.cells (nums .u8 x).toArray 29)).alloc (.cells (nums .u8 (List.replicate 16 0)).toArray 29) := ⟨_, rfl⟩
  rw [← hw1]
  have h3 : Blk w.heap.size 29 .u8 x w1 ∧ Blk (w.heap.size + 1) 29 .u8 (List.replicate 16 0) w1 ∧ Below w.heap.size w w1 := by rw [hw1]; exact two_new w _ _ _ _
  obtain ⟨hx1, hr1, hb1⟩ := h3
  have HX1 := Lib.hid hx1
  have HR1 := Lib.hid hr1
  have HB1 := Lib.hid hb1
  have HK1 := Lib.hid (HK.out.below hb1)
  clear hx1 hr1 hb1 hw1 HK
  have HLX := Lib.hid (txt_len x)
  refine wp_region_class_tail (fun w' => SS w1 w') 5 (by kernel_rfl) (by kernel_rfl) (SS.start HK1.out) ?_
  simp only [List.take_succ_cons, List.take_zero, List.drop_succ_cons, List.drop_zero]
  repeat (first
    | (go_big_quiet_want; refine quiet_conv_nums 97 9 5 _ rfl w.heap.size 16 x 29 (by rw [HX.out]; rfl) HL.out (fun w' h => HX1.out.below h.1) Tryz.underlying97 Tryz.underlying5 Tryz.underlying9 ?_; go_big_quiet_on; simp only [Act.put, List.setIfInBounds_toArray, List.set_cons_zero, List.set_cons_succ])
    | go_big_quiet_step ((intro hs'; first
        | rfl
        | (go_at_call 50; exact (num_int s _ hs0 hs).mono fun e w' h => ⟨h.1, hs'.next h.2⟩))))
  refine wpQuiet_nil ?_
  intro w2 hs2
  have HX2 := Lib.hid (HX1.out.below hs2.1)
  have HR2 := Lib.hid (HR1.out.below hs2.1)
  have HB2 := Lib.hid (HB1.out.trans (hs2.1.mono HB1.out.size))
  have HK2 := Lib.hid hs2.2
  have HG2 := Lib.hid (show w.heap.size + 1 < w2.heap.size from HR2.out.lt)
  clear hs2 HX1 HR1 HB1 HK1 HX2
  go_wp2_with fail
  refine (dev_sum [115] (some ⟨w2.heap.size, 0, none⟩) 3 [txt x, numB s.toNat, pl] _ (at_three w2 _ _ _) (fun h => by cases h) (by simp) (parts3_small HX.out (by omega) hp) (HK2.out.below ((Below.refl _ _).alloc (Nat.le_refl _) _))).mono ?_
  rintro e w3 ⟨rfl, hb3⟩
  have hb : Below w2.heap.size w2 w3 := ((Below.refl _ w2).alloc (Nat.le_refl _) _).trans (hb3.mono (by simp))
  have HR3 := Lib.hid (HR2.out.below hb)
  have HB3 := Lib.hid (HB2.out.trans (hb.mono HB2.out.size))
  clear hb hb3 HR2 HB2 HK2 HG2
  go_wp2_with fail
  refine (dev_cut _ w3 (shaN_len _)).mono ?_
  rintro e w4 ⟨rfl, hb4⟩
  have HR4 := Lib.hid (HR3.out.below hb4)
  have HB4 := Lib.hid (HB3.out.trans (hb4.mono HB3.out.size))
  clear hb4 HR3 HB3
  rw [show (shaN (listB [[115], txt x, numB s.toNat, pl])).take 16 = nextN x s.toNat pl from rfl]
  have HN := Lib.hid (nextN_len x s.toNat pl)
  have HI := Lib.hid (show (Tryz.prog.info? 29).map (·.size) = some (nextN x s.toNat pl).length by rw [nextN_len]; exact Tryz.infoE)
  have HL2 := Lib.hid (show (List.replicate 16 0).length = (nextN x s.toNat pl).length by rw [nextN_len]; rfl)
  go_wp2_with (refine wpList_store_nums rfl 29 _ _ rfl rfl (w.heap.size + 1) .u8 _ (nextN x s.toNat pl) 29 rfl rfl HR4.out HI.out HL2.out ?_)
  intro w7 hc hb
  have HC7 := Lib.hid (show Blk (w.heap.size + 1) 29 .u8 (nextN x s.toNat pl) w7 from hc.out)
  have HB7 := Lib.hid (show Below w.heap.size w w7 from But.toBelow HB4.out hb.out (by omega) HB4.out.size)
  clear hc hb
  go_wp2_with fail
  exact bodyPost_ret (results_nums rfl _ _ (w.heap.size + 1) .u8 _ 29 _ rfl HC7.out Tryz.underlying29 rfl HI.out) rfl ⟨rfl, HB7.out⟩
end Go.Proofs.YtpfhlhcnmeodbaaGreatDoor
namespace Go.Proofs.YtpfhlhcnmeodbaaGreatDoor
open Go.RowKit Go.BigFrame
set_option maxHeartbeats 4000000 in
set_option maxRecDepth 100000 in
theorem ref_next (x : List Nat) (i c s : Int) (w : World) (hx : x.length = 16) (hl : ∀ y ∈ x, y < 256) (hi0 : -9223372036854775808 ≤ i) (hi : i ≤ 9223372036854775807) (hc0 : -9223372036854775808 ≤ c) (hc : c ≤ 9223372036854775807) (hs0 : 0 ≤ s) (hs : s ≤ 9223372036854775807) :
    Calls Tryz.prog 92 #[.agg (nums .u8 x).toArray, .int .i64 i, .int .i64 c, .int .i64 s] w fun e w' => e = .returned (.agg (nums .u8 (nextN x s.toNat (placeB i c))).toArray) ∧ Below w.heap.size w w' := by
  have HX := Lib.hid hx
  have HL := Lib.hid hl
  clear hx hl
  go_enter Tryz.func92, Tryz.ntmps92
  go_upto_region 1 with (fail)
  change Code.wp _ _ _ _ ((w.alloc (.cells (nums .u8 x).toArray 29)).alloc (.cells (nums .u8 (List.replicate 16 0)).toArray 29))
  obtain ⟨w1, hw1⟩ : ∃ x', x' = (w.alloc (.cells (nums .u8 x).toArray 29)).alloc (.cells (nums .u8 (List.replicate 16 0)).toArray 29) := ⟨_, rfl⟩
  rw [← hw1]
  have h3 : Blk w.heap.size 29 .u8 x w1 ∧ Blk (w.heap.size + 1) 29 .u8 (List.replicate 16 0) w1 ∧ Below w.heap.size w w1 := by rw [hw1]; exact two_new w _ _ _ _
  obtain ⟨hx1, hr1, hb1⟩ := h3
  have HX1 := Lib.hid hx1
  have HR1 := Lib.hid hr1
  have HB1 := Lib.hid hb1
  clear hx1 hr1 hb1 hw1
  obtain ⟨sn, rfl⟩ : ∃ n : Nat, s = n := ⟨s.toNat, by omega⟩
  obtain ⟨ni, hni⟩ : ∃ n : Nat, max i 0 = n := ⟨i.toNat, by omega⟩
  obtain ⟨nc, hnc⟩ : ∃ n : Nat, max c 0 = n := ⟨c.toNat, by omega⟩
  have hin : i.toNat = ni := by omega
  have hcn : c.toNat = nc := by omega
  have hin2 : ni < 9223372036854775808 := by omega
  have hcn2 : nc < 9223372036854775808 := by omega
  have q1 := numB_length_9 hin2
  have q2 := numB_length_9 hcn2
  have HP := Lib.hid (show placeB i c = numB ni ++ numB nc by rw [placeB, hin, hcn])
  have HPL := Lib.hid (placeB_len hi hc)
  clear hin hcn
  have hcat := cat2 (numB ni) (numB nc)
  refine wp_region_class_tail (fun w' => Below w1.heap.size w1 w') 11 (by kernel_rfl) (by kernel_rfl) (Below.refl _ _).drew ?_
  simp only [List.take_succ_cons, List.take_zero, List.drop_succ_cons, List.drop_zero]
  repeat (first
    | (go_big_quiet_want; refine quiet_conv_nums 97 9 5 _ rfl w.heap.size 16 x 29 (by rw [HX.out]; rfl) HL.out (fun w' h => HX1.out.below h) Tryz.underlying97 Tryz.underlying5 Tryz.underlying9 ?_; go_big_quiet_on; simp only [Act.put, List.setIfInBounds_toArray, List.set_cons_zero, List.set_cons_succ])
    | go_big_quiet_step ((intro hs'; first
        | rfl
        | (go_at_call_of 71 (Value.int .i64 (sn : Int)); exact (rnumref_any sn _ (by omega)).mono fun e w' h => ⟨h.1, hs'.trans (h.2.mono hs'.size)⟩)
        | (go_at_call_of 71 (Value.int .i64 (ni : Int)); exact (rnumref_any ni _ hin2).mono fun e w' h => ⟨h.1, hs'.trans (h.2.mono hs'.size)⟩)
        | (go_at_call_of 71 (Value.int .i64 (nc : Int)); exact (rnumref_any nc _ hcn2).mono fun e w' h => ⟨h.1, hs'.trans (h.2.mono hs'.size)⟩))))
  refine wpQuiet_nil ?_
  intro w2 hs2
  rw [← HP.out]
  have HR2 := Lib.hid (HR1.out.below hs2)
  have HB2 := Lib.hid (HB1.out.trans (hs2.mono HB1.out.size))
  have HG2 := Lib.hid (show w.heap.size + 1 < w2.heap.size from HR2.out.lt)
  clear hs2 HX1 HR1 HB1
  go_wp2_with fail
  refine (ref_sum [115] (some ⟨w2.heap.size, 0, none⟩) 3 [txt x, numB sn, placeB i c] _ (at_three w2 _ _ _) (fun h => by cases h) (by simp) (parts3_small HX.out (by omega) HPL.out)).mono ?_
  rintro e w3 ⟨rfl, hb3⟩
  have hb : Below w2.heap.size w2 w3 := ((Below.refl _ w2).alloc (Nat.le_refl _) _).trans (hb3.mono (by simp))
  have HR3 := Lib.hid (HR2.out.below hb)
  have HB3 := Lib.hid (HB2.out.trans (hb.mono HB2.out.size))
  clear hb hb3 HR2 HB2 HG2
  go_wp2_with fail
  refine (ref_cut _ w3 (shaN_len _)).mono ?_
  rintro e w4 ⟨rfl, hb4⟩
  have HR4 := Lib.hid (HR3.out.below hb4)
  have HB4 := Lib.hid (HB3.out.trans (hb4.mono HB3.out.size))
  clear hb4 HR3 HB3
  rw [show (shaN (listB [[115], txt x, numB sn, placeB i c])).take 16 = nextN x sn (placeB i c) from rfl]
  have HI := Lib.hid (show (Tryz.prog.info? 29).map (·.size) = some (nextN x sn (placeB i c)).length by rw [nextN_len]; exact Tryz.infoE)
  have HL2 := Lib.hid (show (List.replicate 16 0).length = (nextN x sn (placeB i c)).length by rw [nextN_len]; rfl)
  go_wp2_with (refine wpList_store_nums rfl 29 _ _ rfl rfl (w.heap.size + 1) .u8 _ (nextN x sn (placeB i c)) 29 rfl rfl HR4.out HI.out HL2.out ?_)
  intro w7 hc hb
  have HC7 := Lib.hid (show Blk (w.heap.size + 1) 29 .u8 (nextN x sn (placeB i c)) w7 from hc.out)
  have HB7 := Lib.hid (show Below w.heap.size w w7 from But.toBelow HB4.out hb.out (by omega) HB4.out.size)
  clear hc hb
  go_wp2_with fail
  exact bodyPost_ret (results_nums rfl _ _ (w.heap.size + 1) .u8 _ 29 _ rfl HC7.out Tryz.underlying29 rfl HI.out) rfl ⟨rfl, HB7.out⟩
end Go.Proofs.YtpfhlhcnmeodbaaGreatDoor
namespace Go.Proofs.YtpfhlhcnmeodbaaGreatDoor
open Go.RowKit Go.BigFrame
set_option maxHeartbeats 4000000 in
set_option maxRecDepth 100000 in
theorem dev_walk (x : List Nat) (i c p q : Int) (w : World) (hx : x.length = 16) (hl : ∀ y ∈ x, y < 256) (hi0 : -9223372036854775808 ≤ i) (hi : i ≤ 9223372036854775807) (hc0 : -9223372036854775808 ≤ c) (hc : c ≤ 9223372036854775807)
    (hp0 : -9223372036854775808 ≤ p) (hp : p ≤ 9223372036854775807) (hq0 : -9223372036854775808 ≤ q) (hq : q ≤ 9223372036854775807) (hk : KAt w) :
    Calls Tryz.prog 89 #[.agg (nums .u8 x).toArray, .agg #[.int .i64 i, .int .i64 c], .int .i64 p, .int .i64 q] w fun e w' => e = .returned (.agg (nums .u8 (walkI x (placeB i c) p q)).toArray) ∧ Below w.heap.size w w' := by
  have HX := Lib.hid hx
  have HL := Lib.hid hl
  have HK := Lib.hid hk
  have HK0 := Lib.hid hk.lt
  clear hx hl hk
  go_enter Tryz.func89, Tryz.ntmps89
  go_upto_region 1 with (fail)
  change Code.wp _ _ _ _ (((w.alloc (.cells (nums .u8 x).toArray 29)).alloc (.cells #[.int .i64 i, .int .i64 c] 134)).alloc (.cells (nums .u8 (List.replicate 16 0)).toArray 29))
  obtain ⟨w1, hw1⟩ : ∃ x', x' = ((w.alloc (.cells (nums .u8 x).toArray 29)).alloc (.cells #[.int .i64 i, .int .i64 c] 134)).alloc (.cells (nums .u8 (List.replicate 16 0)).toArray 29) := ⟨_, rfl⟩
  rw [← hw1]
  have h3 : Blk w.heap.size 29 .u8 x w1 ∧ w1.heap[w.heap.size + 1]? = some (.cells #[.int .i64 i, .int .i64 c] 134 (0, 0)) ∧ Blk (w.heap.size + 2) 29 .u8 (List.replicate 16 0) w1 ∧ Below w.heap.size w w1 := by rw [hw1]; exact place_new w _ _ _ _ _ _
  obtain ⟨hx1, hg1, hr1, hb1⟩ := h3
  have HX1 := Lib.hid hx1
  have HR1 := Lib.hid hr1
  have HB1 := Lib.hid hb1
  have HK1 := Lib.hid (HK.out.below hb1)
  have c1 : w1.cell? ⟨w.heap.size + 1, 0, none⟩ = some (.int .i64 i) := by rw [Lib.cell_of_heap hg1]; rfl
  have c2 : w1.cell? ⟨w.heap.size + 1, 1, none⟩ = some (.int .i64 c) := by rw [Lib.cell_of_heap hg1]; rfl
  clear hx1 hr1 hb1 hw1 hg1 HK
  go_wp2_with fail
  refine (dev_encode i c w1 hi0 hi hc0 hc).mono ?_
  rintro e w2 ⟨rfl, hb2⟩
  have HX2 := Lib.hid (HX1.out.below hb2)
  have HR2 := Lib.hid (HR1.out.below hb2)
  have HB2 := Lib.hid (HB1.out.trans (hb2.mono HB1.out.size))
  have HK2 := Lib.hid (HK1.out.below hb2)
  clear hb2 c1 c2 HX1 HR1 HB1 HK1
  have HPL := Lib.hid (placeB_len hi hc)
  have HWI := Lib.hid (show walkI x (placeB i c) p q = walkN x (placeB i c) (max p 0).toNat ((min q 15).toNat - (max p 0).toNat) from rfl)
  obtain ⟨a, ha⟩ : ∃ n : Nat, max p 0 = n := ⟨p.toNat, by omega⟩
  obtain ⟨m, hm⟩ : ∃ m : Int, min q 15 = m := ⟨_, rfl⟩
  have ha2 : a < 9223372036854775808 := by omega
  have hm2 : m ≤ 15 := by omega
  rw [ha, hm, Int.toNat_natCast] at HWI
  have hm0 : -9223372036854775808 ≤ m := by omega
  clear hi0 hi hc0 hc hp0 hp hq0 hq
  obtain ⟨pl, hpl⟩ : ∃ pl, placeB i c = pl := ⟨_, rfl⟩
  rw [hpl] at HPL HWI ⊢
  have HP := Lib.hid hpl
  clear hpl
  go_wp2_with fail
  go_loopw [10] (fun n wq => ∃ k : Nat, n = .int .i64 k ∧ a ≤ k ∧ (k = a ∨ (k : Int) ≤ m) ∧ Blk w.heap.size 29 .u8 (walkN x pl a (k - a)) wq ∧ Blk (w.heap.size + 2) 29 .u8 (List.replicate 16 0) wq ∧ Below w.heap.size w wq ∧ KAt wq) (fun n _ => (m - intOf n).toNat)
  case atStart => exact ⟨a, rfl, Nat.le_refl _, Or.inl rfl, by rw [Nat.sub_self]; exact HX2.out, HR2.out, HB2.out, HK2.out⟩
  case round =>
    clear HX2 HR2 HB2 HK2
    obtain ⟨k, rfl, hak, hkm, hc, hr, hb, hk⟩ := hrel
    have HC := Lib.hid hc
    have HR := Lib.hid hr
    have HB := Lib.hid hb
    have HK := Lib.hid hk
    clear hc hr hb hk
    by_cases hlk : (k : Int) < m
    · clear hkm
      have HI := Lib.hid (show (Tryz.prog.info? 29).map (·.size) = some (walkN x pl a (k - a)).length by rw [walkN_len HX.out]; exact Tryz.infoE)
      go_wp2_with (refine wpList_load_nums rfl 29 _ rfl w.heap.size .u8 _ 29 _ rfl HC.out Tryz.underlying29 rfl HI.out ?_)
      refine (dev_next (walkN x pl a (k - a)) k pl wr (walkN_len HX.out _ _ _) (walkN_lt HL.out _ _ _) (by omega) (by omega) HPL.out HK.out).mono ?_
      rintro e w3 ⟨rfl, hb3⟩
      rw [Int.toNat_natCast, show nextN (walkN x pl a (k - a)) k pl = walkN x pl a (k + 1 - a) by rw [show k + 1 - a = (k - a) + 1 by omega, walkN, show a + (k - a) = k by omega]]
      have HC3 := Lib.hid (HC.out.below hb3)
      have HR3 := Lib.hid (HR.out.below hb3)
      have HB3 := Lib.hid (HB.out.trans (hb3.mono HB.out.size))
      have HK3 := Lib.hid (HK.out.below hb3)
      have HNK := Lib.hid (show 0 ≠ w.heap.size by have := HK0.out; omega)
      clear hb3 HC HR HB HK HI
      have HI := Lib.hid (show (Tryz.prog.info? 29).map (·.size) = some (walkN x pl a (k + 1 - a)).length by rw [walkN_len HX.out]; exact Tryz.infoE)
      have HL2 := Lib.hid (show (walkN x pl a (k - a)).length = (walkN x pl a (k + 1 - a)).length by rw [walkN_len HX.out, walkN_len HX.out])
      go_wp2_with (refine wpList_store_nums rfl 29 _ _ rfl rfl w.heap.size .u8 _ (walkN x pl a (k + 1 - a)) 29 rfl rfl HC3.out HI.out HL2.out ?_)
      intro w7 hc hb
      have HC7 := Lib.hid (show Blk w.heap.size 29 .u8 (walkN x pl a (k + 1 - a)) w7 from hc.out)
      have HR7 := Lib.hid (HR3.out.but hb.out (by omega))
      have HB7 := Lib.hid (show Below w.heap.size w w7 from But.toBelow HB3.out hb.out (Nat.le_refl _) HB3.out.size)
      have HK7 := Lib.hid (HK3.out.but hb.out HNK.out)
      clear hc hb HC3 HR3 HB3 HK3 HI HL2
      go_wp2_with fail
      exact ⟨⟨k + 1, by go_num, by omega, Or.inr (by omega), HC7.out, HR7.out, HB7.out, HK7.out⟩, by simp [intOf]; omega⟩
    · have e1 : walkN x pl a (k - a) = walkI x pl p q := by rw [HWI.out, show k - a = m.toNat - a by omega]
      rw [e1] at HC
      clear hkm e1
      have HWL := Lib.hid (show (walkI x pl p q).length = 16 by rw [HWI.out]; exact walkN_len HX.out _ _ _)
      have HI := Lib.hid (show (Tryz.prog.info? 29).map (·.size) = some (walkI x pl p q).length by rw [HWL.out]; exact Tryz.infoE)
      have HL2 := Lib.hid (show (List.replicate 16 0).length = (walkI x pl p q).length by rw [HWL.out]; rfl)
      go_wp2_with (first | (refine wpList_load_nums rfl 29 _ rfl w.heap.size .u8 _ 29 _ rfl HC.out Tryz.underlying29 rfl HI.out ?_) | (refine wpList_store_nums rfl 29 _ _ rfl rfl (w.heap.size + 2) .u8 _ (walkI x pl p q) 29 rfl rfl HR.out HI.out HL2.out ?_))
      intro w7 hc hb
      have HC7 := Lib.hid (show Blk (w.heap.size + 2) 29 .u8 (walkI x pl p q) w7 from hc.out)
      have HB7 := Lib.hid (show Below w.heap.size w w7 from But.toBelow HB.out hb.out (by omega) HB.out.size)
      clear hc hb
      go_wp2_with fail
      exact bodyPost_ret (results_nums rfl _ _ (w.heap.size + 2) .u8 _ 29 _ rfl HC7.out Tryz.underlying29 rfl HI.out) rfl ⟨by rw [HP.out], HB7.out⟩
end Go.Proofs.YtpfhlhcnmeodbaaGreatDoor
namespace Go.Proofs.YtpfhlhcnmeodbaaGreatDoor
open Go.RowKit Go.BigFrame
set_option maxHeartbeats 4000000 in
set_option maxRecDepth 100000 in
theorem ref_walk (x : List Nat) (i c p q : Int) (w : World) (hx : x.length = 16) (hl : ∀ y ∈ x, y < 256) (hi0 : -9223372036854775808 ≤ i) (hi : i ≤ 9223372036854775807) (hc0 : -9223372036854775808 ≤ c) (hc : c ≤ 9223372036854775807)
    (hp0 : -9223372036854775808 ≤ p) (hp : p ≤ 9223372036854775807) (hq0 : -9223372036854775808 ≤ q) (hq : q ≤ 9223372036854775807) :
    Calls Tryz.prog 66 #[.agg (nums .u8 x).toArray, .int .i64 i, .int .i64 c, .int .i64 p, .int .i64 q] w fun e w' => e = .returned (.agg (nums .u8 (walkI x (placeB i c) p q)).toArray) ∧ Below w.heap.size w w' := by
  have HX := Lib.hid hx
  have HL := Lib.hid hl
  clear hx hl
  go_enter Tryz.func66, Tryz.ntmps66
  go_upto_region 1 with (fail)
  change Code.wp _ _ _ _ ((w.alloc (.cells (nums .u8 x).toArray 29)).alloc (.cells (nums .u8 (List.replicate 16 0)).toArray 29))
  obtain ⟨w2, hw1⟩ : ∃ x', x' = (w.alloc (.cells (nums .u8 x).toArray 29)).alloc (.cells (nums .u8 (List.replicate 16 0)).toArray 29) := ⟨_, rfl⟩
  rw [← hw1]
  have h3 : Blk w.heap.size 29 .u8 x w2 ∧ Blk (w.heap.size + 1) 29 .u8 (List.replicate 16 0) w2 ∧ Below w.heap.size w w2 := by rw [hw1]; exact two_new w _ _ _ _
  obtain ⟨hx1, hr1, hb1⟩ := h3
  have HX2 := Lib.hid hx1
  have HR2 := Lib.hid hr1
  have HB2 := Lib.hid hb1
  clear hx1 hr1 hb1 hw1
  have HWI := Lib.hid (show walkI x (placeB i c) p q = walkN x (placeB i c) (max p 0).toNat ((min q 15).toNat - (max p 0).toNat) from rfl)
  obtain ⟨a, ha⟩ : ∃ n : Nat, max p 0 = n := ⟨p.toNat, by omega⟩
  obtain ⟨m, hm⟩ : ∃ m : Int, min q 15 = m := ⟨_, rfl⟩
  have ha2 : a < 9223372036854775808 := by omega
  have hm2 : m ≤ 15 := by omega
  rw [ha, hm, Int.toNat_natCast] at HWI
  have hm0 : -9223372036854775808 ≤ m := by omega
  obtain ⟨pl, hpl⟩ : ∃ pl, placeB i c = pl := ⟨_, rfl⟩
  rw [hpl] at HWI
  have HP := Lib.hid hpl
  clear hpl
  have HI0 := Lib.hid hi0
  have HI1 := Lib.hid hi
  have HC0 := Lib.hid hc0
  have HC1 := Lib.hid hc
  clear hi0 hi hc0 hc
  by_cases hpn : p < 0
  all_goals by_cases hqn : 15 < q
  all_goals go_wp2_with fail
  all_goals (try rw [show (15 : Int) = m by omega])
  all_goals (try rw [show q = m by omega])
  all_goals (try rw [show (0 : Int) = (a : Int) by omega])
  all_goals (try rw [show p = (a : Int) by omega])
  all_goals clear ha hm hpn hqn hp0 hp hq0 hq
  all_goals go_loopw [11] (fun n wq => ∃ k : Nat, n = .int .i64 k ∧ a ≤ k ∧ (k = a ∨ (k : Int) ≤ m) ∧ Blk w.heap.size 29 .u8 (walkN x pl a (k - a)) wq ∧ Blk (w.heap.size + 1) 29 .u8 (List.replicate 16 0) wq ∧ Below w.heap.size w wq) (fun n _ => (m - intOf n).toNat)
  all_goals first
    | exact ⟨a, rfl, Nat.le_refl _, Or.inl rfl, by rw [Nat.sub_self]; exact HX2.out, HR2.out, HB2.out⟩
    | skip
  all_goals (
    clear HX2 HR2 HB2
    obtain ⟨k, rfl, hak, hkm, hc, hr, hb⟩ := hrel
    have HC := Lib.hid hc
    have HR := Lib.hid hr
    have HB := Lib.hid hb
    clear hc hr hb
    by_cases hlk : (k : Int) < m
    · clear hkm
      have HI := Lib.hid (show (Tryz.prog.info? 29).map (·.size) = some (walkN x pl a (k - a)).length by rw [walkN_len HX.out]; exact Tryz.infoE)
      go_wp2_with (refine wpList_load_nums rfl 29 _ rfl w.heap.size .u8 _ 29 _ rfl HC.out Tryz.underlying29 rfl HI.out ?_)
      refine (ref_next (walkN x pl a (k - a)) i c k wr (walkN_len HX.out _ _ _) (walkN_lt HL.out _ _ _) HI0.out HI1.out HC0.out HC1.out (by omega) (by omega)).mono ?_
      rintro e w3 ⟨rfl, hb3⟩
      rw [HP.out, Int.toNat_natCast, show nextN (walkN x pl a (k - a)) k pl = walkN x pl a (k + 1 - a) by rw [show k + 1 - a = (k - a) + 1 by omega, walkN, show a + (k - a) = k by omega]]
      have HC3 := Lib.hid (HC.out.below hb3)
      have HR3 := Lib.hid (HR.out.below hb3)
      have HB3 := Lib.hid (HB.out.trans (hb3.mono HB.out.size))
      clear hb3 HC HR HB HI
      have HI := Lib.hid (show (Tryz.prog.info? 29).map (·.size) = some (walkN x pl a (k + 1 - a)).length by rw [walkN_len HX.out]; exact Tryz.infoE)
      have HL2 := Lib.hid (show (walkN x pl a (k - a)).length = (walkN x pl a (k + 1 - a)).length by rw [walkN_len HX.out, walkN_len HX.out])
      go_wp2_with (refine wpList_store_nums rfl 29 _ _ rfl rfl w.heap.size .u8 _ (walkN x pl a (k + 1 - a)) 29 rfl rfl HC3.out HI.out HL2.out ?_)
      intro w7 hc hb
      have HC7 := Lib.hid (show Blk w.heap.size 29 .u8 (walkN x pl a (k + 1 - a)) w7 from hc.out)
      have HR7 := Lib.hid (HR3.out.but hb.out (by omega))
      have HB7 := Lib.hid (show Below w.heap.size w w7 from But.toBelow HB3.out hb.out (Nat.le_refl _) HB3.out.size)
      clear hc hb HC3 HR3 HB3 HI HL2
      go_wp2_with fail
      exact ⟨⟨k + 1, by go_num, by omega, Or.inr (by omega), HC7.out, HR7.out, HB7.out⟩, by simp [intOf]; omega⟩
    · have e1 : walkN x pl a (k - a) = walkI x pl p q := by rw [HWI.out, show k - a = m.toNat - a by omega]
      rw [e1] at HC
      clear hkm e1
      have HWL := Lib.hid (show (walkI x pl p q).length = 16 by rw [HWI.out]; exact walkN_len HX.out _ _ _)
      have HI := Lib.hid (show (Tryz.prog.info? 29).map (·.size) = some (walkI x pl p q).length by rw [HWL.out]; exact Tryz.infoE)
      have HL2 := Lib.hid (show (List.replicate 16 0).length = (walkI x pl p q).length by rw [HWL.out]; rfl)
      go_wp2_with (first | (refine wpList_load_nums rfl 29 _ rfl w.heap.size .u8 _ 29 _ rfl HC.out Tryz.underlying29 rfl HI.out ?_) | (refine wpList_store_nums rfl 29 _ _ rfl rfl (w.heap.size + 1) .u8 _ (walkI x pl p q) 29 rfl rfl HR.out HI.out HL2.out ?_))
      intro w7 hc hb
      have HC7 := Lib.hid (show Blk (w.heap.size + 1) 29 .u8 (walkI x pl p q) w7 from hc.out)
      have HB7 := Lib.hid (show Below w.heap.size w w7 from But.toBelow HB.out hb.out (by omega) HB.out.size)
      clear hc hb
      go_wp2_with fail
      exact bodyPost_ret (results_nums rfl _ _ (w.heap.size + 1) .u8 _ 29 _ rfl HC7.out Tryz.underlying29 rfl HI.out) rfl ⟨by rw [HP.out], HB7.out⟩)
end Go.Proofs.YtpfhlhcnmeodbaaGreatDoor
