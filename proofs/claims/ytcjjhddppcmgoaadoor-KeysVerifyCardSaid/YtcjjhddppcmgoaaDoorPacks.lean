/-
  Numbers, texts and lists, packed: the developers' and the document's.
-/
import Derived.Shelf.Strings.Builder1
import Derived.Shelf.Small.Bits
import Derived.Shelf.Strings.BuilderF
import Derived.Shelf.Strings.BuilderK
import Derived.Shelf.Strconv.Itoa0
import Derived.Test.YtcjjhddppcmgoaaDoorProg
import Derived.Test.YtcjjhddppcmgoaaDoorBase
import Derived.Laws.IdiomStrings
import Derived.Deep.OwnRows
import Derived.Lib.Builder
import Derived.Lib.AppendStr
import Derived.Lib.UnsafeStr
import Derived.Lib.Walk
/-! The library's contracts that this layer meets, at this program's numbers: each is one application of a compiled theorem. -/
namespace Go.Proofs
open Go.Shelf Go.RowKit
def Tryd.lays169_ren : Go.Shelf.Ren := ⟨fun | 169 => 73 | n => n, fun | 70 => 103 | 9 => 9 | 0 => 0 | 72 => 105 | 37 => 44 | 127 => 91 | 3 => 3 | 5 => 5 | n => n, fun | n => n⟩
theorem Tryd.lays169 : Go.Proofs.Lays.n169 Tryd.prog Tryd.lays169_ren := {
  mixed := by kernel_rfl
  f169 := Tryd.func73.trans (congrArg some (by kernel_rfl))
  t0 := Tryd.underlying0
  a0 := Tryd.isAgg0
  z0 := Tryd.sizeOf0
  v0 := Tryd.zeroValue0
  t3 := Tryd.underlying3
  a3 := Tryd.isAgg3
  z3 := Tryd.sizeOf3
  v3 := Tryd.zeroValue3
  t9 := Tryd.underlying9
  a9 := Tryd.isAgg9
  z9 := Tryd.sizeOf9
  v9 := Tryd.zeroValue9
  t37 := Tryd.underlying44
  a37 := Tryd.isAgg44
  z37 := Tryd.sizeOf44
  v37 := Tryd.zeroValue44
  t70 := Tryd.underlying103
  a70 := Tryd.isAgg103
  z70 := Tryd.sizeOf103
  v70 := Tryd.zeroValue103
  t72 := Tryd.underlying105
  a72 := Tryd.isAgg105
  z72 := Tryd.sizeOf105
  v72 := Tryd.zeroValue105
  t127 := Tryd.underlying91
  a127 := Tryd.isAgg91
  z127 := Tryd.sizeOf91
  v127 := Tryd.zeroValue91 }
theorem Tryd.Builder_Extra_169 : Builder.Extra Tryd.prog Tryd.lays169_ren := {
  sizeBuilder := by kernel_rfl
  liesBuilder := by kernel_rfl
  t5 := Tryd.underlying5
  a5 := Tryd.isAgg5
  z5 := Tryd.sizeOf5
  v5 := Tryd.zeroValue5
  infoByte := by kernel_rfl
  cellsByte := by kernel_rfl
  sizeByte := by kernel_rfl
  neB5 := by decide }
theorem Tryd.Builder_String_any (B b : Nat) (l : List UInt8) (w : World) (h : Lib.IsBuilder 105 5 B b (Lib.byteCells l) w) (hBw : B ≤ w.heap.size) :
    Calls Tryd.prog 73 #[.pointer (some ⟨b, 0, none⟩)] w fun e w' => e = .returned (.string ⟨l.toArray⟩) ∧ Below B w w' := Any.Builder_String_any Tryd.lays169 Tryd.Builder_Extra_169 B b l w h hBw
def Tryd.lays125_ren : Go.Shelf.Ren := ⟨fun | 125 => 56 | 128 => 74 | 129 => 75 | n => n, fun | 46 => 45 | 3 => 3 | 51 => 93 | 53 => 101 | 4 => 4 | 5 => 5 | 9 => 9 | n => n, fun | n => n⟩
theorem Tryd.lays125 : Go.Proofs.Lays.n125 Tryd.prog Tryd.lays125_ren := {
  mixed := by kernel_rfl
  f125 := Tryd.func56.trans (congrArg some (by kernel_rfl))
  f128 := Tryd.func74.trans (congrArg some (by kernel_rfl))
  f129 := Tryd.func75.trans (congrArg some (by kernel_rfl))
  t3 := Tryd.underlying3
  a3 := Tryd.isAgg3
  z3 := Tryd.sizeOf3
  v3 := Tryd.zeroValue3
  t4 := Tryd.underlying4
  a4 := Tryd.isAgg4
  z4 := Tryd.sizeOf4
  v4 := Tryd.zeroValue4
  t5 := Tryd.underlying5
  a5 := Tryd.isAgg5
  z5 := Tryd.sizeOf5
  v5 := Tryd.zeroValue5
  t9 := Tryd.underlying9
  a9 := Tryd.isAgg9
  z9 := Tryd.sizeOf9
  v9 := Tryd.zeroValue9
  t46 := Tryd.underlying45
  a46 := Tryd.isAgg45
  z46 := Tryd.sizeOf45
  v46 := Tryd.zeroValue45
  t51 := Tryd.underlying93
  a51 := Tryd.isAgg93
  z51 := Tryd.sizeOf93
  v51 := Tryd.zeroValue93
  t53 := Tryd.underlying101
  a53 := Tryd.isAgg101
  z53 := Tryd.sizeOf101
  v53 := Tryd.zeroValue101 }
theorem Tryd.bits_Len (x : Int) (w : World) (h0 : 0 ≤ x) (h1 : x ≤ 18446744073709551615) :
    Calls Tryd.prog 56 #[.int .u64 x] w fun e w' => e = .returned (.int .i64 (Lib.bitLen x.toNat)) ∧ w' = w := Any.bits_Len Tryd.lays125 x w h0 h1
end Go.Proofs

/-! pack.Num: the number's bytes. -/
namespace Go.Proofs.YtcjjhddppcmgoaaDoor
open Go.RowKit

theorem Tryd.infoByte : (Tryd.prog.info? 5).map (fun i => (i.zero, i.size, i.bytes)) = some (some (.int .u8 0), 1, 1) := by kernel_rfl

/-- What the row of bytes holds behind k rounds. -/
def numRow (n L k j : Nat) : Value := if j = 0 then .int .u8 L else if L - k < j then .int .u8 ((n : Int) / 2 ^ (8 * (L - j)) % 256) else .int .u8 0

theorem numRow_at {n L : Nat} (hL : (dig n).length = L) (h8 : L ≤ 8) (j : Nat) (hj : j < (numB n).length) : numRow n L L j = .int .u8 ((numB n)[j].toNat : Int) := by
  unfold numRow
  cases j with
  | zero =>
    rw [if_pos rfl]
    have : (numB n)[0].toNat = L := by simp only [numB, List.getElem_cons_zero, hL]; simp; omega
    rw [this]
  | succ j =>
    have hj2 : j < (dig n).length := by rw [numB_length] at hj; omega
    rw [if_neg (by omega), if_pos (by omega)]
    have e : (numB n)[j + 1].toNat = n / 256 ^ (L - (j + 1)) % 256 := by
      simp only [numB, List.getElem_cons_succ]
      rw [dig_get n j hj2, hL, show L - 1 - j = L - (j + 1) by omega]
    rw [e, show (256 : Nat) = 2 ^ 8 by decide, ← Nat.pow_mul]
    simp

theorem numRow_step {n L k : Nat} (hk : k < L) (i : Nat) :
    (fun j => if j = L - k then Value.int .u8 ((n : Int) / 2 ^ (8 * k) % 256) else numRow n L k j) i = numRow n L (k + 1) i := by
  unfold numRow
  by_cases e : i = L - k
  · subst e
    rw [if_neg (by omega), if_pos (by omega), show L - (L - k) = k by omega]
    simp
  · simp only [e, if_false]
    by_cases e0 : i = 0
    · simp [e0]
    · simp only [e0, if_false]
      by_cases e1 : L - k < i
      · rw [if_pos e1, if_pos (by omega)]
      · rw [if_neg e1, if_neg (by omega)]

set_option maxHeartbeats 1000000 in
theorem num_any (n : Nat) (w : World) (hn : n < 9223372036854775808) :
    Calls Tryd.prog 33 #[.int .i64 n] w fun e w' => e = .returned (.string ⟨(numB n).toArray⟩) ∧ Below w.heap.size w w' := by
  have b1 := bitLen_le hn
  have b2 : ((Lib.bitLen n : Int) + 7) / 8 = ((dig n).length : Int) := by have := bitLen_dig hn; omega
  have h8 := dig_length_8 hn
  have hD := Lib.hid (rfl : dig n = dig n)
  generalize hL : (dig n).length = L at b2 h8
  have HL := Lib.hid hL
  clear hL hD
  have hmk := run_make_row' (P := Tryd.prog) 44 5 (.int .u8 0) 1 Tryd.underlying44 Tryd.infoByte rfl .i64 .i64 (1 + L) (by omega) (by omega)
  simp only [Int.natCast_add, Int.natCast_one] at hmk
  have hrow := World.rowIs_made w (.int .u8 0) (1 + L) 5
  have hrow2 := hrow.set 0 (.int .u8 (L : Int))
  have c0 := hrow.cell (i := 0) (by omega)
  have f0 := hrow.frozen 0
  have HR := Lib.hid hrow2
  clear hrow hrow2
  go_enter Tryd.func33, Tryd.ntmps33
  go_wp2_with (go_at_call 56; refine (Tryd.bits_Len _ _ (by omega) (by omega)).mono ?_; rintro e w' ⟨rfl, rfl⟩)
  rw [b2]
  have B2 := Lib.hid b2
  clear b2 c0 f0 HR hmk
  go_loopw [21] (fun i wr => ∃ k : Nat, k ≤ L ∧ i = .int .i64 k ∧ wr.rowIs w'.heap.size 5 (1 + L) (numRow n L k) ∧ Below w'.heap.size w' wr) (fun i _ => L - (intOf i).toNat)
  case atStart =>
    refine ⟨0, Nat.zero_le _, rfl, ?_, (Below.refl _ _).alloc (Nat.le_refl _) _⟩
    have h := World.rowIs_alloc w' ((madeCells #[Value.int IntKind.u8 0] (1 + L)).setIfInBounds 0 (Value.int IntKind.u8 ↑L)) 5 (numRow n L 0) (by
      intro i hi
      simp only [Array.size_setIfInBounds, size_madeCells] at hi
      rw [Array.getElem?_setIfInBounds]
      unfold numRow
      by_cases e : i = 0
      · subst e; simp [size_madeCells]
      · rw [if_neg (by omega), if_neg e, if_neg (by omega)]
        simp [madeCells, hi, Nat.mod_one])
    simpa [size_madeCells] using h
  case round =>
    obtain ⟨k, hk, rfl, hrow, hbel⟩ := hrel
    by_cases hlt : k < L
    · have c0 := hrow.cell (i := L - k) (by omega)
      have f0 := hrow.frozen (L - k)
      have HR := Lib.hid hrow
      have HB := Lib.hid hbel
      clear hrow hbel
      go_wp2
      refine ⟨⟨k + 1, by omega, by go_num, ?_, HB.out.setCell (by simp) _⟩, by simp [intOf]; omega⟩
      exact (HR.out.set (L - k) _).congr (fun i _ => numRow_step hlt i)
    · have hkL : k = L := by omega
      subst hkL
      have hconv : (convert 44 9 (.slice (some ⟨w'.heap.size, 0, none⟩) (1 + k) (1 + k))).run Tryd.prog wr = .ok (.string ⟨(numB n).toArray⟩) wr := by
        have hlen : (numB n).length = 1 + k := by rw [numB_length, HL.out]
        rw [← hlen]
        refine run_convert_bytes_back wr _ _ 5 ⟨w'.heap.size, 0, none⟩ _ (numB n) Tryd.underlying44 Tryd.underlying5 Tryd.underlying9 ?_
        intro j hj
        have := hrow.cell (i := j) (by omega)
        rw [numRow_at HL.out h8 j hj] at this
        rw [show Addr.add ⟨w'.heap.size, 0, none⟩ j = ⟨w'.heap.size, j, none⟩ by simp only [Addr.add]; split <;> simp_all]
        exact this
      have HB := Lib.hid hbel
      clear hrow hbel
      go_wp2
      go_ret
      exact ⟨rfl, HB.out⟩

set_option maxHeartbeats 1000000 in
theorem num_neg (n : Int) (w : World) (hn : n < 0) (hlo : -9223372036854775808 ≤ n) :
    Calls Tryd.prog 33 #[.int .i64 n] w fun e w' => e = .returned (.string ⟨#[0]⟩) ∧ Below w.heap.size w w' := by
  have b0 : Lib.bitLen 0 = 0 := by decide
  have hmax : max n 0 = 0 := by omega
  have hmk : ∀ w : World, (Instr.makeSlice 44 (.int .i64 1) (.int .i64 1)).run Tryd.prog w = .ok (.slice (some ⟨w.heap.size, 0, none⟩) 1 1) (w.alloc (.cells #[.int .u8 0] 5)) := fun w => by kernel_rfl
  have hconv : (convert 44 9 (.slice (some ⟨w.heap.size, 0, none⟩) 1 1)).run Tryd.prog (w.alloc (.cells #[.int .u8 0] 5)) = .ok (.string ⟨#[0]⟩) (w.alloc (.cells #[.int .u8 0] 5)) := by
    refine run_convert_bytes_back _ _ _ 5 ⟨w.heap.size, 0, none⟩ _ [0] Tryd.underlying44 Tryd.underlying5 Tryd.underlying9 ?_
    intro j hj
    have : j = 0 := by simpa using hj
    subst this
    simp [Addr.add]
  go_enter Tryd.func33, Tryd.ntmps33
  go_wp2_with (go_at_call 56; refine (Tryd.bits_Len _ _ (by omega) (by omega)).mono ?_; rintro e w' ⟨rfl, rfl⟩)
  refine wp_loop_rounds 1 ?_
  rw [rounds_succ]
  go_wp2
  go_ret
  exact ⟨rfl, (Below.refl _ _).alloc (Nat.le_refl _) _⟩

/-- pack.Num at whatever number. -/
theorem num_int (n : Int) (w : World) (hlo : -9223372036854775808 ≤ n) (hhi : n ≤ 9223372036854775807) :
    Calls Tryd.prog 33 #[.int .i64 n] w fun e w' => e = .returned (.string ⟨(numB n.toNat).toArray⟩) ∧ Below w.heap.size w w' := by
  by_cases h : n < 0
  · have e : numB n.toNat = [0] := by rw [show n.toNat = 0 by omega]; simp [numB, dig_zero]
    rw [e]
    exact num_neg n w h hlo
  · obtain ⟨m, rfl⟩ : ∃ m : Nat, n = m := ⟨n.toNat, by omega⟩
    exact num_any m w (by omega)
end Go.Proofs.YtcjjhddppcmgoaaDoor

/-! A builder of the call's own (copyCheck, WriteString), walked at this program. -/
namespace Go.Proofs.YtcjjhddppcmgoaaDoor
open Go.RowKit

/-- A builder that is there stays one while only new blocks come. -/
theorem builder_below {T e : TypeId} {B b : Nat} {bs : List Value} {w w' : World} (h : Lib.IsBuilder T e B b bs w) (k : Below w.heap.size w w') : Lib.IsBuilder T e B b bs w' := by
  have one : ∀ p, Lib.BuilderAt T e B b p bs w → Lib.BuilderAt T e B b p bs w' := by
    intro p hp
    have hlt := hp.lt
    obtain ⟨hB, v, hb, hown, hne⟩ := hp
    refine ⟨hB, v, (k.block b hlt).trans hb, ?_, hne⟩
    exact hown.kept (row := none) ⟨k.os, k.tape, k.output, k.size, fun i hi _ => k.block i hi⟩ (by
      rcases h : v.ownBlock with _ | g
      · exact Or.inl rfl
      · exact Or.inr (by simp))
  rcases h with h | h
  · exact Or.inl (one _ h)
  · exact Or.inr (one _ h)

set_option maxHeartbeats 1000000 in
set_option maxRecDepth 100000 in
theorem copyCheck_used (b : Nat) (w : World) (h0 : w.cell? ⟨b, 0, none⟩ = some (.pointer (some ⟨b, 0, none⟩))) :
    Calls Tryd.prog 85 #[.pointer (some ⟨b, 0, none⟩)] w fun e w' => e = .returned (.tuple #[]) ∧ w' = w := by
  obtain ⟨j, hj, _⟩ := Option.map_eq_some_iff.1 Tryd.Builder_Extra_169.sizeBuilder
  go_enter Tryd.func85, Tryd.ntmps85
  go_wp2
  rw [Lib.run_neq_ptr_same w _ Tryd.underlying103 hj]
  go_wp2
  go_end0
  exact ⟨rfl, rfl⟩

set_option maxHeartbeats 1000000 in
set_option maxRecDepth 100000 in
theorem copyCheck_fresh (b : Nat) (w : World) (h0 : w.cell? ⟨b, 0, none⟩ = some (.pointer none)) (hsh : w.shape? b = some (105, 2)) (hfz : w.frozen? ⟨b, 0, none⟩ = false) :
    Calls Tryd.prog 85 #[.pointer (some ⟨b, 0, none⟩)] w fun e w' => e = .returned (.tuple #[]) ∧ w' = w.setCell ⟨b, 0, none⟩ (.pointer (some ⟨b, 0, none⟩)) := by
  obtain ⟨j, hj, hjs⟩ := Option.map_eq_some_iff.1 Tryd.Builder_Extra_169.sizeBuilder
  go_enter Tryd.func85, Tryd.ntmps85
  go_wp2
  rw [Lib.run_to_unsafe w ⟨b, 0, none⟩ Tryd.underlying103 Tryd.underlying121 hj (by rw [hjs]; decide) hsh (Nat.zero_lt_succ 1)]
  simp only [Result.andThen]
  rw [Oper.upon_value]
  go_wp2
  rw [run_callFunc_extern Tryd.func87 (by kernel_rfl) (by kernel_rfl) (by kernel_rfl) (e := Extern.AbiNoEscape.same) (by kernel_rfl)]
  rw [Lib.run_noEscape]
  simp only [Result.andThen]
  rw [Oper.upon_value]
  go_wp2
  rw [Lib.run_from_unsafe w ⟨b, 0, none⟩ Tryd.underlying121 Tryd.underlying103 hj hsh Tryd.Builder_Extra_169.liesBuilder]
  simp only [Result.andThen]
  rw [Oper.upon_value]
  go_wp2
  go_end0
  exact ⟨rfl, rfl⟩

theorem copyCheck_any (B b : Nat) (bs : List Value) (w : World) (h : Lib.IsBuilder 105 5 B b bs w) :
    Calls Tryd.prog 85 #[.pointer (some ⟨b, 0, none⟩)] w fun e w' => e = .returned (.tuple #[]) ∧ (Lib.BuilderAt 105 5 B b (.pointer (some ⟨b, 0, none⟩)) bs w' ∧ Below B w w') := by
  rcases h with h | h
  · refine (copyCheck_fresh b w h.cell0 h.shape h.frozen0).mono ?_
    rintro e w' ⟨rfl, rfl⟩
    exact ⟨rfl, h.used _, (Below.refl B w).setCell (p := ⟨b, 0, none⟩) h.1 _⟩
  · refine (copyCheck_used b w h.cell0).mono ?_
    rintro e w' ⟨rfl, rfl⟩
    exact ⟨rfl, h, Below.refl B _⟩

set_option maxHeartbeats 2000000 in
set_option maxRecDepth 100000 in
theorem writeString_any (B b : Nat) (bs : List Value) (s : ByteArray) (w : World) (h : Lib.IsBuilder 105 5 B b bs w) (hlen : bs.length + s.size ≤ 140737488355328) (hBw : B ≤ w.heap.size) :
    Calls Tryd.prog 72 #[.pointer (some ⟨b, 0, none⟩), .string s] w fun e w' => e = .returned (.tuple #[.int .i64 s.size, .nilIface]) ∧ (Lib.IsBuilder 105 5 B b (bs ++ Lib.strCells s) w' ∧ Below B w w') := by
  obtain ⟨i0, hi, hz0, hz1, hz2⟩ := info_parts Tryd.Builder_Extra_169.infoByte
  have hi : Tryd.prog.info? 5 = some i0 := hi
  go_enter Tryd.func72, Tryd.ntmps72
  go_wp2_with (go_at_call 85; refine (copyCheck_any B b bs _ h).mono ?_)
  rintro e w1 ⟨rfl, h1, hb1⟩
  obtain ⟨hB, v, hbk, hown, hne⟩ := h1
  have c0 : w1.cell? ⟨b, 0, none⟩ = some (.pointer (some ⟨b, 0, none⟩)) := by rw [Lib.cell_of_heap hbk]; rfl
  have c1 : w1.cell? ⟨b, 1, none⟩ = some v := by rw [Lib.cell_of_heap hbk]; rfl
  go_wp2_with (at_builtin; refine Lib.wpList_append_own_string _ rfl _ _ 44 9 rfl B 5 i0 Tryd.underlying44 Tryd.underlying9 hi hz0 hz1 hz2 _ _ _ rfl hown s rfl ?c3 ?c4 ?c5 ?_)
  case c3 => unfold maxLen; omega
  case c4 => omega
  case c5 => have := hb1.size; omega
  intro v' w2 hown' hgrow _
  have hlt : b < w1.heap.size := lt_of_block hbk
  have hb2 : w2.heap[b]? = some (.cells #[.pointer (some ⟨b, 0, none⟩), v] 105 (0, 0)) := by
    rw [hgrow.block b hlt (fun e => hne e.symm)]
    exact hbk
  have d0 : w2.cell? ⟨b, 0, none⟩ = some (.pointer (some ⟨b, 0, none⟩)) := by rw [Lib.cell_of_heap hb2]; rfl
  have d1 : w2.cell? ⟨b, 1, none⟩ = some v := by rw [Lib.cell_of_heap hb2]; rfl
  have f1 : w2.frozen? ⟨b, 1, none⟩ = false := Lib.frozen_of_heap hb2 1
  obtain ⟨ao, n', cap, rfl⟩ : ∃ ao n' cap, v' = .slice ao n' cap := by
    rcases hown'.2 with ⟨hv, _⟩ | ⟨g, cap, cur, hv, _⟩
    · exact ⟨_, _, _, hv⟩
    · exact ⟨_, _, _, hv⟩
  go_wp2
  go_ret2
  refine ⟨rfl, Or.inr ?_, ?_⟩
  · exact Lib.BuilderAt.put (T := 105) (e := 5) hB hb2 (bs' := bs ++ Lib.strCells s) (by simpa [Lib.strCells_length] using hown') (by decide)
  · exact (hb1.grown hgrow (by have := hb1.size; omega) (fun k hk => (hown.lt k hk).1)).setCell (p := ⟨b, 1, none⟩) hB _
end Go.Proofs.YtcjjhddppcmgoaaDoor

/-! pack.Text, pack.List: texts and lists as bytes. -/
namespace Go.Proofs.YtcjjhddppcmgoaaDoor
open Go.RowKit

theorem byteCells_text (l : List UInt8) : Lib.strCells ⟨l.toArray⟩ = Lib.byteCells l := by simp [Lib.strCells, Lib.byteCells]

set_option maxHeartbeats 1000000 in
theorem list_any (ao : Option Addr) (cap : Nat) (l : List (List UInt8)) (w : World) (h : StrsAt ao l w) (hl : l.length ≤ 9223372036854775807) (hlen : (listB l).length ≤ 140737488355328) :
    Calls Tryd.prog 55 #[.slice ao l.length cap] w fun e w' => e = .returned (.string ⟨(listB l).toArray⟩) ∧ Below w.heap.size w w' := by
  have hfresh := Lib.fresh_isBuilder 105 5 w
  have HF := Lib.hid hfresh
  have HS := Lib.hid h
  clear hfresh h
  go_enter Tryd.func55, Tryd.ntmps55
  go_wp2_with fail
  refine (num_any l.length _ (by omega)).mono ?_
  rintro e w1 ⟨rfl, hb1⟩
  have hA := (Below.refl w.heap.size w).alloc (Nat.le_refl _) (.cells #[Value.pointer none, Value.slice none 0 0] 105)
  have HI1 := Lib.hid (builder_below HF.out hb1)
  have HB1 := Lib.hid (hA.trans (hb1.mono (by simp)))
  have hsz1 := hb1.size
  simp at hsz1
  have hlb := listB_length l
  have HL := Lib.hid hlb
  clear hb1 HF hA
  go_wp2_with fail
  have hnum := HL.out
  refine (writeString_any w.heap.size w.heap.size [] _ _ HI1.out (by show _ + (List.toArray _).size ≤ _; simp; omega) (by omega)).mono ?_
  rintro e w2 ⟨rfl, hI2, hb2⟩
  rw [byteCells_text, List.nil_append] at hI2
  have HI2 := Lib.hid hI2
  have HB2 := Lib.hid (HB1.out.trans hb2)
  clear hI2 hb2 HI1 HB1 hsz1 hnum
  go_wp2_with fail
  go_loopw [12] (fun i wr => ∃ q : Nat, q ≤ l.length ∧ i = .int .i64 q ∧ Lib.IsBuilder 105 5 w.heap.size w.heap.size (Lib.byteCells (numB l.length ++ textsB (l.take q))) wr ∧ Below w.heap.size w wr) (fun i _ => l.length - (intOf i).toNat)
  case atStart => exact ⟨0, Nat.zero_le _, rfl, by simpa [textsB] using HI2.out, HB2.out⟩
  case round =>
    obtain ⟨q, hq, rfl, hI, hbel⟩ := hrel
    by_cases hlt : q < l.length
    · have hparts := textsB_parts l q hlt
      have htl := textB_length l[q]
      have hpos := numB_pos l[q].length
      have hlist := HL.out
      have HP := Lib.hid hparts
      have HT := Lib.hid htl
      have hcell : ∃ b o, ao = some ⟨b, o, none⟩ ∧ wr.cell? ⟨b, o + q, none⟩ = some (.string ⟨l[q].toArray⟩) := by
        rcases HS.out.below hbel with h | ⟨b, o, ha, hb, hc⟩
        · subst h; simp at hlt
        · exact ⟨b, o, ha, hc q hlt⟩
      obtain ⟨cb, co, hao, hc⟩ := hcell
      have hlq : l[q].length ≤ 140737488355328 := by omega
      have hsum : (numB l.length).length + (textsB (l.take q)).length + (numB l[q].length).length + l[q].length ≤ 140737488355328 := by omega
      have HI := Lib.hid hI
      have HB := Lib.hid hbel
      subst hao
      clear hI hbel hparts htl hlist
      go_wp2_with fail
      refine (num_any l[q].length _ (by omega)).mono ?_
      rintro e w3 ⟨rfl, hb3⟩
      have HI3 := Lib.hid (builder_below HI.out hb3)
      have hsz3 := HB.out.size
      have HB3 := Lib.hid (HB.out.trans (hb3.mono hsz3))
      clear hb3 HI HB hc
      go_wp2_with fail
      refine (writeString_any w.heap.size w.heap.size _ _ _ HI3.out (by show _ + (List.toArray _).size ≤ _; rw [Lib.byteCells_length]; simp; omega) HB3.out.size).mono ?_
      rintro e w4 ⟨rfl, hI4, hb4⟩
      rw [byteCells_text, ← Lib.byteCells_append] at hI4
      have HI4 := Lib.hid hI4
      have HB4 := Lib.hid (HB3.out.trans hb4)
      clear hb4 hI4 HI3 HB3 hsz3
      go_wp2_with fail
      refine (writeString_any w.heap.size w.heap.size _ _ _ HI4.out (by show _ + (List.toArray _).size ≤ _; rw [Lib.byteCells_length]; simp; omega) HB4.out.size).mono ?_
      rintro e w5 ⟨rfl, hI5, hb5⟩
      rw [byteCells_text, ← Lib.byteCells_append] at hI5
      have HI5 := Lib.hid (show Lib.IsBuilder 105 5 w.heap.size w.heap.size (Lib.byteCells (numB l.length ++ textsB (l.take (q + 1)))) w5 by rw [textsB_take_succ l q hlt]; simpa [List.append_assoc] using hI5)
      have HB5 := Lib.hid (HB4.out.trans hb5)
      clear hb5 hI5 HI4 HB4
      go_wp2_with fail
      refine ⟨⟨q + 1, by omega, by go_num, HI5.out, HB5.out⟩, by simp [intOf]; omega⟩
    · obtain rfl : q = l.length := by omega
      rw [List.take_length] at hI
      have HI := Lib.hid hI
      have HB := Lib.hid hbel
      clear hI hbel
      go_wp2_with fail
      refine (Tryd.Builder_String_any w.heap.size w.heap.size _ _ HI.out HB.out.size).mono ?_
      rintro e w3 ⟨rfl, hb3⟩
      have HB3 := Lib.hid (HB.out.trans hb3)
      clear hb3 HI HB
      go_wp2_with fail
      go_ret
      exact ⟨rfl, HB3.out⟩
end Go.Proofs.YtcjjhddppcmgoaaDoor

/-! The document's own Num, Text and List, walked. -/
namespace Go.Proofs.YtcjjhddppcmgoaaDoor
open Go.RowKit

theorem conv1 (w : World) (d : UInt8) : (convert 44 9 (.slice (some ⟨w.heap.size, 0, none⟩) 1 1)).run Tryd.prog (w.alloc (.cells #[.int .u8 (d.toNat : Int)] 5)) = .ok (.string ⟨#[d]⟩) (w.alloc (.cells #[.int .u8 (d.toNat : Int)] 5)) := by
  refine run_convert_bytes_back _ _ _ 5 ⟨w.heap.size, 0, none⟩ _ [d] Tryd.underlying44 Tryd.underlying5 Tryd.underlying9 ?_
  intro j hj
  have : j = 0 := by simpa using hj
  subst this
  simp [Addr.add]

theorem cat_cons (d : UInt8) (r : List UInt8) : (({ data := #[d] } : ByteArray) ++ { data := r.toArray }) = { data := (d :: r).toArray } := by
  apply ByteArray.ext; rw [ByteArray.data_append]; simp

theorem ofNat_mod_int (m : Nat) : ((UInt8.ofNat (m % 256)).toNat : Int) = (m : Int) % 256 := by
  rw [toNat_ofNat_mod]; omega

set_option maxHeartbeats 1000000 in
theorem rnumref_any (n : Nat) (w : World) (hn : n < 9223372036854775808) :
    Calls Tryd.prog 36 #[.int .i64 n] w fun e w' => e = .returned (.string ⟨(numB n).toArray⟩) ∧ Below w.heap.size w w' := by
  have h8 := dig_length_8 hn
  go_enter Tryd.func36, Tryd.ntmps36
  go_wp2_with fail
  go_loopw [0, 3, 4] (fun a s k wr => ∃ (m : Nat) (r : List UInt8), m < 9223372036854775808 ∧ dig m ++ r = dig n ∧ a = .int .i64 m ∧ s = .string ⟨r.toArray⟩ ∧ k = .int .i64 r.length ∧ Below w.heap.size w wr) (fun a _ _ _ => (intOf a).toNat)
  case atStart => exact ⟨n, [], hn, by simp, rfl, rfl, rfl, Below.refl _ _⟩
  case round =>
    obtain ⟨m, r, hm, hd, rfl, rfl, rfl, hbel⟩ := hrel
    have hr : r.length ≤ 8 := by have := congrArg List.length hd; simp at this; omega
    have HD := Lib.hid hd
    have HB := Lib.hid hbel
    clear hd hbel
    by_cases h0 : 0 < m
    · have hconv := conv1 wr (UInt8.ofNat (m % 256))
      rw [ofNat_mod_int] at hconv
      have hcat := cat_cons (UInt8.ofNat (m % 256)) r
      go_wp2_with fail
      refine ⟨⟨m / 256, UInt8.ofNat (m % 256) :: r, by omega, ?_, by go_num, rfl, by go_num, HB.out.alloc HB.out.size _⟩, by simp [intOf]; omega⟩
      rw [← HD.out, dig_pos (n := m) (by omega), List.append_assoc]; rfl
    · have e0 : m = 0 := by omega
      subst e0
      have hconv := conv1 wr (UInt8.ofNat r.length)
      rw [show ((UInt8.ofNat r.length).toNat : Int) = (r.length : Int) by simp; omega] at hconv
      have hcat := cat_cons (UInt8.ofNat r.length) r
      go_wp2_with fail
      go_ret
      refine ⟨?_, HB.out.alloc HB.out.size _⟩
      have e : r = dig n := by have := HD.out; rwa [dig_zero, List.nil_append] at this
      rw [numB, ← e]; rfl

theorem rtextref_any (s : List UInt8) (w : World) (hs : s.length ≤ 9223372036854775000) :
    Calls Tryd.prog 78 #[.string ⟨s.toArray⟩] w fun e w' => e = .returned (.string ⟨(textB s).toArray⟩) ∧ Below w.heap.size w w' := by
  have hcat : (({ data := (numB s.length).toArray } : ByteArray) ++ { data := s.toArray }) = { data := (textB s).toArray } := by
    apply ByteArray.ext; rw [ByteArray.data_append]; simp [textB]
  go_enter Tryd.func78, Tryd.ntmps78
  go_wp2_with fail
  refine (rnumref_any s.length _ (by omega)).mono ?_
  rintro e w1 ⟨rfl, hb⟩
  have HB := Lib.hid hb
  have hn := numB_length_9 (n := s.length) (by omega)
  clear hb
  go_wp2_with fail
  go_ret
  exact ⟨rfl, HB.out⟩

set_option maxHeartbeats 1000000 in
theorem rlistref_any (ao : Option Addr) (cap : Nat) (l : List (List UInt8)) (w : World) (h : StrsAt ao l w) (hl : l.length ≤ 9223372036854775807) (hlen : (listB l).length ≤ 9223372036854775000) :
    Calls Tryd.prog 58 #[.slice ao l.length cap] w fun e w' => e = .returned (.string ⟨(listB l).toArray⟩) ∧ Below w.heap.size w w' := by
  have HS := Lib.hid h
  have hlb := listB_length l
  have HL := Lib.hid hlb
  clear h hlb
  go_enter Tryd.func58, Tryd.ntmps58
  go_wp2_with fail
  refine (rnumref_any l.length _ (by omega)).mono ?_
  rintro e w1 ⟨rfl, hb1⟩
  have HB1 := Lib.hid hb1
  clear hb1
  go_wp2_with fail
  go_loopw [3, 11] (fun s i wr => ∃ q : Nat, q ≤ l.length ∧ i = .int .i64 q ∧ s = .string ⟨(numB l.length ++ textsB (l.take q)).toArray⟩ ∧ Below w.heap.size w wr) (fun _ i _ => l.length - (intOf i).toNat)
  case atStart => exact ⟨0, Nat.zero_le _, rfl, by simp [textsB], HB1.out⟩
  case round =>
    obtain ⟨q, hq, rfl, rfl, hbel⟩ := hrel
    by_cases hlt : q < l.length
    · have hparts := textsB_parts l q hlt
      have hlist := HL.out
      have hcell : ∃ b o, ao = some ⟨b, o, none⟩ ∧ wr.cell? ⟨b, o + q, none⟩ = some (.string ⟨l[q].toArray⟩) := by
        rcases HS.out.below hbel with h | ⟨b, o, ha, hb, hc⟩
        · subst h; simp at hlt
        · exact ⟨b, o, ha, hc q hlt⟩
      obtain ⟨cb, co, hao, hc⟩ := hcell
      have htl := textB_length l[q]
      have hlq : l[q].length ≤ 9223372036854775000 := by omega
      have hsum : (numB l.length).length + (textsB (l.take q)).length + (textB l[q]).length ≤ 9223372036854775000 := by omega
      have hcat : (({ data := (numB l.length ++ textsB (l.take q)).toArray } : ByteArray) ++ { data := (textB l[q]).toArray }) = { data := (numB l.length ++ textsB (l.take (q + 1))).toArray } := by
        apply ByteArray.ext; rw [ByteArray.data_append, textsB_take_succ l q hlt]; simp [textB, List.append_assoc]
      have HB := Lib.hid hbel
      subst hao
      clear hbel hparts htl hlist
      go_wp2_with fail
      refine (rtextref_any l[q] _ hlq).mono ?_
      rintro e w3 ⟨rfl, hb3⟩
      have HB3 := Lib.hid (HB.out.trans (hb3.mono HB.out.size))
      clear hb3 HB hc
      go_wp2_with fail
      exact ⟨⟨q + 1, by omega, by go_num, rfl, HB3.out⟩, by simp [intOf]; omega⟩
    · obtain rfl : q = l.length := by omega
      have HB := Lib.hid hbel
      clear hbel
      go_wp2_with fail
      go_ret
      exact ⟨by rw [List.take_length]; rfl, HB.out⟩
end Go.Proofs.YtcjjhddppcmgoaaDoor
