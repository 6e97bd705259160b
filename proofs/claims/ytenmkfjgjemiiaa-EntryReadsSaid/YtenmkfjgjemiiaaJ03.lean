/-
  Joined: pack.Num: the number's bytes.; A builder of the call's own; pack.List.; The developers' DraftText.; The developers' Text of layer 15.; The values of a printed region, together: what each is once it is there.; The document's GoodDraft.; A name, so far as it has been copied from a text; how long the parts of a list are.; The small methods of a reader (fail, take, Open): what each answers, and what it makes of the reader's block.; A reader's Num.; The document's own TakeNum, TakeText.; The document's own TakeText, TakeList, Split.; The document's own TakeList, Split.; The document's number, id, Same, SameAll.
-/
import Derived.Deep.OwnRows
import Derived.Laws.IdiomStrings
import Derived.Lib.AppendStr
import Derived.Lib.Builder
import Derived.Lib.UnsafeStr
import Derived.Lib.Walk
import Derived.OpenShut
import Derived.Shelf.Small.Bits
import Derived.Shelf.Strconv.Itoa0
import Derived.Shelf.Strings.Builder1
import Derived.Shelf.Strings.BuilderF
import Derived.Shelf.Strings.BuilderK
import Derived.Test.YtenmkfjgjemiiaaProg
import Derived.Test.YtenmkfjgjemiiaaJ01
import Derived.Test.YtenmkfjgjemiiaaJ02
namespace Go.Proofs
open Go.Shelf Go.RowKit
def Try.lays125_ren : Go.Shelf.Ren := ⟨fun | 125 => 41 | 128 => 56 | 129 => 57 | n => n, fun | 46 => 72 | 3 => 3 | 51 => 96 | 53 => 98 | 4 => 4 | 5 => 5 | 9 => 9 | n => n, fun | n => n⟩
theorem Try.lays125 : Go.Proofs.Lays.n125 Try.prog Try.lays125_ren := {
  mixed := by kernel_rfl
  f125 := Try.func41.trans (congrArg some (by kernel_rfl))
  f128 := Try.func56.trans (congrArg some (by kernel_rfl))
  f129 := Try.func57.trans (congrArg some (by kernel_rfl))
  t3 := Try.underlying3
  a3 := Try.isAgg3
  z3 := Try.sizeOf3
  v3 := Try.zeroValue3
  t4 := Try.underlying4
  a4 := Try.isAgg4
  z4 := Try.sizeOf4
  v4 := Try.zeroValue4
  t5 := Try.underlying5
  a5 := Try.isAgg5
  z5 := Try.sizeOf5
  v5 := Try.zeroValue5
  t9 := Try.underlying9
  a9 := Try.isAgg9
  z9 := Try.sizeOf9
  v9 := Try.zeroValue9
  t46 := Try.underlying72
  a46 := Try.isAgg72
  z46 := Try.sizeOf72
  v46 := Try.zeroValue72
  t51 := Try.underlying96
  a51 := Try.isAgg96
  z51 := Try.sizeOf96
  v51 := Try.zeroValue96
  t53 := Try.underlying98
  a53 := Try.isAgg98
  z53 := Try.sizeOf98
  v53 := Try.zeroValue98 }
theorem Try.bits_Len (x : Int) (w : World) (h0 : 0 ≤ x) (h1 : x ≤ 18446744073709551615) :
    Calls Try.prog 41 #[.int .u64 x] w fun e w' => e = .returned (.int .i64 (Lib.bitLen x.toNat)) ∧ w' = w := Any.bits_Len Try.lays125 x w h0 h1
end Go.Proofs
namespace Go.Proofs.Ytenmkfjgjemiiaa
open Go.RowKit
theorem Try.infoByte : (Try.prog.info? 5).map (fun i => (i.zero, i.size, i.bytes)) = some (some (.int .u8 0), 1, 1) := by kernel_rfl
def numRow (n L k j : Nat) : Value := if j = 0 then .int .u8 L else if L - k < j then .int .u8 ((n : Int) / 2 ^ (8 * (L - j)) % 256) else .int .u8 0
theorem numRow_at {n L : Nat} (hL : (dig n).length = L) (h8 : L ≤ 8) (j : Nat) (hj : j < (numB n).length) : numRow n L L j = .int .u8 ((numB n)[j].toNat : Int) := by
  unfold numRow
  cases j with
  | zero =>
    rw [if_pos rfl]
    have : (numB n)[0].toNat = L := by simp only [numB, List.getElem_cons_zero, hL]; simp; omega
    rw [this]
  | succ j =>
    have hj2 : j < (dig n).length := by rw [numB_length] at hj; omega
    rw [if_neg (by omega), if_pos (by omega)]
    have e : (numB n)[j + 1].toNat = n / 256 ^ (L - (j + 1)) % 256 := by
      simp only [numB, List.getElem_cons_succ]
      rw [dig_get n j hj2, hL, show L - 1 - j = L - (j + 1) by omega]
    rw [e, show (256 : Nat) = 2 ^ 8 by decide, ← Nat.pow_mul]
    simp
theorem numRow_step {n L k : Nat} (hk : k < L) (i : Nat) :
    (fun j => if j = L - k then Value.int .u8 ((n : Int) / 2 ^ (8 * k) % 256) else numRow n L k j) i = numRow n L (k + 1) i := by
  unfold numRow
  by_cases e : i = L - k
  · subst e
    rw [if_neg (by omega), if_pos (by omega), show L - (L - k) = k by omega]
    simp
  · simp only [e, if_false]
    by_cases e0 : i = 0
    · simp [e0]
    · simp only [e0, if_false]
      by_cases e1 : L - k < i
      · rw [if_pos e1, if_pos (by omega)]
      · rw [if_neg e1, if_neg (by omega)]
set_option maxHeartbeats 1000000 in
theorem num_any (n : Nat) (w : World) (hn : n < 9223372036854775808) :
    Calls Try.prog 29 #[.int .i64 n] w fun e w' => e = .returned (.string ⟨(numB n).toArray⟩) ∧ Below w.heap.size w w' := by
  have b1 := bitLen_le hn
  have b2 : ((Lib.bitLen n : Int) + 7) / 8 = ((dig n).length : Int) := by have := bitLen_dig hn; omega
  have h8 := dig_length_8 hn
  have hD := Lib.hid (rfl : dig n = dig n)
  generalize hL : (dig n).length = L at b2 h8
  have HL := Lib.hid hL
  clear hL hD
  have hmk := run_make_row' (P := Try.prog) 53 5 (.int .u8 0) 1 Try.underlying53 Try.infoByte rfl .i64 .i64 (1 + L) (by omega) (by omega)
  simp only [Int.natCast_add, Int.natCast_one] at hmk
  have hrow := World.rowIs_made w (.int .u8 0) (1 + L) 5
  have hrow2 := hrow.set 0 (.int .u8 (L : Int))
  have c0 := hrow.cell (i := 0) (by omega)
  have f0 := hrow.frozen 0
  have HR := Lib.hid hrow2
  clear hrow hrow2
  go_enter Try.func29, Try.ntmps29
  go_wp2_with (go_at_call 41; refine (Try.bits_Len _ _ (by omega) (by omega)).mono ?_; rintro e w' ⟨rfl, rfl⟩)
  rw [b2]
  have B2 := Lib.hid b2
  clear b2 c0 f0 HR hmk
  go_loopw [21] (fun i wr => ∃ k : Nat, k ≤ L ∧ i = .int .i64 k ∧ wr.rowIs w'.heap.size 5 (1 + L) (numRow n L k) ∧ Below w'.heap.size w' wr) (fun i _ => L - (intOf i).toNat)
  case atStart =>
    refine ⟨0, Nat.zero_le _, rfl, ?_, (Below.refl _ _).alloc (Nat.le_refl _) _⟩
    have h := World.rowIs_alloc w' ((madeCells #[Value.int IntKind.u8 0] (1 + L)).setIfInBounds 0 (Value.int IntKind.u8 ↑L)) 5 (numRow n L 0) (by
      intro i hi
      simp only [Array.size_setIfInBounds, size_madeCells] at hi
      rw [Array.getElem?_setIfInBounds]
      unfold numRow
      by_cases e : i = 0
      · subst e; simp [size_madeCells]
      · rw [if_neg (by omega), if_neg e, if_neg (by omega)]
        simp [madeCells, hi, Nat.mod_one])
    simpa [size_madeCells] using h
  case round =>
    obtain ⟨k, hk, rfl, hrow, hbel⟩ := hrel
    by_cases hlt : k < L
    · have c0 := hrow.cell (i := L - k) (by omega)
      have f0 := hrow.frozen (L - k)
      have HR := Lib.hid hrow
      have HB := Lib.hid hbel
      clear hrow hbel
      go_wp2
      refine ⟨⟨k + 1, by omega, by go_num, ?_, HB.out.setCell (by simp) _⟩, by simp [intOf]; omega⟩
      exact (HR.out.set (L - k) _).congr (fun i _ => numRow_step hlt i)
    · have hkL : k = L := by omega
      subst hkL
      have hconv : (convert 53 9 (.slice (some ⟨w'.heap.size, 0, none⟩) (1 + k) (1 + k))).run Try.prog wr = .ok (.string ⟨(numB n).toArray⟩) wr := by
        have hlen : (numB n).length = 1 + k := by rw [numB_length, HL.out]
        rw [← hlen]
        refine run_convert_bytes_back wr _ _ 5 ⟨w'.heap.size, 0, none⟩ _ (numB n) Try.underlying53 Try.underlying5 Try.underlying9 ?_
        intro j hj
        have := hrow.cell (i := j) (by omega)
        rw [numRow_at HL.out h8 j hj] at this
        rw [show Addr.add ⟨w'.heap.size, 0, none⟩ j = ⟨w'.heap.size, j, none⟩ by simp only [Addr.add]; split <;> simp_all]
        exact this
      have HB := Lib.hid hbel
      clear hrow hbel
      go_wp2
      go_ret
      exact ⟨rfl, HB.out⟩
set_option maxHeartbeats 1000000 in
theorem num_neg (n : Int) (w : World) (hn : n < 0) (hlo : -9223372036854775808 ≤ n) :
    Calls Try.prog 29 #[.int .i64 n] w fun e w' => e = .returned (.string ⟨#[0]⟩) ∧ Below w.heap.size w w' := by
  have b0 : Lib.bitLen 0 = 0 := by decide
  have hmax : max n 0 = 0 := by omega
  have hmk : ∀ w : World, (Instr.makeSlice 53 (.int .i64 1) (.int .i64 1)).run Try.prog w = .ok (.slice (some ⟨w.heap.size, 0, none⟩) 1 1) (w.alloc (.cells #[.int .u8 0] 5)) := fun w => by kernel_rfl
  have hconv : (convert 53 9 (.slice (some ⟨w.heap.size, 0, none⟩) 1 1)).run Try.prog (w.alloc (.cells #[.int .u8 0] 5)) = .ok (.string ⟨#[0]⟩) (w.alloc (.cells #[.int .u8 0] 5)) := by
    refine run_convert_bytes_back _ _ _ 5 ⟨w.heap.size, 0, none⟩ _ [0] Try.underlying53 Try.underlying5 Try.underlying9 ?_
    intro j hj
    have : j = 0 := by simpa using hj
    subst this
    simp [Addr.add]
  go_enter Try.func29, Try.ntmps29
  go_wp2_with (go_at_call 41; refine (Try.bits_Len _ _ (by omega) (by omega)).mono ?_; rintro e w' ⟨rfl, rfl⟩)
  refine wp_loop_rounds 1 ?_
  rw [rounds_succ]
  go_wp2
  go_ret
  exact ⟨rfl, (Below.refl _ _).alloc (Nat.le_refl _) _⟩
theorem num_int (n : Int) (w : World) (hlo : -9223372036854775808 ≤ n) (hhi : n ≤ 9223372036854775807) :
    Calls Try.prog 29 #[.int .i64 n] w fun e w' => e = .returned (.string ⟨(numB n.toNat).toArray⟩) ∧ Below w.heap.size w w' := by
  by_cases h : n < 0
  · have e : numB n.toNat = [0] := by rw [show n.toNat = 0 by omega]; simp [numB, dig_zero]
    rw [e]
    exact num_neg n w h hlo
  · obtain ⟨m, rfl⟩ : ∃ m : Nat, n = m := ⟨n.toNat, by omega⟩
    exact num_any m w (by omega)
end Go.Proofs.Ytenmkfjgjemiiaa
namespace Go.Proofs
open Go.Shelf Go.RowKit
def Try.lays169_ren : Go.Shelf.Ren := ⟨fun | 169 => 43 | n => n, fun | 70 => 73 | 9 => 9 | 0 => 0 | 72 => 75 | 37 => 53 | 127 => 99 | 3 => 3 | 5 => 5 | n => n, fun | n => n⟩
theorem Try.lays169 : Go.Proofs.Lays.n169 Try.prog Try.lays169_ren := {
  mixed := by kernel_rfl
  f169 := Try.func43.trans (congrArg some (by kernel_rfl))
  t0 := Try.underlying0
  a0 := Try.isAgg0
  z0 := Try.sizeOf0
  v0 := Try.zeroValue0
  t3 := Try.underlying3
  a3 := Try.isAgg3
  z3 := Try.sizeOf3
  v3 := Try.zeroValue3
  t9 := Try.underlying9
  a9 := Try.isAgg9
  z9 := Try.sizeOf9
  v9 := Try.zeroValue9
  t37 := Try.underlying53
  a37 := Try.isAgg53
  z37 := Try.sizeOf53
  v37 := Try.zeroValue53
  t70 := Try.underlying73
  a70 := Try.isAgg73
  z70 := Try.sizeOf73
  v70 := Try.zeroValue73
  t72 := Try.underlying75
  a72 := Try.isAgg75
  z72 := Try.sizeOf75
  v72 := Try.zeroValue75
  t127 := Try.underlying99
  a127 := Try.isAgg99
  z127 := Try.sizeOf99
  v127 := Try.zeroValue99 }
theorem Try.Builder_Extra_169 : Builder.Extra Try.prog Try.lays169_ren := {
  sizeBuilder := by kernel_rfl
  liesBuilder := by kernel_rfl
  t5 := Try.underlying5
  a5 := Try.isAgg5
  z5 := Try.sizeOf5
  v5 := Try.zeroValue5
  infoByte := by kernel_rfl
  cellsByte := by kernel_rfl
  sizeByte := by kernel_rfl
  neB5 := by decide }
theorem Try.Builder_String_any (B b : Nat) (l : List UInt8) (w : World) (h : Lib.IsBuilder 75 5 B b (Lib.byteCells l) w) (hBw : B ≤ w.heap.size) :
    Calls Try.prog 43 #[.pointer (some ⟨b, 0, none⟩)] w fun e w' => e = .returned (.string ⟨l.toArray⟩) ∧ Below B w w' := Any.Builder_String_any Try.lays169 Try.Builder_Extra_169 B b l w h hBw
end Go.Proofs
namespace Go.Proofs.Ytenmkfjgjemiiaa
open Go.RowKit
theorem builder_below {T e : TypeId} {B b : Nat} {bs : List Value} {w w' : World} (h : Lib.IsBuilder T e B b bs w) (k : Below w.heap.size w w') : Lib.IsBuilder T e B b bs w' := by
  have one : ∀ p, Lib.BuilderAt T e B b p bs w → Lib.BuilderAt T e B b p bs w' := by
    intro p hp
    have hlt := hp.lt
    obtain ⟨hB, v, hb, hown, hne⟩ := hp
    refine ⟨hB, v, (k.block b hlt).trans hb, ?_, hne⟩
    exact hown.kept (row := none) ⟨k.os, k.tape, k.output, k.size, fun i hi _ => k.block i hi⟩ (by
      rcases h : v.ownBlock with _ | g
      · exact Or.inl rfl
      · exact Or.inr (by simp))
  rcases h with h | h
  · exact Or.inl (one _ h)
  · exact Or.inr (one _ h)
set_option maxHeartbeats 1000000 in
set_option maxRecDepth 100000 in
theorem copyCheck_used (b : Nat) (w : World) (h0 : w.cell? ⟨b, 0, none⟩ = some (.pointer (some ⟨b, 0, none⟩))) :
    Calls Try.prog 58 #[.pointer (some ⟨b, 0, none⟩)] w fun e w' => e = .returned (.tuple #[]) ∧ w' = w := by
  obtain ⟨j, hj, _⟩ := Option.map_eq_some_iff.1 Try.Builder_Extra_169.sizeBuilder
  go_enter Try.func58, Try.ntmps58
  go_wp2
  rw [Lib.run_neq_ptr_same w _ Try.underlying73 hj]
  go_wp2
  go_end0
  exact ⟨rfl, rfl⟩
set_option maxHeartbeats 1000000 in
set_option maxRecDepth 100000 in
theorem copyCheck_fresh (b : Nat) (w : World) (h0 : w.cell? ⟨b, 0, none⟩ = some (.pointer none)) (hsh : w.shape? b = some (75, 2)) (hfz : w.frozen? ⟨b, 0, none⟩ = false) :
    Calls Try.prog 58 #[.pointer (some ⟨b, 0, none⟩)] w fun e w' => e = .returned (.tuple #[]) ∧ w' = w.setCell ⟨b, 0, none⟩ (.pointer (some ⟨b, 0, none⟩)) := by
  obtain ⟨j, hj, hjs⟩ := Option.map_eq_some_iff.1 Try.Builder_Extra_169.sizeBuilder
  go_enter Try.func58, Try.ntmps58
  go_wp2
  rw [Lib.run_to_unsafe w ⟨b, 0, none⟩ Try.underlying73 Try.underlying105 hj (by rw [hjs]; decide) hsh (Nat.zero_lt_succ 1)]
  simp only [Result.andThen]
  rw [Oper.upon_value]
  go_wp2
  rw [run_callFunc_extern Try.func63 (by kernel_rfl) (by kernel_rfl) (by kernel_rfl) (e := Extern.AbiNoEscape.same) (by kernel_rfl)]
  rw [Lib.run_noEscape]
  simp only [Result.andThen]
  rw [Oper.upon_value]
  go_wp2
  rw [Lib.run_from_unsafe w ⟨b, 0, none⟩ Try.underlying105 Try.underlying73 hj hsh Try.Builder_Extra_169.liesBuilder]
  simp only [Result.andThen]
  rw [Oper.upon_value]
  go_wp2
  go_end0
  exact ⟨rfl, rfl⟩
theorem copyCheck_any (B b : Nat) (bs : List Value) (w : World) (h : Lib.IsBuilder 75 5 B b bs w) :
    Calls Try.prog 58 #[.pointer (some ⟨b, 0, none⟩)] w fun e w' => e = .returned (.tuple #[]) ∧ (Lib.BuilderAt 75 5 B b (.pointer (some ⟨b, 0, none⟩)) bs w' ∧ Below B w w') := by
  rcases h with h | h
  · refine (copyCheck_fresh b w h.cell0 h.shape h.frozen0).mono ?_
    rintro e w' ⟨rfl, rfl⟩
    exact ⟨rfl, h.used _, (Below.refl B w).setCell (p := ⟨b, 0, none⟩) h.1 _⟩
  · refine (copyCheck_used b w h.cell0).mono ?_
    rintro e w' ⟨rfl, rfl⟩
    exact ⟨rfl, h, Below.refl B _⟩
set_option maxHeartbeats 2000000 in
set_option maxRecDepth 100000 in
theorem writeString_any (B b : Nat) (bs : List Value) (s : ByteArray) (w : World) (h : Lib.IsBuilder 75 5 B b bs w) (hlen : bs.length + s.size ≤ 140737488355328) (hBw : B ≤ w.heap.size) :
    Calls Try.prog 42 #[.pointer (some ⟨b, 0, none⟩), .string s] w fun e w' => e = .returned (.tuple #[.int .i64 s.size, .nilIface]) ∧ (Lib.IsBuilder 75 5 B b (bs ++ Lib.strCells s) w' ∧ Below B w w') := by
  obtain ⟨i0, hi, hz0, hz1, hz2⟩ := info_parts Try.Builder_Extra_169.infoByte
  have hi : Try.prog.info? 5 = some i0 := hi
  go_enter Try.func42, Try.ntmps42
  go_wp2_with (go_at_call 58; refine (copyCheck_any B b bs _ h).mono ?_)
  rintro e w1 ⟨rfl, h1, hb1⟩
  obtain ⟨hB, v, hbk, hown, hne⟩ := h1
  have c0 : w1.cell? ⟨b, 0, none⟩ = some (.pointer (some ⟨b, 0, none⟩)) := by rw [Lib.cell_of_heap hbk]; rfl
  have c1 : w1.cell? ⟨b, 1, none⟩ = some v := by rw [Lib.cell_of_heap hbk]; rfl
  go_wp2_with (at_builtin; refine Lib.wpList_append_own_string _ rfl _ _ 53 9 rfl B 5 i0 Try.underlying53 Try.underlying9 hi hz0 hz1 hz2 _ _ _ rfl hown s rfl ?c3 ?c4 ?c5 ?_)
  case c3 => unfold maxLen; omega
  case c4 => omega
  case c5 => have := hb1.size; omega
  intro v' w2 hown' hgrow _
  have hlt : b < w1.heap.size := lt_of_block hbk
  have hb2 : w2.heap[b]? = some (.cells #[.pointer (some ⟨b, 0, none⟩), v] 75 (0, 0)) := by
    rw [hgrow.block b hlt (fun e => hne e.symm)]
    exact hbk
  have d0 : w2.cell? ⟨b, 0, none⟩ = some (.pointer (some ⟨b, 0, none⟩)) := by rw [Lib.cell_of_heap hb2]; rfl
  have d1 : w2.cell? ⟨b, 1, none⟩ = some v := by rw [Lib.cell_of_heap hb2]; rfl
  have f1 : w2.frozen? ⟨b, 1, none⟩ = false := Lib.frozen_of_heap hb2 1
  obtain ⟨ao, n', cap, rfl⟩ : ∃ ao n' cap, v' = .slice ao n' cap := by
    rcases hown'.2 with ⟨hv, _⟩ | ⟨g, cap, cur, hv, _⟩
    · exact ⟨_, _, _, hv⟩
    · exact ⟨_, _, _, hv⟩
  go_wp2
  go_ret2
  refine ⟨rfl, Or.inr ?_, ?_⟩
  · exact Lib.BuilderAt.put (T := 75) (e := 5) hB hb2 (bs' := bs ++ Lib.strCells s) (by simpa [Lib.strCells_length] using hown') (by decide)
  · exact (hb1.grown hgrow (by have := hb1.size; omega) (fun k hk => (hown.lt k hk).1)).setCell (p := ⟨b, 1, none⟩) hB _
end Go.Proofs.Ytenmkfjgjemiiaa
namespace Go.Proofs.Ytenmkfjgjemiiaa
open Go.RowKit
theorem byteCells_text (l : List UInt8) : Lib.strCells ⟨l.toArray⟩ = Lib.byteCells l := by simp [Lib.strCells, Lib.byteCells]
set_option maxHeartbeats 1000000 in
theorem list_any (ao : Option Addr) (cap : Nat) (l : List (List UInt8)) (w : World) (h : StrsAt ao l w) (hl : l.length ≤ 9223372036854775807) (hlen : (listB l).length ≤ 140737488355328) :
    Calls Try.prog 30 #[.slice ao l.length cap] w fun e w' => e = .returned (.string ⟨(listB l).toArray⟩) ∧ Below w.heap.size w w' := by
  have hfresh := Lib.fresh_isBuilder 75 5 w
  have HF := Lib.hid hfresh
  have HS := Lib.hid h
  clear hfresh h
  go_enter Try.func30, Try.ntmps30
  go_wp2_with fail
  refine (num_any l.length _ (by omega)).mono ?_
  rintro e w1 ⟨rfl, hb1⟩
  have hA := (Below.refl w.heap.size w).alloc (Nat.le_refl _) (.cells #[Value.pointer none, Value.slice none 0 0] 75)
  have HI1 := Lib.hid (builder_below HF.out hb1)
  have HB1 := Lib.hid (hA.trans (hb1.mono (by simp)))
  have hsz1 := hb1.size
  simp at hsz1
  have hlb := listB_length l
  have HL := Lib.hid hlb
  clear hb1 HF hA
  go_wp2_with fail
  have hnum := HL.out
  refine (writeString_any w.heap.size w.heap.size [] _ _ HI1.out (by show _ + (List.toArray _).size ≤ _; simp; omega) (by omega)).mono ?_
  rintro e w2 ⟨rfl, hI2, hb2⟩
  rw [byteCells_text, List.nil_append] at hI2
  have HI2 := Lib.hid hI2
  have HB2 := Lib.hid (HB1.out.trans hb2)
  clear hI2 hb2 HI1 HB1 hsz1 hnum
  go_wp2_with fail
  go_loopw [12] (fun i wr => ∃ q : Nat, q ≤ l.length ∧ i = .int .i64 q ∧ Lib.IsBuilder 75 5 w.heap.size w.heap.size (Lib.byteCells (numB l.length ++ textsB (l.take q))) wr ∧ Below w.heap.size w wr) (fun i _ => l.length - (intOf i).toNat)
  case atStart => exact ⟨0, Nat.zero_le _, rfl, by simpa [textsB] using HI2.out, HB2.out⟩
  case round =>
    obtain ⟨q, hq, rfl, hI, hbel⟩ := hrel
    by_cases hlt : q < l.length
    · have hparts := textsB_parts l q hlt
      have htl := textB_length l[q]
      have hpos := numB_pos l[q].length
      have hlist := HL.out
      have HP := Lib.hid hparts
      have HT := Lib.hid htl
      have hcell : ∃ b o, ao = some ⟨b, o, none⟩ ∧ wr.cell? ⟨b, o + q, none⟩ = some (.string ⟨l[q].toArray⟩) := by
        rcases HS.out.below hbel with h | ⟨b, o, ha, hb, hc⟩
        · subst h; simp at hlt
        · exact ⟨b, o, ha, hc q hlt⟩
      obtain ⟨cb, co, hao, hc⟩ := hcell
      have hlq : l[q].length ≤ 140737488355328 := by omega
      have hsum : (numB l.length).length + (textsB (l.take q)).length + (numB l[q].length).length + l[q].length ≤ 140737488355328 := by omega
      have HI := Lib.hid hI
      have HB := Lib.hid hbel
      subst hao
      clear hI hbel hparts htl hlist
      go_wp2_with fail
      refine (num_any l[q].length _ (by omega)).mono ?_
      rintro e w3 ⟨rfl, hb3⟩
      have HI3 := Lib.hid (builder_below HI.out hb3)
      have hsz3 := HB.out.size
      have HB3 := Lib.hid (HB.out.trans (hb3.mono hsz3))
      clear hb3 HI HB hc
      go_wp2_with fail
      refine (writeString_any w.heap.size w.heap.size _ _ _ HI3.out (by show _ + (List.toArray _).size ≤ _; rw [Lib.byteCells_length]; simp; omega) HB3.out.size).mono ?_
      rintro e w4 ⟨rfl, hI4, hb4⟩
      rw [byteCells_text, ← Lib.byteCells_append] at hI4
      have HI4 := Lib.hid hI4
      have HB4 := Lib.hid (HB3.out.trans hb4)
      clear hb4 hI4 HI3 HB3 hsz3
      go_wp2_with fail
      refine (writeString_any w.heap.size w.heap.size _ _ _ HI4.out (by show _ + (List.toArray _).size ≤ _; rw [Lib.byteCells_length]; simp; omega) HB4.out.size).mono ?_
      rintro e w5 ⟨rfl, hI5, hb5⟩
      rw [byteCells_text, ← Lib.byteCells_append] at hI5
      have HI5 := Lib.hid (show Lib.IsBuilder 75 5 w.heap.size w.heap.size (Lib.byteCells (numB l.length ++ textsB (l.take (q + 1)))) w5 by rw [textsB_take_succ l q hlt]; simpa [List.append_assoc] using hI5)
      have HB5 := Lib.hid (HB4.out.trans hb5)
      clear hb5 hI5 HI4 HB4
      go_wp2_with fail
      refine ⟨⟨q + 1, by omega, by go_num, HI5.out, HB5.out⟩, by simp [intOf]; omega⟩
    · obtain rfl : q = l.length := by omega
      rw [List.take_length] at hI
      have HI := Lib.hid hI
      have HB := Lib.hid hbel
      clear hI hbel
      go_wp2_with fail
      refine (Try.Builder_String_any w.heap.size w.heap.size _ _ HI.out HB.out.size).mono ?_
      rintro e w3 ⟨rfl, hb3⟩
      have HB3 := Lib.hid (HB.out.trans hb3)
      clear hb3 HI HB
      go_wp2_with fail
      go_ret
      exact ⟨rfl, HB3.out⟩
end Go.Proofs.Ytenmkfjgjemiiaa
namespace Go.Proofs.Ytenmkfjgjemiiaa
open Go.RowKit Go.BigFrame
theorem at_four9 (w : World) (p q r s : List UInt8) : StrsAt (some ⟨w.heap.size, 0, none⟩) [p, q, r, s] (w.alloc (.cells #[.string ⟨p.toArray⟩, .string ⟨q.toArray⟩, .string ⟨r.toArray⟩, .string ⟨s.toArray⟩] 9)) := by
  refine strsAt_own (B := w.heap.size) (c := 4) ?_
  exact World.ownsRow_lit (base := w.heap.size) (e := 9) (size := 1) w #[.string ⟨p.toArray⟩, .string ⟨q.toArray⟩, .string ⟨r.toArray⟩, .string ⟨s.toArray⟩] 4 (Nat.le_refl _) (by unfold maxLen; omega) rfl
theorem conv_mid {P : Program} {src dst e : TypeId} (hs : P.underlying src = some (.slice e)) (he : P.underlying e = some (.int .u8)) (hd : P.underlying dst = some .string) {g o c n : Nat} {l : List Nat} {w : World} (hn : n = l.length) (hl : ∀ x ∈ l, x < 256) (h : w.rangeAt g o (nums .u8 l)) :
    (convert src dst (.slice (some ⟨g, o, none⟩) n c)).run P w = .ok (.string ⟨(txt l).toArray⟩) w := by
  subst hn
  have h2 := run_convert_bytes_back (P := P) w src dst e ⟨g, o, none⟩ c (txt l) hs he hd (fun j hj => by
    rw [txt_len] at hj
    rw [Addr.add_mid, h j _ (by rw [nums, List.getElem?_map, List.getElem?_eq_getElem hj]; rfl)]
    have h1 := hl _ (List.getElem_mem hj)
    simp only [txt, List.getElem_map]
    rw [show (UInt8.ofNat l[j]).toNat = l[j] by simp; omega])
  rw [txt_len] at h2
  exact h2
theorem draftB_le9 {d : DraftN} (h : d.Fit) : (draftB d).length ≤ 1200 := draftB_le (by have := h.high; omega) h.key h.val h.ref.1
set_option maxHeartbeats 4000000 in
set_option maxRecDepth 100000 in
theorem dev_draftText (d : DraftN) (hd : d.Fit) (w : World) :
    Calls Try.prog 31 #[.agg (draftV d)] w fun e w' => e = .returned (.string ⟨(draftB d).toArray⟩) ∧ Below w.heap.size w w' := by
  have hx : Cells w.heap.size 28 (draftV d) (w.alloc (.cells (draftV d) 28)) := heap_alloc_new w _
  have hb : Below w.heap.size w (w.alloc (.cells (draftV d) 28)) := (Below.refl _ _).alloc (Nat.le_refl _) _
  have HX := Lib.hid hx
  have HB := Lib.hid hb
  have HD := Lib.hid hd
  have HLEN := Lib.hid (draftB_le9 hd)
  clear hx hb hd
  go_enter Try.func31, Try.ntmps31
  go_upto_region 1 with (fail)
  obtain ⟨w1, hw1⟩ : ∃ x, x = w.alloc (.cells (draftV d) 28) := ⟨_, rfl⟩
  rw [← hw1] at HX HB ⊢
  clear hw1
  obtain ⟨c0, c1, c2, c3⟩ := draft_cells HX.out
  have hg := HX.out.lt
  obtain ⟨k, hk⟩ : ∃ k, d.kind = k := ⟨_, rfl⟩
  have HK := Shut.mk hk
  rw [hk] at c0
  have HC0 := Lib.hid (fun (w' : World) (q : Below w1.heap.size w1 w') => (q.cell (p := ⟨w.heap.size, 0, none⟩) hg).trans c0)
  have HC1 := Lib.hid (fun (w' : World) (q : Below w1.heap.size w1 w') => (q.cell (p := ⟨w.heap.size, 1, none⟩) hg).trans c1)
  have HC2 := Lib.hid (fun (w' : World) (q : Below w1.heap.size w1 w') => (q.cell (p := ⟨w.heap.size, 2, none⟩) hg).trans c2)
  have HC3 := Lib.hid (fun (w' : World) (q : Below w1.heap.size w1 w') => conv_mid (P := Try.prog) (src := 53) (dst := 9) (c := 32) Try.underlying53 Try.underlying5 Try.underlying9 HD.out.ref.1.symm HD.out.ref.2 (rangeAt_belowI c3 q hg))
  have HN := Lib.hid (fun w' => num_int k w' (by have := HD.out.low; rw [hk] at this; exact this) (by have := HD.out.high; rw [hk] at this; exact this))
  clear c0 c1 c2 c3 hg hk
  refine wp_region_class_tail (fun w' => Below w1.heap.size w1 w') 10 (by kernel_rfl) (by kernel_rfl) (Below.refl _ _).drew ?_
  simp only [List.take_succ_cons, List.take_zero, List.drop_succ_cons, List.drop_zero]
  repeat (first
    | (go_big_quiet_want; refine quiet_load_cell 3 _ rfl ⟨w.heap.size, 0, none⟩ _ rfl HC0.out Try.isAgg3 ?_; go_big_quiet_on; simp only [Act.put, List.setIfInBounds_toArray, List.set_cons_zero, List.set_cons_succ])
    | (go_big_quiet_want; refine quiet_load_cell 9 _ rfl ⟨w.heap.size, 1, none⟩ _ rfl HC1.out Try.isAgg9 ?_; go_big_quiet_on; simp only [Act.put, List.setIfInBounds_toArray, List.set_cons_zero, List.set_cons_succ])
    | (go_big_quiet_want; refine quiet_load_cell 9 _ rfl ⟨w.heap.size, 2, none⟩ _ rfl HC2.out Try.isAgg9 ?_; go_big_quiet_on; simp only [Act.put, List.setIfInBounds_toArray, List.set_cons_zero, List.set_cons_succ])
    | (go_big_quiet_want; refine quiet_conv 53 9 _ rfl (.slice (some ⟨w.heap.size, 3, none⟩) 32 32) _ rfl HC3.out ?_; go_big_quiet_on; simp only [Act.put, List.setIfInBounds_toArray, List.set_cons_zero, List.set_cons_succ])
    | go_big_quiet_step ((intro hs'; first
        | (go_at_call 29; exact (HN.out _).mono fun e w' h => ⟨h.1, hs'.trans (h.2.mono hs'.size)⟩)
        | rfl)))
  refine wpQuiet_nil ?_
  intro w2 hs2
  have HB2 := Lib.hid (HB.out.trans (hs2.mono HB.out.size))
  clear hs2 HX HB HC0 HC1 HC2 HC3 HN
  go_wp2_with fail
  refine (list_any (some ⟨w2.heap.size, 0, none⟩) 4 [numB k.toNat, d.key, d.val, txt d.ref] _ (at_four9 w2 _ _ _ _) (by simp) (by have := HLEN.out; rw [draftB, HK.out] at this; omega)).mono ?_
  rintro e w3 ⟨rfl, hb⟩
  have HB3 := Lib.hid (HB2.out.trans (((Below.refl _ w2).alloc (Nat.le_refl _) _).trans (hb.mono (by simp)) |>.mono HB2.out.size))
  clear hb HB2
  go_wp2_with fail
  go_ret
  exact ⟨by rw [draftB, HK.out]; rfl, HB3.out⟩
end Go.Proofs.Ytenmkfjgjemiiaa
namespace Go.Proofs.Ytenmkfjgjemiiaa
open Go.RowKit Go.BigFrame
theorem at_row15 (w : World) (l : List (List UInt8)) (h : l.length ≤ 1000) : StrsAt (some ⟨w.heap.size, 0, none⟩) l (w.alloc (.cells (strs l).toArray 9)) := by
  refine strsAt_own (B := w.heap.size) (c := l.length) ?_
  exact World.ownsRow_lit (base := w.heap.size) (e := 9) (size := 1) w (strs l).toArray l.length (Nat.le_refl _) (by unfold maxLen; omega) (by rw [List.size_toArray, strs_length, Nat.mul_one])
set_option maxHeartbeats 4000000 in
set_option maxRecDepth 100000 in
theorem dev_text15 (e : EntN) (he : e.Len) (hq : e.seq < 9223372036854775808) (w : World) :
    Calls Try.prog 12 #[.agg (entV e)] w fun r w' => r = .returned (.string ⟨(entB e).toArray⟩) ∧ Below w.heap.size w w' := by
  have hx : Cells w.heap.size 30 (entV e) (w.alloc (.cells (entV e) 30)) := heap_alloc_new w _
  have hb : Below w.heap.size w (w.alloc (.cells (entV e) 30)) := (Below.refl _ _).alloc (Nat.le_refl _) _
  have HX := Lib.hid hx
  have HB := Lib.hid hb
  have HE := Lib.hid he
  have HGD := Lib.hid (fun w' => dev_good15 e he w')
  have HSE := Lib.hid (sizeEV he.ok)
  have HLE := Lib.hid (fun h : GoodE e => partsE_le h ⟨he.ok, hq⟩)
  have HQ := Lib.hid hq
  have HSD := Lib.hid (show (Try.prog.info? 28).map (·.size) = some (draftL e.d).length by rw [draftL_len he.ok.ref.1]; exact Try.sizeD)
  clear hx hb he hq
  obtain ⟨g, hg⟩ : ∃ b, decide (GoodE e) = b := ⟨_, rfl⟩
  have HG := Shut.mk hg
  rw [hg] at HGD
  clear hg
  go_enter Try.func12, Try.ntmps12
  go_upto_region 1 with (fail)
  obtain ⟨w1, hw1⟩ : ∃ x, x = w.alloc (.cells (entV e) 30) := ⟨_, rfl⟩
  rw [← hw1] at HX HB ⊢
  clear hw1
  go_wp2_with (refine wpList_load_cells rfl 30 _ rfl w.heap.size (entV e) 30 _ rfl HX.out Try.underlying30 rfl HSE.out ?_)
  refine (HGD.out w1).mono ?_
  rintro r w2 ⟨rfl, hb⟩
  have HX2 := Lib.hid (HX.out.below hb)
  have HB2 := Lib.hid (HB.out.trans (hb.mono HB.out.size))
  clear hb HGD HX HB
  cases g with
  | false =>
    have HZ := Shut.mk (entB_bad (of_decide_eq_false HG.out))
    go_wp2_with fail
    go_ret
    exact ⟨by rw [HZ.out]; rfl, HB2.out⟩
  | true =>
  have hgood := of_decide_eq_true HG.out
  have HZ := Shut.mk (entB_good hgood)
  have HGO := Lib.hid hgood
  have HLN := Lib.hid (HLE.out hgood)
  clear HLE HG
  obtain ⟨k, hk⟩ : ∃ k, e.kind = k := ⟨_, rfl⟩
  have HK := Shut.mk hk
  have HK3 := Lib.hid (show k = 1 ∨ k = 2 ∨ k = 3 by
    rw [← hk]
    rcases hgood with h | h | h
    · exact .inl h.1
    · exact .inr (.inl h.1)
    · exact .inr (.inr h.1))
  have c0 := (ent_cells HE.out.ok HX2.out).1
  rw [hk] at c0
  clear hk hgood
  go_wp2_with fail
  refine (num_int k w2 (by have := HK3.out; omega) (by have := HK3.out; omega)).mono ?_
  rintro r w3 ⟨rfl, hb⟩
  have HX3 := Lib.hid (HX2.out.below hb)
  have HB3 := Lib.hid (HB2.out.trans (hb.mono HB2.out.size))
  clear hb c0 HX2 HB2
  obtain ⟨c0, cd, cf, cq, cp, cm, cy, cs⟩ := ent_cells HE.out.ok HX3.out
  have HL3 := Lib.hid HX3.out.lt
  rw [HK.out] at c0
  obtain ⟨N1, hN1⟩ : ∃ x, numB k.toNat = x := ⟨_, rfl⟩
  have HN1 := Shut.mk hN1
  rw [hN1]
  clear hN1
  rcases HK3.out with h1 | h2 | h3
  · have g1 : (k == 1) = true := by simp [h1]
    have hgood := HGO.out
    have hk1 : e.kind = 1 := HK.out.trans h1
    have hd : GoodD e.d := ((goodE1 hk1).1 hgood).2
    have HP := Shut.mk (show partsE e = [N1, draftB e.d] by rw [partsE, if_pos hk1, ← HN1.out, h1]; rfl)
    have HDT := Lib.hid (fun w' => dev_draftText e.d (hd.fit HE.out.ok.ref) w')
    have HCD := Lib.hid cd
    rw [HP.out] at HZ HLN
    obtain ⟨DB, hDB⟩ : ∃ x, draftB e.d = x := ⟨_, rfl⟩
    rw [hDB] at HDT HZ HLN
    clear hk1 hd hDB HP hgood h1 cd cf cq cp cm cy cs
    go_wp2_with (refine wpList_load_mid rfl 28 _ rfl w.heap.size 1 rfl _ _ HCD.out Try.underlying28 rfl HSD.out ?_)
    refine (HDT.out w3).mono ?_
    rintro r w4 ⟨rfl, hb⟩
    have HB4 := Lib.hid (HB3.out.trans (hb.mono HB3.out.size))
    have HS := Lib.hid (at_row15 w4 [N1, DB] (by simp))
    clear hb c0 HCD HB3 HDT
    go_wp2_with fail
    refine (list_any (some ⟨w4.heap.size, 0, none⟩) 2 [N1, DB] _ HS.out (by simp) (by have := HLN.out; omega)).mono ?_
    rintro r w5 ⟨rfl, hb⟩
    have HB5 := Lib.hid (HB4.out.trans (((Below.refl _ w4).alloc (Nat.le_refl _) _).trans (hb.mono (by simp)) |>.mono HB4.out.size))
    clear hb HB4
    go_wp2_with fail
    go_ret
    exact ⟨by rw [HZ.out]; rfl, HB5.out⟩
  · have g1 : (k == 1) = false := by simp [h2]
    have g2 : (k == 2) = true := by simp [h2]
    have hgood := HGO.out
    have hk1 : e.kind = 2 := HK.out.trans h2
    obtain ⟨hd, ⟨h4, h5, h6⟩, ⟨h7, h8, h9⟩, h10⟩ := (goodE2 hk1).1 hgood
    obtain ⟨a, ha⟩ : ∃ x, e.src = x := ⟨_, rfl⟩
    obtain ⟨b, hbb⟩ : ∃ x, e.seq = x := ⟨_, rfl⟩
    obtain ⟨m, hm⟩ : ∃ x, e.mask = x := ⟨_, rfl⟩
    have HP := Shut.mk (show partsE e = [N1, numB a.toNat, numB b.toNat, txt e.prev, numB m.toNat, e.pay, e.sig] by
      rw [partsE, if_neg (by omega), if_pos hk1, ← HN1.out, ha, hbb, hm, h2]
      rfl)
    rw [HP.out] at HZ HLN
    rw [ha] at cf
    rw [hbb] at cq
    rw [hm] at cm
    have HC2 := Lib.hid (fun (w' : World) (q : Below w3.heap.size w3 w') => (q.cell (p := ⟨w.heap.size, 36, none⟩) HL3.out).trans cf)
    have HC3 := Lib.hid (fun (w' : World) (q : Below w3.heap.size w3 w') => (q.cell (p := ⟨w.heap.size, 37, none⟩) HL3.out).trans cq)
    have HC4 := Lib.hid (fun (w' : World) (q : Below w3.heap.size w3 w') => conv_mid (P := Try.prog) (src := 53) (dst := 9) (c := 32) Try.underlying53 Try.underlying5 Try.underlying9 HE.out.ok.prev.1.symm HE.out.ok.prev.2 (rangeAt_belowI cp q HL3.out))
    have HC5 := Lib.hid (fun (w' : World) (q : Below w3.heap.size w3 w') => (q.cell (p := ⟨w.heap.size, 70, none⟩) HL3.out).trans cm)
    have HC6 := Lib.hid (fun (w' : World) (q : Below w3.heap.size w3 w') => (q.cell (p := ⟨w.heap.size, 71, none⟩) HL3.out).trans cy)
    have HC7 := Lib.hid (fun (w' : World) (q : Below w3.heap.size w3 w') => (q.cell (p := ⟨w.heap.size, 72, none⟩) HL3.out).trans cs)
    have HNA := Lib.hid (fun w' => num_int a w' (by omega) (by omega))
    have HNB := Lib.hid (fun w' => num_int b w' (by omega) (by have := HQ.out; omega))
    have HNM := Lib.hid (fun w' => num_int m w' (by omega) (by omega))
    obtain ⟨PV, hPV⟩ : ∃ x, txt e.prev = x := ⟨_, rfl⟩
    rw [hPV] at HC4 HZ HLN
    clear hk1 HP hgood cd cf cq cp cm cy cs ha hbb hm hPV hd h4 h5 h6 h7 h8 h9 h10 h2
    go_upto_region 8 with (fail)
    refine wp_region_class_tail (fun w' => Below w3.heap.size w3 w') 17 (by kernel_rfl) (by kernel_rfl) (Below.refl _ _).drew ?_
    simp only [List.take_succ_cons, List.take_zero, List.drop_succ_cons, List.drop_zero]
    repeat (first
      | (go_big_quiet_want; refine quiet_load_cell 3 _ rfl ⟨w.heap.size, 36, none⟩ _ rfl HC2.out Try.isAgg3 ?_; go_big_quiet_on; simp only [Act.put, List.setIfInBounds_toArray, List.set_cons_zero, List.set_cons_succ])
      | (go_big_quiet_want; refine quiet_load_cell 3 _ rfl ⟨w.heap.size, 37, none⟩ _ rfl HC3.out Try.isAgg3 ?_; go_big_quiet_on; simp only [Act.put, List.setIfInBounds_toArray, List.set_cons_zero, List.set_cons_succ])
      | (go_big_quiet_want; refine quiet_load_cell 3 _ rfl ⟨w.heap.size, 70, none⟩ _ rfl HC5.out Try.isAgg3 ?_; go_big_quiet_on; simp only [Act.put, List.setIfInBounds_toArray, List.set_cons_zero, List.set_cons_succ])
      | (go_big_quiet_want; refine quiet_load_cell 9 _ rfl ⟨w.heap.size, 71, none⟩ _ rfl HC6.out Try.isAgg9 ?_; go_big_quiet_on; simp only [Act.put, List.setIfInBounds_toArray, List.set_cons_zero, List.set_cons_succ])
      | (go_big_quiet_want; refine quiet_load_cell 9 _ rfl ⟨w.heap.size, 72, none⟩ _ rfl HC7.out Try.isAgg9 ?_; go_big_quiet_on; simp only [Act.put, List.setIfInBounds_toArray, List.set_cons_zero, List.set_cons_succ])
      | (go_big_quiet_want; refine quiet_conv 53 9 _ rfl (.slice (some ⟨w.heap.size, 38, none⟩) 32 32) _ rfl HC4.out ?_; go_big_quiet_on; simp only [Act.put, List.setIfInBounds_toArray, List.set_cons_zero, List.set_cons_succ])
      | go_big_quiet_step ((intro hs'; first
          | (go_at_call_of 29 (Value.int .i64 a); exact (HNA.out _).mono fun e w' h => ⟨h.1, hs'.trans (h.2.mono hs'.size)⟩)
          | (go_at_call_of 29 (Value.int .i64 b); exact (HNB.out _).mono fun e w' h => ⟨h.1, hs'.trans (h.2.mono hs'.size)⟩)
          | (go_at_call_of 29 (Value.int .i64 m); exact (HNM.out _).mono fun e w' h => ⟨h.1, hs'.trans (h.2.mono hs'.size)⟩)
          | rfl)))
    refine wpQuiet_nil ?_
    intro w4 hs4
    have HB4 := Lib.hid (HB3.out.trans (hs4.mono HB3.out.size))
    clear hs4 HC2 HC3 HC4 HC5 HC6 HC7 HNA HNB HNM HB3
    have HS := Lib.hid (at_row15 w4 [N1, numB a.toNat, numB b.toNat, PV, numB m.toNat, e.pay, e.sig] (by simp))
    go_wp2_with fail
    refine (list_any (some ⟨w4.heap.size, 0, none⟩) 7 [N1, numB a.toNat, numB b.toNat, PV, numB m.toNat, e.pay, e.sig] _ HS.out (by simp) (by have := HLN.out; omega)).mono ?_
    rintro r w5 ⟨rfl, hb⟩
    have HB5 := Lib.hid (HB4.out.trans (((Below.refl _ w4).alloc (Nat.le_refl _) _).trans (hb.mono (by simp)) |>.mono HB4.out.size))
    clear hb HB4
    go_wp2_with fail
    go_ret
    exact ⟨by rw [HZ.out]; rfl, HB5.out⟩
  · have g1 : (k == 1) = false := by simp [h3]
    have g2 : (k == 2) = false := by simp [h3]
    have hgood := HGO.out
    have hk1 : e.kind = 3 := HK.out.trans h3
    obtain ⟨-, h7, h8, h9⟩ := (goodE3 hk1).1 hgood
    obtain ⟨m, hm⟩ : ∃ x, e.mask = x := ⟨_, rfl⟩
    have HP := Shut.mk (show partsE e = [N1, numB m.toNat, e.pay] by
      rw [partsE, if_neg (by omega), if_neg (by omega), ← HN1.out, hm, h3]
      rfl)
    rw [HP.out] at HZ HLN
    rw [hm] at cm
    have HC5 := Lib.hid (fun (w' : World) (q : Below w3.heap.size w3 w') => (q.cell (p := ⟨w.heap.size, 70, none⟩) HL3.out).trans cm)
    have HC6 := Lib.hid (fun (w' : World) (q : Below w3.heap.size w3 w') => (q.cell (p := ⟨w.heap.size, 71, none⟩) HL3.out).trans cy)
    have HNM := Lib.hid (fun w' => num_int m w' (by omega) (by omega))
    clear hk1 HP hgood cd cf cq cp cm cy cs hm h7 h8 h9 h3
    go_upto_region 9 with (fail)
    refine wp_region_class_tail (fun w' => Below w3.heap.size w3 w') 6 (by kernel_rfl) (by kernel_rfl) (Below.refl _ _).drew ?_
    simp only [List.take_succ_cons, List.take_zero, List.drop_succ_cons, List.drop_zero]
    repeat (first
      | (go_big_quiet_want; refine quiet_load_cell 3 _ rfl ⟨w.heap.size, 70, none⟩ _ rfl HC5.out Try.isAgg3 ?_; go_big_quiet_on; simp only [Act.put, List.setIfInBounds_toArray, List.set_cons_zero, List.set_cons_succ])
      | (go_big_quiet_want; refine quiet_load_cell 9 _ rfl ⟨w.heap.size, 71, none⟩ _ rfl HC6.out Try.isAgg9 ?_; go_big_quiet_on; simp only [Act.put, List.setIfInBounds_toArray, List.set_cons_zero, List.set_cons_succ])
      | go_big_quiet_step ((intro hs'; first
          | (go_at_call_of 29 (Value.int .i64 m); exact (HNM.out _).mono fun e w' h => ⟨h.1, hs'.trans (h.2.mono hs'.size)⟩)
          | rfl)))
    refine wpQuiet_nil ?_
    intro w4 hs4
    have HB4 := Lib.hid (HB3.out.trans (hs4.mono HB3.out.size))
    clear hs4 HC5 HC6 HNM HB3
    have HS := Lib.hid (at_row15 w4 [N1, numB m.toNat, e.pay] (by simp))
    go_wp2_with fail
    refine (list_any (some ⟨w4.heap.size, 0, none⟩) 3 [N1, numB m.toNat, e.pay] _ HS.out (by simp) (by have := HLN.out; omega)).mono ?_
    rintro r w5 ⟨rfl, hb⟩
    have HB5 := Lib.hid (HB4.out.trans (((Below.refl _ w4).alloc (Nat.le_refl _) _).trans (hb.mono (by simp)) |>.mono HB4.out.size))
    clear hb HB4
    go_wp2_with fail
    go_ret
    exact ⟨by rw [HZ.out]; rfl, HB5.out⟩
end Go.Proofs.Ytenmkfjgjemiiaa
namespace Go.Proofs.Ytenmkfjgjemiiaa
open Go.RowKit Go.BigFrame
def Vals (q : Nat → Bool) (V : Nat → Value) (L : List (Nat × Value)) : Prop := ∀ n v, q n = true → L.lookup n = some v → V n = v
section
variable {q : Nat → Bool} {V : Nat → Value} {L : List (Nat × Value)} {i n : Nat} {v u : Value}
theorem Vals.none : Vals (fun _ => false) V L := fun _ _ h => by cases h
theorem Vals.set (h : Vals q V L) (hl : L.lookup i = some v) : Vals (fun j => q j || j == i) (upd V i v) L := fun n x hn hx => by
  by_cases e : n = i
  · subst e
    rw [upd_same]
    exact Option.some.inj (hl.symm.trans hx)
  · rw [upd_ne V v e]
    exact h n x (seen_ne e hn) hx
theorem Vals.off (h : Vals q V L) (hl : L.lookup i = Option.none) : Vals (fun j => q j || j == i) (upd V i u) L := fun n x hn hx => by
  by_cases e : n = i
  · subst e
    rw [hl] at hx
    cases hx
  · rw [upd_ne V u e]
    exact h n x (seen_ne e hn) hx
theorem Vals.get (h : Vals q V L) (n : Nat) (hq : q n = true) (hl : L.lookup n = some v) : V n = v := h n v hq hl
end
example (q : Nat → Bool) (V : Nat → Value) (a b c : Value) (h : Vals q V [(0, a), (1, b), (2, .bool true), (5, c)]) (hq : ∀ i, i < 6 → q i = true) (K : Value → (Nat → Bool) → (Nat → Value) → Prop) (hK : ∀ v, Vals (fun j => q j || j == 5) (upd V 5 v) [(0, a), (1, b), (2, .bool true), (5, c)] ∧ True → K v q V) : K c q V ∧ V 1 = b := by
  refine ⟨hK _ ⟨h.set rfl, trivial⟩, ?_⟩
  have v1 := h.get 1 (hq 1 (by decide)) rfl
  have v2 := h.get 2 (hq 2 (by decide)) rfl
  have v5 := h.get 5 (hq 5 (by decide)) rfl
  exact v1
example (q : Nat → Bool) (V : Nat → Value) (a b c : Value) (h : Vals q V [(0, a), (1, b), (2, .bool true), (5, c)]) (u : Value) : Vals (fun j => q j || j == 3) (upd V 3 u) [(0, a), (1, b), (2, .bool true), (5, c)] := h.off rfl
end Go.Proofs.Ytenmkfjgjemiiaa
namespace Go.Proofs.Ytenmkfjgjemiiaa
open Go.RowKit Go.BigFrame
set_option maxHeartbeats 2000000 in
set_option maxRecDepth 100000 in
theorem ref_goodDraft (d : DraftN) (hr : IdOk d.ref) (hk : d.key.length ≤ 140737488351232) (hv : d.val.length ≤ 140737488351232) (w : World) :
    Calls Try.prog 28 #[.agg (draftV d)] w fun e w' => e = .returned (.bool (decide (GoodD d))) ∧ Below w.heap.size w w' := by
  have hx : Cells w.heap.size 28 (draftV d) (w.alloc (.cells (draftV d) 28)) := heap_alloc_new w _
  have hb : Below w.heap.size w (w.alloc (.cells (draftV d) 28)) := (Below.refl _ _).alloc (Nat.le_refl _) _
  obtain ⟨c0, c1, c2, c3⟩ := draft_cells hx
  have HC3 := Lib.hid c3
  have HB := Lib.hid hb
  have heq := fun w' => equal_idI d.ref zeroI hr.1 zeroI_ok.1 hr.2 zeroI_ok.2 w'
  have HI := Lib.hid (show (Try.prog.info? 26).map (·.size) = some d.ref.length by rw [hr.1]; exact Try.sizeI)
  obtain ⟨k, hkd⟩ : ∃ k, d.kind = k := ⟨_, rfl⟩
  obtain ⟨kl, hkl⟩ : ∃ n, d.key.length = n := ⟨_, rfl⟩
  obtain ⟨vl, hvl⟩ : ∃ n, d.val.length = n := ⟨_, rfl⟩
  have HG := Shut.mk (show GoodD d ↔ 1 ≤ k ∧ k ≤ 5 ∧ 1 ≤ kl ∧ kl ≤ 16 ∧ vl ≤ 64 ∧ (k ≤ 3 → d.ref = zeroI) ∧ (k = 5 → d.ref ≠ zeroI ∧ d.val = []) by rw [← hkd, ← hkl, ← hvl]; rfl)
  rw [hkd] at c0
  clear hx hb c3
  by_cases h1 : k < 1
  · have hgd : decide (GoodD d) = false := decide_eq_false (fun h => by have := HG.out.1 h; omega)
    rw [hgd]
    go_enter Try.func28, Try.ntmps28
    go_wp2_with fail
    go_ret
    exact ⟨rfl, HB.out⟩
  by_cases h2 : 5 < k
  · have hgd : decide (GoodD d) = false := decide_eq_false (fun h => by have := HG.out.1 h; omega)
    rw [hgd]
    go_enter Try.func28, Try.ntmps28
    go_wp2_with fail
    go_ret
    exact ⟨rfl, HB.out⟩
  by_cases h3 : kl < 1
  · have hgd : decide (GoodD d) = false := decide_eq_false (fun h => by have := HG.out.1 h; omega)
    rw [hgd]
    go_enter Try.func28, Try.ntmps28
    go_wp2_with fail
    go_ret
    exact ⟨rfl, HB.out⟩
  by_cases h4 : 16 < kl
  · have hgd : decide (GoodD d) = false := decide_eq_false (fun h => by have := HG.out.1 h; omega)
    rw [hgd]
    go_enter Try.func28, Try.ntmps28
    go_wp2_with fail
    go_ret
    exact ⟨rfl, HB.out⟩
  by_cases h5 : 64 < vl
  · have hgd : decide (GoodD d) = false := decide_eq_false (fun h => by have := HG.out.1 h; omega)
    rw [hgd]
    go_enter Try.func28, Try.ntmps28
    go_wp2_with fail
    go_ret
    exact ⟨rfl, HB.out⟩
  obtain ⟨z, hz2⟩ : ∃ z, (d.ref == zeroI) = z := ⟨_, rfl⟩
  have HZ := Shut.mk hz2
  rw [hz2, zeroI_lit] at heq
  clear hz2
  have hzp : (z = true ↔ d.ref = zeroI) := by rw [← HZ.out]; simp
  by_cases h6 : k ≤ 3
  · have hgd : decide (GoodD d) = z := by
      cases z with
      | true => exact decide_eq_true (HG.out.2 ⟨by omega, by omega, by omega, by omega, by omega, fun _ => hzp.1 rfl, fun h => by omega⟩)
      | false => exact decide_eq_false (fun h => by have := hzp.2 ((HG.out.1 h).2.2.2.2.2.1 h6); cases this)
    rw [hgd]
    clear hgd hzp
    go_enter Try.func28, Try.ntmps28
    go_wp2_with (refine wpList_load_id rfl 26 _ rfl w.heap.size 3 d.ref _ rfl HC3.out Try.underlying26 rfl HI.out ?_)
    go_ret
    exact ⟨rfl, HB.out⟩
  by_cases h7 : k = 4
  · have hgd : decide (GoodD d) = true := decide_eq_true (HG.out.2 ⟨by omega, by omega, by omega, by omega, by omega, fun h => by omega, fun h => by omega⟩)
    rw [hgd]
    clear hgd hzp
    have h8 : (k == 4) = true := by simp [h7]
    go_enter Try.func28, Try.ntmps28
    go_wp2_with (refine wpList_load_id rfl 26 _ rfl w.heap.size 3 d.ref _ rfl HC3.out Try.underlying26 rfl HI.out ?_)
    go_ret
    exact ⟨rfl, HB.out⟩
  have h8 : (k == 4) = false := by simp [h7]
  have hgd : decide (GoodD d) = (!z && d.val == []) := by
    rw [val_nil_beq]
    cases z with
    | true => exact decide_eq_false (fun h => ((HG.out.1 h).2.2.2.2.2.2 (by omega)).1 (hzp.1 rfl))
    | false =>
      by_cases hv0 : d.val = []
      · rw [decide_eq_true hv0]
        exact decide_eq_true (HG.out.2 ⟨by omega, by omega, by omega, by omega, by omega, fun h => by omega, fun _ => ⟨fun e => (by have := hzp.2 e; cases this), hv0⟩⟩)
      · rw [decide_eq_false hv0]
        exact decide_eq_false (fun h => hv0 ((HG.out.1 h).2.2.2.2.2.2 (by omega)).2)
  rw [hgd]
  clear hgd hzp
  cases z with
  | true =>
    go_enter Try.func28, Try.ntmps28
    go_wp2_with (refine wpList_load_id rfl 26 _ rfl w.heap.size 3 d.ref _ rfl HC3.out Try.underlying26 rfl HI.out ?_)
    go_ret
    exact ⟨rfl, HB.out⟩
  | false =>
    go_enter Try.func28, Try.ntmps28
    go_wp2_with (refine wpList_load_id rfl 26 _ rfl w.heap.size 3 d.ref _ rfl HC3.out Try.underlying26 rfl HI.out ?_)
    go_ret
    exact ⟨rfl, HB.out⟩
end Go.Proofs.Ytenmkfjgjemiiaa
namespace Go.Proofs.Ytenmkfjgjemiiaa
open Go.RowKit Go.BigFrame
def idP (s : List UInt8) (k : Nat) : List Nat := (byteNs s).take k ++ List.replicate (32 - k) 0
theorem idP_len {s : List UInt8} (hs : s.length = 32) {k : Nat} (hk : k ≤ 32) : (idP s k).length = 32 := by
  rw [idP, List.length_append, List.length_take, byteNs_len, List.length_replicate]
  omega
theorem idP_zero (s : List UInt8) : idP s 0 = List.replicate 32 0 := rfl
theorem idP_full {s : List UInt8} (hs : s.length = 32) : idP s 32 = byteNs s := by
  rw [idP, List.take_of_length_le (by rw [byteNs_len]; omega)]
  simp
theorem idP_step {s : List UInt8} (hs : s.length = 32) {k : Nat} (hk : k < 32) : (idP s k).set k (s[k]'(by omega)).toNat = idP s (k + 1) := by
  have hkb : k < (byteNs s).length := by rw [byteNs_len]; omega
  have e : (byteNs s)[k] = (s[k]'(by omega)).toNat := by simp [byteNs]
  rw [idP, idP, List.set_append_right _ _ (by rw [List.length_take]; omega), List.length_take, show k - min k (byteNs s).length = 0 by omega, List.take_succ_eq_append_getElem hkb, show 32 - k = (32 - (k + 1)) + 1 by omega, List.replicate_succ, List.set_cons_zero, e]
  simp
theorem split_parts {s : List UInt8} {l : List (List UInt8)} (h : splitB s = some l) : ∀ t ∈ l, t.length ≤ 262144 := fun t ht => by
  have h1 := splitB_some h
  have h2 : s.length ≤ 262144 := by
    unfold splitB at h
    split at h
    · cases h
    · omega
  obtain ⟨q, hq, rfl⟩ := List.getElem_of_mem ht
  have h3 := textsB_parts l q hq
  have h4 := listB_length l
  have h5 := textB_length l[q]
  rw [h1] at h4
  omega
end Go.Proofs.Ytenmkfjgjemiiaa
namespace Go.Proofs.Ytenmkfjgjemiiaa
open Go.RowKit
def Rd (b : Nat) (s : List UInt8) (f : Bool) (w : World) : Prop := w.heap[b]? = some (.cells #[.string ⟨s.toArray⟩, .bool f] 101 (0, 0))
theorem Rd.cell0 {b : Nat} {s : List UInt8} {f : Bool} {w : World} (h : Rd b s f w) : w.cell? ⟨b, 0, none⟩ = some (.string ⟨s.toArray⟩) := by simp [World.cell?, show w.heap[b]? = _ from h]
theorem Rd.cell1 {b : Nat} {s : List UInt8} {f : Bool} {w : World} (h : Rd b s f w) : w.cell? ⟨b, 1, none⟩ = some (.bool f) := by simp [World.cell?, show w.heap[b]? = _ from h]
theorem Rd.free0 {b : Nat} {s : List UInt8} {f : Bool} {w : World} (h : Rd b s f w) : w.frozen? ⟨b, 0, none⟩ = false := by simp [World.frozen?, show w.heap[b]? = _ from h]
theorem Rd.free1 {b : Nat} {s : List UInt8} {f : Bool} {w : World} (h : Rd b s f w) : w.frozen? ⟨b, 1, none⟩ = false := by simp [World.frozen?, show w.heap[b]? = _ from h]
theorem Rd.lt {b : Nat} {s : List UInt8} {f : Bool} {w : World} (h : Rd b s f w) : b < w.heap.size := lt_of_block h
theorem Rd.set0 {b : Nat} {s : List UInt8} {f : Bool} {w : World} (h : Rd b s f w) (s' : List UInt8) : Rd b s' f (w.setCell ⟨b, 0, none⟩ (.string ⟨s'.toArray⟩)) := by
  unfold Rd; rw [heap_setCell_at h]; rfl
theorem Rd.set1 {b : Nat} {s : List UInt8} {f : Bool} {w : World} (h : Rd b s f w) (f' : Bool) : Rd b s f' (w.setCell ⟨b, 1, none⟩ (.bool f')) := by
  unfold Rd; rw [heap_setCell_at h]; rfl
theorem Rd.below {b : Nat} {s : List UInt8} {f : Bool} {w w' : World} (h : Rd b s f w) (k : Below w.heap.size w w') : Rd b s f w' := (k.block b h.lt).trans h
theorem rd_new (s : List UInt8) (f : Bool) (w : World) : Rd w.heap.size s f (w.alloc (.cells #[.string ⟨s.toArray⟩, .bool f] 101 (0, 0))) := by
  show (w.heap.push _)[_]? = _
  simp
theorem fail_any (b : Nat) (s : List UInt8) (f : Bool) (w : World) (h : Rd b s f w) :
    Calls Try.prog 59 #[.pointer (some ⟨b, 0, none⟩)] w fun e w' => e = .returned (.tuple #[]) ∧ Rd b [] true w' ∧ But b w w' := by
  have g0 := h.cell0
  have g1 := h.cell1
  have z0 := h.free0
  have z1 := h.free1
  have H := Lib.hid h
  clear h
  go_enter Try.func59, Try.ntmps59
  go_wp2
  go_end0
  exact ⟨rfl, (H.out.set0 []).set1 true, ((But.refl b w).setCell 0 _).setCell 1 _⟩
theorem open_ok (s : List UInt8) (w : World) (hs : s.length ≤ 262144) :
    Calls Try.prog 46 #[.string ⟨s.toArray⟩] w fun e w' => e = .returned (.pointer (some ⟨w.heap.size, 0, none⟩)) ∧ Rd w.heap.size s false w' ∧ Below w.heap.size w w' := by
  go_enter Try.func46, Try.ntmps46
  go_wp2_with fail
  go_ret
  exact ⟨rfl, rd_new _ _ _, (Below.refl _ _).alloc (Nat.le_refl _) _⟩
theorem open_long (s : List UInt8) (w : World) (hs : 262144 < s.length) (hm : s.length ≤ 9223372036854775807) :
    Calls Try.prog 46 #[.string ⟨s.toArray⟩] w fun e w' => e = .returned (.pointer (some ⟨w.heap.size, 0, none⟩)) ∧ Rd w.heap.size [] true w' ∧ Below w.heap.size w w' := by
  go_enter Try.func46, Try.ntmps46
  go_wp2_with fail
  refine (fail_any _ s false _ (rd_new _ _ _)).mono ?_
  rintro e w' ⟨rfl, h1, h2⟩
  have h3 := But.toBelow ((Below.refl w.heap.size w).alloc (Nat.le_refl _) _) h2 (Nat.le_refl _) (by simp)
  clear h2
  go_wp2_with fail
  go_ret
  exact ⟨rfl, h1, h3⟩
theorem take_few (b : Nat) (s : List UInt8) (f : Bool) (n : Int) (w : World) (h : Rd b s f w) (hn : (s.length : Int) < n) :
    Calls Try.prog 64 #[.pointer (some ⟨b, 0, none⟩), .int .i64 n] w fun e w' => e = .returned (.string ⟨#[]⟩) ∧ Rd b [] true w' ∧ But b w w' := by
  have g0 := h.cell0
  have H := Lib.hid h
  clear h
  go_enter Try.func64, Try.ntmps64
  go_wp2_with (go_at_call 59; refine (fail_any _ s f _ (by exact H.out)).mono ?_; rintro e w' ⟨rfl, h1, h2⟩)
  go_ret
  exact ⟨rfl, by assumption, by assumption⟩
theorem take_some (b : Nat) (s : List UInt8) (f : Bool) (n : Nat) (w : World) (h : Rd b s f w) (hn : n ≤ s.length) :
    Calls Try.prog 64 #[.pointer (some ⟨b, 0, none⟩), .int .i64 n] w fun e w' => e = .returned (.string ⟨(s.take n).toArray⟩) ∧ Rd b (s.drop n) f w' ∧ But b w w' := by
  have g0 := h.cell0
  have z0 := h.free0
  have H := Lib.hid h
  clear h
  go_enter Try.func64, Try.ntmps64
  go_wp2_with fail
  go_ret
  rw [extract_head, extract_tail]
  exact ⟨rfl, H.out.set0 _, (But.refl b w).setCell 0 _⟩
end Go.Proofs.Ytenmkfjgjemiiaa
namespace Go.Proofs.Ytenmkfjgjemiiaa
open Go.RowKit
theorem head_byte (k : UInt8) : wrap64 ((({ data := #[k] } : ByteArray)[0]'(Nat.zero_lt_one)).toNat : Int) = (k.toNat : Int) := by
  have e : ({ data := #[k] } : ByteArray)[0]'(Nat.zero_lt_one) = k := rfl
  have := k.toNat_lt
  rw [e]
  unfold wrap64
  omega
theorem num_zero (w : World) : Calls Try.prog 29 #[.int .i64 0] w fun e w' => e = .returned (.string ⟨#[0]⟩) ∧ Below w.heap.size w w' := by
  have h := num_any 0 w (by decide)
  have e : numB 0 = [0] := by simp [numB, dig_zero]
  rw [e] at h
  exact h
theorem cat_toList (k : UInt8) (l : List UInt8) : (({ data := #[k] } : ByteArray) ++ { data := l.toArray }).toList = k :: l := by
  rw [ByteArray.toList_eq, ByteArray.data_append]
  simp
theorem rnum_empty (b : Nat) (f : Bool) (w : World) (h : Rd b [] f w) :
    Calls Try.prog 60 #[.pointer (some ⟨b, 0, none⟩)] w fun e w' => e = .returned (.int .i64 0) ∧ Rd b [] true w' ∧ But b w w' := by
  go_enter Try.func60, Try.ntmps60
  go_wp2_with fail
  refine (take_few b [] f 1 _ h (by decide)).mono ?_
  rintro e w1 ⟨rfl, h1, hb1⟩
  have g1 := h1.cell1
  have H1 := Lib.hid h1
  have HB := Lib.hid hb1
  clear h1 hb1 h
  go_wp2_with fail
  go_ret
  exact ⟨rfl, H1.out, HB.out⟩
theorem rnum_few (b : Nat) (k : UInt8) (t : List UInt8) (w : World) (h : Rd b (k :: t) false w) (hk : t.length < k.toNat) :
    Calls Try.prog 60 #[.pointer (some ⟨b, 0, none⟩)] w fun e w' => e = .returned (.int .i64 0) ∧ Rd b [] true w' ∧ But b w w' := by
  go_enter Try.func60, Try.ntmps60
  go_wp2_with fail
  refine (take_some b (k :: t) false 1 _ h (by simp)).mono ?_
  rintro e w1 ⟨rfl, h1, hb1⟩
  have g1 := h1.cell1
  have H1 := Lib.hid h1
  have HB := Lib.hid hb1
  clear h1 hb1 h
  go_wp2_with fail
  rw [show wrap64 ((({ data := #[k] } : ByteArray)[0]'(Nat.zero_lt_one)).toNat : Int) = (k.toNat : Int) from head_byte k]
  refine (take_few b _ false k.toNat _ H1.out (by simp; omega)).mono ?_
  rintro e w2 ⟨rfl, h2, hb2⟩
  have H2 := Lib.hid h2
  have HB2 := Lib.hid (HB.out.trans hb2)
  clear h2 hb2 H1 HB g1
  go_wp2_with fail
  refine wp_loop_rounds 1 ?_
  rw [rounds_succ]
  go_wp2_with fail
  refine (num_zero _).mono ?_
  rintro e w3 ⟨rfl, hb3⟩
  have H3 := Lib.hid (H2.out.below hb3)
  have HB3 := Lib.hid (HB2.out.below hb3)
  clear hb3 H2 HB2
  have htest : ([(0 : UInt8)] == (({ data := #[k] } : ByteArray) ++ { data := #[] }).toList) = false := by
    rw [cat_toList k []]
    have : k ≠ 0 := fun e => by subst e; exact Nat.not_lt_zero _ hk
    simpa using fun e => this e.symm
  clear hk
  go_wp2_with fail
  refine (fail_any b [] true _ H3.out).mono ?_
  rintro e w4 ⟨rfl, h4, hb4⟩
  have H4 := Lib.hid h4
  have HB4 := Lib.hid (HB3.out.trans hb4)
  clear h4 hb4 H3 HB3
  go_wp2_with fail
  go_ret
  exact ⟨rfl, H4.out, HB4.out⟩
def Acc (l : List UInt8) (m : Int) : Prop := -9223372036854775808 ≤ m ∧ m ≤ 9223372036854775807 ∧ (val l < 9223372036854775808 → m = val l)
theorem i64_or_join (a d : Nat) (ha : a % 256 = 0) (hd : d < 256) (h : a + d < 9223372036854775808) : bits .or .i64 (a : Int) (d : Int) = ((a + d : Nat) : Int) := by
  have e : a ||| d = a + d := nat_join 8 a d ha hd
  have ea : (BitVec.ofInt 64 (a : Int)).toNat = a := ofInt_u64 a (by omega)
  have ed : (BitVec.ofInt 64 (d : Int)).toNat = d := ofInt_u64 d (by omega)
  show IntKind.i64.wrap ((BitVec.ofInt 64 (a : Int) ||| BitVec.ofInt 64 (d : Int)).toNat : Int) = _
  rw [BitVec.toNat_or, ea, ed, e, IntKind.wrap_i64]
  omega
theorem acc_step (l : List UInt8) (m : Int) (q : Nat) (hq : q < l.length) (h : Acc (l.take q) m) (hx : q < (⟨l.toArray⟩ : ByteArray).size) :
    Acc (l.take (q + 1)) (bits .or .i64 (wrap64 (m * 256)) (wrap64 ((⟨l.toArray⟩ : ByteArray)[q].toNat : Int))) := by
  have eb : (⟨l.toArray⟩ : ByteArray)[q] = l[q] := by simp [ByteArray.getElem_eq_getElem_data]
  have hd := l[q].toNat_lt
  rw [eb]
  have et : l.take (q + 1) = l.take q ++ [l[q]] := by rw [List.take_succ_eq_append_getElem hq]
  rw [et]
  have hw : (Lit.int .i64 (bits .or .i64 (wrap64 (m * 256)) (wrap64 (l[q].toNat : Int)))).wf = true := wf_bits _ _ _ _
  obtain ⟨w1, w2⟩ := bounds_i64 hw
  refine ⟨w1, w2, fun hv => ?_⟩
  rw [val_snoc] at hv ⊢
  have hm := h.2.2 (by omega)
  subst hm
  have e1 : wrap64 ((val (l.take q) : Int) * 256) = ((val (l.take q) * 256 : Nat) : Int) := by
    unfold wrap64; omega
  have e2 : wrap64 (l[q].toNat : Int) = (l[q].toNat : Int) := by unfold wrap64; omega
  rw [e1, e2, i64_or_join _ _ (by omega) (by omega) hv]
theorem rnum_digits (b : Nat) (k : UInt8) (t : List UInt8) (w : World) (h : Rd b (k :: t) false w) (hk : k.toNat ≤ t.length) :
    Calls Try.prog 60 #[.pointer (some ⟨b, 0, none⟩)] w fun e w' => ∃ m, Acc (t.take k.toNat) m ∧
      if numB m.toNat = k :: t.take k.toNat then e = .returned (.int .i64 m) ∧ Rd b (t.drop k.toNat) false w' ∧ But b w w' else e = .returned (.int .i64 0) ∧ Rd b [] true w' ∧ But b w w' := by
  go_enter Try.func60, Try.ntmps60
  go_wp2_with fail
  refine (take_some b (k :: t) false 1 _ h (by simp)).mono ?_
  rintro e w1 ⟨rfl, h1, hb1⟩
  have g1 := h1.cell1
  have H1 := Lib.hid h1
  have HB := Lib.hid hb1
  clear h1 hb1 h
  go_wp2_with fail
  rw [show wrap64 ((({ data := #[k] } : ByteArray)[0]'(Nat.zero_lt_one)).toNat : Int) = (k.toNat : Int) from head_byte k]
  refine (take_some b _ false k.toNat _ H1.out (by simp; omega)).mono ?_
  rintro e w2 ⟨rfl, h2, hb2⟩
  have H2 := Lib.hid h2
  have HB2 := Lib.hid (HB.out.trans hb2)
  clear h2 hb2 H1 HB g1
  simp only [List.drop_one, List.tail_cons] at H2 ⊢
  have hlen : (t.take k.toNat).length ≤ 255 := by have := k.toNat_lt; simp; omega
  generalize hd : t.take k.toNat = ds at hlen ⊢
  have HD := Lib.hid hd
  clear hd hk
  go_wp2_with fail
  go_loop [5, 22] (fun n i => ∃ (q : Nat) (m : Int), q ≤ ds.length ∧ i = .int .i64 q ∧ n = .int .i64 m ∧ Acc (ds.take q) m) (fun _ i => ds.length - (intOf i).toNat)
  case atStart => exact ⟨0, 0, Nat.zero_le _, rfl, rfl, by decide, by decide, fun _ => rfl⟩
  case round =>
    obtain ⟨q, m, hq, rfl, rfl, hacc⟩ := hrel
    have HA := Lib.hid hacc
    have hlo := hacc.1
    have hhi := hacc.2.1
    clear hacc
    by_cases hlt : q < ds.length
    · go_wp2_with fail
      refine ⟨⟨q + 1, _, by omega, by go_num, rfl, acc_step ds m q hlt HA.out _⟩, by simp [intOf]; omega⟩
    · obtain rfl : q = ds.length := by omega
      go_wp2_with fail
      refine (num_int m _ hlo hhi).mono ?_
      rintro e w3 ⟨rfl, hb3⟩
      have H3 := Lib.hid (H2.out.below hb3)
      have HB3 := Lib.hid (HB2.out.below hb3)
      have HA2 := Lib.hid (show Acc ds m by simpa using HA.out)
      clear hb3 H2 HB2 HA
      by_cases heq : numB m.toNat = k :: ds
      · have htest : (numB m.toNat == (({ data := #[k] } : ByteArray) ++ { data := ds.toArray }).toList) = true := by rw [cat_toList k ds, heq]; simp
        have HE := Lib.hid heq
        clear heq
        go_wp2_with fail
        go_ret
        rw [HD.out]
        refine ⟨m, HA2.out, ?_⟩
        rw [if_pos HE.out]
        exact ⟨rfl, H3.out, HB3.out⟩
      · have htest : (numB m.toNat == (({ data := #[k] } : ByteArray) ++ { data := ds.toArray }).toList) = false := by rw [cat_toList k ds]; simpa using heq
        have HE := Lib.hid heq
        clear heq
        go_wp2_with fail
        refine (fail_any b _ false _ H3.out).mono ?_
        rintro e w4 ⟨rfl, h4, hb4⟩
        have H4 := Lib.hid h4
        have HB4 := Lib.hid (HB3.out.trans hb4)
        clear h4 hb4 H3 HB3
        go_wp2_with fail
        go_ret
        rw [HD.out]
        refine ⟨m, HA2.out, ?_⟩
        rw [if_neg HE.out]
        exact ⟨rfl, H4.out, HB4.out⟩
def rdNum (s : List UInt8) : Nat × List UInt8 × Bool := match takeNum s with | some (n, r) => (n, r, false) | none => (0, [], true)
theorem rnum_any (b : Nat) (s : List UInt8) (f : Bool) (w : World) (h : Rd b s f w) (hf : f = true → s = []) :
    Calls Try.prog 60 #[.pointer (some ⟨b, 0, none⟩)] w fun e w' => e = .returned (.int .i64 (rdNum s).1) ∧ Rd b (rdNum s).2.1 (rdNum s).2.2 w' ∧ But b w w' := by
  cases s with
  | nil => exact rnum_empty b f w h
  | cons k t =>
    have f0 : f = false := by cases f with | false => rfl | true => cases hf rfl
    subst f0
    by_cases hk : k.toNat ≤ t.length
    · refine (rnum_digits b k t w h hk).mono ?_
      rintro e w' ⟨m, hacc, hpost⟩
      by_cases hv : val (t.take k.toNat) < 9223372036854775808
      · have hm := hacc.2.2 hv
        have hmn : m.toNat = val (t.take k.toNat) := by rw [hm]; rfl
        rw [hmn] at hpost
        by_cases heq : numB (val (t.take k.toNat)) = k :: t.take k.toNat
        · rw [if_pos heq] at hpost
          simp only [rdNum, takeNum, hk, hv, heq, and_self, if_true]
          rw [hm] at hpost
          exact hpost
        · rw [if_neg heq] at hpost
          simp only [rdNum, takeNum, hk, hv, heq, and_false, if_false]
          exact hpost
      · have hne : ¬ numB m.toNat = k :: t.take k.toNat := by
          intro he
          have h2 : dig m.toNat = t.take k.toNat := by simp only [numB, List.cons.injEq] at he; exact he.2
          have := hacc.2.1
          rw [← h2, val_dig] at hv
          omega
        rw [if_neg hne] at hpost
        simp only [rdNum, takeNum, hv, false_and, and_false, if_false]
        exact hpost
    · refine (rnum_few b k t w h (by omega)).mono ?_
      simp only [rdNum, takeNum, hk, false_and, if_false]
      exact fun e w' h => h
end Go.Proofs.Ytenmkfjgjemiiaa
namespace Go.Proofs.Ytenmkfjgjemiiaa
open Go.RowKit
theorem rtn_nil (w : World) :
    Calls Try.prog 53 #[.string ⟨#[]⟩] w fun e w' => e = .returned (.tuple #[.int .i64 0, .string ⟨#[]⟩, .bool false]) ∧ Below w.heap.size w w' := by
  go_enter Try.func53, Try.ntmps53
  go_wp2_with fail
  go_ret3
  exact ⟨rfl, Below.refl _ _⟩
theorem wrap_byte (k : UInt8) : wrap64 (k.toNat : Int) = (k.toNat : Int) := by
  have := k.toNat_lt
  unfold wrap64
  omega
theorem rtn_big (k : UInt8) (t : List UInt8) (w : World) (hk : 8 < k.toNat) :
    Calls Try.prog 53 #[.string ⟨(k :: t).toArray⟩] w fun e w' => e = .returned (.tuple #[.int .i64 0, .string ⟨#[]⟩, .bool false]) ∧ Below w.heap.size w w' := by
  have he0 : ∀ h, ((⟨(k :: t).toArray⟩ : ByteArray)[0]'h) = k := fun _ => rfl
  have hw := wrap_byte k
  have h255 : k.toNat ≤ 255 := by have := k.toNat_lt; omega
  have hd : decide ((8 : Int) < (k.toNat : Int)) = true := by simp; omega
  go_enter Try.func53, Try.ntmps53
  go_wp2_with fail
  go_ret3
  exact ⟨rfl, Below.refl _ _⟩
theorem rtn_short (k : UInt8) (t : List UInt8) (w : World) (hk : k.toNat ≤ 8) (hl : t.length < k.toNat) :
    Calls Try.prog 53 #[.string ⟨(k :: t).toArray⟩] w fun e w' => e = .returned (.tuple #[.int .i64 0, .string ⟨#[]⟩, .bool false]) ∧ Below w.heap.size w w' := by
  have he0 : ∀ h, ((⟨(k :: t).toArray⟩ : ByteArray)[0]'h) = k := fun _ => rfl
  have hw := wrap_byte k
  have hd : decide ((8 : Int) < (k.toNat : Int)) = false := by simp; omega
  have hd2 : decide ((t.length : Int) + 1 < 1 + (k.toNat : Int)) = true := by simp; omega
  go_enter Try.func53, Try.ntmps53
  go_wp2_with fail
  go_ret3
  exact ⟨rfl, Below.refl _ _⟩
theorem cons_at (k : UInt8) (t : List UInt8) (q : Nat) (hq : q < t.length) (h : q + 1 < (⟨(k :: t).toArray⟩ : ByteArray).size) : (⟨(k :: t).toArray⟩ : ByteArray)[q + 1] = t[q] := by
  simp [ByteArray.getElem_eq_getElem_data]
theorem extract_cons (k : UInt8) (t : List UInt8) (n : Nat) : (⟨(k :: t).toArray⟩ : ByteArray).extract (1 + n) (t.length + 1) = ⟨(t.drop n).toArray⟩ := by
  have := extract_tail (k :: t) (1 + n)
  rw [List.length_cons] at this
  rw [this, Nat.add_comm 1 n, List.drop_succ_cons]
set_option maxHeartbeats 1000000 in
theorem rtn_digits (k : UInt8) (t : List UInt8) (w : World) (hk : k.toNat ≤ 8) (hl : k.toNat ≤ t.length) (hm : t.length ≤ 9223372036854775000) :
    Calls Try.prog 53 #[.string ⟨(k :: t).toArray⟩] w fun e w' => e = .returned (.tuple #[.int .i64 ((takeNum (k :: t)).getD (0, [])).1, .string ⟨((takeNum (k :: t)).getD (0, [])).2.toArray⟩, .bool (takeNum (k :: t)).isSome]) ∧ Below w.heap.size w w' := by
  have he0 : ∀ h, ((⟨(k :: t).toArray⟩ : ByteArray)[0]'h) = k := fun _ => rfl
  have hw := wrap_byte k
  have hd : decide ((8 : Int) < (k.toNat : Int)) = false := by simp; omega
  have hd2 : decide ((t.length : Int) + 1 < 1 + (k.toNat : Int)) = false := by simp; omega
  go_enter Try.func53, Try.ntmps53
  go_wp2_with fail
  clear hd hd2
  go_loop [6, 7] (fun n i => ∃ q : Nat, q ≤ k.toNat ∧ i = .int .i64 (1 + q) ∧ n = .int .i64 (val (t.take q)) ∧ val (t.take q) < 9223372036854775808) (fun _ i => k.toNat + 1 - (intOf i).toNat)
  case atStart => exact ⟨0, Nat.zero_le _, rfl, rfl, by rw [List.take_zero]; decide⟩
  case round =>
    obtain ⟨q, hq, rfl, rfl, hval⟩ := hrel
    by_cases hlt : q < k.toNat
    · by_cases hov : 36028797018963967 < val (t.take q)
      · have HN := Lib.hid (takeNum_over hl hlt (by omega))
        go_wp2_with fail
        go_ret3
        rw [HN.out]
        exact ⟨rfl, Below.refl _ _⟩
      · have hat : ∀ h, ((⟨(k :: t).toArray⟩ : ByteArray)[q + 1]'h) = t[q]'(by omega) := fun h => cons_at k t q (by omega) h
        have hat2 : ∀ h, ((⟨(k :: t).toArray⟩ : ByteArray)[1 + q]'h) = t[q]'(by omega) := by intro h; simp only [Nat.add_comm 1 q]; exact cons_at k t q (by omega) _
        have hw2 := wrap_byte (t[q]'(by omega))
        have HV := Lib.hid (show val (t.take (q + 1)) = val (t.take q) * 256 + (t[q]'(by omega)).toNat by rw [List.take_succ_eq_append_getElem (by omega), val_snoc])
        have h255 := (t[q]'(by omega)).toNat_lt
        go_wp2_with fail
        exact ⟨⟨q + 1, by omega, by go_num, by rw [HV.out]; go_num, by rw [HV.out]; omega⟩, by simp [intOf]; omega⟩
    · obtain rfl : q = k.toNat := by omega
      have hneg : decide ((val (t.take k.toNat) : Int) < 0) = false := by simp
      by_cases h0 : k.toNat = 0
      · have HN := Lib.hid (takeNum_good hl hval (fun h => by omega))
        have hpos : decide (0 < k.toNat) = false := by simp; omega
        have hle : k.toNat ≤ 0 := by omega
        have HK := Lib.hid h0
        clear h0
        go_wp2_with fail
        go_quiet (fail)
        go_wp2_with fail
        go_ret3
        rw [extract_cons, HN.out]
        exact ⟨rfl, drawn_below (Below.refl _ _) nq⟩
      · have hpos : decide (0 < k.toNat) = true := by simp; omega
        have hat2 : ∀ h, ((⟨(k :: t).toArray⟩ : ByteArray)[1]'h) = t[0]'(by omega) := fun h => cons_at k t 0 (by omega) h
        by_cases hz : t[0]'(by omega) = 0
        · have HN := Lib.hid (takeNum_zero hl (by omega) hz)
          have hz1 : ((t[0]'(by omega)).toNat : Int) = 0 := by rw [hz]; rfl
          have hz2 : (((t[0]'(by omega)).toNat : Int) == 0) = true := by rw [hz]; rfl
          clear hz hz1
          go_wp2_with fail
          go_ret3
          rw [HN.out]
          exact ⟨rfl, Below.refl _ _⟩
        · have HN := Lib.hid (takeNum_good hl hval (fun h => hz))
          have hz2 : (((t[0]'(by omega)).toNat : Int) == 0) = false := by
            have : (t[0]'(by omega)).toNat ≠ 0 := fun e => hz (by rw [← UInt8.toNat_inj]; simpa using e)
            simp only [beq_eq_false_iff_ne, ne_eq]
            omega
          clear hz
          go_wp2_with fail
          go_quiet (fail)
          go_wp2_with fail
          go_ret3
          rw [extract_cons, HN.out]
          exact ⟨rfl, drawn_below (Below.refl _ _) nq⟩
end Go.Proofs.Ytenmkfjgjemiiaa
namespace Go.Proofs.Ytenmkfjgjemiiaa
open Go.RowKit
theorem rtn_any (s : List UInt8) (w : World) (hm : s.length ≤ 9223372036854775000) :
    Calls Try.prog 53 #[.string ⟨s.toArray⟩] w fun e w' => e = .returned (.tuple #[.int .i64 ((takeNum s).getD (0, [])).1, .string ⟨((takeNum s).getD (0, [])).2.toArray⟩, .bool (takeNum s).isSome]) ∧ Below w.heap.size w w' := by
  cases s with
  | nil => exact rtn_nil w
  | cons k t =>
    simp only [List.length_cons] at hm
    by_cases h8 : k.toNat ≤ 8
    · by_cases hl : k.toNat ≤ t.length
      · exact rtn_digits k t w h8 hl (by omega)
      · rw [takeNum_short (by omega)]
        exact rtn_short k t w h8 (by omega)
    · rw [takeNum_big t (by omega)]
      exact rtn_big k t w (by omega)
theorem rtt_none (s : List UInt8) (w : World) (hm : s.length ≤ 9223372036854775000) (h : takeNum s = none) :
    Calls Try.prog 62 #[.string ⟨s.toArray⟩] w fun e w' => e = .returned (.tuple #[.string ⟨#[]⟩, .string ⟨#[]⟩, .bool false]) ∧ Below w.heap.size w w' := by
  have hc := rtn_any s w hm
  rw [h] at hc
  have HC := Lib.hid hc
  clear hc h
  go_enter Try.func62, Try.ntmps62
  go_wp2_with fail
  refine HC.out.mono ?_
  rintro e w1 ⟨rfl, hb⟩
  have HB := Lib.hid hb
  clear hb HC
  go_wp2_with fail
  go_ret3
  exact ⟨rfl, HB.out⟩
theorem rtt_num (s r : List UInt8) (n : Nat) (w : World) (hm : s.length ≤ 9223372036854775000) (h : takeNum s = some (n, r)) :
    Calls Try.prog 62 #[.string ⟨s.toArray⟩] w fun e w' => e = .returned (.tuple #[.string ⟨((takeText s).getD ([], [])).1.toArray⟩, .string ⟨((takeText s).getD ([], [])).2.toArray⟩, .bool (takeText s).isSome]) ∧ Below w.heap.size w w' := by
  have hc := rtn_any s w hm
  rw [h] at hc
  have hlt := takeNum_lt h
  have hrl := takeNum_len h
  have HC := Lib.hid hc
  have ht : takeText s = if n ≤ r.length then some (r.take n, r.drop n) else none := by simp only [takeText, h]
  clear hc h
  by_cases hn : n ≤ r.length
  · rw [if_pos hn] at ht
    rw [ht]
    clear ht
    go_enter Try.func62, Try.ntmps62
    go_wp2_with fail
    refine HC.out.mono ?_
    rintro e w1 ⟨rfl, hb⟩
    have HB := Lib.hid hb
    clear hb HC
    simp only [Option.getD_some, Option.isSome_some]
    go_wp2_with fail
    go_quiet (fail)
    go_wp2_with fail
    go_ret3
    rw [extract_head, extract_tail]
    exact ⟨rfl, drawn_below HB.out nq⟩
  · rw [if_neg hn] at ht
    rw [ht]
    clear ht
    go_enter Try.func62, Try.ntmps62
    go_wp2_with fail
    refine HC.out.mono ?_
    rintro e w1 ⟨rfl, hb⟩
    have HB := Lib.hid hb
    clear hb HC
    simp only [Option.getD_some, Option.isSome_some]
    go_wp2_with fail
    go_ret3
    exact ⟨rfl, HB.out⟩
theorem rtt_any (s : List UInt8) (w : World) (hm : s.length ≤ 9223372036854775000) :
    Calls Try.prog 62 #[.string ⟨s.toArray⟩] w fun e w' => e = .returned (.tuple #[.string ⟨((takeText s).getD ([], [])).1.toArray⟩, .string ⟨((takeText s).getD ([], [])).2.toArray⟩, .bool (takeText s).isSome]) ∧ Below w.heap.size w w' := by
  cases h : takeNum s with
  | none =>
    have ht : takeText s = none := by simp only [takeText, h]
    rw [ht]
    exact rtt_none s w hm h
  | some p => exact rtt_num s p.2 p.1 w hm h
def ListPost (B : Nat) (o : Option (List (List UInt8) × List UInt8)) (e : Ending) (w' : World) : Prop :=
  ∃ v, e = .returned (.tuple #[v, .string ⟨(o.getD ([], [])).2.toArray⟩, .bool o.isSome]) ∧ OwnS B v (o.getD ([], [])).1 w'
theorem rtl_none (s : List UInt8) (w : World) (hm : s.length ≤ 9223372036854775000) (h : takeNum s = none) :
    Calls Try.prog 52 #[.string ⟨s.toArray⟩] w fun e w' => ListPost w.heap.size none e w' ∧ Below w.heap.size w w' := by
  have hc := rtn_any s w hm
  rw [h] at hc
  have HC := Lib.hid hc
  clear hc h
  go_enter Try.func52, Try.ntmps52
  go_wp2_with fail
  refine HC.out.mono ?_
  rintro e w1 ⟨rfl, hb⟩
  have HB := Lib.hid hb
  clear hb HC
  go_wp2_with fail
  go_ret3
  exact ⟨⟨_, rfl, OwnS.nil _ _⟩, HB.out⟩
theorem rtl_many (s r : List UInt8) (n : Nat) (w : World) (hm : s.length ≤ 9223372036854775000) (h : takeNum s = some (n, r)) (hn : 4096 < n) :
    Calls Try.prog 52 #[.string ⟨s.toArray⟩] w fun e w' => ListPost w.heap.size none e w' ∧ Below w.heap.size w w' := by
  have hc := rtn_any s w hm
  rw [h] at hc
  have hlt := takeNum_lt h
  have HC := Lib.hid hc
  clear hc h
  go_enter Try.func52, Try.ntmps52
  go_wp2_with fail
  refine HC.out.mono ?_
  rintro e w1 ⟨rfl, hb⟩
  have HB := Lib.hid hb
  clear hb HC
  simp only [Option.getD_some, Option.isSome_some]
  go_wp2_with fail
  go_ret3
  exact ⟨⟨_, rfl, OwnS.nil _ _⟩, HB.out⟩
end Go.Proofs.Ytenmkfjgjemiiaa
namespace Go.Proofs.Ytenmkfjgjemiiaa
open Go.RowKit
theorem takeTexts_next {q : Nat} {r rest t r2 : List UInt8} {l : List (List UInt8)} (h : takeTexts q r = some (l, rest)) (ht : takeText rest = some (t, r2)) : takeTexts (q + 1) r = some (l ++ [t], r2) := by
  rw [takeTexts_succ, h]; simp only [ht]
theorem takeTexts_stop {q n : Nat} {r rest : List UInt8} {l : List (List UInt8)} (h : takeTexts q r = some (l, rest)) (ht : takeText rest = none) (hq : q < n) : takeTexts n r = none :=
  takeTexts_none_mono (k := q + 1) (by rw [takeTexts_succ, h]; simp only [ht]) n (by omega)
set_option maxHeartbeats 1000000 in
set_option maxRecDepth 100000 in
theorem rtl_texts (s r : List UInt8) (n : Nat) (w : World) (hm : s.length ≤ 9223372036854775000) (h : takeNum s = some (n, r)) (hn : n ≤ 4096) :
    Calls Try.prog 52 #[.string ⟨s.toArray⟩] w fun e w' => ListPost w.heap.size (takeTexts n r) e w' ∧ Below w.heap.size w w' := by
  have hc := rtn_any s w hm
  rw [h] at hc
  have hrl := takeNum_len h
  have HC := Lib.hid hc
  clear hc h
  obtain ⟨i0, hi, hz0, hz1, hz2⟩ := info_parts Try.infoString
  go_enter Try.func52, Try.ntmps52
  go_wp2_with fail
  refine HC.out.mono ?_
  rintro e w1 ⟨rfl, hb⟩
  have HB := Lib.hid hb
  clear hb HC
  simp only [Option.getD_some, Option.isSome_some]
  go_wp2_with fail
  go_loopw [6, 8, 9] (fun rs v i wr => ∃ (q : Nat) (l : List (List UInt8)) (rest : List UInt8), q ≤ n ∧ i = .int .i64 q ∧ rs = .string ⟨rest.toArray⟩ ∧ takeTexts q r = some (l, rest) ∧ OwnS w.heap.size v l wr ∧ Below w.heap.size w wr) (fun _ _ i _ => n - (intOf i).toNat)
  case atStart => exact ⟨0, [], r, Nat.zero_le _, rfl, rfl, rfl, OwnS.nil _ _, HB.out⟩
  case round =>
    obtain ⟨q, l, rest, hq, rfl, rfl, htk, hown, hbel⟩ := hrel
    have hll : l.length = q := (takeTexts_some _ _ _ _ htk).2
    have hrest := takeTexts_len htk
    have HT := Lib.hid htk
    have HL := Lib.hid hll
    have HO := Lib.hid hown
    have HB1 := Lib.hid hbel
    obtain ⟨ao, cap, hv⟩ := hown.form
    subst hv
    clear htk hll hown hbel
    by_cases hlt : q < n
    · have hct := rtt_any rest wr (by omega)
      cases htt : takeText rest with
      | none =>
        rw [htt] at hct
        have HN := Lib.hid (takeTexts_stop HT.out htt hlt)
        have HCT := Lib.hid hct
        clear hct htt
        go_wp2_with fail
        refine HCT.out.mono ?_
        rintro e w2 ⟨rfl, hb2⟩
        have HB2 := Lib.hid (HB1.out.trans (hb2.mono HB1.out.size))
        clear hb2 HCT HB1
        simp only [Option.getD_none, Option.isSome_none]
        go_wp2_with fail
        go_ret3
        rw [HN.out]
        exact ⟨⟨_, rfl, OwnS.nil _ _⟩, HB2.out⟩
      | some p =>
        obtain ⟨t, r2⟩ := p
        rw [htt] at hct
        have HN := Lib.hid (takeTexts_next HT.out htt)
        have HCT := Lib.hid hct
        have hll2 : l.length ≤ 4096 := by have := HL.out; omega
        clear hct htt
        go_wp2_with fail
        refine HCT.out.mono ?_
        rintro e w2 ⟨rfl, hb2⟩
        have HO2 := Lib.hid (HO.out.below hb2)
        have HB2 := Lib.hid (HB1.out.trans (hb2.mono HB1.out.size))
        have hsz := HB2.out.size
        clear hb2 HCT HB1 HO
        simp only [Option.getD_some, Option.isSome_some]
        go_wp2_with (at_builtin; refine wpList_append_own _ rfl _ _ 61 rfl w.heap.size 9 i0 (.string ⟨#[]⟩) 1 16 Try.underlying61 hi hz0 hz1 hz2 rfl (by decide) _ _ _ rfl (World.ownsRow.alloc HO2.out _) ⟨w2.heap.size, 0, none⟩ 1 1 [.string ⟨t.toArray⟩] rfl rfl ?c1 ?c2 ?c3 ?c4 ?c5 ?_)
        case c1 =>
          intro j u hj
          match j, hj with
          | 0, hj => simp at hj; subst hj; simp [Addr.add]
        case c2 => intro u hu; simp at hu; subst hu; rfl
        case c3 => unfold maxLen; omega
        case c4 => omega
        case c5 => simp; omega
        intro v' w3 hown' hgrow _
        have hrow : ∀ g, (Value.slice ao l.length cap).ownBlock = some g → w.heap.size ≤ g := fun g hg => (HO2.out.lt g hg).1
        have HB3 := Lib.hid ((HB2.out.alloc hsz _).grown hgrow (by simp; omega) hrow)
        have HO3 := Lib.hid (show OwnS w.heap.size v' (l ++ [t]) w3 by
          unfold OwnS
          rw [strs_snoc, List.length_append]
          exact hown')
        clear hown' hgrow hrow HO2 HB2 hsz
        go_wp2_with fail
        refine ⟨⟨q + 1, l ++ [t], r2, by omega, by go_num, rfl, HN.out, HO3.out, HB3.out⟩, by simp [intOf]; omega⟩
    · obtain rfl : q = n := by omega
      go_wp2_with fail
      go_ret3
      rw [HT.out]
      exact ⟨⟨_, rfl, HO.out⟩, HB1.out⟩
theorem rtl_any (s : List UInt8) (w : World) (hm : s.length ≤ 9223372036854775000) :
    Calls Try.prog 52 #[.string ⟨s.toArray⟩] w fun e w' => ListPost w.heap.size (takeList s) e w' ∧ Below w.heap.size w w' := by
  cases h : takeNum s with
  | none =>
    have ht : takeList s = none := by simp only [takeList, h]
    rw [ht]
    exact rtl_none s w hm h
  | some p =>
    obtain ⟨n, r⟩ := p
    by_cases hn : n ≤ 4096
    · have ht : takeList s = takeTexts n r := by simp only [takeList, h, hn, if_true]
      rw [ht]
      exact rtl_texts s r n w hm h hn
    · have ht : takeList s = none := by simp only [takeList, h, hn, if_false]
      rw [ht]
      exact rtl_many s r n w hm h (by omega)
def SplitPost (B : Nat) (o : Option (List (List UInt8))) (e : Ending) (w' : World) : Prop :=
  ∃ v, e = .returned (.tuple #[v, .bool o.isSome]) ∧ OwnS B v (o.getD []) w'
theorem rsplit_long (s : List UInt8) (w : World) (hm : s.length ≤ 9223372036854775000) (h : 262144 < s.length) :
    Calls Try.prog 37 #[.string ⟨s.toArray⟩] w fun e w' => SplitPost w.heap.size (splitB s) e w' ∧ Below w.heap.size w w' := by
  have e : splitB s = none := by simp only [splitB, h, if_true]
  rw [e]
  go_enter Try.func37, Try.ntmps37
  go_wp2_with fail
  go_ret2
  exact ⟨⟨_, rfl, OwnS.nil _ _⟩, Below.refl _ _⟩
theorem rsplit_any (s : List UInt8) (w : World) (hm : s.length ≤ 9223372036854775000) :
    Calls Try.prog 37 #[.string ⟨s.toArray⟩] w fun e w' => SplitPost w.heap.size (splitB s) e w' ∧ Below w.heap.size w w' := by
  by_cases hlong : 262144 < s.length
  · exact rsplit_long s w hm hlong
  · have HC := Lib.hid (rtl_any s w hm)
    cases ht : takeList s with
    | none =>
      have e : splitB s = none := by simp only [splitB, hlong, if_false, ht]
      rw [e]
      rw [ht] at HC
      clear e ht
      go_enter Try.func37, Try.ntmps37
      go_wp2_with fail
      refine HC.out.mono ?_
      rintro e w1 ⟨⟨v, rfl, ho⟩, hb⟩
      have HB := Lib.hid hb
      clear hb HC ho
      simp only [Option.getD_none, Option.isSome_none]
      go_wp2_with fail
      go_ret2
      exact ⟨⟨_, rfl, OwnS.nil _ _⟩, HB.out⟩
    | some p =>
      obtain ⟨l, r⟩ := p
      rw [ht] at HC
      cases r with
      | nil =>
        have e : splitB s = some l := by simp only [splitB, hlong, if_false, ht]
        rw [e]
        clear e ht
        go_enter Try.func37, Try.ntmps37
        go_wp2_with fail
        refine HC.out.mono ?_
        rintro e w1 ⟨⟨v, rfl, ho⟩, hb⟩
        have HB := Lib.hid hb
        have HO := Lib.hid ho
        clear hb HC ho
        simp only [Option.getD_some, Option.isSome_some]
        go_wp2_with fail
        go_ret2
        exact ⟨⟨_, rfl, HO.out⟩, HB.out⟩
      | cons c r =>
        have e : splitB s = none := by simp only [splitB, hlong, if_false, ht]
        rw [e]
        clear e ht
        go_enter Try.func37, Try.ntmps37
        go_wp2_with fail
        refine HC.out.mono ?_
        rintro e w1 ⟨⟨v, rfl, ho⟩, hb⟩
        have HB := Lib.hid hb
        clear hb HC ho
        simp only [Option.getD_some, Option.isSome_some]
        go_wp2_with fail
        go_ret2
        exact ⟨⟨_, rfl, OwnS.nil _ _⟩, HB.out⟩
end Go.Proofs.Ytenmkfjgjemiiaa
namespace Go.Proofs.Ytenmkfjgjemiiaa
open Go.RowKit Go.BigFrame
theorem ref_number (s : List UInt8) (w : World) (hs : s.length ≤ 9223372036854775000) :
    Calls Try.prog 54 #[.string ⟨s.toArray⟩] w fun e w' => ∃ x : Nat, e = .returned (.tuple #[.int .i64 x, .bool (allNum s).isSome]) ∧ (∀ n, allNum s = some n → x = n) ∧ Below w.heap.size w w' := by
  have hc := rtn_any s w hs
  have HA := Shut.mk (show allNum s = match takeNum s with | some (n, []) => some n | _ => none from rfl)
  cases ht : takeNum s with
  | none =>
    rw [ht] at hc HA
    simp only [Option.getD_none, Option.isSome_none] at hc
    have HC := Lib.hid hc
    clear hc ht hs
    go_enter Try.func54, Try.ntmps54
    go_wp2_with fail
    refine HC.out.mono ?_
    rintro e w1 ⟨rfl, hb⟩
    have HB := Lib.hid hb
    clear hb
    go_wp2_with fail
    go_ret2
    exact ⟨0, by rw [HA.out]; rfl, fun n h => (by rw [HA.out] at h; cases h), HB.out⟩
  | some p =>
    obtain ⟨n, r⟩ := p
    rw [ht] at hc HA
    simp only [Option.getD_some, Option.isSome_some] at hc
    have HC := Lib.hid hc
    clear hc ht hs
    cases r with
    | nil =>
      go_enter Try.func54, Try.ntmps54
      go_wp2_with fail
      refine HC.out.mono ?_
      rintro e w1 ⟨rfl, hb⟩
      have HB := Lib.hid hb
      clear hb
      go_wp2_with fail
      go_ret2
      exact ⟨n, by rw [HA.out]; rfl, fun m h => (by rw [HA.out] at h; simpa using h), HB.out⟩
    | cons c r =>
      have hne : ((c :: r) == []) = false := rfl
      obtain ⟨q, hq⟩ : ∃ q, c :: r = q := ⟨_, rfl⟩
      rw [hq] at HC hne
      clear hq
      go_enter Try.func54, Try.ntmps54
      go_wp2_with fail
      refine HC.out.mono ?_
      rintro e w1 ⟨rfl, hb⟩
      have HB := Lib.hid hb
      clear hb
      go_wp2_with fail
      go_ret2
      exact ⟨n, by rw [HA.out]; rfl, fun m h => (by rw [HA.out] at h; cases h), HB.out⟩
theorem Try.sizeA32 : (Try.prog.info? 26).map (·.size) = some 32 := by kernel_rfl
set_option maxHeartbeats 2000000 in
set_option maxRecDepth 100000 in
theorem ref_id (s : List UInt8) (w : World) (hs : s.length = 32) :
    Calls Try.prog 55 #[.string ⟨s.toArray⟩] w fun e w' => e = .returned (.agg (nums .u8 (byteNs s)).toArray) ∧ Below w.heap.size w w' := by
  have HL := Lib.hid hs
  clear hs
  go_enter Try.func55, Try.ntmps55
  go_upto_region 2 with (fail)
  change Code.wp _ _ _ _ ((w.alloc (.cells (nums .u8 (List.replicate 32 0)).toArray 26)).alloc (.cells (nums .u8 (List.replicate 32 0)).toArray 26))
  obtain ⟨w1, hw1⟩ : ∃ x, x = ((w.alloc (.cells (nums .u8 (List.replicate 32 0)).toArray 26)).alloc (.cells (nums .u8 (List.replicate 32 0)).toArray 26)) := ⟨_, rfl⟩
  rw [← hw1]
  have h3 : Blk w.heap.size 26 .u8 (List.replicate 32 0) w1 ∧ Blk (w.heap.size + 1) 26 .u8 (List.replicate 32 0) w1 ∧ Below w.heap.size w w1 := by
    rw [hw1]
    exact two_new w _ _ _ _
  obtain ⟨hr, hc, hb⟩ := h3
  rw [← idP_zero s] at hc
  have HR := Lib.hid hr
  have HC := Lib.hid hc
  have HB := Lib.hid hb
  clear hw1 hr hc hb
  go_wp2_with fail
  go_loopw [5] (fun i wq => ∃ k : Nat, k ≤ 32 ∧ i = .int .i64 k ∧ Blk (w.heap.size + 1) 26 .u8 (idP s k) wq ∧ But (w.heap.size + 1) w1 wq) (fun i _ => 32 - (intOf i).toNat)
  case atStart => exact ⟨0, by omega, rfl, HC.out, But.refl _ _⟩
  case round =>
    clear HC
    obtain ⟨k, hk, rfl, hc, hb⟩ := hrel
    have HC := Lib.hid hc
    have HB1 := Lib.hid hb
    clear hc hb
    by_cases hlk : k < 32
    · have hks : k < s.length := by rw [HL.out]; exact hlk
      have c2 := HC.out.cell k (by rw [idP_len HL.out hk]; exact hlk)
      have hf := HC.out.frozen k
      have HS := Lib.hid (HC.out.set k (s[k]'hks).toNat)
      rw [idP_step HL.out hlk] at HS
      have hat : ∀ h, ((⟨s.toArray⟩ : ByteArray)[k]'h) = s[k]'hks := fun _ => rfl
      have b3 : (k : Int) < (s.length : Int) := by omega
      generalize s[k]'hks = x at hat HS
      generalize (idP s k).getD k 0 = y at c2
      have b1 : (k : Int) < 32 := by omega
      go_wp2_with fail
      exact ⟨⟨k + 1, by omega, by go_num, HS.out, HB1.out.setCell _ _⟩, by simp [intOf]; omega⟩
    · obtain rfl : k = 32 := by omega
      rw [show ((32 : Nat) : Int) = 32 from rfl]
      rw [idP_full HL.out] at HC
      have HR1 := Lib.hid (HR.out.but HB1.out (by omega))
      have HBB := Lib.hid (show Below w.heap.size w wr from But.toBelow HB.out HB1.out (by omega) HB.out.size)
      have HI := Lib.hid (show (Try.prog.info? 26).map (·.size) = some (byteNs s).length by rw [byteNs_len, HL.out]; exact Try.sizeA32)
      have HL2 := Lib.hid (show (List.replicate 32 0).length = (byteNs s).length by rw [byteNs_len, HL.out]; rfl)
      go_wp2_with (first | (refine wpList_load_nums rfl 26 _ rfl (w.heap.size + 1) .u8 _ 26 _ rfl HC.out Try.underlying26 rfl HI.out ?_) | (refine wpList_store_nums rfl 26 _ _ rfl rfl (w.heap.size) .u8 _ (byteNs s) 26 rfl rfl HR1.out HI.out HL2.out ?_))
      intro w7 hc hb
      have HC7 := Lib.hid (show Blk (w.heap.size) 26 .u8 (byteNs s) w7 from hc.out)
      have HB7 := Lib.hid (show Below w.heap.size w w7 from But.toBelow HBB.out hb.out (by omega) HBB.out.size)
      clear hc hb
      go_wp2_with fail
      exact bodyPost_ret (results_nums rfl _ _ (w.heap.size) .u8 _ 26 _ rfl HC7.out Try.underlying26 rfl HI.out) rfl ⟨rfl, HB7.out⟩
end Go.Proofs.Ytenmkfjgjemiiaa
