/-
  The small methods of a reader (fail, take, Open, End): what each answers, and what it makes of the reader's block.
-/
import Derived.Test.YtkcmadehoafckaaChecked
import Derived.Test.YtkcmadehoafckaaMath
import Derived.WalkKit
import Derived.Lib.Hide
import Derived.RegionTactic
import Derived.ChangeAlike
import Derived.Deep.QuietTactic
import Derived.BigQuiet
namespace Go.Proofs.Ytkcmadehoafckaa
open Go.RowKit

/-- Block b alone may have turned (beside new blocks). -/
structure But (b : Nat) (w w' : World) : Prop where
  os : w'.os = w.os
  tape : w'.tape = w.tape
  output : w'.output = w.output
  size : w.heap.size ≤ w'.heap.size
  block : ∀ k, k < w.heap.size → k ≠ b → w'.heap[k]? = w.heap[k]?

theorem But.refl (b : Nat) (w : World) : But b w w := ⟨rfl, rfl, rfl, Nat.le_refl _, fun _ _ _ => rfl⟩
theorem But.trans {b : Nat} {w1 w2 w3 : World} (h : But b w1 w2) (k : But b w2 w3) : But b w1 w3 :=
  ⟨k.os.trans h.os, k.tape.trans h.tape, k.output.trans h.output, Nat.le_trans h.size k.size, fun i hi hb => (k.block i (Nat.lt_of_lt_of_le hi h.size) hb).trans (h.block i hi hb)⟩
theorem But.setCell {b : Nat} {w w' : World} (h : But b w w') (o : Nat) (v : Value) : But b w (w'.setCell ⟨b, o, none⟩ v) :=
  h.trans ⟨rfl, rfl, rfl, by simp [World.setCell], fun k _ hb => Below.heap_setCell _ _ _ _ hb⟩
theorem But.drew {b : Nat} {w w' : World} (h : But b w w') : But b w w'.drew := ⟨h.os, h.tape, h.output, h.size, h.block⟩
theorem But.drewN {b : Nat} {w w' : World} (h : But b w w') (n : Nat) : But b w (w'.drewN n) := ⟨h.os, h.tape, h.output, h.size, h.block⟩
theorem But.below {b : Nat} {w w1 w2 : World} (h : But b w w1) (k : Below w1.heap.size w1 w2) : But b w w2 :=
  ⟨k.os.trans h.os, k.tape.trans h.tape, k.output.trans h.output, Nat.le_trans h.size k.size, fun i hi hb => (k.block i (Nat.lt_of_lt_of_le hi h.size)).trans (h.block i hi hb)⟩
theorem But.toBelow {b B : Nat} {w0 w w' : World} (h : Below B w0 w) (k : But b w w') (hb : B ≤ b) (hB : B ≤ w.heap.size) : Below B w0 w' :=
  h.trans ⟨k.os, k.tape, k.output, k.size, fun i hi => k.block i (by omega) (by omega)⟩

/-- The block of a reader. -/
def Rd (b : Nat) (s : List UInt8) (f : Bool) (w : World) : Prop := w.heap[b]? = some (.cells #[.string ⟨s.toArray⟩, .bool f] 67 (0, 0))

theorem Rd.cell0 {b : Nat} {s : List UInt8} {f : Bool} {w : World} (h : Rd b s f w) : w.cell? ⟨b, 0, none⟩ = some (.string ⟨s.toArray⟩) := by simp [World.cell?, show w.heap[b]? = _ from h]
theorem Rd.cell1 {b : Nat} {s : List UInt8} {f : Bool} {w : World} (h : Rd b s f w) : w.cell? ⟨b, 1, none⟩ = some (.bool f) := by simp [World.cell?, show w.heap[b]? = _ from h]
theorem Rd.free0 {b : Nat} {s : List UInt8} {f : Bool} {w : World} (h : Rd b s f w) : w.frozen? ⟨b, 0, none⟩ = false := by simp [World.frozen?, show w.heap[b]? = _ from h]
theorem Rd.free1 {b : Nat} {s : List UInt8} {f : Bool} {w : World} (h : Rd b s f w) : w.frozen? ⟨b, 1, none⟩ = false := by simp [World.frozen?, show w.heap[b]? = _ from h]
theorem Rd.lt {b : Nat} {s : List UInt8} {f : Bool} {w : World} (h : Rd b s f w) : b < w.heap.size := lt_of_block h
theorem heap_setCell_at {w : World} {b o : Nat} {v : Value} {c : Array Value} {t : TypeId} {z : Nat × Nat} (h : w.heap[b]? = some (.cells c t z)) :
    (w.setCell ⟨b, o, none⟩ v).heap[b]? = some (.cells (c.setIfInBounds o v) t z) := by
  have hlt := lt_of_block h
  have h' : w.heap[b] = .cells c t z := by simpa [Array.getElem?_eq_getElem hlt] using h
  show (w.heap.modify b _)[b]? = _
  rw [Array.getElem?_eq_getElem (by simpa using hlt), Array.getElem_modify_self, h']
  simp
theorem Rd.set0 {b : Nat} {s : List UInt8} {f : Bool} {w : World} (h : Rd b s f w) (s' : List UInt8) : Rd b s' f (w.setCell ⟨b, 0, none⟩ (.string ⟨s'.toArray⟩)) := by
  unfold Rd; rw [heap_setCell_at h]; rfl
theorem Rd.set1 {b : Nat} {s : List UInt8} {f : Bool} {w : World} (h : Rd b s f w) (f' : Bool) : Rd b s f' (w.setCell ⟨b, 1, none⟩ (.bool f')) := by
  unfold Rd; rw [heap_setCell_at h]; rfl
theorem Rd.below {b : Nat} {s : List UInt8} {f : Bool} {w w' : World} (h : Rd b s f w) (k : Below w.heap.size w w') : Rd b s f w' := (k.block b h.lt).trans h
theorem rd_new (s : List UInt8) (f : Bool) (w : World) : Rd w.heap.size s f (w.alloc (.cells #[.string ⟨s.toArray⟩, .bool f] 67 (0, 0))) := by
  show (w.heap.push _)[_]? = _
  simp
theorem Rd.drew {b : Nat} {s : List UInt8} {f : Bool} {w : World} (h : Rd b s f w) : Rd b s f w.drew := h
theorem Rd.drewN {b : Nat} {s : List UInt8} {f : Bool} {w : World} (h : Rd b s f w) (n : Nat) : Rd b s f (w.drewN n) := h

theorem extract_head (s : List UInt8) (n : Nat) : (⟨s.toArray⟩ : ByteArray).extract 0 n = ⟨(s.take n).toArray⟩ := by
  apply ByteArray.ext
  simp [ByteArray.data_extract]
theorem extract_tail (s : List UInt8) (n : Nat) : (⟨s.toArray⟩ : ByteArray).extract n s.length = ⟨(s.drop n).toArray⟩ := by
  apply ByteArray.ext
  simp only [ByteArray.data_extract]
  rw [List.extract_toArray]
  congr 1
  rw [List.extract_eq_take_drop, List.take_of_length_le (by simp)]

theorem fail_any (b : Nat) (s : List UInt8) (f : Bool) (w : World) (h : Rd b s f w) :
    Calls Try.prog 33 #[.pointer (some ⟨b, 0, none⟩)] w fun e w' => e = .returned (.tuple #[]) ∧ Rd b [] true w' ∧ But b w w' := by
  have g0 := h.cell0
  have g1 := h.cell1
  have z0 := h.free0
  have z1 := h.free1
  have H := Lib.hid h
  clear h
  go_enter Try.func33, Try.ntmps33
  go_wp2
  go_end0
  exact ⟨rfl, (H.out.set0 []).set1 true, ((But.refl b w).setCell 0 _).setCell 1 _⟩

theorem open_ok (s : List UInt8) (w : World) (hs : s.length ≤ 262144) :
    Calls Try.prog 19 #[.string ⟨s.toArray⟩] w fun e w' => e = .returned (.pointer (some ⟨w.heap.size, 0, none⟩)) ∧ Rd w.heap.size s false w' ∧ Below w.heap.size w w' := by
  go_enter Try.func19, Try.ntmps19
  go_wp2_with fail
  go_ret
  exact ⟨rfl, rd_new _ _ _, (Below.refl _ _).alloc (Nat.le_refl _) _⟩

theorem open_long (s : List UInt8) (w : World) (hs : 262144 < s.length) (hm : s.length ≤ 9223372036854775807) :
    Calls Try.prog 19 #[.string ⟨s.toArray⟩] w fun e w' => e = .returned (.pointer (some ⟨w.heap.size, 0, none⟩)) ∧ Rd w.heap.size [] true w' ∧ Below w.heap.size w w' := by
  go_enter Try.func19, Try.ntmps19
  go_wp2_with fail
  refine (fail_any _ s false _ (rd_new _ _ _)).mono ?_
  rintro e w' ⟨rfl, h1, h2⟩
  have h3 := But.toBelow ((Below.refl w.heap.size w).alloc (Nat.le_refl _) _) h2 (Nat.le_refl _) (by simp)
  clear h2
  go_wp2_with fail
  go_ret
  exact ⟨rfl, h1, h3⟩

theorem take_few (b : Nat) (s : List UInt8) (f : Bool) (n : Int) (w : World) (h : Rd b s f w) (hn : (s.length : Int) < n) :
    Calls Try.prog 34 #[.pointer (some ⟨b, 0, none⟩), .int .i64 n] w fun e w' => e = .returned (.string ⟨#[]⟩) ∧ Rd b [] true w' ∧ But b w w' := by
  have g0 := h.cell0
  have H := Lib.hid h
  clear h
  go_enter Try.func34, Try.ntmps34
  go_wp2_with (go_at_call 33; refine (fail_any _ s f _ (by exact H.out)).mono ?_; rintro e w' ⟨rfl, h1, h2⟩)
  go_ret
  exact ⟨rfl, by assumption, by assumption⟩

theorem take_some (b : Nat) (s : List UInt8) (f : Bool) (n : Nat) (w : World) (h : Rd b s f w) (hn : n ≤ s.length) :
    Calls Try.prog 34 #[.pointer (some ⟨b, 0, none⟩), .int .i64 n] w fun e w' => e = .returned (.string ⟨(s.take n).toArray⟩) ∧ Rd b (s.drop n) f w' ∧ But b w w' := by
  have g0 := h.cell0
  have z0 := h.free0
  have H := Lib.hid h
  clear h
  go_enter Try.func34, Try.ntmps34
  go_wp2_with fail
  go_ret
  rw [extract_head, extract_tail]
  exact ⟨rfl, H.out.set0 _, (But.refl b w).setCell 0 _⟩

theorem end_nil (w : World) :
    Calls Try.prog 27 #[.pointer none] w fun e w' => e = .returned (.int .i64 2) ∧ w' = w := by
  go_enter Try.func27, Try.ntmps27
  go_wp2_with fail
  go_ret
  exact ⟨rfl, rfl⟩

theorem end_failed (b : Nat) (s : List UInt8) (w : World) (h : Rd b s true w) :
    Calls Try.prog 27 #[.pointer (some ⟨b, 0, none⟩)] w fun e w' => e = .returned (.int .i64 4) ∧ w' = w := by
  have g1 := h.cell1
  clear h
  go_enter Try.func27, Try.ntmps27
  go_wp2_with fail
  go_ret
  exact ⟨rfl, rfl⟩

theorem end_rest (b : Nat) (s : List UInt8) (w : World) (h : Rd b s false w) (hs : s ≠ []) :
    Calls Try.prog 27 #[.pointer (some ⟨b, 0, none⟩)] w fun e w' => e = .returned (.int .i64 4) ∧ w' = w := by
  have g0 := h.cell0
  have g1 := h.cell1
  have hne : (!s.isEmpty) = true := by cases s <;> simp_all
  clear h hs
  go_enter Try.func27, Try.ntmps27
  go_wp2_with fail
  go_ret
  exact ⟨rfl, rfl⟩

theorem end_ok (b : Nat) (w : World) (h : Rd b [] false w) :
    Calls Try.prog 27 #[.pointer (some ⟨b, 0, none⟩)] w fun e w' => e = .returned (.int .i64 0) ∧ w' = w := by
  have g0 := h.cell0
  have g1 := h.cell1
  clear h
  go_enter Try.func27, Try.ntmps27
  go_wp2_with fail
  go_ret
  exact ⟨rfl, rfl⟩
/-- What End answers of a reader. -/
def endCode (s : List UInt8) (f : Bool) : Int := if f then 4 else if s = [] then 0 else 4

theorem end_any (b : Nat) (s : List UInt8) (f : Bool) (w : World) (h : Rd b s f w) :
    Calls Try.prog 27 #[.pointer (some ⟨b, 0, none⟩)] w fun e w' => e = .returned (.int .i64 (endCode s f)) ∧ w = w' := by
  unfold endCode
  cases f with
  | true => exact (end_failed b s w h).mono fun e w' ⟨he, hw⟩ => ⟨he, hw.symm⟩
  | false =>
    by_cases hs : s = []
    · subst hs; exact (end_ok b w h).mono fun e w' ⟨he, hw⟩ => ⟨he, hw.symm⟩
    · simp only [hs, if_false, Bool.false_eq_true]; exact (end_rest b s w h hs).mono fun e w' ⟨he, hw⟩ => ⟨he, hw.symm⟩
end Go.Proofs.Ytkcmadehoafckaa
