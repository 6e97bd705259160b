/-
  The small methods of a reader (fail, take, Open): what each answers, and what it makes of the reader's block.
-/
import Derived.Test.YthgfpojfnhkckaaBase
namespace Go.Proofs.Ythgfpojfnhkckaa
open Go.RowKit

/-- The block of a reader. -/
def Rd (b : Nat) (s : List UInt8) (f : Bool) (w : World) : Prop := w.heap[b]? = some (.cells #[.string ⟨s.toArray⟩, .bool f] 77 (0, 0))

theorem Rd.cell0 {b : Nat} {s : List UInt8} {f : Bool} {w : World} (h : Rd b s f w) : w.cell? ⟨b, 0, none⟩ = some (.string ⟨s.toArray⟩) := by simp [World.cell?, show w.heap[b]? = _ from h]
theorem Rd.cell1 {b : Nat} {s : List UInt8} {f : Bool} {w : World} (h : Rd b s f w) : w.cell? ⟨b, 1, none⟩ = some (.bool f) := by simp [World.cell?, show w.heap[b]? = _ from h]
theorem Rd.free0 {b : Nat} {s : List UInt8} {f : Bool} {w : World} (h : Rd b s f w) : w.frozen? ⟨b, 0, none⟩ = false := by simp [World.frozen?, show w.heap[b]? = _ from h]
theorem Rd.free1 {b : Nat} {s : List UInt8} {f : Bool} {w : World} (h : Rd b s f w) : w.frozen? ⟨b, 1, none⟩ = false := by simp [World.frozen?, show w.heap[b]? = _ from h]
theorem Rd.lt {b : Nat} {s : List UInt8} {f : Bool} {w : World} (h : Rd b s f w) : b < w.heap.size := lt_of_block h
theorem Rd.set0 {b : Nat} {s : List UInt8} {f : Bool} {w : World} (h : Rd b s f w) (s' : List UInt8) : Rd b s' f (w.setCell ⟨b, 0, none⟩ (.string ⟨s'.toArray⟩)) := by
  unfold Rd; rw [heap_setCell_at h]; rfl
theorem Rd.set1 {b : Nat} {s : List UInt8} {f : Bool} {w : World} (h : Rd b s f w) (f' : Bool) : Rd b s f' (w.setCell ⟨b, 1, none⟩ (.bool f')) := by
  unfold Rd; rw [heap_setCell_at h]; rfl
theorem Rd.below {b : Nat} {s : List UInt8} {f : Bool} {w w' : World} (h : Rd b s f w) (k : Below w.heap.size w w') : Rd b s f w' := (k.block b h.lt).trans h
theorem rd_new (s : List UInt8) (f : Bool) (w : World) : Rd w.heap.size s f (w.alloc (.cells #[.string ⟨s.toArray⟩, .bool f] 77 (0, 0))) := by
  show (w.heap.push _)[_]? = _
  simp
theorem Rd.drew {b : Nat} {s : List UInt8} {f : Bool} {w : World} (h : Rd b s f w) : Rd b s f w.drew := h
theorem Rd.drewN {b : Nat} {s : List UInt8} {f : Bool} {w : World} (h : Rd b s f w) (n : Nat) : Rd b s f (w.drewN n) := h

theorem fail_any (b : Nat) (s : List UInt8) (f : Bool) (w : World) (h : Rd b s f w) :
    Calls Try.prog 43 #[.pointer (some ⟨b, 0, none⟩)] w fun e w' => e = .returned (.tuple #[]) ∧ Rd b [] true w' ∧ But b w w' := by
  have g0 := h.cell0
  have g1 := h.cell1
  have z0 := h.free0
  have z1 := h.free1
  have H := Lib.hid h
  clear h
  go_enter Try.func43, Try.ntmps43
  go_wp2
  go_end0
  exact ⟨rfl, (H.out.set0 []).set1 true, ((But.refl b w).setCell 0 _).setCell 1 _⟩

theorem open_ok (s : List UInt8) (w : World) (hs : s.length ≤ 262144) :
    Calls Try.prog 31 #[.string ⟨s.toArray⟩] w fun e w' => e = .returned (.pointer (some ⟨w.heap.size, 0, none⟩)) ∧ Rd w.heap.size s false w' ∧ Below w.heap.size w w' := by
  go_enter Try.func31, Try.ntmps31
  go_wp2_with fail
  go_ret
  exact ⟨rfl, rd_new _ _ _, (Below.refl _ _).alloc (Nat.le_refl _) _⟩

theorem open_long (s : List UInt8) (w : World) (hs : 262144 < s.length) (hm : s.length ≤ 9223372036854775807) :
    Calls Try.prog 31 #[.string ⟨s.toArray⟩] w fun e w' => e = .returned (.pointer (some ⟨w.heap.size, 0, none⟩)) ∧ Rd w.heap.size [] true w' ∧ Below w.heap.size w w' := by
  go_enter Try.func31, Try.ntmps31
  go_wp2_with fail
  refine (fail_any _ s false _ (rd_new _ _ _)).mono ?_
  rintro e w' ⟨rfl, h1, h2⟩
  have h3 := But.toBelow ((Below.refl w.heap.size w).alloc (Nat.le_refl _) _) h2 (Nat.le_refl _) (by simp)
  clear h2
  go_wp2_with fail
  go_ret
  exact ⟨rfl, h1, h3⟩

theorem take_few (b : Nat) (s : List UInt8) (f : Bool) (n : Int) (w : World) (h : Rd b s f w) (hn : (s.length : Int) < n) :
    Calls Try.prog 44 #[.pointer (some ⟨b, 0, none⟩), .int .i64 n] w fun e w' => e = .returned (.string ⟨#[]⟩) ∧ Rd b [] true w' ∧ But b w w' := by
  have g0 := h.cell0
  have H := Lib.hid h
  clear h
  go_enter Try.func44, Try.ntmps44
  go_wp2_with (go_at_call 43; refine (fail_any _ s f _ (by exact H.out)).mono ?_; rintro e w' ⟨rfl, h1, h2⟩)
  go_ret
  exact ⟨rfl, by assumption, by assumption⟩

theorem take_some (b : Nat) (s : List UInt8) (f : Bool) (n : Nat) (w : World) (h : Rd b s f w) (hn : n ≤ s.length) :
    Calls Try.prog 44 #[.pointer (some ⟨b, 0, none⟩), .int .i64 n] w fun e w' => e = .returned (.string ⟨(s.take n).toArray⟩) ∧ Rd b (s.drop n) f w' ∧ But b w w' := by
  have g0 := h.cell0
  have z0 := h.free0
  have H := Lib.hid h
  clear h
  go_enter Try.func44, Try.ntmps44
  go_wp2_with fail
  go_ret
  rw [extract_head, extract_tail]
  exact ⟨rfl, H.out.set0 _, (But.refl b w).setCell 0 _⟩
end Go.Proofs.Ythgfpojfnhkckaa
