/-
  A disk of the developers' and one of the document's, side by side; a script's call on both.
-/
import Derived.Test.YtmkelboncapkpaaDiskDev
import Derived.Test.YtmkelboncapkpaaScript
namespace Go.Proofs.Ytmkelboncapkpaa
open Go.RowKit Go.BigFrame

def U (O P : Nat → Prop) : Nat → Prop := fun b => O b ∨ P b
/-- Two disks, apart from one another. -/
structure Duo (Od Om : Nat → Prop) (vd vm : Value) (sd sm : DS) (w : World) : Prop where
  d : DiskIs Od vd sd w
  m : RefIs Om vm sm w
  apart : ∀ b, Od b → ¬ Om b
theorem Duo.only {Od Om P : Nat → Prop} {vd vm : Value} {sd sm : DS} {w w' : World} (h : Duo Od Om vd vm sd sm w) (k : Only P w w') (hP : ∀ b, U Od Om b → ¬ P b) : Duo Od Om vd vm sd sm w' :=
  ⟨h.d.only k (fun b hb => hP b (.inl hb)), h.m.only k (fun b hb => hP b (.inr hb)), h.apart⟩
theorem Duo.below {Od Om : Nat → Prop} {vd vm : Value} {sd sm : DS} {w w' : World} (h : Duo Od Om vd vm sd sm w) (k : Below w.heap.size w w') : Duo Od Om vd vm sd sm w' := h.only (Only.of (O := fun _ => False) k) (fun _ _ => id)
theorem Duo.lt {Od Om : Nat → Prop} {vd vm : Value} {sd sm : DS} {w : World} (h : Duo Od Om vd vm sd sm w) {b : Nat} (hb : U Od Om b) : b < w.heap.size := hb.elim (h.d.lt b) h.m.lt
theorem Duo.dev {Od Od' Om : Nat → Prop} {vd vm : Value} {sd sd' sm : DS} {w w' : World} (h : Duo Od Om vd vm sd sm w) (hd : DiskIs Od' vd sd' w') (ht : Turn Od Od' w w') : Duo Od' Om vd vm sd' sm w' :=
  ⟨hd, h.m.only ht.only (fun b hb e => h.apart b e hb), fun b hb e => by
    rcases ht.own b hb with h1 | h1
    · exact h.apart b h1 e
    · have := h.m.lt e; omega⟩
theorem Duo.ref {Od Om Om' : Nat → Prop} {vd vm : Value} {sd sm sm' : DS} {w w' : World} (h : Duo Od Om vd vm sd sm w) (hm : RefIs Om' vm sm' w') (ht : Turn Om Om' w w') : Duo Od Om' vd vm sd sm' w' :=
  ⟨h.d.only ht.only (fun b hb e => h.apart b hb e), hm, fun b hb e => by
    rcases ht.own b e with h1 | h1
    · exact h.apart b hb h1
    · have := h.d.lt b hb; omega⟩
theorem Turn.left {O O' P : Nat → Prop} {w w' : World} (h : Turn O O' w w') : Turn (U O P) (U O' P) w w' :=
  ⟨⟨h.only.os, h.only.tape, h.only.output, h.only.size, fun k hk hO => h.only.block k hk (fun e => hO (.inl e))⟩, fun b hb => hb.elim (fun h1 => (h.own b h1).imp .inl id) (fun h1 => .inl (.inr h1))⟩
theorem Turn.right {O P P' : Nat → Prop} {w w' : World} (h : Turn P P' w w') : Turn (U O P) (U O P') w w' :=
  ⟨⟨h.only.os, h.only.tape, h.only.output, h.only.size, fun k hk hO => h.only.block k hk (fun e => hO (.inr e))⟩, fun b hb => hb.elim (fun h1 => .inl (.inl h1)) (fun h1 => (h.own b h1).imp .inr id)⟩
/-- What was owned by nobody stays. -/
theorem Turn.cells {O O' : Nat → Prop} {w w' : World} (h : Turn O O' w w') {g : Nat} {t : TypeId} {cs : Array Value} (hc : Cells g t cs w) (hg : ¬ O g) : Cells g t cs w' := hc.only h.only hg
theorem Turn.nums {O O' : Nat → Prop} {w w' : World} (h : Turn O O' w w') {ao : Option Addr} {k : IntKind} {l : List Nat} (hc : NumsAt ao k l w) (hg : l ≠ [] → ∀ a, ao = some a → ¬ O a.block) : NumsAt ao k l w' := hc.only h.only hg
/-- It is still owned by nobody. -/
theorem Turn.free {O O' : Nat → Prop} {w w' : World} (h : Turn O O' w w') {g : Nat} (hg : ¬ O g) (hl : g < w.heap.size) : ¬ O' g := fun e => by
  rcases h.own g e with h1 | h1
  · exact hg h1
  · omega
/-- The document's functions, by what they own. -/
theorem RefIs.write {O : Nat → Prop} {v : Value} {s : DS} {w : World} (h : RefIs O v s w) {n : Nat} (hf : Fit s n) (hn : n ≤ 999999) (at' : Int) (b : List UInt8) (bo : Option Addr) (bc : Nat) (hb : NumsAt bo .u8 (byteNs b) w) (hbo : byteNs b ≠ [] → ∀ a, bo = some a → ¬ O a.block) (hbl : b.length ≤ 1000000) :
    Calls Try.prog 24 #[v, .int .i64 at', .slice bo b.length bc] w fun e w' => e = .returned (.int .i64 (writeE s at' b : Nat)) ∧ ∃ O', RefIs O' v (writeS s at' b) w' ∧ Turn O O' w w' := by
  obtain ⟨g, vS, vA, vD, rfl, rfl, h⟩ := h
  refine (ref_write g vS vA vD s at' b bo bc w h hb hbo hbl (Nat.le_trans hf.acts (by omega)) hf.fuse hf.keep (Nat.le_trans hf.pend hn) hf.ok).mono fun e w' he => ?_
  obtain ⟨he, vA', vD', hr, ht⟩ := he
  exact ⟨he, _, ⟨g, vS, vA', vD', rfl, rfl, hr⟩, ht⟩
theorem RefIs.sync {O : Nat → Prop} {v : Value} {s : DS} {w : World} (h : RefIs O v s w) {n : Nat} (hf : Fit s n) (hn : n ≤ 999999) :
    Calls Try.prog 27 #[v] w fun e w' => e = .returned (.int .i64 (syncE s : Nat)) ∧ ∃ O', RefIs O' v (syncS s) w' ∧ Turn O O' w w' := by
  obtain ⟨g, vS, vA, vD, rfl, rfl, h⟩ := h
  refine (ref_sync g vS vA vD s w h (Nat.le_trans hf.acts (by omega)) hf.fuse hf.keep (Nat.le_trans hf.pend (by omega)) hf.ok).mono fun e w' he => ?_
  obtain ⟨he, vA', vD', hr, ht⟩ := he
  exact ⟨he, _, ⟨g, vS, vA', vD', rfl, rfl, hr⟩, ht⟩
theorem RefIs.gone {O : Nat → Prop} {v : Value} {s : DS} {w : World} (h : RefIs O v s w) {n : Nat} (hf : Fit s n) (hn : n ≤ 999999) (keep : Nat) (hk : keep < 18446744073709551616) :
    Calls Try.prog 28 #[v, .int .u64 keep] w fun e w' => e = .returned (.tuple #[]) ∧ ∃ O', RefIs O' v (goneS s keep) w' ∧ Turn O O' w w' := by
  obtain ⟨g, vS, vA, vD, rfl, rfl, h⟩ := h
  refine (ref_gone g vS vA vD s keep w h hk (Nat.le_trans hf.pend (by omega)) hf.ok).mono fun e w' he => ?_
  obtain ⟨he, vA', vD', hr, ht⟩ := he
  exact ⟨he, _, ⟨g, vS, vA', vD', rfl, rfl, hr⟩, ht⟩
theorem RefIs.why {O : Nat → Prop} {v : Value} {s : DS} {w : World} (h : RefIs O v s w) (at' : Int) :
    Calls Try.prog 25 #[v, .int .i64 at'] w fun e w' => e = .returned (.int .i64 (whyS s at' : Nat)) ∧ w' = w := by
  obtain ⟨g, vS, vA, vD, rfl, rfl, h⟩ := h
  exact ref_why g vS vA vD s at' w h
theorem RefIs.read {O : Nat → Prop} {v : Value} {s : DS} {w : World} (h : RefIs O v s w) {n : Nat} (hf : Fit s n) (hn : n ≤ 999999) (at' : Nat) (ha : at' < s.safe.length) :
    Calls Try.prog 26 #[v, .int .i64 at'] w fun e w' => e = .returned (.string ⟨(readS s at').toArray⟩) ∧ w' = w := by
  obtain ⟨g, vS, vA, vD, rfl, rfl, h⟩ := h
  exact ref_read g vS vA vD s at' w h ha (Nat.le_trans hf.pend (by omega))
end Go.Proofs.Ytmkelboncapkpaa
