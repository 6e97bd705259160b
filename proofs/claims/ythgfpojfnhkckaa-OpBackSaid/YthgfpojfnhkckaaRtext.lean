/-
  A reader's Text.
-/
import Derived.Test.YthgfpojfnhkckaaRnum
import Derived.Test.YthgfpojfnhkckaaClone
namespace Go.Proofs.Ythgfpojfnhkckaa
open Go.RowKit

theorem clone_any (s : ByteArray) (w : World) (hlim : s.size ≤ 281474976710656) :
    Calls Try.prog 55 #[.string s] w fun e w' => e = .returned (.string s) ∧ Below w.heap.size w w' := by
  go_enter Try.func55, Try.ntmps55
  go_wp2_with fail
  refine (Try.stringslite_Clone s _ hlim).mono ?_
  rintro e w1 ⟨rfl, hb⟩
  have HB := Lib.hid hb
  clear hb
  go_wp2_with fail
  go_ret
  exact ⟨rfl, HB.out⟩

theorem rtext_nil (w : World) :
    Calls Try.prog 50 #[.pointer none] w fun e w' => e = .returned (.string ⟨#[]⟩) ∧ w = w' := by
  go_enter Try.func50, Try.ntmps50
  go_wp2_with fail
  go_ret
  exact ⟨rfl, rfl⟩

/-- What take answers, and what it leaves. -/
def rdTake (s : List UInt8) (f : Bool) (n : Nat) : List UInt8 × List UInt8 × Bool := if n ≤ s.length then (s.take n, s.drop n, f) else ([], [], true)

theorem take_any (b : Nat) (s : List UInt8) (f : Bool) (n : Nat) (w : World) (h : Rd b s f w) :
    Calls Try.prog 44 #[.pointer (some ⟨b, 0, none⟩), .int .i64 n] w fun e w' => e = .returned (.string ⟨(rdTake s f n).1.toArray⟩) ∧ Rd b (rdTake s f n).2.1 (rdTake s f n).2.2 w' ∧ But b w w' := by
  unfold rdTake
  by_cases hn : n ≤ s.length
  · simp only [hn, if_true]; exact take_some b s f n w h hn
  · simp only [hn, if_false]; exact take_few b s f n w h (by omega)

theorem rdTake_length (s : List UInt8) (f : Bool) (n : Nat) : (rdTake s f n).1.length ≤ s.length ∧ (rdTake s f n).2.1.length ≤ s.length := by
  unfold rdTake
  split <;> simp
  omega

theorem rdNum_length (s : List UInt8) : (rdNum s).2.1.length ≤ s.length := by
  unfold rdNum
  split
  · rename_i n r h; have := takeNum_len h; simp only; omega
  · simp

theorem rdNum_failed (s : List UInt8) : (rdNum s).2.2 = true → (rdNum s).2.1 = [] := by
  unfold rdNum
  split <;> simp

/-- What a reader's Text answers, and what it leaves. -/
def rdText (s : List UInt8) : List UInt8 × List UInt8 × Bool := match takeText s with | some (t, r) => (t, r, false) | none => ([], [], true)

theorem rdText_eq (s : List UInt8) : rdText s = rdTake (rdNum s).2.1 (rdNum s).2.2 (rdNum s).1 := by
  unfold rdText takeText rdNum
  cases h : takeNum s with
  | none => simp [rdTake]
  | some p =>
    obtain ⟨n, r⟩ := p
    simp only [rdTake]
    by_cases hn : n ≤ r.length <;> simp [hn]

theorem rdText_failed (s : List UInt8) : (rdText s).2.2 = true → (rdText s).2.1 = [] := by
  unfold rdText
  split <;> simp

theorem rdText_length (s : List UInt8) : (rdText s).1.length ≤ s.length ∧ (rdText s).2.1.length ≤ s.length := by
  rw [rdText_eq]
  have := rdNum_length s
  have := rdTake_length (rdNum s).2.1 (rdNum s).2.2 (rdNum s).1
  omega

theorem rtext_any (b : Nat) (s : List UInt8) (f : Bool) (w : World) (h : Rd b s f w) (hf : f = true → s = []) (hs : s.length ≤ 262144) :
    Calls Try.prog 50 #[.pointer (some ⟨b, 0, none⟩)] w fun e w' => e = .returned (.string ⟨(rdText s).1.toArray⟩) ∧ Rd b (rdText s).2.1 (rdText s).2.2 w' ∧ But b w w' := by
  have hl := (rdText_length s).1
  rw [rdText_eq] at hl ⊢
  have H := Lib.hid h
  have HF := Lib.hid hf
  clear h hf
  go_enter Try.func50, Try.ntmps50
  go_wp2_with fail
  refine (rnum_any b s f _ H.out HF.out).mono ?_
  rintro e w1 ⟨rfl, h1, hb1⟩
  have H1 := Lib.hid h1
  have HB1 := Lib.hid hb1
  clear h1 hb1 H
  go_wp2_with fail
  refine (take_any b _ _ _ _ H1.out).mono ?_
  rintro e w2 ⟨rfl, h2, hb2⟩
  have HB2 := Lib.hid (HB1.out.trans hb2)
  have H2 := Lib.hid h2
  clear h2 hb2 HB1 H1
  go_wp2_with fail
  refine (clone_any _ _ (by show (List.toArray _).size ≤ _; simp; omega)).mono ?_
  rintro e w3 ⟨rfl, hb3⟩
  have H3 := Lib.hid (H2.out.below hb3)
  have HB3 := Lib.hid (HB2.out.below hb3)
  clear hb3 H2 HB2
  go_wp2_with fail
  go_ret
  exact ⟨rfl, H3.out, HB3.out⟩
end Go.Proofs.Ythgfpojfnhkckaa
