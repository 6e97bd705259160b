/-
  pack.Text.
-/
import Derived.Test.YthnagnjcbgcnfaaNum
namespace Go.Proofs.Ythnagnjcbgcnfaa
open Go.RowKit

theorem text_any (s : List UInt8) (w : World) (hs : s.length ≤ 9223372036854775000) :
    Calls Try.prog 34 #[.string ⟨s.toArray⟩] w fun e w' => e = .returned (.string ⟨(textB s).toArray⟩) ∧ Below w.heap.size w w' := by
  have hcat : (({ data := (numB s.length).toArray } : ByteArray) ++ { data := s.toArray }) = { data := (textB s).toArray } := by
    apply ByteArray.ext; rw [ByteArray.data_append]; simp [textB]
  go_enter Try.func34, Try.ntmps34
  go_wp2_with fail
  refine (num_any s.length _ (by omega)).mono ?_
  rintro e w1 ⟨rfl, hb⟩
  have HB := Lib.hid hb
  have hn := numB_length_9 (n := s.length) (by omega)
  clear hb
  go_wp2_with fail
  go_ret
  exact ⟨rfl, HB.out⟩

end Go.Proofs.Ythnagnjcbgcnfaa
