/-
  No cell of these rows narrows 'for every input' (looked for: loops, veiled, ifaces, maps, wideKeys, modest, calm, conditions, laid).
  DERIVED. THE GIVEN ROWS OF THIS SEAT. 2 by the template 'for every input the law returns true; each argument reads behind the call as it read before'; 0 by the template 'total and deterministic' (their statements: YthnagnjcbgcnfaaTotals.lean).
  GIVEN WITH THE SEED: the statements are not yours to turn. If you find one false, say at which input.
  Laid BY PROGRAM, IN A SANDBOX (cutbox-rows.mjs): the forced cells as the released guide's own fill.sh prints them over the translation 6b52c6741a8cd89f… (all of the seat's roots in one cut). By AI agents, Wed Nov 11 2026. No macro, syntax, notation, axiom, sorry.
-/
import Derived.Test.YthnagnjcbgcnfaaChecked
import GoSem.Claim
import GoSem.ClaimJoined
import GoSem.ClaimMapViews
import Derived.JoinedTies
import Derived.KernelRfl
namespace Go.Proofs.Ythnagnjcbgcnfaa
/- THE CELL 'sum', in the pinned program and in every row, IS THE sha256 OF THE DUMP (.gsa) THAT YthnagnjcbgcnfaaProg.lean LOADS. Nothing in Lean hashes anything: it is a label: what it is worth is what the hold of that sum in a sandbox is worth. -/
noncomputable def Try.pinned : Pinned := { name := "ythnagnjcbgcnfaa", sum := "6b52c6741a8cd89f64f6dee69e46b5e7bb8d60cb9efffc7661b11d03e8a9822a", checked := Try.checked }
namespace Rows
def none {H : Type} : Left H := { results := [], args := [] }

/-- 'tribunallaw08.SegLoses': WHATEVER THE INPUT: true; the input reads as it did. -/
def segLosesSpec : ChangeSpec := { name := "segLoses", fn := fun _ => fun
  | [d1, d2, d3] => { results := [.lit (.bool true)], args := [d1, d2, d3] }
  | _ => none }
def segLosesRow : OpenClaim := { program := "ythnagnjcbgcnfaa", sum := "6b52c6741a8cd89f64f6dee69e46b5e7bb8d60cb9efffc7661b11d03e8a9822a", func := "tribunal/tribunallaw08.SegLoses", spec := "segLoses", unfollowed := true, recurses := true, apart := false }
def SegLosesSaid : Prop := segLosesRow.holds Try.pinned (OpenSpec.ofChange segLosesSpec)

/-- ITS FALSE NEIGHBOUR: 'it returns false'. Refute it at one input. -/
def segLosesWrong : ChangeSpec := { name := "segLoses", fn := fun _ => fun
  | [d1, d2, d3] => { results := [.lit (.bool false)], args := [d1, d2, d3] }
  | _ => none }
def SegLosesWrongFalsely : Prop := segLosesRow.holds Try.pinned (OpenSpec.ofChange segLosesWrong)

/-- 'tribunallaw08.SegOne': WHATEVER THE INPUT: true; the input reads as it did. -/
def segOneSpec : ChangeSpec := { name := "segOne", fn := fun _ => fun
  | [d1, d2] => { results := [.lit (.bool true)], args := [d1, d2] }
  | _ => none }
def segOneRow : OpenClaim := { program := "ythnagnjcbgcnfaa", sum := "6b52c6741a8cd89f64f6dee69e46b5e7bb8d60cb9efffc7661b11d03e8a9822a", func := "tribunal/tribunallaw08.SegOne", spec := "segOne", unfollowed := true, recurses := true, apart := false }
def SegOneSaid : Prop := segOneRow.holds Try.pinned (OpenSpec.ofChange segOneSpec)

/-- ITS FALSE NEIGHBOUR: 'it returns false'. Refute it at one input. -/
def segOneWrong : ChangeSpec := { name := "segOne", fn := fun _ => fun
  | [d1, d2] => { results := [.lit (.bool false)], args := [d1, d2] }
  | _ => none }
def SegOneWrongFalsely : Prop := segOneRow.holds Try.pinned (OpenSpec.ofChange segOneWrong)

/- THE SECOND FORM. 'bulk': how many values and letters a reading holds, each counted each time it is reached (what is shared counts as often as it is met; a slice's spare places count too). A statement '..UptoSaid' is the law's where the arguments, and the package variables that the reading takes, are together of bulk at most 1048576: NARROWER than '..Said'. Prove '..Said' where nothing that the law and all that it calls make is longer than what came in: it says more and counts as full. Else prove '..UptoSaid'. A law counts once. -/
mutual
def uptoBulk {H : Type} : DataW H → Nat
  | .lit (.string bytes) => bytes.length + 1
  | .lit _ => 1
  | .nil => 1
  | .ptr d => uptoBulk d + 1
  | .slice elems spare => uptoBulkAll elems + uptoBulkAll spare + 1
  | .agg parts => uptoBulkAll parts + 1
  | .iface _ d => uptoBulk d + 1
  | .map entries => uptoBulkEntries entries + 1
  | .held _ => 1
def uptoBulkAll {H : Type} : List (DataW H) → Nat
  | [] => 0
  | d :: r => uptoBulk d + uptoBulkAll r
def uptoBulkEntries {H : Type} : List (Lit × DataW H) → Nat
  | [] => 0
  | x :: r => uptoBulkEntry x + uptoBulkEntries r
def uptoBulkEntry {H : Type} : Lit × DataW H → Nat
  | (.string bytes, d) => bytes.length + uptoBulk d + 1
  | (_, d) => uptoBulk d + 1
 end
def uptoSmall : (H : Type) → List (DataW H) → Bool := fun _ ds => decide (uptoBulkAll ds ≤ 1048576)
def OpenSpec.upto (s : _root_.Go.ChangeSpec) : _root_.Go.OpenSpec := { _root_.Go.OpenSpec.ofChange s with cond := some uptoSmall }

/-- 'tribunallaw08.SegLoses', WHERE WHAT IT READS IS OF BULK AT MOST 1048576: true; the input reads as it did. -/
def segLosesUptoRow : OpenClaim := { program := "ythnagnjcbgcnfaa", sum := "6b52c6741a8cd89f64f6dee69e46b5e7bb8d60cb9efffc7661b11d03e8a9822a", func := "tribunal/tribunallaw08.SegLoses", spec := "segLoses", unfollowed := true, recurses := true, apart := false, narrowed := true }
def SegLosesUptoSaid : Prop := segLosesUptoRow.holds Try.pinned (OpenSpec.upto segLosesSpec)

/-- 'tribunallaw08.SegOne', WHERE WHAT IT READS IS OF BULK AT MOST 1048576: true; the input reads as it did. -/
def segOneUptoRow : OpenClaim := { program := "ythnagnjcbgcnfaa", sum := "6b52c6741a8cd89f64f6dee69e46b5e7bb8d60cb9efffc7661b11d03e8a9822a", func := "tribunal/tribunallaw08.SegOne", spec := "segOne", unfollowed := true, recurses := true, apart := false, narrowed := true }
def SegOneUptoSaid : Prop := segOneUptoRow.holds Try.pinned (OpenSpec.upto segOneSpec)

end Rows
end Go.Proofs.Ythnagnjcbgcnfaa
