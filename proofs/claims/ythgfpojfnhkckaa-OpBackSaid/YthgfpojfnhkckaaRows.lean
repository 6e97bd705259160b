/-
  No cell of these rows narrows 'for every input' (looked for: loops, veiled, ifaces, maps, wideKeys, modest, calm, conditions, laid).
  DERIVED. THE GIVEN ROWS OF THIS SEAT. 4 by the template 'for every input the law returns true; each argument reads behind the call as it read before'; 0 by the template 'total and deterministic' (their statements: YthgfpojfnhkckaaTotals.lean).
  GIVEN WITH THE SEED: the statements are not yours to turn. If you find one false, say at which input.
  Laid BY PROGRAM, IN A SANDBOX (cutbox-rows.mjs): the forced cells as the released guide's own fill.sh prints them over the translation e48560d9269eb7db… (all of the seat's roots in one cut). By AI agents, Wed Nov 11 2026. No macro, syntax, notation, axiom, sorry.
-/
import Derived.Test.YthgfpojfnhkckaaChecked
import GoSem.Claim
import GoSem.ClaimJoined
import GoSem.ClaimMapViews
import Derived.JoinedTies
import Derived.KernelRfl
namespace Go.Proofs.Ythgfpojfnhkckaa
/- THE CELL 'sum', in the pinned program and in every row, IS THE sha256 OF THE DUMP (.gsa) THAT YthgfpojfnhkckaaProg.lean LOADS. Nothing in Lean hashes anything: it is a label: what it is worth is what the hold of that sum in a sandbox is worth. -/
noncomputable def Try.pinned : Pinned := { name := "ythgfpojfnhkckaa", sum := "e48560d9269eb7dbcb5753307dda20233f8b762fb9bad3fbf4e9f7ba5ee03536", checked := Try.checked }
namespace Rows
def none {H : Type} : Left H := { results := [], args := [] }

/-- 'tribunallaw09.OpGood': WHATEVER THE INPUT: true; the input reads as it did. -/
def opGoodSpec : ChangeSpec := { name := "opGood", fn := fun _ => fun
  | [d1, d2, d3] => { results := [.lit (.bool true)], args := [d1, d2, d3] }
  | _ => none }
def opGoodRow : OpenClaim := { program := "ythgfpojfnhkckaa", sum := "e48560d9269eb7dbcb5753307dda20233f8b762fb9bad3fbf4e9f7ba5ee03536", func := "tribunal/tribunallaw09.OpGood", spec := "opGood", inPlace := ["internal/bytealg.Compare", "internal/abi.NoEscape"], apart := false }
def OpGoodSaid : Prop := opGoodRow.holds Try.pinned (OpenSpec.ofChange opGoodSpec)

/-- ITS FALSE NEIGHBOUR: 'it returns false'. Refute it at one input. -/
def opGoodWrong : ChangeSpec := { name := "opGood", fn := fun _ => fun
  | [d1, d2, d3] => { results := [.lit (.bool false)], args := [d1, d2, d3] }
  | _ => none }
def OpGoodWrongFalsely : Prop := opGoodRow.holds Try.pinned (OpenSpec.ofChange opGoodWrong)

/-- 'tribunallaw09.OpReads': WHATEVER THE INPUT: true; the input reads as it did. -/
def opReadsSpec : ChangeSpec := { name := "opReads", fn := fun _ => fun
  | [d] => { results := [.lit (.bool true)], args := [d] }
  | _ => none }
def opReadsRow : OpenClaim := { program := "ythgfpojfnhkckaa", sum := "e48560d9269eb7dbcb5753307dda20233f8b762fb9bad3fbf4e9f7ba5ee03536", func := "tribunal/tribunallaw09.OpReads", spec := "opReads", inPlace := ["internal/bytealg.Compare", "internal/abi.NoEscape"], apart := false }
def OpReadsSaid : Prop := opReadsRow.holds Try.pinned (OpenSpec.ofChange opReadsSpec)

/-- ITS FALSE NEIGHBOUR: 'it returns false'. Refute it at one input. -/
def opReadsWrong : ChangeSpec := { name := "opReads", fn := fun _ => fun
  | [d] => { results := [.lit (.bool false)], args := [d] }
  | _ => none }
def OpReadsWrongFalsely : Prop := opReadsRow.holds Try.pinned (OpenSpec.ofChange opReadsWrong)

/-- 'tribunallaw09.OpBack': WHATEVER THE INPUT: true; the input reads as it did. -/
def opBackSpec : ChangeSpec := { name := "opBack", fn := fun _ => fun
  | [d] => { results := [.lit (.bool true)], args := [d] }
  | _ => none }
def opBackRow : OpenClaim := { program := "ythgfpojfnhkckaa", sum := "e48560d9269eb7dbcb5753307dda20233f8b762fb9bad3fbf4e9f7ba5ee03536", func := "tribunal/tribunallaw09.OpBack", spec := "opBack", inPlace := ["internal/bytealg.Compare", "internal/abi.NoEscape"], apart := false }
def OpBackSaid : Prop := opBackRow.holds Try.pinned (OpenSpec.ofChange opBackSpec)

/-- ITS FALSE NEIGHBOUR: 'it returns false'. Refute it at one input. -/
def opBackWrong : ChangeSpec := { name := "opBack", fn := fun _ => fun
  | [d] => { results := [.lit (.bool false)], args := [d] }
  | _ => none }
def OpBackWrongFalsely : Prop := opBackRow.holds Try.pinned (OpenSpec.ofChange opBackWrong)

/-- 'tribunallaw09.OpDrafts': WHATEVER THE INPUT: true; the input reads as it did. -/
def opDraftsSpec : ChangeSpec := { name := "opDrafts", fn := fun _ => fun
  | [d1, d2] => { results := [.lit (.bool true)], args := [d1, d2] }
  | _ => none }
def opDraftsRow : OpenClaim := { program := "ythgfpojfnhkckaa", sum := "e48560d9269eb7dbcb5753307dda20233f8b762fb9bad3fbf4e9f7ba5ee03536", func := "tribunal/tribunallaw09.OpDrafts", spec := "opDrafts", inPlace := ["internal/bytealg.Compare", "internal/abi.NoEscape"], apart := false }
def OpDraftsSaid : Prop := opDraftsRow.holds Try.pinned (OpenSpec.ofChange opDraftsSpec)

/-- ITS FALSE NEIGHBOUR: 'it returns false'. Refute it at one input. -/
def opDraftsWrong : ChangeSpec := { name := "opDrafts", fn := fun _ => fun
  | [d1, d2] => { results := [.lit (.bool false)], args := [d1, d2] }
  | _ => none }
def OpDraftsWrongFalsely : Prop := opDraftsRow.holds Try.pinned (OpenSpec.ofChange opDraftsWrong)

/- THE SECOND FORM. 'bulk': how many values and letters a reading holds, each counted each time it is reached (what is shared counts as often as it is met; a slice's spare places count too). A statement '..UptoSaid' is the law's where the arguments, and the package variables that the reading takes, are together of bulk at most 1048576: NARROWER than '..Said'. Prove '..Said' where nothing that the law and all that it calls make is longer than what came in: it says more and counts as full. Else prove '..UptoSaid'. A law counts once. -/
mutual
def uptoBulk {H : Type} : DataW H → Nat
  | .lit (.string bytes) => bytes.length + 1
  | .lit _ => 1
  | .nil => 1
  | .ptr d => uptoBulk d + 1
  | .slice elems spare => uptoBulkAll elems + uptoBulkAll spare + 1
  | .agg parts => uptoBulkAll parts + 1
  | .iface _ d => uptoBulk d + 1
  | .map entries => uptoBulkEntries entries + 1
  | .held _ => 1
def uptoBulkAll {H : Type} : List (DataW H) → Nat
  | [] => 0
  | d :: r => uptoBulk d + uptoBulkAll r
def uptoBulkEntries {H : Type} : List (Lit × DataW H) → Nat
  | [] => 0
  | x :: r => uptoBulkEntry x + uptoBulkEntries r
def uptoBulkEntry {H : Type} : Lit × DataW H → Nat
  | (.string bytes, d) => bytes.length + uptoBulk d + 1
  | (_, d) => uptoBulk d + 1
 end
def uptoSmall : (H : Type) → List (DataW H) → Bool := fun _ ds => decide (uptoBulkAll ds ≤ 1048576)
def OpenSpec.upto (s : _root_.Go.ChangeSpec) : _root_.Go.OpenSpec := { _root_.Go.OpenSpec.ofChange s with cond := some uptoSmall }

/-- 'tribunallaw09.OpGood', WHERE WHAT IT READS IS OF BULK AT MOST 1048576: true; the input reads as it did. -/
def opGoodUptoRow : OpenClaim := { program := "ythgfpojfnhkckaa", sum := "e48560d9269eb7dbcb5753307dda20233f8b762fb9bad3fbf4e9f7ba5ee03536", func := "tribunal/tribunallaw09.OpGood", spec := "opGood", inPlace := ["internal/bytealg.Compare", "internal/abi.NoEscape"], apart := false, narrowed := true }
def OpGoodUptoSaid : Prop := opGoodUptoRow.holds Try.pinned (OpenSpec.upto opGoodSpec)

/-- 'tribunallaw09.OpReads', WHERE WHAT IT READS IS OF BULK AT MOST 1048576: true; the input reads as it did. -/
def opReadsUptoRow : OpenClaim := { program := "ythgfpojfnhkckaa", sum := "e48560d9269eb7dbcb5753307dda20233f8b762fb9bad3fbf4e9f7ba5ee03536", func := "tribunal/tribunallaw09.OpReads", spec := "opReads", inPlace := ["internal/bytealg.Compare", "internal/abi.NoEscape"], apart := false, narrowed := true }
def OpReadsUptoSaid : Prop := opReadsUptoRow.holds Try.pinned (OpenSpec.upto opReadsSpec)

/-- 'tribunallaw09.OpBack', WHERE WHAT IT READS IS OF BULK AT MOST 1048576: true; the input reads as it did. -/
def opBackUptoRow : OpenClaim := { program := "ythgfpojfnhkckaa", sum := "e48560d9269eb7dbcb5753307dda20233f8b762fb9bad3fbf4e9f7ba5ee03536", func := "tribunal/tribunallaw09.OpBack", spec := "opBack", inPlace := ["internal/bytealg.Compare", "internal/abi.NoEscape"], apart := false, narrowed := true }
def OpBackUptoSaid : Prop := opBackUptoRow.holds Try.pinned (OpenSpec.upto opBackSpec)

/-- 'tribunallaw09.OpDrafts', WHERE WHAT IT READS IS OF BULK AT MOST 1048576: true; the input reads as it did. -/
def opDraftsUptoRow : OpenClaim := { program := "ythgfpojfnhkckaa", sum := "e48560d9269eb7dbcb5753307dda20233f8b762fb9bad3fbf4e9f7ba5ee03536", func := "tribunal/tribunallaw09.OpDrafts", spec := "opDrafts", inPlace := ["internal/bytealg.Compare", "internal/abi.NoEscape"], apart := false, narrowed := true }
def OpDraftsUptoSaid : Prop := opDraftsUptoRow.holds Try.pinned (OpenSpec.upto opDraftsSpec)

end Rows
end Go.Proofs.Ythgfpojfnhkckaa
