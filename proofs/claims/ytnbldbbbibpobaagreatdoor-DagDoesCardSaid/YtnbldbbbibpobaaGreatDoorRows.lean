/-
  NARROWER THAN 'FOR EVERY INPUT', by the rows' own cells (each row's printed sentence says how): DagDoes: laid · DagClosed: laid · DagKeeps: laid · LineIs: laid · LineBehind: laid · LineParts: laid · LineDepths: laid.
  DERIVED. THE GIVEN ROWS OF THIS SEAT. 7 by the template 'for every input the law returns true; each argument reads behind the call as it read before'; 0 by the template 'total and deterministic' (their statements: YtnbldbbbibpobaaGreatDoorTotals.lean).
  GIVEN WITH THE SEED: the statements are not yours to turn. If you find one false, say at which input.
  Laid BY PROGRAM, IN A SANDBOX (cutbox-rows.mjs): the forced cells as the released guide's own fill.sh prints them over the translation b90b231978b38c3d… (all of the seat's roots in one cut). By AI agents, Wed Nov 11 2026. No macro, syntax, notation, axiom, sorry.
-/
import Derived.Test.YtnbldbbbibpobaaGreatDoorChecked
import GoSem.Claim
import GoSem.ClaimJoined
import GoSem.ClaimMapViews
import Derived.JoinedTies
import Derived.KernelRfl
namespace Go.Proofs.YtnbldbbbibpobaaGreatDoor
/- THE CELL 'sum', in the pinned program and in every row, IS THE sha256 OF THE DUMP (.gsa) THAT YtnbldbbbibpobaaGreatDoorProg.lean LOADS. Nothing in Lean hashes anything: it is a label: what it is worth is what the hold of that sum in a sandbox is worth. -/
noncomputable def Tryz.pinned : Pinned := { name := "ytnbldbbbibpobaagreatdoor", sum := "b90b231978b38c3dd3d768941dab3f6686f3241f148c193429216275e4f8ae3a", checked := Tryz.checked }
namespace Rows
def none {H : Type} : Left H := { results := [], args := [] }

/- WHAT THE LISTED PACKAGE-LEVEL VARIABLES READ AS WHEN THE CALL BEGINS. Each datum BY PROGRAM (the guide's laid-datum.mjs) off the statement by which the dump's own 'gosem.cut.vars' lays the variable. In a bare row this is a premise. The card (YtnbldbbbibpobaaGreatDoorCards.lean) ties it to the program's text. -/
def laid_tribunal_sha_roundConstants {H : Type} : DataW H := .agg [.lit (.int .u32 1116352408), .lit (.int .u32 1899447441), .lit (.int .u32 3049323471), .lit (.int .u32 3921009573), .lit (.int .u32 961987163), .lit (.int .u32 1508970993), .lit (.int .u32 2453635748), .lit (.int .u32 2870763221), .lit (.int .u32 3624381080), .lit (.int .u32 310598401), .lit (.int .u32 607225278), .lit (.int .u32 1426881987), .lit (.int .u32 1925078388), .lit (.int .u32 2162078206), .lit (.int .u32 2614888103), .lit (.int .u32 3248222580), .lit (.int .u32 3835390401), .lit (.int .u32 4022224774), .lit (.int .u32 264347078), .lit (.int .u32 604807628), .lit (.int .u32 770255983), .lit (.int .u32 1249150122), .lit (.int .u32 1555081692), .lit (.int .u32 1996064986), .lit (.int .u32 2554220882), .lit (.int .u32 2821834349), .lit (.int .u32 2952996808), .lit (.int .u32 3210313671), .lit (.int .u32 3336571891), .lit (.int .u32 3584528711), .lit (.int .u32 113926993), .lit (.int .u32 338241895), .lit (.int .u32 666307205), .lit (.int .u32 773529912), .lit (.int .u32 1294757372), .lit (.int .u32 1396182291), .lit (.int .u32 1695183700), .lit (.int .u32 1986661051), .lit (.int .u32 2177026350), .lit (.int .u32 2456956037), .lit (.int .u32 2730485921), .lit (.int .u32 2820302411), .lit (.int .u32 3259730800), .lit (.int .u32 3345764771), .lit (.int .u32 3516065817), .lit (.int .u32 3600352804), .lit (.int .u32 4094571909), .lit (.int .u32 275423344), .lit (.int .u32 430227734), .lit (.int .u32 506948616), .lit (.int .u32 659060556), .lit (.int .u32 883997877), .lit (.int .u32 958139571), .lit (.int .u32 1322822218), .lit (.int .u32 1537002063), .lit (.int .u32 1747873779), .lit (.int .u32 1955562222), .lit (.int .u32 2024104815), .lit (.int .u32 2227730452), .lit (.int .u32 2361852424), .lit (.int .u32 2428436474), .lit (.int .u32 2756734187), .lit (.int .u32 3204031479), .lit (.int .u32 3329325298)]

/-- 'tribunallaw10.DagDoes': WHATEVER THE INPUT: true; the input reads as it did. -/
def dagDoesSpec : ChangeSpec := { name := "dagDoes", fn := fun _ => fun
  | [d1, d2, d3, d4, d5] => { results := [.lit (.bool true)], args := [d1, d2, d3, d4, d5] }
  | _ => none }
def dagDoesRow : OpenClaim := { program := "ytnbldbbbibpobaagreatdoor", sum := "b90b231978b38c3dd3d768941dab3f6686f3241f148c193429216275e4f8ae3a", func := "tribunal/tribunallaw10.DagDoes", spec := "dagDoes", inPlace := ["internal/bytealg.Compare", "internal/abi.NoEscape"], unfollowed := true, recurses := true, named := ["tribunal/sha.roundConstants"], plainKeys := false, apart := false, laid := [("tribunal/sha.roundConstants", laid_tribunal_sha_roundConstants)] }
def DagDoesSaid : Prop := dagDoesRow.holds Tryz.pinned (OpenSpec.ofChange dagDoesSpec)

/-- ITS FALSE NEIGHBOUR: 'it returns false'. Refute it at one input. -/
def dagDoesWrong : ChangeSpec := { name := "dagDoes", fn := fun _ => fun
  | [d1, d2, d3, d4, d5] => { results := [.lit (.bool false)], args := [d1, d2, d3, d4, d5] }
  | _ => none }
def DagDoesWrongFalsely : Prop := dagDoesRow.holds Tryz.pinned (OpenSpec.ofChange dagDoesWrong)

/-- 'tribunallaw10.DagClosed': WHATEVER THE INPUT: true; the input reads as it did. -/
def dagClosedSpec : ChangeSpec := { name := "dagClosed", fn := fun _ => fun
  | [d1, d2] => { results := [.lit (.bool true)], args := [d1, d2] }
  | _ => none }
def dagClosedRow : OpenClaim := { program := "ytnbldbbbibpobaagreatdoor", sum := "b90b231978b38c3dd3d768941dab3f6686f3241f148c193429216275e4f8ae3a", func := "tribunal/tribunallaw10.DagClosed", spec := "dagClosed", inPlace := ["internal/bytealg.Compare", "internal/abi.NoEscape"], unfollowed := true, recurses := true, named := ["tribunal/sha.roundConstants"], plainKeys := false, apart := false, laid := [("tribunal/sha.roundConstants", laid_tribunal_sha_roundConstants)] }
def DagClosedSaid : Prop := dagClosedRow.holds Tryz.pinned (OpenSpec.ofChange dagClosedSpec)

/-- ITS FALSE NEIGHBOUR: 'it returns false'. Refute it at one input. -/
def dagClosedWrong : ChangeSpec := { name := "dagClosed", fn := fun _ => fun
  | [d1, d2] => { results := [.lit (.bool false)], args := [d1, d2] }
  | _ => none }
def DagClosedWrongFalsely : Prop := dagClosedRow.holds Tryz.pinned (OpenSpec.ofChange dagClosedWrong)

/-- 'tribunallaw10.DagKeeps': WHATEVER THE INPUT: true; the input reads as it did. -/
def dagKeepsSpec : ChangeSpec := { name := "dagKeeps", fn := fun _ => fun
  | [d] => { results := [.lit (.bool true)], args := [d] }
  | _ => none }
def dagKeepsRow : OpenClaim := { program := "ytnbldbbbibpobaagreatdoor", sum := "b90b231978b38c3dd3d768941dab3f6686f3241f148c193429216275e4f8ae3a", func := "tribunal/tribunallaw10.DagKeeps", spec := "dagKeeps", inPlace := ["internal/bytealg.Compare", "internal/abi.NoEscape"], unfollowed := true, recurses := true, named := ["tribunal/sha.roundConstants"], plainKeys := false, apart := false, laid := [("tribunal/sha.roundConstants", laid_tribunal_sha_roundConstants)] }
def DagKeepsSaid : Prop := dagKeepsRow.holds Tryz.pinned (OpenSpec.ofChange dagKeepsSpec)

/-- ITS FALSE NEIGHBOUR: 'it returns false'. Refute it at one input. -/
def dagKeepsWrong : ChangeSpec := { name := "dagKeeps", fn := fun _ => fun
  | [d] => { results := [.lit (.bool false)], args := [d] }
  | _ => none }
def DagKeepsWrongFalsely : Prop := dagKeepsRow.holds Tryz.pinned (OpenSpec.ofChange dagKeepsWrong)

/-- 'tribunallaw11.LineIs': WHATEVER THE INPUT: true; the input reads as it did. -/
def lineIsSpec : ChangeSpec := { name := "lineIs", fn := fun _ => fun
  | [d1, d2, d3] => { results := [.lit (.bool true)], args := [d1, d2, d3] }
  | _ => none }
def lineIsRow : OpenClaim := { program := "ytnbldbbbibpobaagreatdoor", sum := "b90b231978b38c3dd3d768941dab3f6686f3241f148c193429216275e4f8ae3a", func := "tribunal/tribunallaw11.LineIs", spec := "lineIs", inPlace := ["internal/bytealg.Compare", "internal/abi.NoEscape"], unfollowed := true, recurses := true, named := ["tribunal/sha.roundConstants"], plainKeys := false, apart := false, laid := [("tribunal/sha.roundConstants", laid_tribunal_sha_roundConstants)] }
def LineIsSaid : Prop := lineIsRow.holds Tryz.pinned (OpenSpec.ofChange lineIsSpec)

/-- ITS FALSE NEIGHBOUR: 'it returns false'. Refute it at one input. -/
def lineIsWrong : ChangeSpec := { name := "lineIs", fn := fun _ => fun
  | [d1, d2, d3] => { results := [.lit (.bool false)], args := [d1, d2, d3] }
  | _ => none }
def LineIsWrongFalsely : Prop := lineIsRow.holds Tryz.pinned (OpenSpec.ofChange lineIsWrong)

/-- 'tribunallaw11.LineBehind': WHATEVER THE INPUT: true; the input reads as it did. -/
def lineBehindSpec : ChangeSpec := { name := "lineBehind", fn := fun _ => fun
  | [d] => { results := [.lit (.bool true)], args := [d] }
  | _ => none }
def lineBehindRow : OpenClaim := { program := "ytnbldbbbibpobaagreatdoor", sum := "b90b231978b38c3dd3d768941dab3f6686f3241f148c193429216275e4f8ae3a", func := "tribunal/tribunallaw11.LineBehind", spec := "lineBehind", inPlace := ["internal/bytealg.Compare", "internal/abi.NoEscape"], unfollowed := true, recurses := true, named := ["tribunal/sha.roundConstants"], plainKeys := false, apart := false, laid := [("tribunal/sha.roundConstants", laid_tribunal_sha_roundConstants)] }
def LineBehindSaid : Prop := lineBehindRow.holds Tryz.pinned (OpenSpec.ofChange lineBehindSpec)

/-- ITS FALSE NEIGHBOUR: 'it returns false'. Refute it at one input. -/
def lineBehindWrong : ChangeSpec := { name := "lineBehind", fn := fun _ => fun
  | [d] => { results := [.lit (.bool false)], args := [d] }
  | _ => none }
def LineBehindWrongFalsely : Prop := lineBehindRow.holds Tryz.pinned (OpenSpec.ofChange lineBehindWrong)

/-- 'tribunallaw11.LineParts': WHATEVER THE INPUT: true; the input reads as it did. -/
def linePartsSpec : ChangeSpec := { name := "lineParts", fn := fun _ => fun
  | [d1, d2, d3, d4] => { results := [.lit (.bool true)], args := [d1, d2, d3, d4] }
  | _ => none }
def linePartsRow : OpenClaim := { program := "ytnbldbbbibpobaagreatdoor", sum := "b90b231978b38c3dd3d768941dab3f6686f3241f148c193429216275e4f8ae3a", func := "tribunal/tribunallaw11.LineParts", spec := "lineParts", inPlace := ["internal/bytealg.Compare", "internal/abi.NoEscape"], unfollowed := true, recurses := true, named := ["tribunal/sha.roundConstants"], plainKeys := false, apart := false, laid := [("tribunal/sha.roundConstants", laid_tribunal_sha_roundConstants)] }
def LinePartsSaid : Prop := linePartsRow.holds Tryz.pinned (OpenSpec.ofChange linePartsSpec)

/-- ITS FALSE NEIGHBOUR: 'it returns false'. Refute it at one input. -/
def linePartsWrong : ChangeSpec := { name := "lineParts", fn := fun _ => fun
  | [d1, d2, d3, d4] => { results := [.lit (.bool false)], args := [d1, d2, d3, d4] }
  | _ => none }
def LinePartsWrongFalsely : Prop := linePartsRow.holds Tryz.pinned (OpenSpec.ofChange linePartsWrong)

/-- 'tribunallaw11.LineDepths': WHATEVER THE INPUT: true; the input reads as it did. -/
def lineDepthsSpec : ChangeSpec := { name := "lineDepths", fn := fun _ => fun
  | [d] => { results := [.lit (.bool true)], args := [d] }
  | _ => none }
def lineDepthsRow : OpenClaim := { program := "ytnbldbbbibpobaagreatdoor", sum := "b90b231978b38c3dd3d768941dab3f6686f3241f148c193429216275e4f8ae3a", func := "tribunal/tribunallaw11.LineDepths", spec := "lineDepths", inPlace := ["internal/bytealg.Compare", "internal/abi.NoEscape"], unfollowed := true, recurses := true, named := ["tribunal/sha.roundConstants"], plainKeys := false, apart := false, laid := [("tribunal/sha.roundConstants", laid_tribunal_sha_roundConstants)] }
def LineDepthsSaid : Prop := lineDepthsRow.holds Tryz.pinned (OpenSpec.ofChange lineDepthsSpec)

/-- ITS FALSE NEIGHBOUR: 'it returns false'. Refute it at one input. -/
def lineDepthsWrong : ChangeSpec := { name := "lineDepths", fn := fun _ => fun
  | [d] => { results := [.lit (.bool false)], args := [d] }
  | _ => none }
def LineDepthsWrongFalsely : Prop := lineDepthsRow.holds Tryz.pinned (OpenSpec.ofChange lineDepthsWrong)

/- THE SECOND FORM. 'bulk': how many values and letters a reading holds, each counted each time it is reached (what is shared counts as often as it is met; a slice's spare places count too). A statement '..UptoSaid' is the law's where the arguments, and the package variables that the reading takes, are together of bulk at most 1048576: NARROWER than '..Said'. Prove '..Said' where nothing that the law and all that it calls make is longer than what came in: it says more and counts as full. Else prove '..UptoSaid'. A law counts once. -/
mutual
def uptoBulk {H : Type} : DataW H → Nat
  | .lit (.string bytes) => bytes.length + 1
  | .lit _ => 1
  | .nil => 1
  | .ptr d => uptoBulk d + 1
  | .slice elems spare => uptoBulkAll elems + uptoBulkAll spare + 1
  | .agg parts => uptoBulkAll parts + 1
  | .iface _ d => uptoBulk d + 1
  | .map entries => uptoBulkEntries entries + 1
  | .held _ => 1
def uptoBulkAll {H : Type} : List (DataW H) → Nat
  | [] => 0
  | d :: r => uptoBulk d + uptoBulkAll r
def uptoBulkEntries {H : Type} : List (Lit × DataW H) → Nat
  | [] => 0
  | x :: r => uptoBulkEntry x + uptoBulkEntries r
def uptoBulkEntry {H : Type} : Lit × DataW H → Nat
  | (.string bytes, d) => bytes.length + uptoBulk d + 1
  | (_, d) => uptoBulk d + 1
 end
def uptoSmall : (H : Type) → List (DataW H) → Bool := fun _ ds => decide (uptoBulkAll ds ≤ 1048576)
def OpenSpec.upto (s : _root_.Go.ChangeSpec) : _root_.Go.OpenSpec := { _root_.Go.OpenSpec.ofChange s with cond := some uptoSmall }

/-- 'tribunallaw10.DagDoes', WHERE WHAT IT READS IS OF BULK AT MOST 1048576: true; the input reads as it did. -/
def dagDoesUptoRow : OpenClaim := { program := "ytnbldbbbibpobaagreatdoor", sum := "b90b231978b38c3dd3d768941dab3f6686f3241f148c193429216275e4f8ae3a", func := "tribunal/tribunallaw10.DagDoes", spec := "dagDoes", inPlace := ["internal/bytealg.Compare", "internal/abi.NoEscape"], unfollowed := true, recurses := true, named := ["tribunal/sha.roundConstants"], plainKeys := false, apart := false, laid := [("tribunal/sha.roundConstants", laid_tribunal_sha_roundConstants)], narrowed := true }
def DagDoesUptoSaid : Prop := dagDoesUptoRow.holds Tryz.pinned (OpenSpec.upto dagDoesSpec)

/-- 'tribunallaw10.DagClosed', WHERE WHAT IT READS IS OF BULK AT MOST 1048576: true; the input reads as it did. -/
def dagClosedUptoRow : OpenClaim := { program := "ytnbldbbbibpobaagreatdoor", sum := "b90b231978b38c3dd3d768941dab3f6686f3241f148c193429216275e4f8ae3a", func := "tribunal/tribunallaw10.DagClosed", spec := "dagClosed", inPlace := ["internal/bytealg.Compare", "internal/abi.NoEscape"], unfollowed := true, recurses := true, named := ["tribunal/sha.roundConstants"], plainKeys := false, apart := false, laid := [("tribunal/sha.roundConstants", laid_tribunal_sha_roundConstants)], narrowed := true }
def DagClosedUptoSaid : Prop := dagClosedUptoRow.holds Tryz.pinned (OpenSpec.upto dagClosedSpec)

/-- 'tribunallaw10.DagKeeps', WHERE WHAT IT READS IS OF BULK AT MOST 1048576: true; the input reads as it did. -/
def dagKeepsUptoRow : OpenClaim := { program := "ytnbldbbbibpobaagreatdoor", sum := "b90b231978b38c3dd3d768941dab3f6686f3241f148c193429216275e4f8ae3a", func := "tribunal/tribunallaw10.DagKeeps", spec := "dagKeeps", inPlace := ["internal/bytealg.Compare", "internal/abi.NoEscape"], unfollowed := true, recurses := true, named := ["tribunal/sha.roundConstants"], plainKeys := false, apart := false, laid := [("tribunal/sha.roundConstants", laid_tribunal_sha_roundConstants)], narrowed := true }
def DagKeepsUptoSaid : Prop := dagKeepsUptoRow.holds Tryz.pinned (OpenSpec.upto dagKeepsSpec)

/-- 'tribunallaw11.LineIs', WHERE WHAT IT READS IS OF BULK AT MOST 1048576: true; the input reads as it did. -/
def lineIsUptoRow : OpenClaim := { program := "ytnbldbbbibpobaagreatdoor", sum := "b90b231978b38c3dd3d768941dab3f6686f3241f148c193429216275e4f8ae3a", func := "tribunal/tribunallaw11.LineIs", spec := "lineIs", inPlace := ["internal/bytealg.Compare", "internal/abi.NoEscape"], unfollowed := true, recurses := true, named := ["tribunal/sha.roundConstants"], plainKeys := false, apart := false, laid := [("tribunal/sha.roundConstants", laid_tribunal_sha_roundConstants)], narrowed := true }
def LineIsUptoSaid : Prop := lineIsUptoRow.holds Tryz.pinned (OpenSpec.upto lineIsSpec)

/-- 'tribunallaw11.LineBehind', WHERE WHAT IT READS IS OF BULK AT MOST 1048576: true; the input reads as it did. -/
def lineBehindUptoRow : OpenClaim := { program := "ytnbldbbbibpobaagreatdoor", sum := "b90b231978b38c3dd3d768941dab3f6686f3241f148c193429216275e4f8ae3a", func := "tribunal/tribunallaw11.LineBehind", spec := "lineBehind", inPlace := ["internal/bytealg.Compare", "internal/abi.NoEscape"], unfollowed := true, recurses := true, named := ["tribunal/sha.roundConstants"], plainKeys := false, apart := false, laid := [("tribunal/sha.roundConstants", laid_tribunal_sha_roundConstants)], narrowed := true }
def LineBehindUptoSaid : Prop := lineBehindUptoRow.holds Tryz.pinned (OpenSpec.upto lineBehindSpec)

/-- 'tribunallaw11.LineParts', WHERE WHAT IT READS IS OF BULK AT MOST 1048576: true; the input reads as it did. -/
def linePartsUptoRow : OpenClaim := { program := "ytnbldbbbibpobaagreatdoor", sum := "b90b231978b38c3dd3d768941dab3f6686f3241f148c193429216275e4f8ae3a", func := "tribunal/tribunallaw11.LineParts", spec := "lineParts", inPlace := ["internal/bytealg.Compare", "internal/abi.NoEscape"], unfollowed := true, recurses := true, named := ["tribunal/sha.roundConstants"], plainKeys := false, apart := false, laid := [("tribunal/sha.roundConstants", laid_tribunal_sha_roundConstants)], narrowed := true }
def LinePartsUptoSaid : Prop := linePartsUptoRow.holds Tryz.pinned (OpenSpec.upto linePartsSpec)

/-- 'tribunallaw11.LineDepths', WHERE WHAT IT READS IS OF BULK AT MOST 1048576: true; the input reads as it did. -/
def lineDepthsUptoRow : OpenClaim := { program := "ytnbldbbbibpobaagreatdoor", sum := "b90b231978b38c3dd3d768941dab3f6686f3241f148c193429216275e4f8ae3a", func := "tribunal/tribunallaw11.LineDepths", spec := "lineDepths", inPlace := ["internal/bytealg.Compare", "internal/abi.NoEscape"], unfollowed := true, recurses := true, named := ["tribunal/sha.roundConstants"], plainKeys := false, apart := false, laid := [("tribunal/sha.roundConstants", laid_tribunal_sha_roundConstants)], narrowed := true }
def LineDepthsUptoSaid : Prop := lineDepthsUptoRow.holds Tryz.pinned (OpenSpec.upto lineDepthsSpec)

end Rows
end Go.Proofs.YtnbldbbbibpobaaGreatDoor
