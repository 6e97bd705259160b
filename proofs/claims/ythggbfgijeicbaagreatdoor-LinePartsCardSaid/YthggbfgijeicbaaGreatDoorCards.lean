/-
  DERIVED. GIVEN WITH THE SEED: THE CARDS: each row of YthggbfgijeicbaaGreatDoorRows.lean that lists a variable, with what it lists TIED to the program's text (the seventh form; the later family's looks); each row that meets fmt, with fmt's text TOLD by the authors' own Lean function (tested against real Go, not proved from fmt's source: count such statements apart). THE CARD IS WHAT COUNTS. Prove the row's statement (the work); the ties are given (YthggbfgijeicbaaGreatDoorTie.lean); close each card by the builder's one call (the guide's Derived/Test/ToyasCard.lean, 'card_holds'). Laid BY PROGRAM, IN A SANDBOX (cutbox-door.mjs). By AI agents, Wed Nov 11 2026. No macro, syntax, notation, axiom, sorry.
-/
import Derived.Test.YthggbfgijeicbaaGreatDoorRows
import GoSem.ClaimSeven
namespace Go.Proofs.YthggbfgijeicbaaGreatDoor
namespace Rows

/-- THE TIED CARD OF 'tribunallaw11.LineIs'. -/
def lineIsCard : Claim7 := { stood := { row := lineIsRow, standIns := [], harness := (true, "a159ba3433771e595c47cd8866dbf23df26263c6dd528347dffff9b00254cef0"), looks := true }, kinds := [], alts := [], laidByText := true, laidKinds := [.data], laidTests := true, laidLooks := .later }
def LineIsCardSaid : Prop := Claim7.holds Tryz.pinned (.plain (OpenSpec.ofChange lineIsSpec)) lineIsCard

/-- THE TIED CARD OF 'tribunallaw11.LineBehind'. -/
def lineBehindCard : Claim7 := { stood := { row := lineBehindRow, standIns := [], harness := (true, "a159ba3433771e595c47cd8866dbf23df26263c6dd528347dffff9b00254cef0"), looks := true }, kinds := [], alts := [], laidByText := true, laidKinds := [.data], laidTests := true, laidLooks := .later }
def LineBehindCardSaid : Prop := Claim7.holds Tryz.pinned (.plain (OpenSpec.ofChange lineBehindSpec)) lineBehindCard

/-- THE TIED CARD OF 'tribunallaw11.LineParts'. -/
def linePartsCard : Claim7 := { stood := { row := linePartsRow, standIns := [], harness := (true, "a159ba3433771e595c47cd8866dbf23df26263c6dd528347dffff9b00254cef0"), looks := true }, kinds := [], alts := [], laidByText := true, laidKinds := [.data], laidTests := true, laidLooks := .later }
def LinePartsCardSaid : Prop := Claim7.holds Tryz.pinned (.plain (OpenSpec.ofChange linePartsSpec)) linePartsCard

/-- THE TIED CARD OF 'tribunallaw11.LineDepths'. -/
def lineDepthsCard : Claim7 := { stood := { row := lineDepthsRow, standIns := [], harness := (true, "a159ba3433771e595c47cd8866dbf23df26263c6dd528347dffff9b00254cef0"), looks := true }, kinds := [], alts := [], laidByText := true, laidKinds := [.data], laidTests := true, laidLooks := .later }
def LineDepthsCardSaid : Prop := Claim7.holds Tryz.pinned (.plain (OpenSpec.ofChange lineDepthsSpec)) lineDepthsCard

/-- THE SECOND FORM's CARD OF 'tribunallaw11.LineIs'. -/
def lineIsUptoCard : Claim7 := { stood := { row := lineIsUptoRow, standIns := [], harness := (true, "a159ba3433771e595c47cd8866dbf23df26263c6dd528347dffff9b00254cef0"), looks := true }, kinds := [], alts := [], laidByText := true, laidKinds := [.data], laidTests := true, laidLooks := .later }
def LineIsUptoCardSaid : Prop := Claim7.holds Tryz.pinned (.plain (OpenSpec.upto lineIsSpec)) lineIsUptoCard

/-- THE SECOND FORM's CARD OF 'tribunallaw11.LineBehind'. -/
def lineBehindUptoCard : Claim7 := { stood := { row := lineBehindUptoRow, standIns := [], harness := (true, "a159ba3433771e595c47cd8866dbf23df26263c6dd528347dffff9b00254cef0"), looks := true }, kinds := [], alts := [], laidByText := true, laidKinds := [.data], laidTests := true, laidLooks := .later }
def LineBehindUptoCardSaid : Prop := Claim7.holds Tryz.pinned (.plain (OpenSpec.upto lineBehindSpec)) lineBehindUptoCard

/-- THE SECOND FORM's CARD OF 'tribunallaw11.LineParts'. -/
def linePartsUptoCard : Claim7 := { stood := { row := linePartsUptoRow, standIns := [], harness := (true, "a159ba3433771e595c47cd8866dbf23df26263c6dd528347dffff9b00254cef0"), looks := true }, kinds := [], alts := [], laidByText := true, laidKinds := [.data], laidTests := true, laidLooks := .later }
def LinePartsUptoCardSaid : Prop := Claim7.holds Tryz.pinned (.plain (OpenSpec.upto linePartsSpec)) linePartsUptoCard

/-- THE SECOND FORM's CARD OF 'tribunallaw11.LineDepths'. -/
def lineDepthsUptoCard : Claim7 := { stood := { row := lineDepthsUptoRow, standIns := [], harness := (true, "a159ba3433771e595c47cd8866dbf23df26263c6dd528347dffff9b00254cef0"), looks := true }, kinds := [], alts := [], laidByText := true, laidKinds := [.data], laidTests := true, laidLooks := .later }
def LineDepthsUptoCardSaid : Prop := Claim7.holds Tryz.pinned (.plain (OpenSpec.upto lineDepthsSpec)) lineDepthsUptoCard
end Rows
end Go.Proofs.YthggbfgijeicbaaGreatDoor
