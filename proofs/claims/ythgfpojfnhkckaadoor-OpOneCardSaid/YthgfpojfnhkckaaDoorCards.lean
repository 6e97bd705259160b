/-
  DERIVED. GIVEN WITH THE SEED: THE CARDS: each row of YthgfpojfnhkckaaDoorRows.lean that lists a variable, with what it lists TIED to the program's text (the seventh form; the later family's looks); each row that meets fmt, with fmt's text TOLD by the authors' own Lean function (tested against real Go, not proved from fmt's source: count such statements apart). THE CARD IS WHAT COUNTS. Prove the row's statement (the work); the ties are given (YthgfpojfnhkckaaDoorTie.lean); close each card by the builder's one call (the guide's Derived/Test/ToyasCard.lean, 'card_holds'). Laid BY PROGRAM, IN A SANDBOX (cutbox-door.mjs). By AI agents, Wed Nov 11 2026. No macro, syntax, notation, axiom, sorry.
-/
import Derived.Test.YthgfpojfnhkckaaDoorRows
import GoSem.ClaimSeven
namespace Go.Proofs.YthgfpojfnhkckaaDoor
namespace Rows

/-- THE TIED CARD OF 'tribunallaw09.OpWrites'. -/
def opWritesCard : Claim7 := { stood := { row := opWritesRow, standIns := [], harness := (true, "6cc6e1bec2922311be9048fe9ab91903313ddbf7e13176789189420ce5be7109"), looks := false }, kinds := [], alts := [], laidByText := true, laidKinds := [.data], laidTests := true, laidLooks := .later }
def OpWritesCardSaid : Prop := Claim7.holds Tryd.pinned (.plain (OpenSpec.ofChange opWritesSpec)) opWritesCard

/-- THE TIED CARD OF 'tribunallaw09.OpOne'. -/
def opOneCard : Claim7 := { stood := { row := opOneRow, standIns := [], harness := (true, "6cc6e1bec2922311be9048fe9ab91903313ddbf7e13176789189420ce5be7109"), looks := false }, kinds := [], alts := [], laidByText := true, laidKinds := [.data], laidTests := true, laidLooks := .later }
def OpOneCardSaid : Prop := Claim7.holds Tryd.pinned (.plain (OpenSpec.ofChange opOneSpec)) opOneCard

/-- THE SECOND FORM's CARD OF 'tribunallaw09.OpWrites'. -/
def opWritesUptoCard : Claim7 := { stood := { row := opWritesUptoRow, standIns := [], harness := (true, "6cc6e1bec2922311be9048fe9ab91903313ddbf7e13176789189420ce5be7109"), looks := false }, kinds := [], alts := [], laidByText := true, laidKinds := [.data], laidTests := true, laidLooks := .later }
def OpWritesUptoCardSaid : Prop := Claim7.holds Tryd.pinned (.plain (OpenSpec.upto opWritesSpec)) opWritesUptoCard

/-- THE SECOND FORM's CARD OF 'tribunallaw09.OpOne'. -/
def opOneUptoCard : Claim7 := { stood := { row := opOneUptoRow, standIns := [], harness := (true, "6cc6e1bec2922311be9048fe9ab91903313ddbf7e13176789189420ce5be7109"), looks := false }, kinds := [], alts := [], laidByText := true, laidKinds := [.data], laidTests := true, laidLooks := .later }
def OpOneUptoCardSaid : Prop := Claim7.holds Tryd.pinned (.plain (OpenSpec.upto opOneSpec)) opOneUptoCard
end Rows
end Go.Proofs.YthgfpojfnhkckaaDoor
