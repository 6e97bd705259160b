/-
  DERIVED. GIVEN WITH THE SEED: THE CARDS: each row of YtjomgkiphecljaaGreatDoorRows.lean that lists a variable, with what it lists TIED to the program's text (the seventh form; the later family's looks); each row that meets fmt, with fmt's text TOLD by the authors' own Lean function (tested against real Go, not proved from fmt's source: count such statements apart). THE CARD IS WHAT COUNTS. Prove the row's statement (the work); the ties are given (YtjomgkiphecljaaGreatDoorTie.lean); close each card by the builder's one call (the guide's Derived/Test/ToyasCard.lean, 'card_holds'). Laid BY PROGRAM, IN A SANDBOX (cutbox-door.mjs). By AI agents, Wed Nov 11 2026. No macro, syntax, notation, axiom, sorry.
-/
import Derived.Test.YtjomgkiphecljaaGreatDoorRows
import GoSem.ClaimSeven
namespace Go.Proofs.YtjomgkiphecljaaGreatDoor
namespace Rows

/-- THE TIED CARD OF 'tribunallaw12.ViewsRegisters'. -/
def viewsRegistersCard : Claim7 := { stood := { row := viewsRegistersRow, standIns := [], harness := (true, "eb869327fcdf4092879d2e2ddbb6caee139dccfc47d9a0a670d0c46fd5129833"), looks := true }, kinds := [], alts := [], laidByText := true, laidKinds := [.data], laidTests := true, laidLooks := .later }
def ViewsRegistersCardSaid : Prop := Claim7.holds Tryz.pinned (.plain (OpenSpec.ofChange viewsRegistersSpec)) viewsRegistersCard

/-- THE TIED CARD OF 'tribunallaw12.ViewsReal'. -/
def viewsRealCard : Claim7 := { stood := { row := viewsRealRow, standIns := [], harness := (true, "eb869327fcdf4092879d2e2ddbb6caee139dccfc47d9a0a670d0c46fd5129833"), looks := true }, kinds := [], alts := [], laidByText := true, laidKinds := [.data], laidTests := true, laidLooks := .later }
def ViewsRealCardSaid : Prop := Claim7.holds Tryz.pinned (.plain (OpenSpec.ofChange viewsRealSpec)) viewsRealCard

/-- THE SECOND FORM's CARD OF 'tribunallaw12.ViewsRegisters'. -/
def viewsRegistersUptoCard : Claim7 := { stood := { row := viewsRegistersUptoRow, standIns := [], harness := (true, "eb869327fcdf4092879d2e2ddbb6caee139dccfc47d9a0a670d0c46fd5129833"), looks := true }, kinds := [], alts := [], laidByText := true, laidKinds := [.data], laidTests := true, laidLooks := .later }
def ViewsRegistersUptoCardSaid : Prop := Claim7.holds Tryz.pinned (.plain (OpenSpec.upto viewsRegistersSpec)) viewsRegistersUptoCard

/-- THE SECOND FORM's CARD OF 'tribunallaw12.ViewsReal'. -/
def viewsRealUptoCard : Claim7 := { stood := { row := viewsRealUptoRow, standIns := [], harness := (true, "eb869327fcdf4092879d2e2ddbb6caee139dccfc47d9a0a670d0c46fd5129833"), looks := true }, kinds := [], alts := [], laidByText := true, laidKinds := [.data], laidTests := true, laidLooks := .later }
def ViewsRealUptoCardSaid : Prop := Claim7.holds Tryz.pinned (.plain (OpenSpec.upto viewsRealSpec)) viewsRealUptoCard
end Rows
end Go.Proofs.YtjomgkiphecljaaGreatDoor
