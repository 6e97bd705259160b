/-
  DERIVED. GIVEN WITH THE SEED: THE CARDS: each row of YtpfhlhcnmeodbaaGreatDoorRows.lean that lists a variable, with what it lists TIED to the program's text (the seventh form; the later family's looks); each row that meets fmt, with fmt's text TOLD by the authors' own Lean function (tested against real Go, not proved from fmt's source: count such statements apart). THE CARD IS WHAT COUNTS. Prove the row's statement (the work); the ties are given (YtpfhlhcnmeodbaaGreatDoorTie.lean); close each card by the builder's one call (the guide's Derived/Test/ToyasCard.lean, 'card_holds'). Laid BY PROGRAM, IN A SANDBOX (cutbox-door.mjs). By AI agents, Wed Nov 11 2026. No macro, syntax, notation, axiom, sorry.
-/
import Derived.Test.YtpfhlhcnmeodbaaGreatDoorRows
import GoSem.ClaimSeven
namespace Go.Proofs.YtpfhlhcnmeodbaaGreatDoor
namespace Rows

/-- THE TIED CARD OF 'tribunallaw16.ChainLogs'. -/
def chainLogsCard : Claim7 := { stood := { row := chainLogsRow, standIns := [], harness := (true, "6c8e081b010e38f4dd3e2a4c1f6660daa5d58ae727e06cfe91c6c54bc7c0c65f"), looks := false }, kinds := [], alts := [], laidByText := true, laidKinds := [.data], laidTests := true, laidLooks := .later }
def ChainLogsCardSaid : Prop := Claim7.holds Tryz.pinned (.plain (OpenSpec.ofChange chainLogsSpec)) chainLogsCard

/-- THE SECOND FORM's CARD OF 'tribunallaw16.ChainLogs'. -/
def chainLogsUptoCard : Claim7 := { stood := { row := chainLogsUptoRow, standIns := [], harness := (true, "6c8e081b010e38f4dd3e2a4c1f6660daa5d58ae727e06cfe91c6c54bc7c0c65f"), looks := false }, kinds := [], alts := [], laidByText := true, laidKinds := [.data], laidTests := true, laidLooks := .later }
def ChainLogsUptoCardSaid : Prop := Claim7.holds Tryz.pinned (.plain (OpenSpec.upto chainLogsSpec)) chainLogsUptoCard
end Rows
end Go.Proofs.YtpfhlhcnmeodbaaGreatDoor
