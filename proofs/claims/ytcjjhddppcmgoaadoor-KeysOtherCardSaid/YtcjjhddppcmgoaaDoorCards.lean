/-
  DERIVED. GIVEN WITH THE SEED: THE CARDS: each row of YtcjjhddppcmgoaaDoorRows.lean that lists a variable, with what it lists TIED to the program's text (the seventh form; the later family's looks); each row that meets fmt, with fmt's text TOLD by the authors' own Lean function (tested against real Go, not proved from fmt's source: count such statements apart). THE CARD IS WHAT COUNTS. Prove the row's statement (the work); the ties are given (YtcjjhddppcmgoaaDoorTie.lean); close each card by the builder's one call (the guide's Derived/Test/ToyasCard.lean, 'card_holds'). Laid BY PROGRAM, IN A SANDBOX (cutbox-door.mjs). By AI agents, Wed Nov 11 2026. No macro, syntax, notation, axiom, sorry.
-/
import Derived.Test.YtcjjhddppcmgoaaDoorRows
import GoSem.ClaimSeven
namespace Go.Proofs.YtcjjhddppcmgoaaDoor
namespace Rows

/-- THE TIED CARD OF 'tribunallaw06.KeysAre'. -/
def keysAreCard : Claim7 := { stood := { row := keysAreRow, standIns := [], harness := (true, "c761f61602c9fd8f9868a914aca980d9b5271691f3f263ccde5a90a2990e155e"), looks := false }, kinds := [], alts := [], laidByText := true, laidKinds := [.data], laidTests := true, laidLooks := .later }
def KeysAreCardSaid : Prop := Claim7.holds Tryd.pinned (.plain (OpenSpec.ofChange keysAreSpec)) keysAreCard

/-- THE TIED CARD OF 'tribunallaw06.KeysSign'. -/
def keysSignCard : Claim7 := { stood := { row := keysSignRow, standIns := [], harness := (true, "c761f61602c9fd8f9868a914aca980d9b5271691f3f263ccde5a90a2990e155e"), looks := false }, kinds := [], alts := [], laidByText := true, laidKinds := [.data], laidTests := true, laidLooks := .later }
def KeysSignCardSaid : Prop := Claim7.holds Tryd.pinned (.plain (OpenSpec.ofChange keysSignSpec)) keysSignCard

/-- THE TIED CARD OF 'tribunallaw06.KeysVerify'. -/
def keysVerifyCard : Claim7 := { stood := { row := keysVerifyRow, standIns := [], harness := (true, "c761f61602c9fd8f9868a914aca980d9b5271691f3f263ccde5a90a2990e155e"), looks := false }, kinds := [], alts := [], laidByText := true, laidKinds := [.data], laidTests := true, laidLooks := .later }
def KeysVerifyCardSaid : Prop := Claim7.holds Tryd.pinned (.plain (OpenSpec.ofChange keysVerifySpec)) keysVerifyCard

/-- THE TIED CARD OF 'tribunallaw06.KeysOther'. -/
def keysOtherCard : Claim7 := { stood := { row := keysOtherRow, standIns := [], harness := (true, "c761f61602c9fd8f9868a914aca980d9b5271691f3f263ccde5a90a2990e155e"), looks := false }, kinds := [], alts := [], laidByText := true, laidKinds := [.data], laidTests := true, laidLooks := .later }
def KeysOtherCardSaid : Prop := Claim7.holds Tryd.pinned (.plain (OpenSpec.ofChange keysOtherSpec)) keysOtherCard

/-- THE TIED CARD OF 'tribunallaw06.KeysApart'. -/
def keysApartCard : Claim7 := { stood := { row := keysApartRow, standIns := [], harness := (true, "c761f61602c9fd8f9868a914aca980d9b5271691f3f263ccde5a90a2990e155e"), looks := false }, kinds := [], alts := [], laidByText := true, laidKinds := [.data], laidTests := true, laidLooks := .later }
def KeysApartCardSaid : Prop := Claim7.holds Tryd.pinned (.plain (OpenSpec.ofChange keysApartSpec)) keysApartCard

/-- THE SECOND FORM's CARD OF 'tribunallaw06.KeysAre'. -/
def keysAreUptoCard : Claim7 := { stood := { row := keysAreUptoRow, standIns := [], harness := (true, "c761f61602c9fd8f9868a914aca980d9b5271691f3f263ccde5a90a2990e155e"), looks := false }, kinds := [], alts := [], laidByText := true, laidKinds := [.data], laidTests := true, laidLooks := .later }
def KeysAreUptoCardSaid : Prop := Claim7.holds Tryd.pinned (.plain (OpenSpec.upto keysAreSpec)) keysAreUptoCard

/-- THE SECOND FORM's CARD OF 'tribunallaw06.KeysSign'. -/
def keysSignUptoCard : Claim7 := { stood := { row := keysSignUptoRow, standIns := [], harness := (true, "c761f61602c9fd8f9868a914aca980d9b5271691f3f263ccde5a90a2990e155e"), looks := false }, kinds := [], alts := [], laidByText := true, laidKinds := [.data], laidTests := true, laidLooks := .later }
def KeysSignUptoCardSaid : Prop := Claim7.holds Tryd.pinned (.plain (OpenSpec.upto keysSignSpec)) keysSignUptoCard

/-- THE SECOND FORM's CARD OF 'tribunallaw06.KeysVerify'. -/
def keysVerifyUptoCard : Claim7 := { stood := { row := keysVerifyUptoRow, standIns := [], harness := (true, "c761f61602c9fd8f9868a914aca980d9b5271691f3f263ccde5a90a2990e155e"), looks := false }, kinds := [], alts := [], laidByText := true, laidKinds := [.data], laidTests := true, laidLooks := .later }
def KeysVerifyUptoCardSaid : Prop := Claim7.holds Tryd.pinned (.plain (OpenSpec.upto keysVerifySpec)) keysVerifyUptoCard

/-- THE SECOND FORM's CARD OF 'tribunallaw06.KeysOther'. -/
def keysOtherUptoCard : Claim7 := { stood := { row := keysOtherUptoRow, standIns := [], harness := (true, "c761f61602c9fd8f9868a914aca980d9b5271691f3f263ccde5a90a2990e155e"), looks := false }, kinds := [], alts := [], laidByText := true, laidKinds := [.data], laidTests := true, laidLooks := .later }
def KeysOtherUptoCardSaid : Prop := Claim7.holds Tryd.pinned (.plain (OpenSpec.upto keysOtherSpec)) keysOtherUptoCard

/-- THE SECOND FORM's CARD OF 'tribunallaw06.KeysApart'. -/
def keysApartUptoCard : Claim7 := { stood := { row := keysApartUptoRow, standIns := [], harness := (true, "c761f61602c9fd8f9868a914aca980d9b5271691f3f263ccde5a90a2990e155e"), looks := false }, kinds := [], alts := [], laidByText := true, laidKinds := [.data], laidTests := true, laidLooks := .later }
def KeysApartUptoCardSaid : Prop := Claim7.holds Tryd.pinned (.plain (OpenSpec.upto keysApartSpec)) keysApartUptoCard
end Rows
end Go.Proofs.YtcjjhddppcmgoaaDoor
