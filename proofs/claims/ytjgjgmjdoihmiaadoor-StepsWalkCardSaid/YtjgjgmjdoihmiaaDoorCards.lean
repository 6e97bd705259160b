/-
  DERIVED. GIVEN WITH THE SEED: THE CARDS: each row of YtjgjgmjdoihmiaaDoorRows.lean that lists a variable, with what it lists TIED to the program's text (the seventh form; the later family's looks); each row that meets fmt, with fmt's text TOLD by the authors' own Lean function (tested against real Go, not proved from fmt's source: count such statements apart). THE CARD IS WHAT COUNTS. Prove the row's statement (the work); the ties are given (YtjgjgmjdoihmiaaDoorTie.lean); close each card by the builder's one call (the guide's Derived/Test/ToyasCard.lean, 'card_holds'). Laid BY PROGRAM, IN A SANDBOX (cutbox-door.mjs). By AI agents, Wed Nov 11 2026. No macro, syntax, notation, axiom, sorry.
-/
import Derived.Test.YtjgjgmjdoihmiaaDoorRows
import GoSem.ClaimSeven
namespace Go.Proofs.YtjgjgmjdoihmiaaDoor
namespace Rows

/-- THE TIED CARD OF 'tribunallaw03.StepsWalk'. -/
def stepsWalkCard : Claim7 := { stood := { row := stepsWalkRow, standIns := [], harness := (true, "3db9c0e6f1f39a647e5de9c1659c38f4026885701f984179db8e51621a59eb32"), looks := false }, kinds := [], alts := [], laidByText := true, laidKinds := [.data], laidTests := true, laidLooks := .later }
def StepsWalkCardSaid : Prop := Claim7.holds Tryd.pinned (.plain (OpenSpec.ofChange stepsWalkSpec)) stepsWalkCard

/-- THE TIED CARD OF 'tribunallaw03.StepsDigits'. -/
def stepsDigitsCard : Claim7 := { stood := { row := stepsDigitsRow, standIns := [], harness := (true, "3db9c0e6f1f39a647e5de9c1659c38f4026885701f984179db8e51621a59eb32"), looks := false }, kinds := [], alts := [], laidByText := true, laidKinds := [.data], laidTests := true, laidLooks := .later }
def StepsDigitsCardSaid : Prop := Claim7.holds Tryd.pinned (.plain (OpenSpec.ofChange stepsDigitsSpec)) stepsDigitsCard

/-- THE TIED CARD OF 'tribunallaw03.StepsJoin'. -/
def stepsJoinCard : Claim7 := { stood := { row := stepsJoinRow, standIns := [], harness := (true, "3db9c0e6f1f39a647e5de9c1659c38f4026885701f984179db8e51621a59eb32"), looks := false }, kinds := [], alts := [], laidByText := true, laidKinds := [.data], laidTests := true, laidLooks := .later }
def StepsJoinCardSaid : Prop := Claim7.holds Tryd.pinned (.plain (OpenSpec.ofChange stepsJoinSpec)) stepsJoinCard

/-- THE TIED CARD OF 'tribunallaw03.StepsLess'. -/
def stepsLessCard : Claim7 := { stood := { row := stepsLessRow, standIns := [], harness := (true, "3db9c0e6f1f39a647e5de9c1659c38f4026885701f984179db8e51621a59eb32"), looks := false }, kinds := [], alts := [], laidByText := true, laidKinds := [.data], laidTests := true, laidLooks := .later }
def StepsLessCardSaid : Prop := Claim7.holds Tryd.pinned (.plain (OpenSpec.ofChange stepsLessSpec)) stepsLessCard

/-- THE TIED CARD OF 'tribunallaw03.StepsPlaces'. -/
def stepsPlacesCard : Claim7 := { stood := { row := stepsPlacesRow, standIns := [], harness := (true, "3db9c0e6f1f39a647e5de9c1659c38f4026885701f984179db8e51621a59eb32"), looks := false }, kinds := [], alts := [], laidByText := true, laidKinds := [.data], laidTests := true, laidLooks := .later }
def StepsPlacesCardSaid : Prop := Claim7.holds Tryd.pinned (.plain (OpenSpec.ofChange stepsPlacesSpec)) stepsPlacesCard

/-- THE SECOND FORM's CARD OF 'tribunallaw03.StepsWalk'. -/
def stepsWalkUptoCard : Claim7 := { stood := { row := stepsWalkUptoRow, standIns := [], harness := (true, "3db9c0e6f1f39a647e5de9c1659c38f4026885701f984179db8e51621a59eb32"), looks := false }, kinds := [], alts := [], laidByText := true, laidKinds := [.data], laidTests := true, laidLooks := .later }
def StepsWalkUptoCardSaid : Prop := Claim7.holds Tryd.pinned (.plain (OpenSpec.upto stepsWalkSpec)) stepsWalkUptoCard

/-- THE SECOND FORM's CARD OF 'tribunallaw03.StepsDigits'. -/
def stepsDigitsUptoCard : Claim7 := { stood := { row := stepsDigitsUptoRow, standIns := [], harness := (true, "3db9c0e6f1f39a647e5de9c1659c38f4026885701f984179db8e51621a59eb32"), looks := false }, kinds := [], alts := [], laidByText := true, laidKinds := [.data], laidTests := true, laidLooks := .later }
def StepsDigitsUptoCardSaid : Prop := Claim7.holds Tryd.pinned (.plain (OpenSpec.upto stepsDigitsSpec)) stepsDigitsUptoCard

/-- THE SECOND FORM's CARD OF 'tribunallaw03.StepsJoin'. -/
def stepsJoinUptoCard : Claim7 := { stood := { row := stepsJoinUptoRow, standIns := [], harness := (true, "3db9c0e6f1f39a647e5de9c1659c38f4026885701f984179db8e51621a59eb32"), looks := false }, kinds := [], alts := [], laidByText := true, laidKinds := [.data], laidTests := true, laidLooks := .later }
def StepsJoinUptoCardSaid : Prop := Claim7.holds Tryd.pinned (.plain (OpenSpec.upto stepsJoinSpec)) stepsJoinUptoCard

/-- THE SECOND FORM's CARD OF 'tribunallaw03.StepsLess'. -/
def stepsLessUptoCard : Claim7 := { stood := { row := stepsLessUptoRow, standIns := [], harness := (true, "3db9c0e6f1f39a647e5de9c1659c38f4026885701f984179db8e51621a59eb32"), looks := false }, kinds := [], alts := [], laidByText := true, laidKinds := [.data], laidTests := true, laidLooks := .later }
def StepsLessUptoCardSaid : Prop := Claim7.holds Tryd.pinned (.plain (OpenSpec.upto stepsLessSpec)) stepsLessUptoCard

/-- THE SECOND FORM's CARD OF 'tribunallaw03.StepsPlaces'. -/
def stepsPlacesUptoCard : Claim7 := { stood := { row := stepsPlacesUptoRow, standIns := [], harness := (true, "3db9c0e6f1f39a647e5de9c1659c38f4026885701f984179db8e51621a59eb32"), looks := false }, kinds := [], alts := [], laidByText := true, laidKinds := [.data], laidTests := true, laidLooks := .later }
def StepsPlacesUptoCardSaid : Prop := Claim7.holds Tryd.pinned (.plain (OpenSpec.upto stepsPlacesSpec)) stepsPlacesUptoCard
end Rows
end Go.Proofs.YtjgjgmjdoihmiaaDoor
