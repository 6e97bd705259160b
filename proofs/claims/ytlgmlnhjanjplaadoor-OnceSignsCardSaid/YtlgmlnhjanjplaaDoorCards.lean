/-
  DERIVED. GIVEN WITH THE SEED: THE CARDS: each row of YtlgmlnhjanjplaaDoorRows.lean that lists a variable, with what it lists TIED to the program's text (the seventh form; the later family's looks); each row that meets fmt, with fmt's text TOLD by the authors' own Lean function (tested against real Go, not proved from fmt's source: count such statements apart). THE CARD IS WHAT COUNTS. Prove the row's statement (the work); the ties are given (YtlgmlnhjanjplaaDoorTie.lean); close each card by the builder's one call (the guide's Derived/Test/ToyasCard.lean, 'card_holds'). Laid BY PROGRAM, IN A SANDBOX (cutbox-door.mjs). By AI agents, Wed Nov 11 2026. No macro, syntax, notation, axiom, sorry.
-/
import Derived.Test.YtlgmlnhjanjplaaDoorRows
import GoSem.ClaimSeven
namespace Go.Proofs.YtlgmlnhjanjplaaDoor
namespace Rows

/-- THE TIED CARD OF 'tribunallaw04.OnceKeys'. -/
def onceKeysCard : Claim7 := { stood := { row := onceKeysRow, standIns := [], harness := (true, "44403469b917e739efe88637b2a0c052e77713a6aa0ae037d545c1e27baea6d0"), looks := false }, kinds := [], alts := [], laidByText := true, laidKinds := [.data], laidTests := true, laidLooks := .later }
def OnceKeysCardSaid : Prop := Claim7.holds Tryd.pinned (.plain (OpenSpec.ofChange onceKeysSpec)) onceKeysCard

/-- THE TIED CARD OF 'tribunallaw04.OnceSigns'. -/
def onceSignsCard : Claim7 := { stood := { row := onceSignsRow, standIns := [], harness := (true, "44403469b917e739efe88637b2a0c052e77713a6aa0ae037d545c1e27baea6d0"), looks := false }, kinds := [], alts := [], laidByText := true, laidKinds := [.data], laidTests := true, laidLooks := .later }
def OnceSignsCardSaid : Prop := Claim7.holds Tryd.pinned (.plain (OpenSpec.ofChange onceSignsSpec)) onceSignsCard

/-- THE TIED CARD OF 'tribunallaw04.OnceMeets'. -/
def onceMeetsCard : Claim7 := { stood := { row := onceMeetsRow, standIns := [], harness := (true, "44403469b917e739efe88637b2a0c052e77713a6aa0ae037d545c1e27baea6d0"), looks := false }, kinds := [], alts := [], laidByText := true, laidKinds := [.data], laidTests := true, laidLooks := .later }
def OnceMeetsCardSaid : Prop := Claim7.holds Tryd.pinned (.plain (OpenSpec.ofChange onceMeetsSpec)) onceMeetsCard

/-- THE TIED CARD OF 'tribunallaw04.OnceOther'. -/
def onceOtherCard : Claim7 := { stood := { row := onceOtherRow, standIns := [], harness := (true, "44403469b917e739efe88637b2a0c052e77713a6aa0ae037d545c1e27baea6d0"), looks := false }, kinds := [], alts := [], laidByText := true, laidKinds := [.data], laidTests := true, laidLooks := .later }
def OnceOtherCardSaid : Prop := Claim7.holds Tryd.pinned (.plain (OpenSpec.ofChange onceOtherSpec)) onceOtherCard

/-- THE TIED CARD OF 'tribunallaw04.OnceParts'. -/
def oncePartsCard : Claim7 := { stood := { row := oncePartsRow, standIns := [], harness := (true, "44403469b917e739efe88637b2a0c052e77713a6aa0ae037d545c1e27baea6d0"), looks := false }, kinds := [], alts := [], laidByText := true, laidKinds := [.data], laidTests := true, laidLooks := .later }
def OncePartsCardSaid : Prop := Claim7.holds Tryd.pinned (.plain (OpenSpec.ofChange oncePartsSpec)) oncePartsCard

/-- THE SECOND FORM's CARD OF 'tribunallaw04.OnceKeys'. -/
def onceKeysUptoCard : Claim7 := { stood := { row := onceKeysUptoRow, standIns := [], harness := (true, "44403469b917e739efe88637b2a0c052e77713a6aa0ae037d545c1e27baea6d0"), looks := false }, kinds := [], alts := [], laidByText := true, laidKinds := [.data], laidTests := true, laidLooks := .later }
def OnceKeysUptoCardSaid : Prop := Claim7.holds Tryd.pinned (.plain (OpenSpec.upto onceKeysSpec)) onceKeysUptoCard

/-- THE SECOND FORM's CARD OF 'tribunallaw04.OnceSigns'. -/
def onceSignsUptoCard : Claim7 := { stood := { row := onceSignsUptoRow, standIns := [], harness := (true, "44403469b917e739efe88637b2a0c052e77713a6aa0ae037d545c1e27baea6d0"), looks := false }, kinds := [], alts := [], laidByText := true, laidKinds := [.data], laidTests := true, laidLooks := .later }
def OnceSignsUptoCardSaid : Prop := Claim7.holds Tryd.pinned (.plain (OpenSpec.upto onceSignsSpec)) onceSignsUptoCard

/-- THE SECOND FORM's CARD OF 'tribunallaw04.OnceMeets'. -/
def onceMeetsUptoCard : Claim7 := { stood := { row := onceMeetsUptoRow, standIns := [], harness := (true, "44403469b917e739efe88637b2a0c052e77713a6aa0ae037d545c1e27baea6d0"), looks := false }, kinds := [], alts := [], laidByText := true, laidKinds := [.data], laidTests := true, laidLooks := .later }
def OnceMeetsUptoCardSaid : Prop := Claim7.holds Tryd.pinned (.plain (OpenSpec.upto onceMeetsSpec)) onceMeetsUptoCard

/-- THE SECOND FORM's CARD OF 'tribunallaw04.OnceOther'. -/
def onceOtherUptoCard : Claim7 := { stood := { row := onceOtherUptoRow, standIns := [], harness := (true, "44403469b917e739efe88637b2a0c052e77713a6aa0ae037d545c1e27baea6d0"), looks := false }, kinds := [], alts := [], laidByText := true, laidKinds := [.data], laidTests := true, laidLooks := .later }
def OnceOtherUptoCardSaid : Prop := Claim7.holds Tryd.pinned (.plain (OpenSpec.upto onceOtherSpec)) onceOtherUptoCard

/-- THE SECOND FORM's CARD OF 'tribunallaw04.OnceParts'. -/
def oncePartsUptoCard : Claim7 := { stood := { row := oncePartsUptoRow, standIns := [], harness := (true, "44403469b917e739efe88637b2a0c052e77713a6aa0ae037d545c1e27baea6d0"), looks := false }, kinds := [], alts := [], laidByText := true, laidKinds := [.data], laidTests := true, laidLooks := .later }
def OncePartsUptoCardSaid : Prop := Claim7.holds Tryd.pinned (.plain (OpenSpec.upto oncePartsSpec)) oncePartsUptoCard
end Rows
end Go.Proofs.YtlgmlnhjanjplaaDoor
