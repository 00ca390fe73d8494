/-
  DERIVED. GIVEN WITH THE SEED: THE CARDS: each row of YtkgbgnmmgmnnlaaGreatDoorRows.lean that lists a variable, with what it lists TIED to the program's text (the seventh form; the later family's looks); each row that meets fmt, with fmt's text TOLD by the authors' own Lean function (tested against real Go, not proved from fmt's source: count such statements apart). THE CARD IS WHAT COUNTS. Prove the row's statement (the work); the ties are given (YtkgbgnmmgmnnlaaGreatDoorTie.lean); close each card by the builder's one call (the guide's Derived/Test/ToyasCard.lean, 'card_holds'). Laid BY PROGRAM, IN A SANDBOX (cutbox-door.mjs). By AI agents, Wed Nov 11 2026. No macro, syntax, notation, axiom, sorry.
-/
import Derived.Test.YtkgbgnmmgmnnlaaGreatDoorRows
import GoSem.ClaimSeven
namespace Go.Proofs.YtkgbgnmmgmnnlaaGreatDoor
namespace Rows

/-- THE TIED CARD OF 'instarlaw13.OwnerRight'. -/
def ownerRightCard : Claim7 := { stood := { row := ownerRightRow, standIns := [], harness := (true, "1b48fd060427ef2c0b00c779b372a63b960c29c3f3ea0f60c06987f247b54384"), looks := true }, kinds := [], alts := [], laidByText := true, laidKinds := [.handle], laidTests := true, laidLooks := .later }
def OwnerRightCardSaid : Prop := Claim7.holds Tryz.pinned (.plain (OpenSpec.ofChange ownerRightSpec)) ownerRightCard

/-- THE TIED CARD OF 'instarlaw13.OwnerNear'. -/
def ownerNearCard : Claim7 := { stood := { row := ownerNearRow, standIns := [], harness := (true, "1b48fd060427ef2c0b00c779b372a63b960c29c3f3ea0f60c06987f247b54384"), looks := true }, kinds := [], alts := [], laidByText := true, laidKinds := [.handle], laidTests := true, laidLooks := .later }
def OwnerNearCardSaid : Prop := Claim7.holds Tryz.pinned (.plain (OpenSpec.ofChange ownerNearSpec)) ownerNearCard

/-- THE TIED CARD OF 'instarlaw13.OwnerNamed'. -/
def ownerNamedCard : Claim7 := { stood := { row := ownerNamedRow, standIns := [], harness := (true, "1b48fd060427ef2c0b00c779b372a63b960c29c3f3ea0f60c06987f247b54384"), looks := true }, kinds := [], alts := [], laidByText := true, laidKinds := [.handle], laidTests := true, laidLooks := .later }
def OwnerNamedCardSaid : Prop := Claim7.holds Tryz.pinned (.plain (OpenSpec.ofChange ownerNamedSpec)) ownerNamedCard

/-- THE TIED CARD OF 'instarlaw13.OwnerParts'. -/
def ownerPartsCard : Claim7 := { stood := { row := ownerPartsRow, standIns := [], harness := (true, "1b48fd060427ef2c0b00c779b372a63b960c29c3f3ea0f60c06987f247b54384"), looks := true }, kinds := [], alts := [], laidByText := true, laidKinds := [.handle], laidTests := true, laidLooks := .later }
def OwnerPartsCardSaid : Prop := Claim7.holds Tryz.pinned (.plain (OpenSpec.ofChange ownerPartsSpec)) ownerPartsCard

/-- THE TIED CARD OF 'instarlaw13.OwnerBack'. -/
def ownerBackCard : Claim7 := { stood := { row := ownerBackRow, standIns := [], harness := (true, "1b48fd060427ef2c0b00c779b372a63b960c29c3f3ea0f60c06987f247b54384"), looks := true }, kinds := [], alts := [], laidByText := true, laidKinds := [.handle], laidTests := true, laidLooks := .later }
def OwnerBackCardSaid : Prop := Claim7.holds Tryz.pinned (.plain (OpenSpec.ofChange ownerBackSpec)) ownerBackCard

/-- THE TIED CARD OF 'instarlaw13.OwnerMoves'. -/
def ownerMovesCard : Claim7 := { stood := { row := ownerMovesRow, standIns := [], harness := (true, "1b48fd060427ef2c0b00c779b372a63b960c29c3f3ea0f60c06987f247b54384"), looks := true }, kinds := [], alts := [], laidByText := true, laidKinds := [.handle], laidTests := true, laidLooks := .later }
def OwnerMovesCardSaid : Prop := Claim7.holds Tryz.pinned (.plain (OpenSpec.ofChange ownerMovesSpec)) ownerMovesCard

/-- THE SECOND FORM's CARD OF 'instarlaw13.OwnerRight'. -/
def ownerRightUptoCard : Claim7 := { stood := { row := ownerRightUptoRow, standIns := [], harness := (true, "1b48fd060427ef2c0b00c779b372a63b960c29c3f3ea0f60c06987f247b54384"), looks := true }, kinds := [], alts := [], laidByText := true, laidKinds := [.handle], laidTests := true, laidLooks := .later }
def OwnerRightUptoCardSaid : Prop := Claim7.holds Tryz.pinned (.plain (OpenSpec.upto ownerRightSpec)) ownerRightUptoCard

/-- THE SECOND FORM's CARD OF 'instarlaw13.OwnerNear'. -/
def ownerNearUptoCard : Claim7 := { stood := { row := ownerNearUptoRow, standIns := [], harness := (true, "1b48fd060427ef2c0b00c779b372a63b960c29c3f3ea0f60c06987f247b54384"), looks := true }, kinds := [], alts := [], laidByText := true, laidKinds := [.handle], laidTests := true, laidLooks := .later }
def OwnerNearUptoCardSaid : Prop := Claim7.holds Tryz.pinned (.plain (OpenSpec.upto ownerNearSpec)) ownerNearUptoCard

/-- THE SECOND FORM's CARD OF 'instarlaw13.OwnerNamed'. -/
def ownerNamedUptoCard : Claim7 := { stood := { row := ownerNamedUptoRow, standIns := [], harness := (true, "1b48fd060427ef2c0b00c779b372a63b960c29c3f3ea0f60c06987f247b54384"), looks := true }, kinds := [], alts := [], laidByText := true, laidKinds := [.handle], laidTests := true, laidLooks := .later }
def OwnerNamedUptoCardSaid : Prop := Claim7.holds Tryz.pinned (.plain (OpenSpec.upto ownerNamedSpec)) ownerNamedUptoCard

/-- THE SECOND FORM's CARD OF 'instarlaw13.OwnerParts'. -/
def ownerPartsUptoCard : Claim7 := { stood := { row := ownerPartsUptoRow, standIns := [], harness := (true, "1b48fd060427ef2c0b00c779b372a63b960c29c3f3ea0f60c06987f247b54384"), looks := true }, kinds := [], alts := [], laidByText := true, laidKinds := [.handle], laidTests := true, laidLooks := .later }
def OwnerPartsUptoCardSaid : Prop := Claim7.holds Tryz.pinned (.plain (OpenSpec.upto ownerPartsSpec)) ownerPartsUptoCard

/-- THE SECOND FORM's CARD OF 'instarlaw13.OwnerBack'. -/
def ownerBackUptoCard : Claim7 := { stood := { row := ownerBackUptoRow, standIns := [], harness := (true, "1b48fd060427ef2c0b00c779b372a63b960c29c3f3ea0f60c06987f247b54384"), looks := true }, kinds := [], alts := [], laidByText := true, laidKinds := [.handle], laidTests := true, laidLooks := .later }
def OwnerBackUptoCardSaid : Prop := Claim7.holds Tryz.pinned (.plain (OpenSpec.upto ownerBackSpec)) ownerBackUptoCard

/-- THE SECOND FORM's CARD OF 'instarlaw13.OwnerMoves'. -/
def ownerMovesUptoCard : Claim7 := { stood := { row := ownerMovesUptoRow, standIns := [], harness := (true, "1b48fd060427ef2c0b00c779b372a63b960c29c3f3ea0f60c06987f247b54384"), looks := true }, kinds := [], alts := [], laidByText := true, laidKinds := [.handle], laidTests := true, laidLooks := .later }
def OwnerMovesUptoCardSaid : Prop := Claim7.holds Tryz.pinned (.plain (OpenSpec.upto ownerMovesSpec)) ownerMovesUptoCard
end Rows
end Go.Proofs.YtkgbgnmmgmnnlaaGreatDoor
