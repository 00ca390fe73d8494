/-
  DERIVED. GIVEN WITH THE SEED: THE CARDS: each row of YtkfmengdffpcnaaGreatDoorRows.lean that lists a variable, with what it lists TIED to the program's text (the seventh form; the later family's looks); each row that meets fmt, with fmt's text TOLD by the authors' own Lean function (tested against real Go, not proved from fmt's source: count such statements apart). THE CARD IS WHAT COUNTS. Prove the row's statement (the work); the ties are given (YtkfmengdffpcnaaGreatDoorTie.lean); close each card by the builder's one call (the guide's Derived/Test/ToyasCard.lean, 'card_holds'). Laid BY PROGRAM, IN A SANDBOX (cutbox-door.mjs). By AI agents, Wed Nov 11 2026. No macro, syntax, notation, axiom, sorry.
-/
import Derived.Test.YtkfmengdffpcnaaGreatDoorRows
import GoSem.ClaimSeven
namespace Go.Proofs.YtkfmengdffpcnaaGreatDoor
namespace Rows

/-- THE TIED CARD OF 'instarlaw12.WatchComes'. -/
def watchComesCard : Claim7 := { stood := { row := watchComesRow, standIns := [], harness := (true, "25c138961c245f849ab6ff2daa5b1332f3d66225b21662e6c55c329ae28c33fe"), looks := true }, kinds := [], alts := [], laidByText := true, laidKinds := [.handle], laidTests := true, laidLooks := .later }
def WatchComesCardSaid : Prop := Claim7.holds Tryz.pinned (.plain (OpenSpec.ofChange watchComesSpec)) watchComesCard

/-- THE SECOND FORM's CARD OF 'instarlaw12.WatchComes'. -/
def watchComesUptoCard : Claim7 := { stood := { row := watchComesUptoRow, standIns := [], harness := (true, "25c138961c245f849ab6ff2daa5b1332f3d66225b21662e6c55c329ae28c33fe"), looks := true }, kinds := [], alts := [], laidByText := true, laidKinds := [.handle], laidTests := true, laidLooks := .later }
def WatchComesUptoCardSaid : Prop := Claim7.holds Tryz.pinned (.plain (OpenSpec.upto watchComesSpec)) watchComesUptoCard
end Rows
end Go.Proofs.YtkfmengdffpcnaaGreatDoor
