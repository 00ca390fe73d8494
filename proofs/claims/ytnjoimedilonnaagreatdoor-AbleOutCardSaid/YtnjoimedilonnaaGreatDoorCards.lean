/-
  DERIVED. GIVEN WITH THE SEED: THE CARDS: each row of YtnjoimedilonnaaGreatDoorRows.lean that lists a variable, with what it lists TIED to the program's text (the seventh form; the later family's looks); each row that meets fmt, with fmt's text TOLD by the authors' own Lean function (tested against real Go, not proved from fmt's source: count such statements apart). THE CARD IS WHAT COUNTS. Prove the row's statement (the work); the ties are given (YtnjoimedilonnaaGreatDoorTie.lean); close each card by the builder's one call (the guide's Derived/Test/ToyasCard.lean, 'card_holds'). Laid BY PROGRAM, IN A SANDBOX (cutbox-door.mjs). By AI agents, Wed Nov 11 2026. No macro, syntax, notation, axiom, sorry.
-/
import Derived.Test.YtnjoimedilonnaaGreatDoorRows
import GoSem.ClaimSeven
namespace Go.Proofs.YtnjoimedilonnaaGreatDoor
namespace Rows

/-- THE TIED CARD OF 'instarlaw14.AbleMore'. -/
def ableMoreCard : Claim7 := { stood := { row := ableMoreRow, standIns := [], harness := (true, "e640c8b3b453eaa92d3496919e996a19aa3794278870d7a230e2cee697cbc305"), looks := true }, kinds := [], alts := [], laidByText := true, laidKinds := [.handle], laidTests := true, laidLooks := .later }
def AbleMoreCardSaid : Prop := Claim7.holds Tryz.pinned (.plain (OpenSpec.ofChange ableMoreSpec)) ableMoreCard

/-- THE TIED CARD OF 'instarlaw14.AbleOut'. -/
def ableOutCard : Claim7 := { stood := { row := ableOutRow, standIns := [], harness := (true, "e640c8b3b453eaa92d3496919e996a19aa3794278870d7a230e2cee697cbc305"), looks := true }, kinds := [], alts := [], laidByText := true, laidKinds := [.handle], laidTests := true, laidLooks := .later }
def AbleOutCardSaid : Prop := Claim7.holds Tryz.pinned (.plain (OpenSpec.ofChange ableOutSpec)) ableOutCard

/-- THE TIED CARD OF 'instarlaw14.AbleBack'. -/
def ableBackCard : Claim7 := { stood := { row := ableBackRow, standIns := [], harness := (true, "e640c8b3b453eaa92d3496919e996a19aa3794278870d7a230e2cee697cbc305"), looks := true }, kinds := [], alts := [], laidByText := true, laidKinds := [.handle], laidTests := true, laidLooks := .later }
def AbleBackCardSaid : Prop := Claim7.holds Tryz.pinned (.plain (OpenSpec.ofChange ableBackSpec)) ableBackCard

/-- THE SECOND FORM's CARD OF 'instarlaw14.AbleMore'. -/
def ableMoreUptoCard : Claim7 := { stood := { row := ableMoreUptoRow, standIns := [], harness := (true, "e640c8b3b453eaa92d3496919e996a19aa3794278870d7a230e2cee697cbc305"), looks := true }, kinds := [], alts := [], laidByText := true, laidKinds := [.handle], laidTests := true, laidLooks := .later }
def AbleMoreUptoCardSaid : Prop := Claim7.holds Tryz.pinned (.plain (OpenSpec.upto ableMoreSpec)) ableMoreUptoCard

/-- THE SECOND FORM's CARD OF 'instarlaw14.AbleOut'. -/
def ableOutUptoCard : Claim7 := { stood := { row := ableOutUptoRow, standIns := [], harness := (true, "e640c8b3b453eaa92d3496919e996a19aa3794278870d7a230e2cee697cbc305"), looks := true }, kinds := [], alts := [], laidByText := true, laidKinds := [.handle], laidTests := true, laidLooks := .later }
def AbleOutUptoCardSaid : Prop := Claim7.holds Tryz.pinned (.plain (OpenSpec.upto ableOutSpec)) ableOutUptoCard

/-- THE SECOND FORM's CARD OF 'instarlaw14.AbleBack'. -/
def ableBackUptoCard : Claim7 := { stood := { row := ableBackUptoRow, standIns := [], harness := (true, "e640c8b3b453eaa92d3496919e996a19aa3794278870d7a230e2cee697cbc305"), looks := true }, kinds := [], alts := [], laidByText := true, laidKinds := [.handle], laidTests := true, laidLooks := .later }
def AbleBackUptoCardSaid : Prop := Claim7.holds Tryz.pinned (.plain (OpenSpec.upto ableBackSpec)) ableBackUptoCard
end Rows
end Go.Proofs.YtnjoimedilonnaaGreatDoor
