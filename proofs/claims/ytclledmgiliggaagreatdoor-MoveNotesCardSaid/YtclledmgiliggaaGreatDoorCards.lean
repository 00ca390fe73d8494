/-
  DERIVED. GIVEN WITH THE SEED: THE CARDS: each row of YtclledmgiliggaaGreatDoorRows.lean that lists a variable, with what it lists TIED to the program's text (the seventh form; the later family's looks); each row that meets fmt, with fmt's text TOLD by the authors' own Lean function (tested against real Go, not proved from fmt's source: count such statements apart). THE CARD IS WHAT COUNTS. Prove the row's statement (the work); the ties are given (YtclledmgiliggaaGreatDoorTie.lean); close each card by the builder's one call (the guide's Derived/Test/ToyasCard.lean, 'card_holds'). Laid BY PROGRAM, IN A SANDBOX (cutbox-door.mjs). By AI agents, Wed Nov 11 2026. No macro, syntax, notation, axiom, sorry.
-/
import Derived.Test.YtclledmgiliggaaGreatDoorRows
import GoSem.ClaimSeven
namespace Go.Proofs.YtclledmgiliggaaGreatDoor
namespace Rows

/-- THE TIED CARD OF 'instarlaw06.MoveRight'. -/
def moveRightCard : Claim7 := { stood := { row := moveRightRow, standIns := [], harness := (true, "7d9809064e872853bde324c1482d617962e83512409d9f7529b6f7f6a1b91901"), looks := true }, kinds := [], alts := [], laidByText := true, laidKinds := [.handle], laidTests := true, laidLooks := .later }
def MoveRightCardSaid : Prop := Claim7.holds Tryz.pinned (.plain (OpenSpec.ofChange moveRightSpec)) moveRightCard

/-- THE TIED CARD OF 'instarlaw06.MoveNotes'. -/
def moveNotesCard : Claim7 := { stood := { row := moveNotesRow, standIns := [], harness := (true, "7d9809064e872853bde324c1482d617962e83512409d9f7529b6f7f6a1b91901"), looks := true }, kinds := [], alts := [], laidByText := true, laidKinds := [.handle], laidTests := true, laidLooks := .later }
def MoveNotesCardSaid : Prop := Claim7.holds Tryz.pinned (.plain (OpenSpec.ofChange moveNotesSpec)) moveNotesCard

/-- THE TIED CARD OF 'instarlaw07.TwinRight'. -/
def twinRightCard : Claim7 := { stood := { row := twinRightRow, standIns := [], harness := (true, "7d9809064e872853bde324c1482d617962e83512409d9f7529b6f7f6a1b91901"), looks := true }, kinds := [], alts := [], laidByText := true, laidKinds := [.handle], laidTests := true, laidLooks := .later }
def TwinRightCardSaid : Prop := Claim7.holds Tryz.pinned (.plain (OpenSpec.ofChange twinRightSpec)) twinRightCard

/-- THE TIED CARD OF 'instarlaw07.TwinAlike'. -/
def twinAlikeCard : Claim7 := { stood := { row := twinAlikeRow, standIns := [], harness := (true, "7d9809064e872853bde324c1482d617962e83512409d9f7529b6f7f6a1b91901"), looks := true }, kinds := [], alts := [], laidByText := true, laidKinds := [.handle], laidTests := true, laidLooks := .later }
def TwinAlikeCardSaid : Prop := Claim7.holds Tryz.pinned (.plain (OpenSpec.ofChange twinAlikeSpec)) twinAlikeCard

/-- THE TIED CARD OF 'instarlaw07.TwinJoins'. -/
def twinJoinsCard : Claim7 := { stood := { row := twinJoinsRow, standIns := [], harness := (true, "7d9809064e872853bde324c1482d617962e83512409d9f7529b6f7f6a1b91901"), looks := true }, kinds := [], alts := [], laidByText := true, laidKinds := [.handle], laidTests := true, laidLooks := .later }
def TwinJoinsCardSaid : Prop := Claim7.holds Tryz.pinned (.plain (OpenSpec.ofChange twinJoinsSpec)) twinJoinsCard

/-- THE TIED CARD OF 'instarlaw07.TwinTakes'. -/
def twinTakesCard : Claim7 := { stood := { row := twinTakesRow, standIns := [], harness := (true, "7d9809064e872853bde324c1482d617962e83512409d9f7529b6f7f6a1b91901"), looks := true }, kinds := [], alts := [], laidByText := true, laidKinds := [.handle], laidTests := true, laidLooks := .later }
def TwinTakesCardSaid : Prop := Claim7.holds Tryz.pinned (.plain (OpenSpec.ofChange twinTakesSpec)) twinTakesCard

/-- THE SECOND FORM's CARD OF 'instarlaw06.MoveRight'. -/
def moveRightUptoCard : Claim7 := { stood := { row := moveRightUptoRow, standIns := [], harness := (true, "7d9809064e872853bde324c1482d617962e83512409d9f7529b6f7f6a1b91901"), looks := true }, kinds := [], alts := [], laidByText := true, laidKinds := [.handle], laidTests := true, laidLooks := .later }
def MoveRightUptoCardSaid : Prop := Claim7.holds Tryz.pinned (.plain (OpenSpec.upto moveRightSpec)) moveRightUptoCard

/-- THE SECOND FORM's CARD OF 'instarlaw06.MoveNotes'. -/
def moveNotesUptoCard : Claim7 := { stood := { row := moveNotesUptoRow, standIns := [], harness := (true, "7d9809064e872853bde324c1482d617962e83512409d9f7529b6f7f6a1b91901"), looks := true }, kinds := [], alts := [], laidByText := true, laidKinds := [.handle], laidTests := true, laidLooks := .later }
def MoveNotesUptoCardSaid : Prop := Claim7.holds Tryz.pinned (.plain (OpenSpec.upto moveNotesSpec)) moveNotesUptoCard

/-- THE SECOND FORM's CARD OF 'instarlaw07.TwinRight'. -/
def twinRightUptoCard : Claim7 := { stood := { row := twinRightUptoRow, standIns := [], harness := (true, "7d9809064e872853bde324c1482d617962e83512409d9f7529b6f7f6a1b91901"), looks := true }, kinds := [], alts := [], laidByText := true, laidKinds := [.handle], laidTests := true, laidLooks := .later }
def TwinRightUptoCardSaid : Prop := Claim7.holds Tryz.pinned (.plain (OpenSpec.upto twinRightSpec)) twinRightUptoCard

/-- THE SECOND FORM's CARD OF 'instarlaw07.TwinAlike'. -/
def twinAlikeUptoCard : Claim7 := { stood := { row := twinAlikeUptoRow, standIns := [], harness := (true, "7d9809064e872853bde324c1482d617962e83512409d9f7529b6f7f6a1b91901"), looks := true }, kinds := [], alts := [], laidByText := true, laidKinds := [.handle], laidTests := true, laidLooks := .later }
def TwinAlikeUptoCardSaid : Prop := Claim7.holds Tryz.pinned (.plain (OpenSpec.upto twinAlikeSpec)) twinAlikeUptoCard

/-- THE SECOND FORM's CARD OF 'instarlaw07.TwinJoins'. -/
def twinJoinsUptoCard : Claim7 := { stood := { row := twinJoinsUptoRow, standIns := [], harness := (true, "7d9809064e872853bde324c1482d617962e83512409d9f7529b6f7f6a1b91901"), looks := true }, kinds := [], alts := [], laidByText := true, laidKinds := [.handle], laidTests := true, laidLooks := .later }
def TwinJoinsUptoCardSaid : Prop := Claim7.holds Tryz.pinned (.plain (OpenSpec.upto twinJoinsSpec)) twinJoinsUptoCard

/-- THE SECOND FORM's CARD OF 'instarlaw07.TwinTakes'. -/
def twinTakesUptoCard : Claim7 := { stood := { row := twinTakesUptoRow, standIns := [], harness := (true, "7d9809064e872853bde324c1482d617962e83512409d9f7529b6f7f6a1b91901"), looks := true }, kinds := [], alts := [], laidByText := true, laidKinds := [.handle], laidTests := true, laidLooks := .later }
def TwinTakesUptoCardSaid : Prop := Claim7.holds Tryz.pinned (.plain (OpenSpec.upto twinTakesSpec)) twinTakesUptoCard
end Rows
end Go.Proofs.YtclledmgiliggaaGreatDoor
