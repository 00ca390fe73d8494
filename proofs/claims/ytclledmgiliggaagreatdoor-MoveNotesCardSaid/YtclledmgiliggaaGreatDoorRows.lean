/-
  NARROWER THAN 'FOR EVERY INPUT', by the rows' own cells (each row's printed sentence says how): MoveRight: laid · MoveNotes: laid · TwinRight: laid · TwinAlike: laid · TwinJoins: laid · TwinTakes: laid.
  DERIVED. THE GIVEN ROWS OF THIS SEAT. 6 by the template 'for every input the law returns true; each argument reads behind the call as it read before'; 0 by the template 'total and deterministic' (their statements: YtclledmgiliggaaGreatDoorTotals.lean).
  GIVEN WITH THE SEED: the statements are not yours to turn. If you find one false, say at which input.
  Laid BY PROGRAM, IN A SANDBOX (cutbox-rows.mjs): the forced cells as the released guide's own fill.sh prints them over the translation 29484f5e798a0133… (all of the seat's roots in one cut). By AI agents, Wed Nov 11 2026. No macro, syntax, notation, axiom, sorry.
-/
import Derived.Test.YtclledmgiliggaaGreatDoorChecked
import GoSem.Claim
import GoSem.ClaimJoined
import GoSem.ClaimMapViews
import Derived.JoinedTies
import Derived.KernelRfl
namespace Go.Proofs.YtclledmgiliggaaGreatDoor
/- THE CELL 'sum', in the pinned program and in every row, IS THE sha256 OF THE DUMP (.gsa) THAT YtclledmgiliggaaGreatDoorProg.lean LOADS. Nothing in Lean hashes anything: it is a label: what it is worth is what the hold of that sum in a sandbox is worth. -/
noncomputable def Tryz.pinned : Pinned := { name := "ytclledmgiliggaagreatdoor", sum := "29484f5e798a013376fa752da4c1e98f2dd5ec23755b295b0ad00886657a596e", checked := Tryz.checked }
namespace Rows
def none {H : Type} : Left H := { results := [], args := [] }

/- WHAT THE LISTED PACKAGE-LEVEL VARIABLES READ AS WHEN THE CALL BEGINS. Each datum BY PROGRAM (the guide's laid-datum.mjs) off the statement by which the dump's own 'gosem.cut.vars' lays the variable. In a bare row this is a premise. The card (YtclledmgiliggaaGreatDoorCards.lean) ties it to the program's text. -/
def laid_errors_errorType {H : Type} : DataW H := .iface "internal/reflectlite.rtype" (.agg [.ptr (.lit (.string [101, 114, 114, 111, 114]))])

/-- 'instarlaw06.MoveRight': WHATEVER THE INPUT: true; the input reads as it did. -/
def moveRightSpec : ChangeSpec := { name := "moveRight", fn := fun _ => fun
  | [d1, d2, d3, d4] => { results := [.lit (.bool true)], args := [d1, d2, d3, d4] }
  | _ => none }
def moveRightRow : OpenClaim := { program := "ytclledmgiliggaagreatdoor", sum := "29484f5e798a013376fa752da4c1e98f2dd5ec23755b295b0ad00886657a596e", func := "instar/instarlaw06.MoveRight", spec := "moveRight", inPlace := ["internal/bytealg.IndexByteString", "internal/bytealg.IndexString", "internal/reflectlite.ValueOf", "(internal/reflectlite.Value).Type", "(internal/reflectlite.Value).IsNil", "internal/reflectlite.TypeOf", "(internal/reflectlite.Value).Elem", "(internal/reflectlite.Value).Set", "slices.overlaps[int]"], unfollowed := true, recurses := true, named := ["internal/bytealg.MaxLen", "errors.errorType"], apart := false, laid := [("errors.errorType", laid_errors_errorType)] }
def MoveRightSaid : Prop := moveRightRow.holds Tryz.pinned (OpenSpec.ofChange moveRightSpec)

/-- ITS FALSE NEIGHBOUR: 'it returns false'. Refute it at one input. -/
def moveRightWrong : ChangeSpec := { name := "moveRight", fn := fun _ => fun
  | [d1, d2, d3, d4] => { results := [.lit (.bool false)], args := [d1, d2, d3, d4] }
  | _ => none }
def MoveRightWrongFalsely : Prop := moveRightRow.holds Tryz.pinned (OpenSpec.ofChange moveRightWrong)

/-- 'instarlaw06.MoveNotes': WHATEVER THE INPUT: true; the input reads as it did. -/
def moveNotesSpec : ChangeSpec := { name := "moveNotes", fn := fun _ => fun
  | [d1, d2] => { results := [.lit (.bool true)], args := [d1, d2] }
  | _ => none }
def moveNotesRow : OpenClaim := { program := "ytclledmgiliggaagreatdoor", sum := "29484f5e798a013376fa752da4c1e98f2dd5ec23755b295b0ad00886657a596e", func := "instar/instarlaw06.MoveNotes", spec := "moveNotes", inPlace := ["internal/bytealg.IndexByteString", "internal/bytealg.IndexString", "internal/reflectlite.ValueOf", "(internal/reflectlite.Value).Type", "(internal/reflectlite.Value).IsNil", "internal/reflectlite.TypeOf", "(internal/reflectlite.Value).Elem", "(internal/reflectlite.Value).Set", "slices.overlaps[int]"], unfollowed := true, recurses := true, named := ["internal/bytealg.MaxLen", "errors.errorType"], apart := false, laid := [("errors.errorType", laid_errors_errorType)] }
def MoveNotesSaid : Prop := moveNotesRow.holds Tryz.pinned (OpenSpec.ofChange moveNotesSpec)

/-- ITS FALSE NEIGHBOUR: 'it returns false'. Refute it at one input. -/
def moveNotesWrong : ChangeSpec := { name := "moveNotes", fn := fun _ => fun
  | [d1, d2] => { results := [.lit (.bool false)], args := [d1, d2] }
  | _ => none }
def MoveNotesWrongFalsely : Prop := moveNotesRow.holds Tryz.pinned (OpenSpec.ofChange moveNotesWrong)

/-- 'instarlaw07.TwinRight': WHATEVER THE INPUT: true; the input reads as it did. -/
def twinRightSpec : ChangeSpec := { name := "twinRight", fn := fun _ => fun
  | [d1, d2, d3, d4, d5] => { results := [.lit (.bool true)], args := [d1, d2, d3, d4, d5] }
  | _ => none }
def twinRightRow : OpenClaim := { program := "ytclledmgiliggaagreatdoor", sum := "29484f5e798a013376fa752da4c1e98f2dd5ec23755b295b0ad00886657a596e", func := "instar/instarlaw07.TwinRight", spec := "twinRight", inPlace := ["internal/bytealg.IndexByteString", "internal/bytealg.IndexString", "internal/reflectlite.ValueOf", "(internal/reflectlite.Value).Type", "(internal/reflectlite.Value).IsNil", "internal/reflectlite.TypeOf", "(internal/reflectlite.Value).Elem", "(internal/reflectlite.Value).Set", "slices.overlaps[int]"], unfollowed := true, recurses := true, named := ["internal/bytealg.MaxLen", "errors.errorType"], apart := false, laid := [("errors.errorType", laid_errors_errorType)] }
def TwinRightSaid : Prop := twinRightRow.holds Tryz.pinned (OpenSpec.ofChange twinRightSpec)

/-- ITS FALSE NEIGHBOUR: 'it returns false'. Refute it at one input. -/
def twinRightWrong : ChangeSpec := { name := "twinRight", fn := fun _ => fun
  | [d1, d2, d3, d4, d5] => { results := [.lit (.bool false)], args := [d1, d2, d3, d4, d5] }
  | _ => none }
def TwinRightWrongFalsely : Prop := twinRightRow.holds Tryz.pinned (OpenSpec.ofChange twinRightWrong)

/-- 'instarlaw07.TwinAlike': WHATEVER THE INPUT: true; the input reads as it did. -/
def twinAlikeSpec : ChangeSpec := { name := "twinAlike", fn := fun _ => fun
  | [d1, d2, d3, d4] => { results := [.lit (.bool true)], args := [d1, d2, d3, d4] }
  | _ => none }
def twinAlikeRow : OpenClaim := { program := "ytclledmgiliggaagreatdoor", sum := "29484f5e798a013376fa752da4c1e98f2dd5ec23755b295b0ad00886657a596e", func := "instar/instarlaw07.TwinAlike", spec := "twinAlike", inPlace := ["internal/bytealg.IndexByteString", "internal/bytealg.IndexString", "internal/reflectlite.ValueOf", "(internal/reflectlite.Value).Type", "(internal/reflectlite.Value).IsNil", "internal/reflectlite.TypeOf", "(internal/reflectlite.Value).Elem", "(internal/reflectlite.Value).Set", "slices.overlaps[int]"], unfollowed := true, recurses := true, named := ["internal/bytealg.MaxLen", "errors.errorType"], apart := false, laid := [("errors.errorType", laid_errors_errorType)] }
def TwinAlikeSaid : Prop := twinAlikeRow.holds Tryz.pinned (OpenSpec.ofChange twinAlikeSpec)

/-- ITS FALSE NEIGHBOUR: 'it returns false'. Refute it at one input. -/
def twinAlikeWrong : ChangeSpec := { name := "twinAlike", fn := fun _ => fun
  | [d1, d2, d3, d4] => { results := [.lit (.bool false)], args := [d1, d2, d3, d4] }
  | _ => none }
def TwinAlikeWrongFalsely : Prop := twinAlikeRow.holds Tryz.pinned (OpenSpec.ofChange twinAlikeWrong)

/-- 'instarlaw07.TwinJoins': WHATEVER THE INPUT: true; the input reads as it did. -/
def twinJoinsSpec : ChangeSpec := { name := "twinJoins", fn := fun _ => fun
  | [d1, d2] => { results := [.lit (.bool true)], args := [d1, d2] }
  | _ => none }
def twinJoinsRow : OpenClaim := { program := "ytclledmgiliggaagreatdoor", sum := "29484f5e798a013376fa752da4c1e98f2dd5ec23755b295b0ad00886657a596e", func := "instar/instarlaw07.TwinJoins", spec := "twinJoins", inPlace := ["internal/bytealg.IndexByteString", "internal/bytealg.IndexString", "internal/reflectlite.ValueOf", "(internal/reflectlite.Value).Type", "(internal/reflectlite.Value).IsNil", "internal/reflectlite.TypeOf", "(internal/reflectlite.Value).Elem", "(internal/reflectlite.Value).Set", "slices.overlaps[int]"], unfollowed := true, recurses := true, named := ["internal/bytealg.MaxLen", "errors.errorType"], apart := false, laid := [("errors.errorType", laid_errors_errorType)] }
def TwinJoinsSaid : Prop := twinJoinsRow.holds Tryz.pinned (OpenSpec.ofChange twinJoinsSpec)

/-- ITS FALSE NEIGHBOUR: 'it returns false'. Refute it at one input. -/
def twinJoinsWrong : ChangeSpec := { name := "twinJoins", fn := fun _ => fun
  | [d1, d2] => { results := [.lit (.bool false)], args := [d1, d2] }
  | _ => none }
def TwinJoinsWrongFalsely : Prop := twinJoinsRow.holds Tryz.pinned (OpenSpec.ofChange twinJoinsWrong)

/-- 'instarlaw07.TwinTakes': WHATEVER THE INPUT: true; the input reads as it did. -/
def twinTakesSpec : ChangeSpec := { name := "twinTakes", fn := fun _ => fun
  | [d1, d2, d3] => { results := [.lit (.bool true)], args := [d1, d2, d3] }
  | _ => none }
def twinTakesRow : OpenClaim := { program := "ytclledmgiliggaagreatdoor", sum := "29484f5e798a013376fa752da4c1e98f2dd5ec23755b295b0ad00886657a596e", func := "instar/instarlaw07.TwinTakes", spec := "twinTakes", inPlace := ["internal/bytealg.IndexByteString", "internal/bytealg.IndexString", "internal/reflectlite.ValueOf", "(internal/reflectlite.Value).Type", "(internal/reflectlite.Value).IsNil", "internal/reflectlite.TypeOf", "(internal/reflectlite.Value).Elem", "(internal/reflectlite.Value).Set", "slices.overlaps[int]"], unfollowed := true, recurses := true, named := ["internal/bytealg.MaxLen", "errors.errorType"], apart := false, laid := [("errors.errorType", laid_errors_errorType)] }
def TwinTakesSaid : Prop := twinTakesRow.holds Tryz.pinned (OpenSpec.ofChange twinTakesSpec)

/-- ITS FALSE NEIGHBOUR: 'it returns false'. Refute it at one input. -/
def twinTakesWrong : ChangeSpec := { name := "twinTakes", fn := fun _ => fun
  | [d1, d2, d3] => { results := [.lit (.bool false)], args := [d1, d2, d3] }
  | _ => none }
def TwinTakesWrongFalsely : Prop := twinTakesRow.holds Tryz.pinned (OpenSpec.ofChange twinTakesWrong)

/- THE SECOND FORM. 'bulk': how many values and letters a reading holds, each counted each time it is reached (what is shared counts as often as it is met; a slice's spare places count too). A statement '..UptoSaid' is the law's where the arguments, and the package variables that the reading takes, are together of bulk at most 1048576: NARROWER than '..Said'. Prove '..Said' where nothing that the law and all that it calls make is longer than what came in: it says more and counts as full. Else prove '..UptoSaid'. A law counts once. -/
mutual
def uptoBulk {H : Type} : DataW H → Nat
  | .lit (.string bytes) => bytes.length + 1
  | .lit _ => 1
  | .nil => 1
  | .ptr d => uptoBulk d + 1
  | .slice elems spare => uptoBulkAll elems + uptoBulkAll spare + 1
  | .agg parts => uptoBulkAll parts + 1
  | .iface _ d => uptoBulk d + 1
  | .map entries => uptoBulkEntries entries + 1
  | .held _ => 1
def uptoBulkAll {H : Type} : List (DataW H) → Nat
  | [] => 0
  | d :: r => uptoBulk d + uptoBulkAll r
def uptoBulkEntries {H : Type} : List (Lit × DataW H) → Nat
  | [] => 0
  | x :: r => uptoBulkEntry x + uptoBulkEntries r
def uptoBulkEntry {H : Type} : Lit × DataW H → Nat
  | (.string bytes, d) => bytes.length + uptoBulk d + 1
  | (_, d) => uptoBulk d + 1
 end
def uptoSmall : (H : Type) → List (DataW H) → Bool := fun _ ds => decide (uptoBulkAll ds ≤ 1048576)
def OpenSpec.upto (s : _root_.Go.ChangeSpec) : _root_.Go.OpenSpec := { _root_.Go.OpenSpec.ofChange s with cond := some uptoSmall }

/-- 'instarlaw06.MoveRight', WHERE WHAT IT READS IS OF BULK AT MOST 1048576: true; the input reads as it did. -/
def moveRightUptoRow : OpenClaim := { program := "ytclledmgiliggaagreatdoor", sum := "29484f5e798a013376fa752da4c1e98f2dd5ec23755b295b0ad00886657a596e", func := "instar/instarlaw06.MoveRight", spec := "moveRight", inPlace := ["internal/bytealg.IndexByteString", "internal/bytealg.IndexString", "internal/reflectlite.ValueOf", "(internal/reflectlite.Value).Type", "(internal/reflectlite.Value).IsNil", "internal/reflectlite.TypeOf", "(internal/reflectlite.Value).Elem", "(internal/reflectlite.Value).Set", "slices.overlaps[int]"], unfollowed := true, recurses := true, named := ["internal/bytealg.MaxLen", "errors.errorType"], apart := false, laid := [("errors.errorType", laid_errors_errorType)], narrowed := true }
def MoveRightUptoSaid : Prop := moveRightUptoRow.holds Tryz.pinned (OpenSpec.upto moveRightSpec)

/-- 'instarlaw06.MoveNotes', WHERE WHAT IT READS IS OF BULK AT MOST 1048576: true; the input reads as it did. -/
def moveNotesUptoRow : OpenClaim := { program := "ytclledmgiliggaagreatdoor", sum := "29484f5e798a013376fa752da4c1e98f2dd5ec23755b295b0ad00886657a596e", func := "instar/instarlaw06.MoveNotes", spec := "moveNotes", inPlace := ["internal/bytealg.IndexByteString", "internal/bytealg.IndexString", "internal/reflectlite.ValueOf", "(internal/reflectlite.Value).Type", "(internal/reflectlite.Value).IsNil", "internal/reflectlite.TypeOf", "(internal/reflectlite.Value).Elem", "(internal/reflectlite.Value).Set", "slices.overlaps[int]"], unfollowed := true, recurses := true, named := ["internal/bytealg.MaxLen", "errors.errorType"], apart := false, laid := [("errors.errorType", laid_errors_errorType)], narrowed := true }
def MoveNotesUptoSaid : Prop := moveNotesUptoRow.holds Tryz.pinned (OpenSpec.upto moveNotesSpec)

/-- 'instarlaw07.TwinRight', WHERE WHAT IT READS IS OF BULK AT MOST 1048576: true; the input reads as it did. -/
def twinRightUptoRow : OpenClaim := { program := "ytclledmgiliggaagreatdoor", sum := "29484f5e798a013376fa752da4c1e98f2dd5ec23755b295b0ad00886657a596e", func := "instar/instarlaw07.TwinRight", spec := "twinRight", inPlace := ["internal/bytealg.IndexByteString", "internal/bytealg.IndexString", "internal/reflectlite.ValueOf", "(internal/reflectlite.Value).Type", "(internal/reflectlite.Value).IsNil", "internal/reflectlite.TypeOf", "(internal/reflectlite.Value).Elem", "(internal/reflectlite.Value).Set", "slices.overlaps[int]"], unfollowed := true, recurses := true, named := ["internal/bytealg.MaxLen", "errors.errorType"], apart := false, laid := [("errors.errorType", laid_errors_errorType)], narrowed := true }
def TwinRightUptoSaid : Prop := twinRightUptoRow.holds Tryz.pinned (OpenSpec.upto twinRightSpec)

/-- 'instarlaw07.TwinAlike', WHERE WHAT IT READS IS OF BULK AT MOST 1048576: true; the input reads as it did. -/
def twinAlikeUptoRow : OpenClaim := { program := "ytclledmgiliggaagreatdoor", sum := "29484f5e798a013376fa752da4c1e98f2dd5ec23755b295b0ad00886657a596e", func := "instar/instarlaw07.TwinAlike", spec := "twinAlike", inPlace := ["internal/bytealg.IndexByteString", "internal/bytealg.IndexString", "internal/reflectlite.ValueOf", "(internal/reflectlite.Value).Type", "(internal/reflectlite.Value).IsNil", "internal/reflectlite.TypeOf", "(internal/reflectlite.Value).Elem", "(internal/reflectlite.Value).Set", "slices.overlaps[int]"], unfollowed := true, recurses := true, named := ["internal/bytealg.MaxLen", "errors.errorType"], apart := false, laid := [("errors.errorType", laid_errors_errorType)], narrowed := true }
def TwinAlikeUptoSaid : Prop := twinAlikeUptoRow.holds Tryz.pinned (OpenSpec.upto twinAlikeSpec)

/-- 'instarlaw07.TwinJoins', WHERE WHAT IT READS IS OF BULK AT MOST 1048576: true; the input reads as it did. -/
def twinJoinsUptoRow : OpenClaim := { program := "ytclledmgiliggaagreatdoor", sum := "29484f5e798a013376fa752da4c1e98f2dd5ec23755b295b0ad00886657a596e", func := "instar/instarlaw07.TwinJoins", spec := "twinJoins", inPlace := ["internal/bytealg.IndexByteString", "internal/bytealg.IndexString", "internal/reflectlite.ValueOf", "(internal/reflectlite.Value).Type", "(internal/reflectlite.Value).IsNil", "internal/reflectlite.TypeOf", "(internal/reflectlite.Value).Elem", "(internal/reflectlite.Value).Set", "slices.overlaps[int]"], unfollowed := true, recurses := true, named := ["internal/bytealg.MaxLen", "errors.errorType"], apart := false, laid := [("errors.errorType", laid_errors_errorType)], narrowed := true }
def TwinJoinsUptoSaid : Prop := twinJoinsUptoRow.holds Tryz.pinned (OpenSpec.upto twinJoinsSpec)

/-- 'instarlaw07.TwinTakes', WHERE WHAT IT READS IS OF BULK AT MOST 1048576: true; the input reads as it did. -/
def twinTakesUptoRow : OpenClaim := { program := "ytclledmgiliggaagreatdoor", sum := "29484f5e798a013376fa752da4c1e98f2dd5ec23755b295b0ad00886657a596e", func := "instar/instarlaw07.TwinTakes", spec := "twinTakes", inPlace := ["internal/bytealg.IndexByteString", "internal/bytealg.IndexString", "internal/reflectlite.ValueOf", "(internal/reflectlite.Value).Type", "(internal/reflectlite.Value).IsNil", "internal/reflectlite.TypeOf", "(internal/reflectlite.Value).Elem", "(internal/reflectlite.Value).Set", "slices.overlaps[int]"], unfollowed := true, recurses := true, named := ["internal/bytealg.MaxLen", "errors.errorType"], apart := false, laid := [("errors.errorType", laid_errors_errorType)], narrowed := true }
def TwinTakesUptoSaid : Prop := twinTakesUptoRow.holds Tryz.pinned (OpenSpec.upto twinTakesSpec)

end Rows
end Go.Proofs.YtclledmgiliggaaGreatDoor
