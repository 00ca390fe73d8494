/-
  NARROWER THAN 'FOR EVERY INPUT', by the rows' own cells (each row's printed sentence says how): OwnerRight: laid · OwnerNear: laid · OwnerNamed: laid · OwnerParts: laid · OwnerBack: laid · OwnerMoves: laid.
  DERIVED. THE GIVEN ROWS OF THIS SEAT. 6 by the template 'for every input the law returns true; each argument reads behind the call as it read before'; 0 by the template 'total and deterministic' (their statements: YtkgbgnmmgmnnlaaGreatDoorTotals.lean).
  GIVEN WITH THE SEED: the statements are not yours to turn. If you find one false, say at which input.
  Laid BY PROGRAM, IN A SANDBOX (cutbox-rows.mjs): the forced cells as the released guide's own fill.sh prints them over the translation 5782f660b25481d4… (all of the seat's roots in one cut). By AI agents, Wed Nov 11 2026. No macro, syntax, notation, axiom, sorry.
-/
import Derived.Test.YtkgbgnmmgmnnlaaGreatDoorChecked
import GoSem.Claim
import GoSem.ClaimJoined
import GoSem.ClaimMapViews
import Derived.JoinedTies
import Derived.KernelRfl
namespace Go.Proofs.YtkgbgnmmgmnnlaaGreatDoor
/- THE CELL 'sum', in the pinned program and in every row, IS THE sha256 OF THE DUMP (.gsa) THAT YtkgbgnmmgmnnlaaGreatDoorProg.lean LOADS. Nothing in Lean hashes anything: it is a label: what it is worth is what the hold of that sum in a sandbox is worth. -/
noncomputable def Tryz.pinned : Pinned := { name := "ytkgbgnmmgmnnlaagreatdoor", sum := "5782f660b25481d477f0b7d45fae991ffe13e999d46ee9eab37aa24c1a95973e", checked := Tryz.checked }
namespace Rows
def none {H : Type} : Left H := { results := [], args := [] }

/- WHAT THE LISTED PACKAGE-LEVEL VARIABLES READ AS WHEN THE CALL BEGINS. Each datum BY PROGRAM (the guide's laid-datum.mjs) off the statement by which the dump's own 'gosem.cut.vars' lays the variable. In a bare row this is a premise. The card (YtkgbgnmmgmnnlaaGreatDoorCards.lean) ties it to the program's text. -/
def laid_errors_errorType {H : Type} : DataW H := .iface "internal/reflectlite.rtype" (.agg [.ptr (.lit (.string [101, 114, 114, 111, 114]))])

/-- 'instarlaw13.OwnerRight': WHATEVER THE INPUT: true; the input reads as it did. -/
def ownerRightSpec : ChangeSpec := { name := "ownerRight", fn := fun _ => fun
  | [d1, d2] => { results := [.lit (.bool true)], args := [d1, d2] }
  | _ => none }
def ownerRightRow : OpenClaim := { program := "ytkgbgnmmgmnnlaagreatdoor", sum := "5782f660b25481d477f0b7d45fae991ffe13e999d46ee9eab37aa24c1a95973e", func := "instar/instarlaw13.OwnerRight", spec := "ownerRight", inPlace := ["internal/bytealg.IndexByteString", "internal/bytealg.IndexString", "internal/abi.NoEscape", "slices.overlaps[int]", "internal/reflectlite.ValueOf", "(internal/reflectlite.Value).Type", "(internal/reflectlite.Value).IsNil", "internal/reflectlite.TypeOf", "(internal/reflectlite.Value).Elem", "(internal/reflectlite.Value).Set"], unfollowed := true, recurses := true, named := ["internal/bytealg.MaxLen", "errors.errorType"], apart := false, laid := [("errors.errorType", laid_errors_errorType)] }
def OwnerRightSaid : Prop := ownerRightRow.holds Tryz.pinned (OpenSpec.ofChange ownerRightSpec)

/-- ITS FALSE NEIGHBOUR: 'it returns false'. Refute it at one input. -/
def ownerRightWrong : ChangeSpec := { name := "ownerRight", fn := fun _ => fun
  | [d1, d2] => { results := [.lit (.bool false)], args := [d1, d2] }
  | _ => none }
def OwnerRightWrongFalsely : Prop := ownerRightRow.holds Tryz.pinned (OpenSpec.ofChange ownerRightWrong)

/-- 'instarlaw13.OwnerNear': WHATEVER THE INPUT: true; the input reads as it did. -/
def ownerNearSpec : ChangeSpec := { name := "ownerNear", fn := fun _ => fun
  | [d1, d2] => { results := [.lit (.bool true)], args := [d1, d2] }
  | _ => none }
def ownerNearRow : OpenClaim := { program := "ytkgbgnmmgmnnlaagreatdoor", sum := "5782f660b25481d477f0b7d45fae991ffe13e999d46ee9eab37aa24c1a95973e", func := "instar/instarlaw13.OwnerNear", spec := "ownerNear", inPlace := ["internal/bytealg.IndexByteString", "internal/bytealg.IndexString", "internal/abi.NoEscape", "slices.overlaps[int]", "internal/reflectlite.ValueOf", "(internal/reflectlite.Value).Type", "(internal/reflectlite.Value).IsNil", "internal/reflectlite.TypeOf", "(internal/reflectlite.Value).Elem", "(internal/reflectlite.Value).Set"], unfollowed := true, recurses := true, named := ["internal/bytealg.MaxLen", "errors.errorType"], apart := false, laid := [("errors.errorType", laid_errors_errorType)] }
def OwnerNearSaid : Prop := ownerNearRow.holds Tryz.pinned (OpenSpec.ofChange ownerNearSpec)

/-- ITS FALSE NEIGHBOUR: 'it returns false'. Refute it at one input. -/
def ownerNearWrong : ChangeSpec := { name := "ownerNear", fn := fun _ => fun
  | [d1, d2] => { results := [.lit (.bool false)], args := [d1, d2] }
  | _ => none }
def OwnerNearWrongFalsely : Prop := ownerNearRow.holds Tryz.pinned (OpenSpec.ofChange ownerNearWrong)

/-- 'instarlaw13.OwnerNamed': WHATEVER THE INPUT: true; the input reads as it did. -/
def ownerNamedSpec : ChangeSpec := { name := "ownerNamed", fn := fun _ => fun
  | [d1, d2] => { results := [.lit (.bool true)], args := [d1, d2] }
  | _ => none }
def ownerNamedRow : OpenClaim := { program := "ytkgbgnmmgmnnlaagreatdoor", sum := "5782f660b25481d477f0b7d45fae991ffe13e999d46ee9eab37aa24c1a95973e", func := "instar/instarlaw13.OwnerNamed", spec := "ownerNamed", inPlace := ["internal/bytealg.IndexByteString", "internal/bytealg.IndexString", "internal/abi.NoEscape", "slices.overlaps[int]", "internal/reflectlite.ValueOf", "(internal/reflectlite.Value).Type", "(internal/reflectlite.Value).IsNil", "internal/reflectlite.TypeOf", "(internal/reflectlite.Value).Elem", "(internal/reflectlite.Value).Set"], unfollowed := true, recurses := true, named := ["internal/bytealg.MaxLen", "errors.errorType"], apart := false, laid := [("errors.errorType", laid_errors_errorType)] }
def OwnerNamedSaid : Prop := ownerNamedRow.holds Tryz.pinned (OpenSpec.ofChange ownerNamedSpec)

/-- ITS FALSE NEIGHBOUR: 'it returns false'. Refute it at one input. -/
def ownerNamedWrong : ChangeSpec := { name := "ownerNamed", fn := fun _ => fun
  | [d1, d2] => { results := [.lit (.bool false)], args := [d1, d2] }
  | _ => none }
def OwnerNamedWrongFalsely : Prop := ownerNamedRow.holds Tryz.pinned (OpenSpec.ofChange ownerNamedWrong)

/-- 'instarlaw13.OwnerParts': WHATEVER THE INPUT: true; the input reads as it did. -/
def ownerPartsSpec : ChangeSpec := { name := "ownerParts", fn := fun _ => fun
  | [d] => { results := [.lit (.bool true)], args := [d] }
  | _ => none }
def ownerPartsRow : OpenClaim := { program := "ytkgbgnmmgmnnlaagreatdoor", sum := "5782f660b25481d477f0b7d45fae991ffe13e999d46ee9eab37aa24c1a95973e", func := "instar/instarlaw13.OwnerParts", spec := "ownerParts", inPlace := ["internal/bytealg.IndexByteString", "internal/bytealg.IndexString", "internal/abi.NoEscape", "slices.overlaps[int]", "internal/reflectlite.ValueOf", "(internal/reflectlite.Value).Type", "(internal/reflectlite.Value).IsNil", "internal/reflectlite.TypeOf", "(internal/reflectlite.Value).Elem", "(internal/reflectlite.Value).Set"], unfollowed := true, recurses := true, named := ["internal/bytealg.MaxLen", "errors.errorType"], apart := false, laid := [("errors.errorType", laid_errors_errorType)] }
def OwnerPartsSaid : Prop := ownerPartsRow.holds Tryz.pinned (OpenSpec.ofChange ownerPartsSpec)

/-- ITS FALSE NEIGHBOUR: 'it returns false'. Refute it at one input. -/
def ownerPartsWrong : ChangeSpec := { name := "ownerParts", fn := fun _ => fun
  | [d] => { results := [.lit (.bool false)], args := [d] }
  | _ => none }
def OwnerPartsWrongFalsely : Prop := ownerPartsRow.holds Tryz.pinned (OpenSpec.ofChange ownerPartsWrong)

/-- 'instarlaw13.OwnerBack': WHATEVER THE INPUT: true; the input reads as it did. -/
def ownerBackSpec : ChangeSpec := { name := "ownerBack", fn := fun _ => fun
  | [d1, d2, d3, d4] => { results := [.lit (.bool true)], args := [d1, d2, d3, d4] }
  | _ => none }
def ownerBackRow : OpenClaim := { program := "ytkgbgnmmgmnnlaagreatdoor", sum := "5782f660b25481d477f0b7d45fae991ffe13e999d46ee9eab37aa24c1a95973e", func := "instar/instarlaw13.OwnerBack", spec := "ownerBack", inPlace := ["internal/bytealg.IndexByteString", "internal/bytealg.IndexString", "internal/abi.NoEscape", "slices.overlaps[int]", "internal/reflectlite.ValueOf", "(internal/reflectlite.Value).Type", "(internal/reflectlite.Value).IsNil", "internal/reflectlite.TypeOf", "(internal/reflectlite.Value).Elem", "(internal/reflectlite.Value).Set"], unfollowed := true, recurses := true, named := ["internal/bytealg.MaxLen", "errors.errorType"], apart := false, laid := [("errors.errorType", laid_errors_errorType)] }
def OwnerBackSaid : Prop := ownerBackRow.holds Tryz.pinned (OpenSpec.ofChange ownerBackSpec)

/-- ITS FALSE NEIGHBOUR: 'it returns false'. Refute it at one input. -/
def ownerBackWrong : ChangeSpec := { name := "ownerBack", fn := fun _ => fun
  | [d1, d2, d3, d4] => { results := [.lit (.bool false)], args := [d1, d2, d3, d4] }
  | _ => none }
def OwnerBackWrongFalsely : Prop := ownerBackRow.holds Tryz.pinned (OpenSpec.ofChange ownerBackWrong)

/-- 'instarlaw13.OwnerMoves': WHATEVER THE INPUT: true; the input reads as it did. -/
def ownerMovesSpec : ChangeSpec := { name := "ownerMoves", fn := fun _ => fun
  | [d1, d2] => { results := [.lit (.bool true)], args := [d1, d2] }
  | _ => none }
def ownerMovesRow : OpenClaim := { program := "ytkgbgnmmgmnnlaagreatdoor", sum := "5782f660b25481d477f0b7d45fae991ffe13e999d46ee9eab37aa24c1a95973e", func := "instar/instarlaw13.OwnerMoves", spec := "ownerMoves", inPlace := ["internal/bytealg.IndexByteString", "internal/bytealg.IndexString", "internal/abi.NoEscape", "slices.overlaps[int]", "internal/reflectlite.ValueOf", "(internal/reflectlite.Value).Type", "(internal/reflectlite.Value).IsNil", "internal/reflectlite.TypeOf", "(internal/reflectlite.Value).Elem", "(internal/reflectlite.Value).Set"], unfollowed := true, recurses := true, named := ["internal/bytealg.MaxLen", "errors.errorType"], apart := false, laid := [("errors.errorType", laid_errors_errorType)] }
def OwnerMovesSaid : Prop := ownerMovesRow.holds Tryz.pinned (OpenSpec.ofChange ownerMovesSpec)

/-- ITS FALSE NEIGHBOUR: 'it returns false'. Refute it at one input. -/
def ownerMovesWrong : ChangeSpec := { name := "ownerMoves", fn := fun _ => fun
  | [d1, d2] => { results := [.lit (.bool false)], args := [d1, d2] }
  | _ => none }
def OwnerMovesWrongFalsely : Prop := ownerMovesRow.holds Tryz.pinned (OpenSpec.ofChange ownerMovesWrong)

/- THE SECOND FORM. 'bulk': how many values and letters a reading holds, each counted each time it is reached (what is shared counts as often as it is met; a slice's spare places count too). A statement '..UptoSaid' is the law's where the arguments, and the package variables that the reading takes, are together of bulk at most 1048576: NARROWER than '..Said'. Prove '..Said' where nothing that the law and all that it calls make is longer than what came in: it says more and counts as full. Else prove '..UptoSaid'. A law counts once. -/
mutual
def uptoBulk {H : Type} : DataW H → Nat
  | .lit (.string bytes) => bytes.length + 1
  | .lit _ => 1
  | .nil => 1
  | .ptr d => uptoBulk d + 1
  | .slice elems spare => uptoBulkAll elems + uptoBulkAll spare + 1
  | .agg parts => uptoBulkAll parts + 1
  | .iface _ d => uptoBulk d + 1
  | .map entries => uptoBulkEntries entries + 1
  | .held _ => 1
def uptoBulkAll {H : Type} : List (DataW H) → Nat
  | [] => 0
  | d :: r => uptoBulk d + uptoBulkAll r
def uptoBulkEntries {H : Type} : List (Lit × DataW H) → Nat
  | [] => 0
  | x :: r => uptoBulkEntry x + uptoBulkEntries r
def uptoBulkEntry {H : Type} : Lit × DataW H → Nat
  | (.string bytes, d) => bytes.length + uptoBulk d + 1
  | (_, d) => uptoBulk d + 1
 end
def uptoSmall : (H : Type) → List (DataW H) → Bool := fun _ ds => decide (uptoBulkAll ds ≤ 1048576)
def OpenSpec.upto (s : _root_.Go.ChangeSpec) : _root_.Go.OpenSpec := { _root_.Go.OpenSpec.ofChange s with cond := some uptoSmall }

/-- 'instarlaw13.OwnerRight', WHERE WHAT IT READS IS OF BULK AT MOST 1048576: true; the input reads as it did. -/
def ownerRightUptoRow : OpenClaim := { program := "ytkgbgnmmgmnnlaagreatdoor", sum := "5782f660b25481d477f0b7d45fae991ffe13e999d46ee9eab37aa24c1a95973e", func := "instar/instarlaw13.OwnerRight", spec := "ownerRight", inPlace := ["internal/bytealg.IndexByteString", "internal/bytealg.IndexString", "internal/abi.NoEscape", "slices.overlaps[int]", "internal/reflectlite.ValueOf", "(internal/reflectlite.Value).Type", "(internal/reflectlite.Value).IsNil", "internal/reflectlite.TypeOf", "(internal/reflectlite.Value).Elem", "(internal/reflectlite.Value).Set"], unfollowed := true, recurses := true, named := ["internal/bytealg.MaxLen", "errors.errorType"], apart := false, laid := [("errors.errorType", laid_errors_errorType)], narrowed := true }
def OwnerRightUptoSaid : Prop := ownerRightUptoRow.holds Tryz.pinned (OpenSpec.upto ownerRightSpec)

/-- 'instarlaw13.OwnerNear', WHERE WHAT IT READS IS OF BULK AT MOST 1048576: true; the input reads as it did. -/
def ownerNearUptoRow : OpenClaim := { program := "ytkgbgnmmgmnnlaagreatdoor", sum := "5782f660b25481d477f0b7d45fae991ffe13e999d46ee9eab37aa24c1a95973e", func := "instar/instarlaw13.OwnerNear", spec := "ownerNear", inPlace := ["internal/bytealg.IndexByteString", "internal/bytealg.IndexString", "internal/abi.NoEscape", "slices.overlaps[int]", "internal/reflectlite.ValueOf", "(internal/reflectlite.Value).Type", "(internal/reflectlite.Value).IsNil", "internal/reflectlite.TypeOf", "(internal/reflectlite.Value).Elem", "(internal/reflectlite.Value).Set"], unfollowed := true, recurses := true, named := ["internal/bytealg.MaxLen", "errors.errorType"], apart := false, laid := [("errors.errorType", laid_errors_errorType)], narrowed := true }
def OwnerNearUptoSaid : Prop := ownerNearUptoRow.holds Tryz.pinned (OpenSpec.upto ownerNearSpec)

/-- 'instarlaw13.OwnerNamed', WHERE WHAT IT READS IS OF BULK AT MOST 1048576: true; the input reads as it did. -/
def ownerNamedUptoRow : OpenClaim := { program := "ytkgbgnmmgmnnlaagreatdoor", sum := "5782f660b25481d477f0b7d45fae991ffe13e999d46ee9eab37aa24c1a95973e", func := "instar/instarlaw13.OwnerNamed", spec := "ownerNamed", inPlace := ["internal/bytealg.IndexByteString", "internal/bytealg.IndexString", "internal/abi.NoEscape", "slices.overlaps[int]", "internal/reflectlite.ValueOf", "(internal/reflectlite.Value).Type", "(internal/reflectlite.Value).IsNil", "internal/reflectlite.TypeOf", "(internal/reflectlite.Value).Elem", "(internal/reflectlite.Value).Set"], unfollowed := true, recurses := true, named := ["internal/bytealg.MaxLen", "errors.errorType"], apart := false, laid := [("errors.errorType", laid_errors_errorType)], narrowed := true }
def OwnerNamedUptoSaid : Prop := ownerNamedUptoRow.holds Tryz.pinned (OpenSpec.upto ownerNamedSpec)

/-- 'instarlaw13.OwnerParts', WHERE WHAT IT READS IS OF BULK AT MOST 1048576: true; the input reads as it did. -/
def ownerPartsUptoRow : OpenClaim := { program := "ytkgbgnmmgmnnlaagreatdoor", sum := "5782f660b25481d477f0b7d45fae991ffe13e999d46ee9eab37aa24c1a95973e", func := "instar/instarlaw13.OwnerParts", spec := "ownerParts", inPlace := ["internal/bytealg.IndexByteString", "internal/bytealg.IndexString", "internal/abi.NoEscape", "slices.overlaps[int]", "internal/reflectlite.ValueOf", "(internal/reflectlite.Value).Type", "(internal/reflectlite.Value).IsNil", "internal/reflectlite.TypeOf", "(internal/reflectlite.Value).Elem", "(internal/reflectlite.Value).Set"], unfollowed := true, recurses := true, named := ["internal/bytealg.MaxLen", "errors.errorType"], apart := false, laid := [("errors.errorType", laid_errors_errorType)], narrowed := true }
def OwnerPartsUptoSaid : Prop := ownerPartsUptoRow.holds Tryz.pinned (OpenSpec.upto ownerPartsSpec)

/-- 'instarlaw13.OwnerBack', WHERE WHAT IT READS IS OF BULK AT MOST 1048576: true; the input reads as it did. -/
def ownerBackUptoRow : OpenClaim := { program := "ytkgbgnmmgmnnlaagreatdoor", sum := "5782f660b25481d477f0b7d45fae991ffe13e999d46ee9eab37aa24c1a95973e", func := "instar/instarlaw13.OwnerBack", spec := "ownerBack", inPlace := ["internal/bytealg.IndexByteString", "internal/bytealg.IndexString", "internal/abi.NoEscape", "slices.overlaps[int]", "internal/reflectlite.ValueOf", "(internal/reflectlite.Value).Type", "(internal/reflectlite.Value).IsNil", "internal/reflectlite.TypeOf", "(internal/reflectlite.Value).Elem", "(internal/reflectlite.Value).Set"], unfollowed := true, recurses := true, named := ["internal/bytealg.MaxLen", "errors.errorType"], apart := false, laid := [("errors.errorType", laid_errors_errorType)], narrowed := true }
def OwnerBackUptoSaid : Prop := ownerBackUptoRow.holds Tryz.pinned (OpenSpec.upto ownerBackSpec)

/-- 'instarlaw13.OwnerMoves', WHERE WHAT IT READS IS OF BULK AT MOST 1048576: true; the input reads as it did. -/
def ownerMovesUptoRow : OpenClaim := { program := "ytkgbgnmmgmnnlaagreatdoor", sum := "5782f660b25481d477f0b7d45fae991ffe13e999d46ee9eab37aa24c1a95973e", func := "instar/instarlaw13.OwnerMoves", spec := "ownerMoves", inPlace := ["internal/bytealg.IndexByteString", "internal/bytealg.IndexString", "internal/abi.NoEscape", "slices.overlaps[int]", "internal/reflectlite.ValueOf", "(internal/reflectlite.Value).Type", "(internal/reflectlite.Value).IsNil", "internal/reflectlite.TypeOf", "(internal/reflectlite.Value).Elem", "(internal/reflectlite.Value).Set"], unfollowed := true, recurses := true, named := ["internal/bytealg.MaxLen", "errors.errorType"], apart := false, laid := [("errors.errorType", laid_errors_errorType)], narrowed := true }
def OwnerMovesUptoSaid : Prop := ownerMovesUptoRow.holds Tryz.pinned (OpenSpec.upto ownerMovesSpec)

end Rows
end Go.Proofs.YtkgbgnmmgmnnlaaGreatDoor
