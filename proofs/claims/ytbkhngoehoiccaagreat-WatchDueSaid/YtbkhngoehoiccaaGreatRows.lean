/-
  No cell of these rows narrows 'for every input' (looked for: loops, veiled, ifaces, maps, wideKeys, modest, calm, conditions, laid).
  DERIVED. THE GIVEN ROWS OF THIS SEAT. 4 by the template 'for every input the law returns true; each argument reads behind the call as it read before'; 0 by the template 'total and deterministic' (their statements: YtbkhngoehoiccaaGreatTotals.lean).
  GIVEN WITH THE SEED: the statements are not yours to turn. If you find one false, say at which input.
  Laid BY PROGRAM, IN A SANDBOX (cutbox-rows.mjs): the forced cells as the released guide's own fill.sh prints them over the translation 453b2863ddd2e4c4… (all of the seat's roots in one cut). By AI agents, Wed Nov 11 2026. No macro, syntax, notation, axiom, sorry.
-/
import Derived.Test.YtbkhngoehoiccaaGreatChecked
import GoSem.Claim
import GoSem.ClaimJoined
import GoSem.ClaimMapViews
import Derived.JoinedTies
import Derived.KernelRfl
namespace Go.Proofs.YtbkhngoehoiccaaGreat
/- THE CELL 'sum', in the pinned program and in every row, IS THE sha256 OF THE DUMP (.gsa) THAT YtbkhngoehoiccaaGreatProg.lean LOADS. Nothing in Lean hashes anything: it is a label: what it is worth is what the hold of that sum in a sandbox is worth. -/
noncomputable def Tryz.pinned : Pinned := { name := "ytbkhngoehoiccaagreat", sum := "453b2863ddd2e4c4625993de6ca190fc8fb847dd9511af01d89d209661c03141", checked := Tryz.checked }
namespace Rows
def none {H : Type} : Left H := { results := [], args := [] }

/-- 'instarlaw12.WatchRight': WHATEVER THE INPUT: true; the input reads as it did. -/
def watchRightSpec : ChangeSpec := { name := "watchRight", fn := fun _ => fun
  | [d1, d2, d3, d4, d5, d6, d7, d8] => { results := [.lit (.bool true)], args := [d1, d2, d3, d4, d5, d6, d7, d8] }
  | _ => none }
def watchRightRow : OpenClaim := { program := "ytbkhngoehoiccaagreat", sum := "453b2863ddd2e4c4625993de6ca190fc8fb847dd9511af01d89d209661c03141", func := "instar/instarlaw12.WatchRight", spec := "watchRight", inPlace := ["internal/bytealg.IndexByteString", "internal/bytealg.IndexString", "internal/abi.NoEscape", "slices.overlaps[int]"], unfollowed := true, recurses := true, named := ["internal/bytealg.MaxLen"], apart := false }
def WatchRightSaid : Prop := watchRightRow.holds Tryz.pinned (OpenSpec.ofChange watchRightSpec)

/-- ITS FALSE NEIGHBOUR: 'it returns false'. Refute it at one input. -/
def watchRightWrong : ChangeSpec := { name := "watchRight", fn := fun _ => fun
  | [d1, d2, d3, d4, d5, d6, d7, d8] => { results := [.lit (.bool false)], args := [d1, d2, d3, d4, d5, d6, d7, d8] }
  | _ => none }
def WatchRightWrongFalsely : Prop := watchRightRow.holds Tryz.pinned (OpenSpec.ofChange watchRightWrong)

/-- 'instarlaw12.WatchDue': WHATEVER THE INPUT: true; the input reads as it did. -/
def watchDueSpec : ChangeSpec := { name := "watchDue", fn := fun _ => fun
  | [d1, d2, d3, d4, d5] => { results := [.lit (.bool true)], args := [d1, d2, d3, d4, d5] }
  | _ => none }
def watchDueRow : OpenClaim := { program := "ytbkhngoehoiccaagreat", sum := "453b2863ddd2e4c4625993de6ca190fc8fb847dd9511af01d89d209661c03141", func := "instar/instarlaw12.WatchDue", spec := "watchDue", inPlace := ["internal/bytealg.IndexByteString", "internal/bytealg.IndexString", "internal/abi.NoEscape", "slices.overlaps[int]"], unfollowed := true, recurses := true, named := ["internal/bytealg.MaxLen"], apart := false }
def WatchDueSaid : Prop := watchDueRow.holds Tryz.pinned (OpenSpec.ofChange watchDueSpec)

/-- ITS FALSE NEIGHBOUR: 'it returns false'. Refute it at one input. -/
def watchDueWrong : ChangeSpec := { name := "watchDue", fn := fun _ => fun
  | [d1, d2, d3, d4, d5] => { results := [.lit (.bool false)], args := [d1, d2, d3, d4, d5] }
  | _ => none }
def WatchDueWrongFalsely : Prop := watchDueRow.holds Tryz.pinned (OpenSpec.ofChange watchDueWrong)

/-- 'instarlaw12.WatchFirst': WHATEVER THE INPUT: true; the input reads as it did. -/
def watchFirstSpec : ChangeSpec := { name := "watchFirst", fn := fun _ => fun
  | [d1, d2, d3, d4, d5] => { results := [.lit (.bool true)], args := [d1, d2, d3, d4, d5] }
  | _ => none }
def watchFirstRow : OpenClaim := { program := "ytbkhngoehoiccaagreat", sum := "453b2863ddd2e4c4625993de6ca190fc8fb847dd9511af01d89d209661c03141", func := "instar/instarlaw12.WatchFirst", spec := "watchFirst", inPlace := ["internal/bytealg.IndexByteString", "internal/bytealg.IndexString", "internal/abi.NoEscape", "slices.overlaps[int]"], unfollowed := true, recurses := true, named := ["internal/bytealg.MaxLen"], apart := false }
def WatchFirstSaid : Prop := watchFirstRow.holds Tryz.pinned (OpenSpec.ofChange watchFirstSpec)

/-- ITS FALSE NEIGHBOUR: 'it returns false'. Refute it at one input. -/
def watchFirstWrong : ChangeSpec := { name := "watchFirst", fn := fun _ => fun
  | [d1, d2, d3, d4, d5] => { results := [.lit (.bool false)], args := [d1, d2, d3, d4, d5] }
  | _ => none }
def WatchFirstWrongFalsely : Prop := watchFirstRow.holds Tryz.pinned (OpenSpec.ofChange watchFirstWrong)

/-- 'instarlaw12.WatchApart': WHATEVER THE INPUT: true; the input reads as it did. -/
def watchApartSpec : ChangeSpec := { name := "watchApart", fn := fun _ => fun
  | [d1, d2, d3, d4, d5, d6] => { results := [.lit (.bool true)], args := [d1, d2, d3, d4, d5, d6] }
  | _ => none }
def watchApartRow : OpenClaim := { program := "ytbkhngoehoiccaagreat", sum := "453b2863ddd2e4c4625993de6ca190fc8fb847dd9511af01d89d209661c03141", func := "instar/instarlaw12.WatchApart", spec := "watchApart", inPlace := ["internal/bytealg.IndexByteString", "internal/bytealg.IndexString", "internal/abi.NoEscape", "slices.overlaps[int]"], unfollowed := true, recurses := true, named := ["internal/bytealg.MaxLen"], apart := false }
def WatchApartSaid : Prop := watchApartRow.holds Tryz.pinned (OpenSpec.ofChange watchApartSpec)

/-- ITS FALSE NEIGHBOUR: 'it returns false'. Refute it at one input. -/
def watchApartWrong : ChangeSpec := { name := "watchApart", fn := fun _ => fun
  | [d1, d2, d3, d4, d5, d6] => { results := [.lit (.bool false)], args := [d1, d2, d3, d4, d5, d6] }
  | _ => none }
def WatchApartWrongFalsely : Prop := watchApartRow.holds Tryz.pinned (OpenSpec.ofChange watchApartWrong)

/- THE SECOND FORM. 'bulk': how many values and letters a reading holds, each counted each time it is reached (what is shared counts as often as it is met; a slice's spare places count too). A statement '..UptoSaid' is the law's where the arguments, and the package variables that the reading takes, are together of bulk at most 1048576: NARROWER than '..Said'. Prove '..Said' where nothing that the law and all that it calls make is longer than what came in: it says more and counts as full. Else prove '..UptoSaid'. A law counts once. -/
mutual
def uptoBulk {H : Type} : DataW H → Nat
  | .lit (.string bytes) => bytes.length + 1
  | .lit _ => 1
  | .nil => 1
  | .ptr d => uptoBulk d + 1
  | .slice elems spare => uptoBulkAll elems + uptoBulkAll spare + 1
  | .agg parts => uptoBulkAll parts + 1
  | .iface _ d => uptoBulk d + 1
  | .map entries => uptoBulkEntries entries + 1
  | .held _ => 1
def uptoBulkAll {H : Type} : List (DataW H) → Nat
  | [] => 0
  | d :: r => uptoBulk d + uptoBulkAll r
def uptoBulkEntries {H : Type} : List (Lit × DataW H) → Nat
  | [] => 0
  | x :: r => uptoBulkEntry x + uptoBulkEntries r
def uptoBulkEntry {H : Type} : Lit × DataW H → Nat
  | (.string bytes, d) => bytes.length + uptoBulk d + 1
  | (_, d) => uptoBulk d + 1
 end
def uptoSmall : (H : Type) → List (DataW H) → Bool := fun _ ds => decide (uptoBulkAll ds ≤ 1048576)
def OpenSpec.upto (s : _root_.Go.ChangeSpec) : _root_.Go.OpenSpec := { _root_.Go.OpenSpec.ofChange s with cond := some uptoSmall }

/-- 'instarlaw12.WatchRight', WHERE WHAT IT READS IS OF BULK AT MOST 1048576: true; the input reads as it did. -/
def watchRightUptoRow : OpenClaim := { program := "ytbkhngoehoiccaagreat", sum := "453b2863ddd2e4c4625993de6ca190fc8fb847dd9511af01d89d209661c03141", func := "instar/instarlaw12.WatchRight", spec := "watchRight", inPlace := ["internal/bytealg.IndexByteString", "internal/bytealg.IndexString", "internal/abi.NoEscape", "slices.overlaps[int]"], unfollowed := true, recurses := true, named := ["internal/bytealg.MaxLen"], apart := false, narrowed := true }
def WatchRightUptoSaid : Prop := watchRightUptoRow.holds Tryz.pinned (OpenSpec.upto watchRightSpec)

/-- 'instarlaw12.WatchDue', WHERE WHAT IT READS IS OF BULK AT MOST 1048576: true; the input reads as it did. -/
def watchDueUptoRow : OpenClaim := { program := "ytbkhngoehoiccaagreat", sum := "453b2863ddd2e4c4625993de6ca190fc8fb847dd9511af01d89d209661c03141", func := "instar/instarlaw12.WatchDue", spec := "watchDue", inPlace := ["internal/bytealg.IndexByteString", "internal/bytealg.IndexString", "internal/abi.NoEscape", "slices.overlaps[int]"], unfollowed := true, recurses := true, named := ["internal/bytealg.MaxLen"], apart := false, narrowed := true }
def WatchDueUptoSaid : Prop := watchDueUptoRow.holds Tryz.pinned (OpenSpec.upto watchDueSpec)

/-- 'instarlaw12.WatchFirst', WHERE WHAT IT READS IS OF BULK AT MOST 1048576: true; the input reads as it did. -/
def watchFirstUptoRow : OpenClaim := { program := "ytbkhngoehoiccaagreat", sum := "453b2863ddd2e4c4625993de6ca190fc8fb847dd9511af01d89d209661c03141", func := "instar/instarlaw12.WatchFirst", spec := "watchFirst", inPlace := ["internal/bytealg.IndexByteString", "internal/bytealg.IndexString", "internal/abi.NoEscape", "slices.overlaps[int]"], unfollowed := true, recurses := true, named := ["internal/bytealg.MaxLen"], apart := false, narrowed := true }
def WatchFirstUptoSaid : Prop := watchFirstUptoRow.holds Tryz.pinned (OpenSpec.upto watchFirstSpec)

/-- 'instarlaw12.WatchApart', WHERE WHAT IT READS IS OF BULK AT MOST 1048576: true; the input reads as it did. -/
def watchApartUptoRow : OpenClaim := { program := "ytbkhngoehoiccaagreat", sum := "453b2863ddd2e4c4625993de6ca190fc8fb847dd9511af01d89d209661c03141", func := "instar/instarlaw12.WatchApart", spec := "watchApart", inPlace := ["internal/bytealg.IndexByteString", "internal/bytealg.IndexString", "internal/abi.NoEscape", "slices.overlaps[int]"], unfollowed := true, recurses := true, named := ["internal/bytealg.MaxLen"], apart := false, narrowed := true }
def WatchApartUptoSaid : Prop := watchApartUptoRow.holds Tryz.pinned (OpenSpec.upto watchApartSpec)

end Rows
end Go.Proofs.YtbkhngoehoiccaaGreat
