/-
  No cell of these rows narrows 'for every input' (looked for: loops, veiled, ifaces, maps, wideKeys, modest, calm, conditions, laid).
  DERIVED. THE GIVEN ROWS OF THIS SEAT. 4 by the template 'for every input the law returns true; each argument reads behind the call as it read before'; 0 by the template 'total and deterministic' (their statements: YtkomeijlljcdgaaGreatTotals.lean).
  GIVEN WITH THE SEED: the statements are not yours to turn. If you find one false, say at which input.
  Laid BY PROGRAM, IN A SANDBOX (cutbox-rows.mjs): the forced cells as the released guide's own fill.sh prints them over the translation 5310989fadb1f69f… (all of the seat's roots in one cut). By AI agents, Wed Nov 11 2026. No macro, syntax, notation, axiom, sorry.
-/
import Derived.Test.YtkomeijlljcdgaaGreatChecked
import GoSem.Claim
import GoSem.ClaimJoined
import GoSem.ClaimMapViews
import Derived.JoinedTies
import Derived.KernelRfl
namespace Go.Proofs.YtkomeijlljcdgaaGreat
/- THE CELL 'sum', in the pinned program and in every row, IS THE sha256 OF THE DUMP (.gsa) THAT YtkomeijlljcdgaaGreatProg.lean LOADS. Nothing in Lean hashes anything: it is a label: what it is worth is what the hold of that sum in a sandbox is worth. -/
noncomputable def Tryz.pinned : Pinned := { name := "ytkomeijlljcdgaagreat", sum := "5310989fadb1f69f0bc4fcc3897e79b403aa5a2526d039c5451ea602fbde4df3", checked := Tryz.checked }
namespace Rows
def none {H : Type} : Left H := { results := [], args := [] }

/-- 'instarlaw10.HeirRight': WHATEVER THE INPUT: true; the input reads as it did. -/
def heirRightSpec : ChangeSpec := { name := "heirRight", fn := fun _ => fun
  | [d1, d2, d3, d4, d5, d6] => { results := [.lit (.bool true)], args := [d1, d2, d3, d4, d5, d6] }
  | _ => none }
def heirRightRow : OpenClaim := { program := "ytkomeijlljcdgaagreat", sum := "5310989fadb1f69f0bc4fcc3897e79b403aa5a2526d039c5451ea602fbde4df3", func := "instar/instarlaw10.HeirRight", spec := "heirRight", inPlace := ["internal/bytealg.IndexByteString", "internal/bytealg.IndexString", "internal/abi.NoEscape", "slices.overlaps[int]"], unfollowed := true, recurses := true, named := ["internal/bytealg.MaxLen"], apart := false }
def HeirRightSaid : Prop := heirRightRow.holds Tryz.pinned (OpenSpec.ofChange heirRightSpec)

/-- ITS FALSE NEIGHBOUR: 'it returns false'. Refute it at one input. -/
def heirRightWrong : ChangeSpec := { name := "heirRight", fn := fun _ => fun
  | [d1, d2, d3, d4, d5, d6] => { results := [.lit (.bool false)], args := [d1, d2, d3, d4, d5, d6] }
  | _ => none }
def HeirRightWrongFalsely : Prop := heirRightRow.holds Tryz.pinned (OpenSpec.ofChange heirRightWrong)

/-- 'instarlaw10.HeirAll': WHATEVER THE INPUT: true; the input reads as it did. -/
def heirAllSpec : ChangeSpec := { name := "heirAll", fn := fun _ => fun
  | [d1, d2] => { results := [.lit (.bool true)], args := [d1, d2] }
  | _ => none }
def heirAllRow : OpenClaim := { program := "ytkomeijlljcdgaagreat", sum := "5310989fadb1f69f0bc4fcc3897e79b403aa5a2526d039c5451ea602fbde4df3", func := "instar/instarlaw10.HeirAll", spec := "heirAll", inPlace := ["internal/bytealg.IndexByteString", "internal/bytealg.IndexString", "internal/abi.NoEscape", "slices.overlaps[int]"], unfollowed := true, recurses := true, named := ["internal/bytealg.MaxLen"], apart := false }
def HeirAllSaid : Prop := heirAllRow.holds Tryz.pinned (OpenSpec.ofChange heirAllSpec)

/-- ITS FALSE NEIGHBOUR: 'it returns false'. Refute it at one input. -/
def heirAllWrong : ChangeSpec := { name := "heirAll", fn := fun _ => fun
  | [d1, d2] => { results := [.lit (.bool false)], args := [d1, d2] }
  | _ => none }
def HeirAllWrongFalsely : Prop := heirAllRow.holds Tryz.pinned (OpenSpec.ofChange heirAllWrong)

/-- 'instarlaw10.HeirTries': WHATEVER THE INPUT: true; the input reads as it did. -/
def heirTriesSpec : ChangeSpec := { name := "heirTries", fn := fun _ => fun
  | [d1, d2, d3] => { results := [.lit (.bool true)], args := [d1, d2, d3] }
  | _ => none }
def heirTriesRow : OpenClaim := { program := "ytkomeijlljcdgaagreat", sum := "5310989fadb1f69f0bc4fcc3897e79b403aa5a2526d039c5451ea602fbde4df3", func := "instar/instarlaw10.HeirTries", spec := "heirTries", inPlace := ["internal/bytealg.IndexByteString", "internal/bytealg.IndexString", "internal/abi.NoEscape", "slices.overlaps[int]"], unfollowed := true, recurses := true, named := ["internal/bytealg.MaxLen"], apart := false }
def HeirTriesSaid : Prop := heirTriesRow.holds Tryz.pinned (OpenSpec.ofChange heirTriesSpec)

/-- ITS FALSE NEIGHBOUR: 'it returns false'. Refute it at one input. -/
def heirTriesWrong : ChangeSpec := { name := "heirTries", fn := fun _ => fun
  | [d1, d2, d3] => { results := [.lit (.bool false)], args := [d1, d2, d3] }
  | _ => none }
def HeirTriesWrongFalsely : Prop := heirTriesRow.holds Tryz.pinned (OpenSpec.ofChange heirTriesWrong)

/-- 'instarlaw10.HeirAdds': WHATEVER THE INPUT: true; the input reads as it did. -/
def heirAddsSpec : ChangeSpec := { name := "heirAdds", fn := fun _ => fun
  | [d1, d2, d3, d4, d5] => { results := [.lit (.bool true)], args := [d1, d2, d3, d4, d5] }
  | _ => none }
def heirAddsRow : OpenClaim := { program := "ytkomeijlljcdgaagreat", sum := "5310989fadb1f69f0bc4fcc3897e79b403aa5a2526d039c5451ea602fbde4df3", func := "instar/instarlaw10.HeirAdds", spec := "heirAdds", inPlace := ["internal/bytealg.IndexByteString", "internal/bytealg.IndexString", "internal/abi.NoEscape", "slices.overlaps[int]"], unfollowed := true, recurses := true, named := ["internal/bytealg.MaxLen"], apart := false }
def HeirAddsSaid : Prop := heirAddsRow.holds Tryz.pinned (OpenSpec.ofChange heirAddsSpec)

/-- ITS FALSE NEIGHBOUR: 'it returns false'. Refute it at one input. -/
def heirAddsWrong : ChangeSpec := { name := "heirAdds", fn := fun _ => fun
  | [d1, d2, d3, d4, d5] => { results := [.lit (.bool false)], args := [d1, d2, d3, d4, d5] }
  | _ => none }
def HeirAddsWrongFalsely : Prop := heirAddsRow.holds Tryz.pinned (OpenSpec.ofChange heirAddsWrong)

/- THE SECOND FORM. 'bulk': how many values and letters a reading holds, each counted each time it is reached (what is shared counts as often as it is met; a slice's spare places count too). A statement '..UptoSaid' is the law's where the arguments, and the package variables that the reading takes, are together of bulk at most 1048576: NARROWER than '..Said'. Prove '..Said' where nothing that the law and all that it calls make is longer than what came in: it says more and counts as full. Else prove '..UptoSaid'. A law counts once. -/
mutual
def uptoBulk {H : Type} : DataW H → Nat
  | .lit (.string bytes) => bytes.length + 1
  | .lit _ => 1
  | .nil => 1
  | .ptr d => uptoBulk d + 1
  | .slice elems spare => uptoBulkAll elems + uptoBulkAll spare + 1
  | .agg parts => uptoBulkAll parts + 1
  | .iface _ d => uptoBulk d + 1
  | .map entries => uptoBulkEntries entries + 1
  | .held _ => 1
def uptoBulkAll {H : Type} : List (DataW H) → Nat
  | [] => 0
  | d :: r => uptoBulk d + uptoBulkAll r
def uptoBulkEntries {H : Type} : List (Lit × DataW H) → Nat
  | [] => 0
  | x :: r => uptoBulkEntry x + uptoBulkEntries r
def uptoBulkEntry {H : Type} : Lit × DataW H → Nat
  | (.string bytes, d) => bytes.length + uptoBulk d + 1
  | (_, d) => uptoBulk d + 1
 end
def uptoSmall : (H : Type) → List (DataW H) → Bool := fun _ ds => decide (uptoBulkAll ds ≤ 1048576)
def OpenSpec.upto (s : _root_.Go.ChangeSpec) : _root_.Go.OpenSpec := { _root_.Go.OpenSpec.ofChange s with cond := some uptoSmall }

/-- 'instarlaw10.HeirRight', WHERE WHAT IT READS IS OF BULK AT MOST 1048576: true; the input reads as it did. -/
def heirRightUptoRow : OpenClaim := { program := "ytkomeijlljcdgaagreat", sum := "5310989fadb1f69f0bc4fcc3897e79b403aa5a2526d039c5451ea602fbde4df3", func := "instar/instarlaw10.HeirRight", spec := "heirRight", inPlace := ["internal/bytealg.IndexByteString", "internal/bytealg.IndexString", "internal/abi.NoEscape", "slices.overlaps[int]"], unfollowed := true, recurses := true, named := ["internal/bytealg.MaxLen"], apart := false, narrowed := true }
def HeirRightUptoSaid : Prop := heirRightUptoRow.holds Tryz.pinned (OpenSpec.upto heirRightSpec)

/-- 'instarlaw10.HeirAll', WHERE WHAT IT READS IS OF BULK AT MOST 1048576: true; the input reads as it did. -/
def heirAllUptoRow : OpenClaim := { program := "ytkomeijlljcdgaagreat", sum := "5310989fadb1f69f0bc4fcc3897e79b403aa5a2526d039c5451ea602fbde4df3", func := "instar/instarlaw10.HeirAll", spec := "heirAll", inPlace := ["internal/bytealg.IndexByteString", "internal/bytealg.IndexString", "internal/abi.NoEscape", "slices.overlaps[int]"], unfollowed := true, recurses := true, named := ["internal/bytealg.MaxLen"], apart := false, narrowed := true }
def HeirAllUptoSaid : Prop := heirAllUptoRow.holds Tryz.pinned (OpenSpec.upto heirAllSpec)

/-- 'instarlaw10.HeirTries', WHERE WHAT IT READS IS OF BULK AT MOST 1048576: true; the input reads as it did. -/
def heirTriesUptoRow : OpenClaim := { program := "ytkomeijlljcdgaagreat", sum := "5310989fadb1f69f0bc4fcc3897e79b403aa5a2526d039c5451ea602fbde4df3", func := "instar/instarlaw10.HeirTries", spec := "heirTries", inPlace := ["internal/bytealg.IndexByteString", "internal/bytealg.IndexString", "internal/abi.NoEscape", "slices.overlaps[int]"], unfollowed := true, recurses := true, named := ["internal/bytealg.MaxLen"], apart := false, narrowed := true }
def HeirTriesUptoSaid : Prop := heirTriesUptoRow.holds Tryz.pinned (OpenSpec.upto heirTriesSpec)

/-- 'instarlaw10.HeirAdds', WHERE WHAT IT READS IS OF BULK AT MOST 1048576: true; the input reads as it did. -/
def heirAddsUptoRow : OpenClaim := { program := "ytkomeijlljcdgaagreat", sum := "5310989fadb1f69f0bc4fcc3897e79b403aa5a2526d039c5451ea602fbde4df3", func := "instar/instarlaw10.HeirAdds", spec := "heirAdds", inPlace := ["internal/bytealg.IndexByteString", "internal/bytealg.IndexString", "internal/abi.NoEscape", "slices.overlaps[int]"], unfollowed := true, recurses := true, named := ["internal/bytealg.MaxLen"], apart := false, narrowed := true }
def HeirAddsUptoSaid : Prop := heirAddsUptoRow.holds Tryz.pinned (OpenSpec.upto heirAddsSpec)

end Rows
end Go.Proofs.YtkomeijlljcdgaaGreat
