/- An argument that is a list of attributes, opened. -/
import Derived.Test.YtadlmjiebhpaoaaAttrPure
import Derived.Test.YtadlmjiebhpaoaaChecked
import Derived.Deep.SlicePairs
import Derived.ProofKit
namespace Go.Proofs.Ytadlmjiebhpaoaa
open Go.RowKit Go.Deep Go.ChangeShapes Go.WideShapes
theorem block_lt {W : World} {p : Addr} {v : Value} (h : W.cell? p = some v) : p.block < W.heap.size := by
  rcases Nat.lt_or_ge p.block W.heap.size with h1 | h1
  · exact h1
  · unfold World.cell? at h
    rw [Array.getElem?_eq_none h1] at h
    simp at h
end Go.Proofs.Ytadlmjiebhpaoaa
