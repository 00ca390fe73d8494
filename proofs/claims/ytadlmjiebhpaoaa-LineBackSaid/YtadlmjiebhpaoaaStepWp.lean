/- A step of a drawn region that is a call: its guard decided. No program. -/
import Derived.BigRegion
import Derived.Deep.RegionLaw
namespace Go.Proofs.Ytadlmjiebhpaoaa
theorem step_wpS {P : Program} {ops : Array Oper} {o : Oper} {a : Act} {w : World} {K : Act → World → Prop} {Q : Exit → Act → World → Prop} {E : Prop} (hg : o.guard = none) (h : Oper.wp P o a w K Q) : if Region.wanted o (yielded ops a.tmps) = true then Oper.wp P o a w K Q else E := by
  have hw : Region.wanted o (yielded ops a.tmps) = true := by simp [Region.wanted, hg]
  rw [if_pos hw]
  exact h
end Go.Proofs.Ytadlmjiebhpaoaa
