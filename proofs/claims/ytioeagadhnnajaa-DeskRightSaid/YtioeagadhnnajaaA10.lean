/- Texts joined in build order: NameFit NameKinds StepWp AttrOpen. -/
import Derived.Test.YtioeagadhnnajaaA09
import Derived.Test.YtioeagadhnnajaaA08
import Derived.BigRegion
import Derived.Deep.RegionLaw
import Derived.Test.YtioeagadhnnajaaA03
import Derived.Test.YtioeagadhnnajaaChecked
import Derived.Deep.SlicePairs
import Derived.ProofKit
/- Fit answers what NamePure says. -/
namespace Go.Proofs.Ytioeagadhnnajaa
open Go.RowKit
def fitL (l : List UInt8) : List UInt8 := if rightL l then smallL l else []
def fitE (l : List UInt8) : Int := if rightL l then 0 else 4
end Go.Proofs.Ytioeagadhnnajaa
/- Custom and Kind answer what NamePure says. -/
namespace Go.Proofs.Ytioeagadhnnajaa
open Go.RowKit
theorem headD_get (s : ByteArray) (h : 0 < s.size) : s.toList.headD 0 = s[0] := by
  have := tl_get s 0 h
  cases e : s.toList with
  | nil => rw [e] at this; simp at this
  | cons b r => rw [e] at this; simpa using this
theorem rightL_pos (s : ByteArray) (h : rightL s.toList = true) : 0 < s.size := by
  by_cases h0 : 0 < s.size
  · exact h0
  · rw [rightL_ends _ (by rw [tl_len]; omega)] at h
    cases h
theorem customL_no (l : List UInt8) (h : rightL l = false) : customL l = false := by unfold customL; rw [h]; rfl
theorem customL_eq (s : ByteArray) (h : rightL s.toList = true) (hp : 0 < s.size) :
    customL s.toList = ((smallL s.toList == s.toList) && lowI (s[0].toNat : Int) && dashL s.toList && !reservedL s.toList) := by
  unfold customL
  rw [h, headD_get s hp, Bool.true_and]

set_option maxHeartbeats 2000000 in
theorem custom_any (s : ByteArray) (w : World) (hs : s.size ≤ maxLen) :
    Calls Try.prog 36 #[.string s] w fun e w' => e = .returned (.bool (customL s.toList)) ∧ Below w.heap.size w w' := by
  have HB : Below w.heap.size w w := Below.refl _ _
  by_cases hr : rightL s.toList = true
  · have hp := rightL_pos s hr
    have HC := Lib.hid (customL_eq s hr hp)
    go_enter Try.func36, Try.ntmps36
    go_wp2_with (first
      | (go_at_call 49; refine (right_any _ _ hs).mono ?_; rintro e w' ⟨rfl, rfl⟩)
      | (go_at_call 50; refine (small_any _ _ hs).mono ?_; rintro e w' ⟨rfl, hb⟩; have HB := HB.trans (hb.mono HB.size); clear hb)
      | (go_at_call 51; refine (isSmall_any _ _).mono ?_; rintro e w' ⟨rfl, rfl⟩)
      | (go_at_call 52; refine (dash_any _ _).mono ?_; rintro e w' ⟨rfl, rfl⟩)
      | (go_at_call 53; refine (reserved_any _ _).mono ?_; rintro e w' ⟨rfl, rfl⟩))
    all_goals (go_ret; exact ⟨ret_bool (by rw [HC.out]; simp [*]), by assumption⟩)
  · have hr' : rightL s.toList = false := by simpa using hr
    have HC := Lib.hid (customL_no _ hr')
    clear hr
    go_enter Try.func36, Try.ntmps36
    go_wp2_with (go_at_call 49; refine (right_any _ _ hs).mono ?_; rintro e w' ⟨rfl, rfl⟩)
    go_ret
    exact ⟨ret_bool HC.out.symm, HB⟩

end Go.Proofs.Ytioeagadhnnajaa
/- A step of a drawn region that is a call: its guard decided. No program. -/
namespace Go.Proofs.Ytioeagadhnnajaa
theorem step_wpS {P : Program} {ops : Array Oper} {o : Oper} {a : Act} {w : World} {K : Act → World → Prop} {Q : Exit → Act → World → Prop} {E : Prop} (hg : o.guard = none) (h : Oper.wp P o a w K Q) : if Region.wanted o (yielded ops a.tmps) = true then Oper.wp P o a w K Q else E := by
  have hw : Region.wanted o (yielded ops a.tmps) = true := by simp [Region.wanted, hg]
  rw [if_pos hw]
  exact h
end Go.Proofs.Ytioeagadhnnajaa
/- An argument that is a list of attributes, opened. -/
namespace Go.Proofs.Ytioeagadhnnajaa
open Go.RowKit Go.Deep Go.ChangeShapes Go.WideShapes
theorem block_lt {W : World} {p : Addr} {v : Value} (h : W.cell? p = some v) : p.block < W.heap.size := by
  rcases Nat.lt_or_ge p.block W.heap.size with h1 | h1
  · exact h1
  · unfold World.cell? at h
    rw [Array.getElem?_eq_none h1] at h
    simp at h
end Go.Proofs.Ytioeagadhnnajaa
