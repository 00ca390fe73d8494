/- The fixed answers that stage 1's laws begin with are right. -/
import Derived.Test.YtgcejejnbcjckaaNameKinds
namespace Go.Proofs.Ytgcejejnbcjckaa
open Go.RowKit
set_option maxHeartbeats 2000000 in
set_option maxRecDepth 100000 in
theorem awake_any (w : World) : Calls Try.prog 8 #[] w fun e w' => e = .returned (.bool true) ∧ Below w.heap.size w w' := by
  have HB : Below w.heap.size w w := Below.refl _ _
  have f1 : fitL [88, 45, 97] = [120, 45, 97] := by decide
  have f2 : fitE [88, 45, 97] = 0 := by decide
  have c1 : customL [120, 45, 97] = true := by decide
  have c2 : customL [102, 111, 110, 116, 45, 102, 97, 99, 101] = false := by decide
  have k1 : knownL [102, 111, 114, 109] = true := by decide
  have k2 : kindL [115, 118, 103] = 3 := by decide
  have r1 : rightL [95, 98] = true := by decide
  have r2 : rightL [45, 98] = false := by decide
  have s1 : smallL [97, 90] = [97, 122] := by decide
  go_enter Try.func8, Try.ntmps8
  go_wp2_with (first
    | (go_at_call 9; refine (fit_any _ _ (by unfold maxLen; decide)).mono ?_; rintro e w' ⟨rfl, hb⟩; have HB := HB.trans (hb.mono HB.size); clear hb)
    | (go_at_call 13; refine (custom_any _ _ (by unfold maxLen; decide)).mono ?_; rintro e w' ⟨rfl, hb⟩; have HB := HB.trans (hb.mono HB.size); clear hb)
    | (go_at_call 15; refine (known_any _ _).mono ?_; rintro e w' ⟨rfl, rfl⟩)
    | (go_at_call 17; refine (kind_any _ _ (by unfold maxLen; decide)).mono ?_; rintro e w' ⟨rfl, hb⟩; have HB := HB.trans (hb.mono HB.size); clear hb)
    | (go_at_call 12; refine (right_any _ _ (by unfold maxLen; decide)).mono ?_; rintro e w' ⟨rfl, rfl⟩)
    | (go_at_call 19; refine (small_any _ _ (by unfold maxLen; decide)).mono ?_; rintro e w' ⟨rfl, hb⟩; have HB := HB.trans (hb.mono HB.size); clear hb))
  go_ret
  exact ⟨rfl, by assumption⟩
end Go.Proofs.Ytgcejejnbcjckaa
