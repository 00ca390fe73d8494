/- The byte tests of package name, as the Go text has them, answer what NamePure says. -/
import Derived.Test.YtgcejejnbcjckaaChecked
import Derived.Test.YtgcejejnbcjckaaNamePure
import Derived.WalkKit
import Derived.WalkLawsBesides
import Derived.Lib.Hide
namespace Go.Proofs.Ytgcejejnbcjckaa
open Go.RowKit
theorem ret_bool {a b : Bool} (h : a = b) : Ending.returned (.bool a) = .returned (.bool b) := by rw [h]
theorem ret_int {k : IntKind} {a b : Int} (h : a = b) : Ending.returned (.int k a) = .returned (.int k b) := by rw [h]
theorem ret_str {a b : ByteArray} (h : a = b) : Ending.returned (.string a) = .returned (.string b) := by rw [h]

theorem isSmall_any (n : Int) (w : World) : Calls Try.prog 22 #[.int .u8 n] w fun e w' => e = .returned (.bool (lowI n)) ∧ w = w' := by
  go_enter Try.func22, Try.ntmps22
  go_wp2
  all_goals (go_ret; exact ⟨ret_bool (by unfold lowI; rw [Bool.eq_iff_iff]; simp <;> omega), rfl⟩)
theorem isCapital_any (n : Int) (w : World) : Calls Try.prog 26 #[.int .u8 n] w fun e w' => e = .returned (.bool (capI n)) ∧ w = w' := by
  go_enter Try.func26, Try.ntmps26
  go_wp2
  all_goals (go_ret; exact ⟨ret_bool (by unfold capI; rw [Bool.eq_iff_iff]; simp <;> omega), rfl⟩)
theorem isSign_any (n : Int) (w : World) : Calls Try.prog 21 #[.int .u8 n] w fun e w' => e = .returned (.bool (signI n)) ∧ w = w' := by
  go_enter Try.func21, Try.ntmps21
  go_wp2
  all_goals (go_ret; exact ⟨ret_bool (by unfold signI alphI lowI capI digI; rw [Bool.eq_iff_iff]; simp <;> omega), rfl⟩)
theorem mayBegin_any (n : Int) (w : World) : Calls Try.prog 20 #[.int .u8 n] w fun e w' => e = .returned (.bool (headI n)) ∧ w = w' := by
  go_enter Try.func20, Try.ntmps20
  go_wp2
  all_goals (go_ret; exact ⟨ret_bool (by unfold headI alphI lowI capI; rw [Bool.eq_iff_iff]; simp <;> omega), rfl⟩)
end Go.Proofs.Ytgcejejnbcjckaa
