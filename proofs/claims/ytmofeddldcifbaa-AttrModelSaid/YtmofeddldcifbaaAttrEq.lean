/- '==' and '!=' on two attributes. -/
import Derived.Test.YtmofeddldcifbaaChecked
import Derived.Test.YtmofeddldcifbaaAttrPure
import Derived.WalkLawsBesides
import Derived.Lib.Hide
namespace Go.Proofs.Ytmofeddldcifbaa
open Go.RowKit
theorem attr_fields : Try.prog.underlying 41 = some (.struct (Try.prog.fieldsOf 41)) := by
  unfold Program.fieldsOf
  rw [Try.underlying41]
theorem attr_held : Try.prog.stoodInHeld 41 = false := by kernel_rfl
theorem attr_guard : Try.prog.eqGuardType Try.prog.depth 41 = false := by kernel_rfl
theorem attr_equal (xn xv yn yv : ByteArray) (W : World) :
    (Op.equalIn 10000 41 (.agg #[.string xn, .string xv]) (.agg #[.string yn, .string yv])).run Try.prog W = .ok (pairB (xn, xv) (yn, yv)) W := by
  have u9 := Try.underlying9
  have a9 := Try.isAgg9
  have z9 := Try.sizeOf9
  rw [show (10000 : Nat) = 9999 + 1 from rfl, run_equalIn_agg W 9999 41 _ _ attr_fields attr_held]
  simp only [Program.fieldsOf, Try.underlying41]
  go_simp
  unfold pairB
  by_cases h1 : xn.toList = yn.toList <;> by_cases h2 : xv.toList = yv.toList <;> simp [h1, h2]
theorem attr_neq (xn xv yn yv : ByteArray) (W : World) :
    (binOp .neq 41 (.agg #[.string xn, .string xv]) (.agg #[.string yn, .string yv])).run Try.prog W = .ok (.bool (!pairB (xn, xv) (yn, yv))) W := by
  rw [run_neq_struct, attr_equal]
  rfl
theorem attr_eql (xn xv yn yv : ByteArray) (W : World) :
    (binOp .eql 41 (.agg #[.string xn, .string xv]) (.agg #[.string yn, .string yv])).run Try.prog W = .ok (.bool (pairB (xn, xv) (yn, yv))) W := by
  rw [run_eql_struct, attr_equal]
  rfl
end Go.Proofs.Ytmofeddldcifbaa
