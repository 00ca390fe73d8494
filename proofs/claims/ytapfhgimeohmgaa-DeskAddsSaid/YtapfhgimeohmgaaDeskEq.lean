/- '==' and '!=' on two definitions, on two who wait. -/
import Derived.Test.YtapfhgimeohmgaaChecked
import Derived.Test.YtapfhgimeohmgaaDeskPure
import Derived.WalkLawsBesides
import Derived.Lib.Hide
namespace Go.Proofs.Ytapfhgimeohmgaa
open Go.RowKit
def sameD (n o : ByteArray) (c : Int) (n' o' : ByteArray) (c' : Int) : Bool := n.toList == n'.toList && o.toList == o'.toList && c == c'
def sameT (n : ByteArray) (c : Int) (n' : ByteArray) (c' : Int) : Bool := n.toList == n'.toList && c == c'
theorem sameD_eq {x y : DefD} : sameD x.name x.loc x.cls y.name y.loc y.cls = true ↔ x = y := by
  obtain ⟨n, o, c⟩ := x
  obtain ⟨n', o', c'⟩ := y
  unfold sameD
  simp only [Bool.and_eq_true, beq_iff_eq]
  constructor
  · rintro ⟨⟨h1, h2⟩, h3⟩
    rw [toList_inj h1, toList_inj h2, h3]
  · intro h
    injection h with h1 h2 h3
    rw [h1, h2, h3]
    exact ⟨⟨rfl, rfl⟩, rfl⟩
theorem sameT_eq {x y : WaitD} : sameT x.name x.ticket y.name y.ticket = true ↔ x = y := by
  obtain ⟨n, c⟩ := x
  obtain ⟨n', c'⟩ := y
  unfold sameT
  simp only [Bool.and_eq_true, beq_iff_eq]
  constructor
  · rintro ⟨h1, h3⟩
    rw [toList_inj h1, h3]
  · intro h
    injection h with h1 h3
    rw [h1, h3]
    exact ⟨rfl, rfl⟩
theorem def_fields : Try.prog.underlying 46 = some (.struct (Try.prog.fieldsOf 46)) := by
  unfold Program.fieldsOf
  rw [Try.underlying46]
theorem def_held : Try.prog.stoodInHeld 46 = false := by kernel_rfl
theorem def_guard : Try.prog.eqGuardType Try.prog.depth 46 = false := by kernel_rfl
theorem wait_fields : Try.prog.underlying 51 = some (.struct (Try.prog.fieldsOf 51)) := by
  unfold Program.fieldsOf
  rw [Try.underlying51]
theorem wait_held : Try.prog.stoodInHeld 51 = false := by kernel_rfl
theorem wait_guard : Try.prog.eqGuardType Try.prog.depth 51 = false := by kernel_rfl
theorem def_equal (n o : ByteArray) (c : Int) (n' o' : ByteArray) (c' : Int) (W : World) :
    (Op.equalIn 10000 46 (.agg #[.string n, .string o, .int .i64 c]) (.agg #[.string n', .string o', .int .i64 c'])).run Try.prog W = .ok (sameD n o c n' o' c') W := by
  have u9 := Try.underlying9
  have a9 := Try.isAgg9
  have z9 := Try.sizeOf9
  have u3 := Try.underlying3
  have a3 := Try.isAgg3
  have z3 := Try.sizeOf3
  rw [show (10000 : Nat) = 9999 + 1 from rfl, run_equalIn_agg W 9999 46 _ _ def_fields def_held]
  simp only [Program.fieldsOf, Try.underlying46]
  go_simp
  unfold sameD
  by_cases h1 : n.toList = n'.toList <;> by_cases h2 : o.toList = o'.toList <;> by_cases h3 : c = c' <;> simp [h1, h2, h3]
theorem wait_equal (n : ByteArray) (c : Int) (n' : ByteArray) (c' : Int) (W : World) :
    (Op.equalIn 10000 51 (.agg #[.string n, .int .i64 c]) (.agg #[.string n', .int .i64 c'])).run Try.prog W = .ok (sameT n c n' c') W := by
  have u9 := Try.underlying9
  have a9 := Try.isAgg9
  have z9 := Try.sizeOf9
  have u3 := Try.underlying3
  have a3 := Try.isAgg3
  have z3 := Try.sizeOf3
  rw [show (10000 : Nat) = 9999 + 1 from rfl, run_equalIn_agg W 9999 51 _ _ wait_fields wait_held]
  simp only [Program.fieldsOf, Try.underlying51]
  go_simp
  unfold sameT
  by_cases h1 : n.toList = n'.toList <;> by_cases h3 : c = c' <;> simp [h1, h3]
theorem def_neq (n o : ByteArray) (c : Int) (n' o' : ByteArray) (c' : Int) (W : World) :
    (binOp .neq 46 (.agg #[.string n, .string o, .int .i64 c]) (.agg #[.string n', .string o', .int .i64 c'])).run Try.prog W = .ok (.bool (!sameD n o c n' o' c')) W := by
  rw [run_neq_struct, def_equal]
  rfl
theorem def_eql (n o : ByteArray) (c : Int) (n' o' : ByteArray) (c' : Int) (W : World) :
    (binOp .eql 46 (.agg #[.string n, .string o, .int .i64 c]) (.agg #[.string n', .string o', .int .i64 c'])).run Try.prog W = .ok (.bool (sameD n o c n' o' c')) W := by
  rw [run_eql_struct, def_equal]
  rfl
theorem wait_neq (n : ByteArray) (c : Int) (n' : ByteArray) (c' : Int) (W : World) :
    (binOp .neq 51 (.agg #[.string n, .int .i64 c]) (.agg #[.string n', .int .i64 c'])).run Try.prog W = .ok (.bool (!sameT n c n' c')) W := by
  rw [run_neq_struct, wait_equal]
  rfl
end Go.Proofs.Ytapfhgimeohmgaa
