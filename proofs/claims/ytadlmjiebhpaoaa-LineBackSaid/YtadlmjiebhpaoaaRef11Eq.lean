/- '==' and '!=' on two todos. -/
import Derived.Test.YtadlmjiebhpaoaaLineRow
namespace Go.Proofs.Ytadlmjiebhpaoaa
open Go.RowKit
def sameTd (x y : TodoD) : Bool := x.kind == y.kind && x.dfn == y.dfn && x.name.toList == y.name.toList && x.had == y.had && x.has == y.has && x.old.toList == y.old.toList && x.new.toList == y.new.toList && x.frm == y.frm && x.to == y.to && x.on == y.on
theorem sameTd_eq {x y : TodoD} : sameTd x y = true ↔ x = y := by
  obtain ⟨a0, a1, a2, a3, a4, a5, a6, a7, a8, a9⟩ := x
  obtain ⟨b0, b1, b2, b3, b4, b5, b6, b7, b8, b9⟩ := y
  unfold sameTd
  simp only [Bool.and_eq_true, beq_iff_eq]
  constructor
  · rintro ⟨⟨⟨⟨⟨⟨⟨⟨⟨h0, h1⟩, h2⟩, h3⟩, h4⟩, h5⟩, h6⟩, h7⟩, h8⟩, h9⟩
    rw [h0, h1, toList_inj h2, h3, h4, toList_inj h5, toList_inj h6, h7, h8, h9]
  · intro h
    injection h with h0 h1 h2 h3 h4 h5 h6 h7 h8 h9
    rw [h0, h1, h2, h3, h4, h5, h6, h7, h8, h9]
    exact ⟨⟨⟨⟨⟨⟨⟨⟨⟨rfl, rfl⟩, rfl⟩, rfl⟩, rfl⟩, rfl⟩, rfl⟩, rfl⟩, rfl⟩, rfl⟩
theorem todo_fields : Try.prog.underlying 28 = some (.struct (Try.prog.fieldsOf 28)) := by
  unfold Program.fieldsOf
  rw [Try.underlying28]
theorem todo_held : Try.prog.stoodInHeld 28 = false := by kernel_rfl
theorem todo_guard : Try.prog.eqGuardType Try.prog.depth 28 = false := by kernel_rfl
set_option maxHeartbeats 2000000 in
theorem todo_equal (a0 a1 : Int) (a2 : ByteArray) (a3 a4 : Bool) (a5 a6 : ByteArray) (a7 a8 : Int) (a9 : Bool) (b0 b1 : Int) (b2 : ByteArray) (b3 b4 : Bool) (b5 b6 : ByteArray) (b7 b8 : Int) (b9 : Bool) (W : World) :
    (Op.equalIn 10000 28 (todoV a0 a1 a2 a3 a4 a5 a6 a7 a8 a9) (todoV b0 b1 b2 b3 b4 b5 b6 b7 b8 b9)).run Try.prog W = .ok (sameTd ⟨a0, a1, a2, a3, a4, a5, a6, a7, a8, a9⟩ ⟨b0, b1, b2, b3, b4, b5, b6, b7, b8, b9⟩) W := by
  have u9 := Try.underlying9
  have x9 := Try.isAgg9
  have z9 := Try.sizeOf9
  have u3 := Try.underlying3
  have x3 := Try.isAgg3
  have z3 := Try.sizeOf3
  have u4 := Try.underlying4
  have x4 := Try.isAgg4
  have z4 := Try.sizeOf4
  rw [show (10000 : Nat) = 9999 + 1 from rfl, run_equalIn_agg W 9999 28 _ _ todo_fields todo_held]
  simp only [Program.fieldsOf, Try.underlying28]
  go_simp
  unfold sameTd
  dsimp only
  by_cases h0 : a0 = b0
  rotate_left
  · simp [h0]
  by_cases h1 : a1 = b1
  rotate_left
  · simp [h0, h1]
  by_cases h2 : a2.toList = b2.toList
  rotate_left
  · simp [h0, h1, h2]
  by_cases h3 : a3 = b3
  rotate_left
  · simp [h0, h1, h2, h3]
  by_cases h4 : a4 = b4
  rotate_left
  · simp [h0, h1, h2, h3, h4]
  by_cases h5 : a5.toList = b5.toList
  rotate_left
  · simp [h0, h1, h2, h3, h4, h5]
  by_cases h6 : a6.toList = b6.toList
  rotate_left
  · simp [h0, h1, h2, h3, h4, h5, h6]
  by_cases h7 : a7 = b7
  rotate_left
  · simp [h0, h1, h2, h3, h4, h5, h6, h7]
  by_cases h8 : a8 = b8
  rotate_left
  · simp [h0, h1, h2, h3, h4, h5, h6, h7, h8]
  by_cases h9 : a9 = b9 <;> simp [h0, h1, h2, h3, h4, h5, h6, h7, h8, h9]
theorem todo_neq (a0 a1 : Int) (a2 : ByteArray) (a3 a4 : Bool) (a5 a6 : ByteArray) (a7 a8 : Int) (a9 : Bool) (b0 b1 : Int) (b2 : ByteArray) (b3 b4 : Bool) (b5 b6 : ByteArray) (b7 b8 : Int) (b9 : Bool) (W : World) :
    (binOp .neq 28 (todoV a0 a1 a2 a3 a4 a5 a6 a7 a8 a9) (todoV b0 b1 b2 b3 b4 b5 b6 b7 b8 b9)).run Try.prog W = .ok (.bool (!sameTd ⟨a0, a1, a2, a3, a4, a5, a6, a7, a8, a9⟩ ⟨b0, b1, b2, b3, b4, b5, b6, b7, b8, b9⟩)) W := by
  rw [run_neq_struct, todo_equal]
  rfl
theorem todo_eql (a0 a1 : Int) (a2 : ByteArray) (a3 a4 : Bool) (a5 a6 : ByteArray) (a7 a8 : Int) (a9 : Bool) (b0 b1 : Int) (b2 : ByteArray) (b3 b4 : Bool) (b5 b6 : ByteArray) (b7 b8 : Int) (b9 : Bool) (W : World) :
    (binOp .eql 28 (todoV a0 a1 a2 a3 a4 a5 a6 a7 a8 a9) (todoV b0 b1 b2 b3 b4 b5 b6 b7 b8 b9)).run Try.prog W = .ok (.bool (sameTd ⟨a0, a1, a2, a3, a4, a5, a6, a7, a8, a9⟩ ⟨b0, b1, b2, b3, b4, b5, b6, b7, b8, b9⟩)) W := by
  rw [run_eql_struct, todo_equal]
  rfl
end Go.Proofs.Ytadlmjiebhpaoaa
