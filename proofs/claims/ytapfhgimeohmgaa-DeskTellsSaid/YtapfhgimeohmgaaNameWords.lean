/- Known, isReserved and strings.Contains at "-" answer what NamePure says. -/
import Derived.Test.YtapfhgimeohmgaaNameText
import Derived.Lib.Strings
import Derived.Lib.Slices
import Derived.Lib.Walk
namespace Go.Proofs.Ytapfhgimeohmgaa
open Go.RowKit
set_option maxHeartbeats 1000000 in
set_option maxRecDepth 100000 in
theorem indexByte_any (s : ByteArray) (c : Int) (w : World) :
    Calls Try.prog 67 #[.string s, .int .u8 c] w fun e w' => e = .returned (.int .i64 (Lib.indexByte s.data.toList c.toNat.toUInt8)) ∧ w' = w := by
  go_enter Try.func67, Try.ntmps67
  go_wp2
  rw [run_callFunc_extern Try.func71 (by kernel_rfl) (by kernel_rfl) (by kernel_rfl) (e := Extern.BytealgIndexByte.indexByte) (by kernel_rfl), Lib.run_indexByteString]
  simp only [Result.andThen]
  rw [Oper.upon_value]
  go_wp2
  go_ret
  exact ⟨rfl, rfl⟩

theorem has_indexByte (c : UInt8) : ∀ l : List UInt8, l.contains c = decide (0 ≤ Lib.indexByte l c)
  | [] => by simp [Lib.indexByte]
  | b :: l => by
    have ih := has_indexByte c l
    have hg := Lib.indexByte_ge l c
    unfold Lib.indexByte
    rw [List.contains_cons, ih]
    by_cases h : b = c
    · subst h; simp
    · have h1 : (c == b) = false := by simp; exact fun e => h e.symm
      have h2 : (b == c) = false := by simp [h]
      rw [h1, h2]
      by_cases h3 : Lib.indexByte l c = -1
      · simp [h3]
      · have h4 : (Lib.indexByte l c == -1) = false := by simp [h3]
        simp only [h4, Bool.false_or, Bool.false_eq_true, if_false]
        rw [decide_eq_decide]
        omega

set_option maxHeartbeats 2000000 in
set_option maxRecDepth 100000 in
theorem dash_any (s : ByteArray) (w : World) :
    Calls Try.prog 47 #[.string s, .string ⟨#[45]⟩] w fun e w' => e = .returned (.bool (dashL s.toList)) ∧ w = w' := by
  go_enter Try.func47, Try.ntmps47
  go_wp2_with (first | (go_at_call 67; refine (indexByte_any _ _ _).mono ?_; rintro e w' ⟨rfl, rfl⟩) | go_in)
  · have h : ([45] == s.toList) = true := by assumption
    go_ret
    refine ⟨ret_bool ?_, rfl⟩
    have e : s.toList = [45] := (beq_iff_eq.1 h).symm
    rw [e]; rfl
  · go_ret
    refine ⟨ret_bool ?_, rfl⟩
    unfold dashL
    rw [has_indexByte, tl]
    rfl

set_option maxHeartbeats 1000000 in
theorem known_any (s : ByteArray) (w : World) :
    Calls Try.prog 42 #[.string s] w fun e w' => e = .returned (.bool (knownL s.toList)) ∧ w = w' := by
  go_enter Try.func42, Try.ntmps42
  go_wp2
  all_goals (go_ret; exact ⟨ret_bool (by unfold knownL; simp_all), rfl⟩)

set_option maxHeartbeats 1000000 in
theorem reserved_any (s : ByteArray) (w : World) :
    Calls Try.prog 48 #[.string s] w fun e w' => e = .returned (.bool (reservedL s.toList)) ∧ w = w' := by
  go_enter Try.func48, Try.ntmps48
  go_wp2
  all_goals (go_ret; exact ⟨ret_bool (by unfold reservedL; simp_all), rfl⟩)

end Go.Proofs.Ytapfhgimeohmgaa
