/- Texts joined in build order: NameWords NameKinds. -/
import Derived.Test.YtnjoimedilonnaaB02
import Derived.Lib.Strings
import Derived.Lib.Slices
import Derived.Lib.Walk
import Derived.Test.YtnjoimedilonnaaB08
namespace Go.Proofs.Ytnjoimedilonnaa
open Go.RowKit
set_option maxHeartbeats 1000000 in
set_option maxRecDepth 100000 in
theorem indexByte_any (s : ByteArray) (c : Int) (w : World) :
    Calls Try.prog 83 #[.string s, .int .u8 c] w fun e w' => e = .returned (.int .i64 (Lib.indexByte s.data.toList c.toNat.toUInt8)) ∧ w' = w := by
  go_enter Try.func83, Try.ntmps83
  go_wp2
  rw [run_callFunc_extern Try.func95 (by kernel_rfl) (by kernel_rfl) (by kernel_rfl) (e := Extern.BytealgIndexByte.indexByte) (by kernel_rfl), Lib.run_indexByteString]
  simp only [Result.andThen]
  rw [Oper.upon_value]
  go_wp2
  go_ret
  exact ⟨rfl, rfl⟩
theorem has_indexByte (c : UInt8) : ∀ l : List UInt8, l.contains c = decide (0 ≤ Lib.indexByte l c)
  | [] => by simp [Lib.indexByte]
  | b :: l => by
    have ih := has_indexByte c l
    have hg := Lib.indexByte_ge l c
    unfold Lib.indexByte
    rw [List.contains_cons, ih]
    by_cases h : b = c
    · subst h; simp
    · have h1 : (c == b) = false := by simp; exact fun e => h e.symm
      have h2 : (b == c) = false := by simp [h]
      rw [h1, h2]
      by_cases h3 : Lib.indexByte l c = -1
      · simp [h3]
      · have h4 : (Lib.indexByte l c == -1) = false := by simp [h3]
        simp only [h4, Bool.false_or, Bool.false_eq_true, if_false]
        rw [decide_eq_decide]
        omega
set_option maxHeartbeats 2000000 in
set_option maxRecDepth 100000 in
theorem dash_any (s : ByteArray) (w : World) :
    Calls Try.prog 53 #[.string s, .string ⟨#[45]⟩] w fun e w' => e = .returned (.bool (dashL s.toList)) ∧ w = w' := by
  go_enter Try.func53, Try.ntmps53
  go_wp2_with (first | (go_at_call 83; refine (indexByte_any _ _ _).mono ?_; rintro e w' ⟨rfl, rfl⟩) | go_in)
  · have h : ([45] == s.toList) = true := by assumption
    go_ret
    refine ⟨ret_bool ?_, rfl⟩
    have e : s.toList = [45] := (beq_iff_eq.1 h).symm
    rw [e]; rfl
  · go_ret
    refine ⟨ret_bool ?_, rfl⟩
    unfold dashL
    rw [has_indexByte, tl]
    rfl
set_option maxHeartbeats 1000000 in
theorem reserved_any (s : ByteArray) (w : World) :
    Calls Try.prog 54 #[.string s] w fun e w' => e = .returned (.bool (reservedL s.toList)) ∧ w = w' := by
  go_enter Try.func54, Try.ntmps54
  go_wp2
  all_goals (go_ret; exact ⟨ret_bool (by unfold reservedL; simp_all), rfl⟩)
end Go.Proofs.Ytnjoimedilonnaa
namespace Go.Proofs.Ytnjoimedilonnaa
open Go.RowKit
theorem headD_get (s : ByteArray) (h : 0 < s.size) : s.toList.headD 0 = s[0] := by
  have := tl_get s 0 h
  cases e : s.toList with
  | nil => rw [e] at this; simp at this
  | cons b r => rw [e] at this; simpa using this
theorem rightL_pos (s : ByteArray) (h : rightL s.toList = true) : 0 < s.size := by
  by_cases h0 : 0 < s.size
  · exact h0
  · rw [rightL_ends _ (by rw [tl_len]; omega)] at h
    cases h
theorem customL_no (l : List UInt8) (h : rightL l = false) : customL l = false := by unfold customL; rw [h]; rfl
theorem customL_eq (s : ByteArray) (h : rightL s.toList = true) (hp : 0 < s.size) :
    customL s.toList = ((smallL s.toList == s.toList) && lowI (s[0].toNat : Int) && dashL s.toList && !reservedL s.toList) := by
  unfold customL
  rw [h, headD_get s hp, Bool.true_and]
set_option maxHeartbeats 2000000 in
theorem custom_any (s : ByteArray) (w : World) (hs : s.size ≤ maxLen) :
    Calls Try.prog 39 #[.string s] w fun e w' => e = .returned (.bool (customL s.toList)) ∧ Below w.heap.size w w' := by
  have HB : Below w.heap.size w w := Below.refl _ _
  by_cases hr : rightL s.toList = true
  · have hp := rightL_pos s hr
    have HC := Lib.hid (customL_eq s hr hp)
    go_enter Try.func39, Try.ntmps39
    go_wp2_with (first
      | (go_at_call 42; refine (right_any _ _ hs).mono ?_; rintro e w' ⟨rfl, rfl⟩)
      | (go_at_call 43; refine (small_any _ _ hs).mono ?_; rintro e w' ⟨rfl, hb⟩; have HB := HB.trans (hb.mono HB.size); clear hb)
      | (go_at_call 52; refine (isSmall_any _ _).mono ?_; rintro e w' ⟨rfl, rfl⟩)
      | (go_at_call 53; refine (dash_any _ _).mono ?_; rintro e w' ⟨rfl, rfl⟩)
      | (go_at_call 54; refine (reserved_any _ _).mono ?_; rintro e w' ⟨rfl, rfl⟩))
    all_goals (go_ret; exact ⟨ret_bool (by rw [HC.out]; simp [*]), by assumption⟩)
  · have hr' : rightL s.toList = false := by simpa using hr
    have HC := Lib.hid (customL_no _ hr')
    clear hr
    go_enter Try.func39, Try.ntmps39
    go_wp2_with (go_at_call 42; refine (right_any _ _ hs).mono ?_; rintro e w' ⟨rfl, rfl⟩)
    go_ret
    exact ⟨ret_bool HC.out.symm, HB⟩
end Go.Proofs.Ytnjoimedilonnaa
