/- Right, Known, isReserved and strings.Contains at "-" answer what NamePure says, for every string that fits into memory. -/
import Derived.Test.YtgcejejnbcjckaaNameBytes
import Derived.Lib.Strings
import Derived.Lib.Slices
import Derived.Lib.Walk
namespace Go.Proofs.Ytgcejejnbcjckaa
open Go.RowKit
theorem tl (s : ByteArray) : s.toList = s.data.toList := Lib.toList_data s
theorem tl_len (s : ByteArray) : s.toList.length = s.size := by rw [tl]; simp
theorem tl_get (s : ByteArray) (k : Nat) (h : k < s.size) : s.toList[k]? = some s[k] := by
  rw [tl, Array.getElem?_toList]
  exact Array.getElem?_eq_getElem h

set_option maxHeartbeats 1000000 in
set_option maxRecDepth 100000 in
theorem indexByte_any (s : ByteArray) (c : Int) (w : World) :
    Calls Try.prog 31 #[.string s, .int .u8 c] w fun e w' => e = .returned (.int .i64 (Lib.indexByte s.data.toList c.toNat.toUInt8)) ∧ w' = w := by
  go_enter Try.func31, Try.ntmps31
  go_wp2
  rw [run_callFunc_extern Try.func35 (by kernel_rfl) (by kernel_rfl) (by kernel_rfl) (e := Extern.BytealgIndexByte.indexByte) (by kernel_rfl), Lib.run_indexByteString]
  simp only [Result.andThen]
  rw [Oper.upon_value]
  go_wp2
  go_ret
  exact ⟨rfl, rfl⟩

theorem has_indexByte (c : UInt8) : ∀ l : List UInt8, l.contains c = decide (0 ≤ Lib.indexByte l c)
  | [] => by simp [Lib.indexByte]
  | b :: l => by
    have ih := has_indexByte c l
    have hg := Lib.indexByte_ge l c
    unfold Lib.indexByte
    rw [List.contains_cons, ih]
    by_cases h : b = c
    · subst h; simp
    · have h1 : (c == b) = false := by simp; exact fun e => h e.symm
      have h2 : (b == c) = false := by simp [h]
      rw [h1, h2]
      by_cases h3 : Lib.indexByte l c = -1
      · simp [h3]
      · have h4 : (Lib.indexByte l c == -1) = false := by simp [h3]
        simp only [h4, Bool.false_or, Bool.false_eq_true, if_false]
        rw [decide_eq_decide]
        omega

set_option maxHeartbeats 2000000 in
set_option maxRecDepth 100000 in
theorem dash_any (s : ByteArray) (w : World) :
    Calls Try.prog 23 #[.string s, .string ⟨#[45]⟩] w fun e w' => e = .returned (.bool (dashL s.toList)) ∧ w = w' := by
  go_enter Try.func23, Try.ntmps23
  go_wp2_with (first | (go_at_call 31; refine (indexByte_any _ _ _).mono ?_; rintro e w' ⟨rfl, rfl⟩) | go_in)
  · have h : ([45] == s.toList) = true := by assumption
    go_ret
    refine ⟨ret_bool ?_, rfl⟩
    have e : s.toList = [45] := (beq_iff_eq.1 h).symm
    rw [e]; rfl
  · go_ret
    refine ⟨ret_bool ?_, rfl⟩
    unfold dashL
    rw [has_indexByte, tl]
    rfl

set_option maxHeartbeats 1000000 in
theorem known_any (s : ByteArray) (w : World) :
    Calls Try.prog 15 #[.string s] w fun e w' => e = .returned (.bool (knownL s.toList)) ∧ w = w' := by
  go_enter Try.func15, Try.ntmps15
  go_wp2
  all_goals (go_ret; exact ⟨ret_bool (by unfold knownL; simp_all), rfl⟩)

set_option maxHeartbeats 1000000 in
theorem reserved_any (s : ByteArray) (w : World) :
    Calls Try.prog 24 #[.string s] w fun e w' => e = .returned (.bool (reservedL s.toList)) ∧ w = w' := by
  go_enter Try.func24, Try.ntmps24
  go_wp2
  all_goals (go_ret; exact ⟨ret_bool (by unfold reservedL; simp_all), rfl⟩)

theorem rightL_ends (l : List UInt8) (h : l.length < 1 ∨ 40 < l.length) : rightL l = false := by
  unfold rightL
  have : decide (1 ≤ l.length ∧ l.length ≤ 40) = false := by simp; omega
  rw [this]; rfl
theorem all_take_succ (l : List UInt8) (k : Nat) (c : UInt8) (hk : l[k]? = some c) (h : (l.take k).all signB = true) : (l.take (k + 1)).all signB = signB c := by
  obtain ⟨hl, he⟩ := List.getElem?_eq_some_iff.1 hk
  rw [List.take_succ_eq_append_getElem hl, List.all_append, h, he]
  simp
theorem rightL_stop (l : List UInt8) (k : Nat) (c : UInt8) (hk : l[k]? = some c) (h : signB c = false) : rightL l = false := by
  have : l.all signB = false := by
    rw [List.all_eq_false]
    exact ⟨c, List.mem_of_getElem? hk, by simp [h]⟩
  unfold rightL
  rw [this, Bool.and_false]
theorem rightL_head (l : List UInt8) (c : UInt8) (hk : l[0]? = some c) (h : headB c = false) : rightL l = false := by
  cases l with
  | nil => simp at hk
  | cons b r =>
    simp at hk; subst hk
    unfold rightL
    simp [h]
theorem rightL_full (l : List UInt8) (c : UInt8) (h1 : 1 ≤ l.length) (h2 : l.length ≤ 40) (hk : l[0]? = some c) (hh : headB c = true) (h : (l.take l.length).all signB = true) : rightL l = true := by
  cases l with
  | nil => simp at hk
  | cons b r =>
    simp at hk; subst hk
    rw [List.take_length] at h
    have h3 : decide (1 ≤ (b :: r).length ∧ (b :: r).length ≤ 40) = true := by simp at *; omega
    unfold rightL
    rw [h3, h]
    simp [hh]
theorem sign_of_head (c : UInt8) (h : headB c = true) : signB c = true := by
  unfold headB headI at h
  unfold signB signI
  rcases Bool.or_eq_true _ _ ▸ h with h | h
  · rw [h]; rfl
  · have h := of_decide_eq_true h
    have : decide ((c.toNat : Int) = 45 ∨ (c.toNat : Int) = 95 ∨ (c.toNat : Int) = 46) = true := by simp; omega
    rw [this]; simp

set_option maxHeartbeats 1000000 in
theorem right_any (s : ByteArray) (w : World) (hs : s.size ≤ maxLen) :
    Calls Try.prog 12 #[.string s] w fun e w' => e = .returned (.bool (rightL s.toList)) ∧ w = w' := by
  unfold maxLen at hs
  have hlen := tl_len s
  by_cases h0 : s.size < 1
  · have H := Lib.hid (rightL_ends s.toList (by omega))
    clear hlen
    go_enter Try.func12, Try.ntmps12
    go_wp2
    go_ret
    exact ⟨ret_bool H.out.symm, rfl⟩
  by_cases h1 : 40 < s.size
  · have H := Lib.hid (rightL_ends s.toList (by omega))
    clear hlen
    go_enter Try.func12, Try.ntmps12
    go_wp2
    go_ret
    exact ⟨ret_bool H.out.symm, rfl⟩
  have hp : 0 < s.size := by omega
  have hg0 := tl_get s 0 hp
  by_cases hh : headB (s[0]'hp) = true
  · have HL := Lib.hid hlen
    have HG := Lib.hid hg0
    have hh' : headI ((s[0]'hp).toNat : Int) = true := hh
    have HH := Lib.hid hh
    have HS := Lib.hid (sign_of_head _ hh)
    clear hlen hg0 hh
    go_enter Try.func12, Try.ntmps12
    go_wp2_with (go_at_call 20; refine (mayBegin_any _ _).mono ?_; rintro e w' ⟨rfl, rfl⟩)
    go_loop [3] (fun i => ∃ k : Nat, 1 ≤ k ∧ k ≤ s.size ∧ i = .int .i64 k ∧ Hid ((s.toList.take k).all signB = true)) (fun i => s.size - (intOf i).toNat)
    case atStart =>
      refine ⟨1, by omega, by omega, rfl, ?_⟩
      have := all_take_succ s.toList 0 _ HG.out rfl
      exact Lib.hid (this.trans HS.out)
    case round =>
      obtain ⟨k, hk1, hk2, rfl, HA⟩ := hrel
      by_cases hlt : k < s.size
      · have HK := Lib.hid (tl_get s k hlt)
        go_wp2_with (go_at_call 21; refine (isSign_any _ _).mono ?_; rintro e w' ⟨rfl, rfl⟩)
        · have hb : signI (s[k].toNat : Int) = false := by first | assumption | (simpa using ‹(!signI (s[k].toNat : Int)) = true›)
          go_ret
          exact ⟨ret_bool (rightL_stop _ k _ HK.out hb).symm, rfl⟩
        · have hb : signI (s[k].toNat : Int) = true := by first | assumption | (simpa using ‹(!signI (s[k].toNat : Int)) = false›)
          go_round
          case rel => exact ⟨k + 1, by omega, by omega, by go_num, Lib.hid ((all_take_succ _ k _ HK.out HA.out).trans hb)⟩
          case measure => simp [intOf]; omega
      · go_wp2
        go_ret
        refine ⟨ret_bool ?_, rfl⟩
        have e : k = s.toList.length := by rw [HL.out]; omega
        have h2 := HA.out
        rw [e] at h2
        exact (rightL_full s.toList _ (by rw [HL.out]; omega) (by rw [HL.out]; omega) HG.out HH.out h2).symm
  · have hh2 : headB (s[0]'hp) = false := by simpa using hh
    have hh' : headI ((s[0]'hp).toNat : Int) = false := hh2
    have HR := Lib.hid (rightL_head _ _ hg0 hh2)
    clear hlen hg0 hh hh2
    go_enter Try.func12, Try.ntmps12
    go_wp2_with (go_at_call 20; refine (mayBegin_any _ _).mono ?_; rintro e w' ⟨rfl, rfl⟩)
    go_ret
    exact ⟨ret_bool HR.out.symm, rfl⟩
end Go.Proofs.Ytgcejejnbcjckaa
