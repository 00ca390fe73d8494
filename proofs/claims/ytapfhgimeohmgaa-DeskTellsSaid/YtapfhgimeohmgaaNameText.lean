/- Right answers what NamePure says, for every string that fits into memory. -/
import Derived.Test.YtapfhgimeohmgaaNameBytes
import Derived.Lib.Strings
namespace Go.Proofs.Ytapfhgimeohmgaa
open Go.RowKit
set_option maxHeartbeats 1000000 in
theorem right_any (s : ByteArray) (w : World) (hs : s.size ≤ maxLen) :
    Calls Try.prog 44 #[.string s] w fun e w' => e = .returned (.bool (rightL s.toList)) ∧ w = w' := by
  unfold maxLen at hs
  have hlen := tl_len s
  by_cases h0 : s.size < 1
  · have H := Lib.hid (rightL_ends s.toList (by omega))
    clear hlen
    go_enter Try.func44, Try.ntmps44
    go_wp2
    go_ret
    exact ⟨ret_bool H.out.symm, rfl⟩
  by_cases h1 : 40 < s.size
  · have H := Lib.hid (rightL_ends s.toList (by omega))
    clear hlen
    go_enter Try.func44, Try.ntmps44
    go_wp2
    go_ret
    exact ⟨ret_bool H.out.symm, rfl⟩
  have hp : 0 < s.size := by omega
  have hg0 := tl_get s 0 hp
  by_cases hh : headB (s[0]'hp) = true
  · have HL := Lib.hid hlen
    have HG := Lib.hid hg0
    have hh' : headI ((s[0]'hp).toNat : Int) = true := hh
    have HH := Lib.hid hh
    have HS := Lib.hid (sign_of_head _ hh)
    clear hlen hg0 hh
    go_enter Try.func44, Try.ntmps44
    go_wp2_with (go_at_call 59; refine (mayBegin_any _ _).mono ?_; rintro e w' ⟨rfl, rfl⟩)
    go_loop [3] (fun i => ∃ k : Nat, 1 ≤ k ∧ k ≤ s.size ∧ i = .int .i64 k ∧ Hid ((s.toList.take k).all signB = true)) (fun i => s.size - (intOf i).toNat)
    case atStart =>
      refine ⟨1, by omega, by omega, rfl, ?_⟩
      have := all_take_succ s.toList 0 _ HG.out rfl
      exact Lib.hid (this.trans HS.out)
    case round =>
      obtain ⟨k, hk1, hk2, rfl, HA⟩ := hrel
      by_cases hlt : k < s.size
      · have HK := Lib.hid (tl_get s k hlt)
        go_wp2_with (go_at_call 60; refine (isSign_any _ _).mono ?_; rintro e w' ⟨rfl, rfl⟩)
        · have hb : signI (s[k].toNat : Int) = false := by first | assumption | (simpa using ‹(!signI (s[k].toNat : Int)) = true›)
          go_ret
          exact ⟨ret_bool (rightL_stop _ k _ HK.out hb).symm, rfl⟩
        · have hb : signI (s[k].toNat : Int) = true := by first | assumption | (simpa using ‹(!signI (s[k].toNat : Int)) = false›)
          go_round
          case rel => exact ⟨k + 1, by omega, by omega, by go_num, Lib.hid ((all_take_succ _ k _ HK.out HA.out).trans hb)⟩
          case measure => simp [intOf]; omega
      · go_wp2
        go_ret
        refine ⟨ret_bool ?_, rfl⟩
        have e : k = s.toList.length := by rw [HL.out]; omega
        have h2 := HA.out
        rw [e] at h2
        exact (rightL_full s.toList _ (by rw [HL.out]; omega) (by rw [HL.out]; omega) HG.out HH.out h2).symm
  · have hh2 : headB (s[0]'hp) = false := by simpa using hh
    have hh' : headI ((s[0]'hp).toNat : Int) = false := hh2
    have HR := Lib.hid (rightL_head _ _ hg0 hh2)
    clear hlen hg0 hh hh2
    go_enter Try.func44, Try.ntmps44
    go_wp2_with (go_at_call 59; refine (mayBegin_any _ _).mono ?_; rintro e w' ⟨rfl, rfl⟩)
    go_ret
    exact ⟨ret_bool HR.out.symm, rfl⟩
end Go.Proofs.Ytapfhgimeohmgaa
