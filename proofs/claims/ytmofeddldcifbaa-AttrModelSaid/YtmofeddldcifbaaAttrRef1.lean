/- instarref02's At, Same, Short. -/
import Derived.Test.YtmofeddldcifbaaChecked
import Derived.Test.YtmofeddldcifbaaAttrEq
import Derived.WalkLawsBesides
import Derived.WalkSmall
import Derived.Lib.Hide
import Derived.Deep.QuietTactic
import Derived.BigQuiet
namespace Go.Proofs.Ytmofeddldcifbaa
open Go.RowKit
theorem refat_any (a : Option Addr) (len cap : Nat) (L : AL) (n : ByteArray) (w : World) (h : AttrRow w a len cap L) :
    Calls Try.prog 21 #[.slice a len cap, .string n] w fun e w' => e = .returned (.int .i64 (atL L n.toList)) ∧ w = w' := by
  have hl := h.len64
  go_enter Try.func21, Try.ntmps21
  go_wp2
  go_loop [5] (fun i => ∃ k : Nat, k ≤ len ∧ i = .int .i64 k ∧ k ≤ atN L n.toList) (fun i => len - (intOf i).toNat)
  case atStart => exact ⟨0, Nat.zero_le _, rfl, Nat.zero_le _⟩
  case round =>
    obtain ⟨k, hk, rfl, hat⟩ := hrel
    by_cases hlt : k < len
    · obtain ⟨b, off, xn, xv, rfl, hb, hx, hc1, hc2, _, _⟩ := h.get hlt
      have HX := Lib.hid hx
      clear hx
      by_cases he : xn.toList = n.toList
      · have e1 : (xn.toList == n.toList) = true := beq_iff_eq.2 he
        have HR := Lib.hid (atL_here hat HX.out (show keyIs n.toList (xn, xv) = true from e1))
        clear he
        go_wp2
        go_ret
        exact ⟨ret_int HR.out.symm, rfl⟩
      · have e1 : (xn.toList == n.toList) = false := beq_eq_false_iff_ne.2 he
        have HR := atN_step hat HX.out (show keyIs n.toList (xn, xv) = false from e1)
        clear he
        go_wp2
        go_round
        case rel => exact ⟨k + 1, by omega, by go_num, HR⟩
        case measure => simp [intOf]; omega
    · have HR := Lib.hid (atL_none hat (by have := h.hlen; omega))
      go_wp2
      go_ret
      exact ⟨ret_int HR.out.symm, rfl⟩
theorem refshort_any (a : Option Addr) (len cap : Nat) (w : World) :
    Calls Try.prog 9 #[.slice a len cap] w fun e w' => e = .returned (.bool (decide ((len : Int) ≤ 60))) ∧ w = w' := by
  go_enter Try.func9, Try.ntmps9
  go_wp2
  go_ret
  exact ⟨rfl, rfl⟩

def sameL (L M : AL) : Bool := decide (L = M)
theorem refsame_any (a a' : Option Addr) (len cap len' cap' : Nat) (L M : AL) (w : World) (h : AttrRow w a len cap L) (h' : AttrRow w a' len' cap' M) :
    Calls Try.prog 20 #[.slice a len cap, .slice a' len' cap'] w fun e w' => e = .returned (.bool (sameL L M)) ∧ ∃ n, w' = w.drewN n := by
  have hl := h.len64
  have hl' := h'.len64
  by_cases hll : len = len'
  rotate_left
  · have hr : Hid (sameL L M = false) := Lib.hid (decide_eq_false (fun e => hll (by rw [← h.hlen, ← h'.hlen, e])))
    have e1 : ((len : Int) == (len' : Int)) = false := beq_eq_false_iff_ne.2 (by omega)
    have e2 : ((len : Int) != (len' : Int)) = true := by unfold bne; rw [e1]; rfl
    clear hll
    go_enter Try.func20, Try.ntmps20
    go_wp2
    go_ret
    exact ⟨ret_bool hr.out.symm, 0, rfl⟩
  subst hll
  have e1 : ((len : Int) == (len : Int)) = true := beq_iff_eq.2 rfl
  have e2 : ((len : Int) != (len : Int)) = false := by unfold bne; rw [e1]; rfl
  go_enter Try.func20, Try.ntmps20
  go_wp2
  go_loopw [5] (fun i wr => ∃ k n : Nat, k ≤ len ∧ i = .int .i64 k ∧ wr = w.drewN n ∧ Hid (L.take k = M.take k)) (fun i _ => len - (intOf i).toNat)
  case atStart => exact ⟨0, 0, Nat.zero_le _, rfl, rfl, Lib.hid rfl⟩
  case round =>
    obtain ⟨k, n, hk, rfl, rfl, HT⟩ := hrel
    by_cases hlt : k < len
    · obtain ⟨b, off, xn, xv, rfl, hb, hx, hc1, hc2, _, _⟩ := h.get hlt
      obtain ⟨b', off', yn, yv, rfl, hb', hy, hd1, hd2, _, _⟩ := h'.get hlt
      have HX := Lib.hid hx
      have HY := Lib.hid hy
      have hneq := fun W => attr_neq xn xv yn yv W
      have hgd := attr_guard
      clear hx hy
      by_cases he : pairB (xn, xv) (yn, yv) = true
      · have HE := Lib.hid (pairB_eq.1 he)
        go_wp2
        go_quiet (fail)
        go_wp2
        go_roundw
        case rel =>
          refine ⟨k + 1, _, by omega, by go_num, by first | rfl | exact World.drewN_drewN _ _ _, Lib.hid ?_⟩
          obtain ⟨hl1, hg1⟩ := List.getElem?_eq_some_iff.1 HX.out
          obtain ⟨hl2, hg2⟩ := List.getElem?_eq_some_iff.1 HY.out
          rw [List.take_succ_eq_append_getElem hl1, List.take_succ_eq_append_getElem hl2, hg1, hg2, HT.out, HE.out]
        case measure => simp [intOf]; omega
      · have he : pairB (xn, xv) (yn, yv) = false := by simpa using he
        have HR : Hid (sameL L M = false) := Lib.hid (decide_eq_false (fun e => by
          have h1 := HX.out
          rw [e, HY.out] at h1
          have := Option.some.inj h1
          rw [this, pairB_eq.2 rfl] at he
          cases he))
        go_wp2
        go_quiet (fail)
        go_wp2
        go_ret
        exact ⟨ret_bool HR.out.symm, _, by first | rfl | exact World.drewN_drewN _ _ _⟩
    · have HR : Hid (sameL L M = true) := Lib.hid (decide_eq_true (by
        have h1 := HT.out
        rwa [List.take_of_length_le (by have := h.hlen; omega), List.take_of_length_le (by have := h'.hlen; omega)] at h1))
      go_wp2
      go_ret
      exact ⟨ret_bool HR.out.symm, n, rfl⟩
end Go.Proofs.Ytmofeddldcifbaa
