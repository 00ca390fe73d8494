/- Texts joined in build order: ForestRefs. -/
import Derived.Test.YtioeagadhnnajaaA03
import Derived.Test.YtioeagadhnnajaaChecked
import Derived.WalkLawsBesides
import Derived.Lib.Hide
import Derived.Deep.QuietTactic
import Derived.BigQuiet
/- instarref03's small functions: Has, Find, Ints. -/
namespace Go.Proofs.Ytioeagadhnnajaa
open Go.RowKit
def hasZ (L : List Int) (n : Int) : Nat := L.countP (fun z => z == n)
def findN (L : List Int) (n : Int) : Nat := L.findIdx (fun z => z == n)
def findZ (L : List Int) (n : Int) : Int := if findN L n < L.length then (findN L n : Int) else -1
theorem hasZ_step {L : List Int} {n z : Int} {k : Nat} (h : L[k]? = some z) : hasZ (L.take (k + 1)) n = hasZ (L.take k) n + if z == n then 1 else 0 := by
  obtain ⟨hl, hg⟩ := List.getElem?_eq_some_iff.1 h
  unfold hasZ
  rw [List.take_succ_eq_append_getElem hl, hg, List.countP_append]
  simp [List.countP_cons]
theorem hasZ_le (L : List Int) (n : Int) (k : Nat) : hasZ (L.take k) n ≤ k := Nat.le_trans (List.countP_le_length) (List.length_take_le _ _)
theorem findN_here {L : List Int} {n z : Int} {k : Nat} (h : k ≤ findN L n) (hk : L[k]? = some z) (hz : (z == n) = true) : findN L n = k := by
  obtain ⟨hl, hg⟩ := List.getElem?_eq_some_iff.1 hk
  by_cases e : k < findN L n
  · have := List.not_of_lt_findIdx e
    rw [hg, hz] at this
    cases this
  · omega
theorem findN_step {L : List Int} {n z : Int} {k : Nat} (h : k ≤ findN L n) (hk : L[k]? = some z) (hz : (z == n) = false) : k + 1 ≤ findN L n := by
  obtain ⟨hl, hg⟩ := List.getElem?_eq_some_iff.1 hk
  by_cases e : k = findN L n
  · have h1 : findN L n < L.length := by omega
    have h2 : ((L[findN L n]'h1) == n) = true := List.findIdx_getElem (w := h1)
    have h3 : (L[findN L n]'h1) = z := by rw [← hg]; congr 1; exact e.symm
    rw [h3, hz] at h2
    cases h2
  · omega
theorem refints_any (a a' : Option Addr) (len cap len' cap' : Nat) (L M : List Int) (w : World) (h : IntRow w a len cap L) (h' : IntRow w a' len' cap' M) :
    Calls Try.prog 17 #[.slice a len cap, .slice a' len' cap'] w fun e w' => e = .returned (.bool (decide (L = M))) ∧ ∃ n, w' = w.drewN n := by
  have hl := h.len64
  have hl' := h'.len64
  by_cases hll : len = len'
  rotate_left
  · have hr : Hid (decide (L = M) = false) := Lib.hid (decide_eq_false (fun e => hll (by rw [← h.hlen, ← h'.hlen, e])))
    have e1 : ((len : Int) == (len' : Int)) = false := beq_eq_false_iff_ne.2 (by omega)
    have e2 : ((len : Int) != (len' : Int)) = true := by unfold bne; rw [e1]; rfl
    clear hll
    go_enter Try.func17, Try.ntmps17
    go_wp2
    go_ret
    exact ⟨ret_bool hr.out.symm, 0, rfl⟩
  subst hll
  have e1 : ((len : Int) == (len : Int)) = true := beq_iff_eq.2 rfl
  have e2 : ((len : Int) != (len : Int)) = false := by unfold bne; rw [e1]; rfl
  go_enter Try.func17, Try.ntmps17
  go_wp2
  go_loopw [5] (fun i wr => ∃ k n : Nat, k ≤ len ∧ i = .int .i64 k ∧ wr = w.drewN n ∧ Hid (L.take k = M.take k)) (fun i _ => len - (intOf i).toNat)
  case atStart => exact ⟨0, 0, Nat.zero_le _, rfl, rfl, Lib.hid rfl⟩
  case round =>
    obtain ⟨k, n, hk, rfl, rfl, HT⟩ := hrel
    by_cases hlt : k < len
    · obtain ⟨b, off, x, rfl, hb, hx, hc1, _⟩ := h.get hlt
      obtain ⟨b', off', y, rfl, hb', hy, hd1, _⟩ := h'.get hlt
      have HX := Lib.hid hx
      have HY := Lib.hid hy
      clear hx hy
      by_cases he : x = y
      · have f1 : (x == y) = true := beq_iff_eq.2 he
        have f2 : (x != y) = false := by unfold bne; rw [f1]; rfl
        have HE := Lib.hid he
        clear he
        go_wp2
        go_quiet (fail)
        go_wp2
        go_roundw
        case rel =>
          refine ⟨k + 1, _, by omega, by go_num, by first | rfl | exact World.drewN_drewN _ _ _, Lib.hid ?_⟩
          obtain ⟨hl1, hg1⟩ := List.getElem?_eq_some_iff.1 HX.out
          obtain ⟨hl2, hg2⟩ := List.getElem?_eq_some_iff.1 HY.out
          rw [List.take_succ_eq_append_getElem hl1, List.take_succ_eq_append_getElem hl2, hg1, hg2, HT.out, HE.out]
        case measure => simp [intOf]; omega
      · have f1 : (x == y) = false := beq_eq_false_iff_ne.2 he
        have f2 : (x != y) = true := by unfold bne; rw [f1]; rfl
        have HR : Hid (decide (L = M) = false) := Lib.hid (decide_eq_false (fun e => he (by
          have h1 := HX.out
          rw [e, HY.out] at h1
          exact (Option.some.inj h1).symm)))
        clear he
        go_wp2
        go_quiet (fail)
        go_wp2
        go_ret
        exact ⟨ret_bool HR.out.symm, _, by first | rfl | exact World.drewN_drewN _ _ _⟩
    · have HR : Hid (decide (L = M) = true) := Lib.hid (decide_eq_true (by
        have h1 := HT.out
        rwa [List.take_of_length_le (by have := h.hlen; omega), List.take_of_length_le (by have := h'.hlen; omega)] at h1))
      go_wp2
      go_ret
      exact ⟨ret_bool HR.out.symm, n, rfl⟩
end Go.Proofs.Ytioeagadhnnajaa
