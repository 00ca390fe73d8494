/- instarref11's Todos and Same. -/
import Derived.Test.YtadlmjiebhpaoaaRef11Eq
import Derived.Test.YtadlmjiebhpaoaaLineHas
import Derived.Test.YtadlmjiebhpaoaaExt
namespace Go.Proofs.Ytadlmjiebhpaoaa
open Go.RowKit
theorem tk_more {α : Type} {L M : List α} {k : Nat} {x : α} (h : L.take k = M.take k) (hx : L[k]? = some x) (hy : M[k]? = some x) : L.take (k + 1) = M.take (k + 1) := by
  obtain ⟨hl1, hg1⟩ := List.getElem?_eq_some_iff.1 hx
  obtain ⟨hl2, hg2⟩ := List.getElem?_eq_some_iff.1 hy
  rw [List.take_succ_eq_append_getElem hl1, List.take_succ_eq_append_getElem hl2, hg1, hg2, h]
theorem tk_all {α : Type} {L M : List α} {k : Nat} (h : L.take k = M.take k) (hl : L.length ≤ k) (hm : M.length ≤ k) : L = M := by
  rwa [List.take_of_length_le hl, List.take_of_length_le hm] at h
theorem at_ne {α : Type} {L M : List α} {k : Nat} {x y : α} (hx : L[k]? = some x) (hy : M[k]? = some y) (h : x ≠ y) : L ≠ M := by
  intro e
  rw [e, hy] at hx
  exact h (Option.some.inj hx).symm
set_option maxHeartbeats 4000000 in
theorem reftodos_any (a a' : Option Addr) (len cap len' cap' : Nat) (L M : List TodoD) (w : World) (h : TodoRow w a len cap L) (h' : TodoRow w a' len' cap' M) :
    Calls Try.prog 29 #[.slice a len cap, .slice a' len' cap'] w fun e w' => e = .returned (.bool (decide (L = M))) ∧ Below w.heap.size w w' := by
  have hl := h.len64
  have hl' := h'.len64
  by_cases hll : len = len'
  rotate_left
  · have hr : Hid (decide (L = M) = false) := Lib.hid (decide_eq_false (fun e => hll (by rw [← h.hlen, ← h'.hlen, e])))
    have e1 : ((len : Int) == (len' : Int)) = false := beq_eq_false_iff_ne.2 (by omega)
    have e2 : ((len : Int) != (len' : Int)) = true := by unfold bne; rw [e1]; rfl
    clear hll
    go_enter Try.func29, Try.ntmps29
    go_wp2
    go_ret
    exact ⟨retB hr.out.symm, Below.refl _ _⟩
  subst hll
  have HL := Lib.hid h.hlen
  have HM := Lib.hid h'.hlen
  have H1 := Lib.hid h
  have H2 := Lib.hid h'
  have e1 : ((len : Int) != (len : Int)) = false := by simp
  clear h h'
  go_enter Try.func29, Try.ntmps29
  go_wp2
  go_loopw [5] (fun i wr => ∃ k : Nat, k ≤ len ∧ i = .int .i64 k ∧ Hid (Below w.heap.size w wr) ∧ Hid (L.take k = M.take k)) (fun i _ => len - (intOf i).toNat)
  case atStart => exact ⟨0, Nat.zero_le _, rfl, Lib.hid (Below.refl _ _), Lib.hid rfl⟩
  case round =>
    obtain ⟨k, hk, rfl, HB, HT⟩ := hrel
    by_cases hlt : k < len
    · obtain ⟨b, off, x, ha, hb, hx, hc, -⟩ := (H1.out.below HB.out).todo hlt
      obtain ⟨b', off', y, ha', hb', hy, hd, -⟩ := (H2.out.below HB.out).todo hlt
      subst ha
      subst ha'
      have HX := Lib.hid hx
      have HY := Lib.hid hy
      clear hx hy
      obtain ⟨a0, a1, a2, a3, a4, a5, a6, a7, a8, a9⟩ := x
      obtain ⟨b0, b1, b2, b3, b4, b5, b6, b7, b8, b9⟩ := y
      obtain ⟨c0, c1, c2, c3, c4, c5, c6, c7, c8, c9⟩ := hc
      obtain ⟨d0, d1, d2, d3, d4, d5, d6, d7, d8, d9⟩ := hd
      dsimp only at c0 c1 c2 c3 c4 c5 c6 c7 c8 c9 d0 d1 d2 d3 d4 d5 d6 d7 d8 d9
      have hneq := fun W => todo_neq a0 a1 a2 a3 a4 a5 a6 a7 a8 a9 b0 b1 b2 b3 b4 b5 b6 b7 b8 b9 W
      have hgd := todo_guard
      cases he : sameTd ⟨a0, a1, a2, a3, a4, a5, a6, a7, a8, a9⟩ ⟨b0, b1, b2, b3, b4, b5, b6, b7, b8, b9⟩ with
      | true =>
        rw [he] at hneq
        have HE := Lib.hid (sameTd_eq.1 he)
        clear he
        go_wp2
        go_quiet (fail)
        go_wp2
        go_roundw
        case rel => exact ⟨k + 1, by omega, by go_num, Lib.hid (below_drewN HB.out _), Lib.hid (tk_more HT.out HX.out (by rw [HE.out]; exact HY.out))⟩
        case measure => simp [intOf]; omega
      | false =>
        rw [he] at hneq
        have HR : Hid (decide (L = M) = false) := Lib.hid (decide_eq_false (at_ne HX.out HY.out (fun e => by rw [sameTd_eq.2 e] at he; cases he)))
        clear he
        go_wp2
        go_quiet (fail)
        go_wp2
        go_ret
        exact ⟨retB HR.out.symm, below_drewN HB.out _⟩
    · have HR : Hid (decide (L = M) = true) := Lib.hid (decide_eq_true (tk_all HT.out (by rw [HL.out]; omega) (by rw [HM.out]; omega)))
      go_wp2
      go_ret
      exact ⟨retB HR.out.symm, HB.out⟩
end Go.Proofs.Ytadlmjiebhpaoaa
