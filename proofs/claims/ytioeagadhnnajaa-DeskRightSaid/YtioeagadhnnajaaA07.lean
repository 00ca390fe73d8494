/- Texts joined in build order: Ref9Named. -/
import Derived.Test.YtioeagadhnnajaaChecked
import Derived.Test.YtioeagadhnnajaaA06
import Derived.WalkLawsBesides
import Derived.WalkSmall
import Derived.Lib.Hide
import Derived.Deep.QuietTactic
import Derived.BigQuiet
/- instarref09's Named and Classed. -/
namespace Go.Proofs.Ytioeagadhnnajaa
open Go.RowKit
/-- The block in which a desk by value is boxed. -/
abbrev deskB (da : Option Addr) (dl dc : Nat) (wa : Option Addr) (wl wc : Nat) (nx : Int) (bz : Bool) : Obj := .cells #[.slice da dl dc, .slice wa wl wc, .int .i64 nx, .bool bz] 25
theorem below_desk (w : World) (B : Obj) : Below w.heap.size w (w.alloc B) := (Below.refl _ _).alloc (Nat.le_refl _) B
set_option maxHeartbeats 4000000 in
set_option maxRecDepth 100000 in
theorem refnamed_any (da : Option Addr) (dl dc : Nat) (wa : Option Addr) (wl wc : Nat) (nx : Int) (bz : Bool) (L : List DefD) (s : ByteArray) (w : World) (h0 : DefRow w da dl dc L) :
    Calls Try.prog 12 #[deskV da dl dc wa wl wc nx bz, .string s] w fun e w' => e = .returned (.int .i64 (namedZ L s.toList)) ∧ Below w.heap.size w w' := by
  have hl := h0.len64
  have HLN := Lib.hid h0.hlen
  have h := h0.below (below_desk w (deskB da dl dc wa wl wc nx bz))
  clear h0
  go_enter Try.func12, Try.ntmps12
  go_wp2
  go_loop [5] (fun i => ∃ k : Nat, k ≤ dl ∧ i = .int .i64 k ∧ Hid (k ≤ firstN (isName s.toList) L)) (fun i => dl - (intOf i).toNat)
  case atStart => exact ⟨0, Nat.zero_le _, rfl, Lib.hid (Nat.zero_le _)⟩
  case round =>
    obtain ⟨k, hk, rfl, HA⟩ := hrel
    by_cases hlt : k < dl
    · obtain ⟨b, off, x, rfl, hb, hx, c0, -, -, -⟩ := h.get hlt
      have hb2 : b < w.heap.size + 1 := by simpa using hb
      have HX := Lib.hid hx
      clear hx
      obtain ⟨n, hn⟩ : ∃ n, x.name = n := ⟨_, rfl⟩
      rw [hn] at c0
      cases e1 : n.toList == s.toList with
      | true =>
        have HR : Hid (namedZ L s.toList = (k : Int)) := Lib.hid (firstZ_here HA.out HX.out (by unfold isName; rw [hn]; exact e1))
        go_wp2
        go_ret
        exact ⟨ret_int HR.out.symm, below_desk _ _⟩
      | false =>
        have HR : Hid (k + 1 ≤ firstN (isName s.toList) L) := Lib.hid (first_step HA.out HX.out (by unfold isName; rw [hn]; exact e1))
        go_wp2
        go_round
        case rel => exact ⟨k + 1, by omega, by go_num, HR⟩
        case measure => simp [intOf]; omega
    · have HR : Hid (namedZ L s.toList = -1) := Lib.hid (firstZ_none HA.out (by rw [HLN.out]; omega))
      go_wp2
      go_ret
      exact ⟨ret_int HR.out.symm, below_desk _ _⟩
set_option maxHeartbeats 4000000 in
set_option maxRecDepth 100000 in
theorem refclassed_any (da : Option Addr) (dl dc : Nat) (wa : Option Addr) (wl wc : Nat) (nx : Int) (bz : Bool) (L : List DefD) (c : Int) (w : World) (h0 : DefRow w da dl dc L) :
    Calls Try.prog 13 #[deskV da dl dc wa wl wc nx bz, .int .i64 c] w fun e w' => e = .returned (.int .i64 (classedZ L c)) ∧ Below w.heap.size w w' := by
  have hl := h0.len64
  have HLN := Lib.hid h0.hlen
  have h := h0.below (below_desk w (deskB da dl dc wa wl wc nx bz))
  clear h0
  go_enter Try.func13, Try.ntmps13
  go_wp2
  go_loop [5] (fun i => ∃ k : Nat, k ≤ dl ∧ i = .int .i64 k ∧ Hid (k ≤ firstN (isCls c) L)) (fun i => dl - (intOf i).toNat)
  case atStart => exact ⟨0, Nat.zero_le _, rfl, Lib.hid (Nat.zero_le _)⟩
  case round =>
    obtain ⟨k, hk, rfl, HA⟩ := hrel
    by_cases hlt : k < dl
    · obtain ⟨b, off, x, rfl, hb, hx, -, -, c2, -⟩ := h.get hlt
      have hb2 : b < w.heap.size + 1 := by simpa using hb
      have HX := Lib.hid hx
      clear hx
      obtain ⟨n, hn⟩ : ∃ n, x.cls = n := ⟨_, rfl⟩
      rw [hn] at c2
      cases e1 : n == c with
      | true =>
        have HR : Hid (classedZ L c = (k : Int)) := Lib.hid (firstZ_here HA.out HX.out (by unfold isCls; rw [hn]; exact e1))
        go_wp2
        go_ret
        exact ⟨ret_int HR.out.symm, below_desk _ _⟩
      | false =>
        have HR : Hid (k + 1 ≤ firstN (isCls c) L) := Lib.hid (first_step HA.out HX.out (by unfold isCls; rw [hn]; exact e1))
        go_wp2
        go_round
        case rel => exact ⟨k + 1, by omega, by go_num, HR⟩
        case measure => simp [intOf]; omega
    · have HR : Hid (classedZ L c = -1) := Lib.hid (firstZ_none HA.out (by rw [HLN.out]; omega))
      go_wp2
      go_ret
      exact ⟨ret_int HR.out.symm, below_desk _ _⟩
end Go.Proofs.Ytioeagadhnnajaa
