/- Texts joined in build order: Ref9Find. -/
import Derived.Test.YtioeagadhnnajaaA16
/- instarref09's Find. -/
namespace Go.Proofs.Ytioeagadhnnajaa
open Go.RowKit
theorem find2_own {L : List DefD} {l s : List UInt8} {k : Nat} (h : firstZ (isOwn l) L = (k : Int)) : findZ2 L l s = (k : Int) := by
  unfold findZ2
  rw [h, if_pos (by omega)]
theorem find2_is {L : List DefD} {l s : List UInt8} (h : firstZ (isOwn l) L = -1) : findZ2 L l s = firstZ (isIs l s) L := by
  unfold findZ2
  rw [h, if_neg (by decide)]
set_option maxHeartbeats 8000000 in
set_option maxRecDepth 100000 in
theorem reffind9_any (da : Option Addr) (dl dc : Nat) (wa : Option Addr) (wl wc : Nat) (nx : Int) (bz : Bool) (L : List DefD) (l s : ByteArray) (w : World) (h0 : DefRow w da dl dc L) :
    Calls Try.prog 11 #[deskV da dl dc wa wl wc nx bz, .string l, .string s] w fun e w' => e = .returned (.int .i64 (findZ2 L l.toList s.toList)) ∧ Below w.heap.size w w' := by
  have hl := h0.len64
  have HLN := Lib.hid h0.hlen
  have h := h0.below (below_desk w (deskB da dl dc wa wl wc nx bz))
  clear h0
  go_enter Try.func11, Try.ntmps11
  go_wp2
  go_loop [7] (fun i => ∃ k : Nat, k ≤ dl ∧ i = .int .i64 k ∧ Hid (k ≤ firstN (isOwn l.toList) L)) (fun i => dl - (intOf i).toNat)
  case atStart => exact ⟨0, Nat.zero_le _, rfl, Lib.hid (Nat.zero_le _)⟩
  case round =>
    obtain ⟨k, hk, rfl, HA⟩ := hrel
    by_cases hlt : k < dl
    · obtain ⟨b, off, x, rfl, hb, hx, c0, c1, -, -⟩ := h.get hlt
      have hb2 : b < w.heap.size + 1 := by simpa using hb
      have HX := Lib.hid hx
      clear hx
      obtain ⟨n, hn⟩ : ∃ n, x.name = n := ⟨_, rfl⟩
      obtain ⟨o, ho⟩ : ∃ n, x.loc = n := ⟨_, rfl⟩
      rw [hn] at c0
      rw [ho] at c1
      cases e1 : o.toList == l.toList with
      | false =>
        have HR : Hid (k + 1 ≤ firstN (isOwn l.toList) L) := Lib.hid (first_step HA.out HX.out (by unfold isOwn; rw [ho, e1]; rfl))
        go_wp2
        go_round
        case rel => exact ⟨k + 1, by omega, by go_num, HR⟩
        case measure => simp [intOf]; omega
      | true =>
        cases e2 : n.toList == l.toList with
        | false =>
          have HR : Hid (k + 1 ≤ firstN (isOwn l.toList) L) := Lib.hid (first_step HA.out HX.out (by unfold isOwn; rw [ho, e1, hn, e2]; rfl))
          go_wp2
          go_round
          case rel => exact ⟨k + 1, by omega, by go_num, HR⟩
          case measure => simp [intOf]; omega
        | true =>
          have HR : Hid (findZ2 L l.toList s.toList = (k : Int)) := Lib.hid (find2_own (firstZ_here HA.out HX.out (by unfold isOwn; rw [ho, e1, hn, e2]; rfl)))
          go_wp2
          go_ret
          exact ⟨ret_int HR.out.symm, below_desk _ _⟩
    · have HO : Hid (firstZ (isOwn l.toList) L = -1) := Lib.hid (firstZ_none HA.out (by rw [HLN.out]; omega))
      go_wp2
      go_loop [8] (fun i => ∃ k : Nat, k ≤ dl ∧ i = .int .i64 k ∧ Hid (k ≤ firstN (isIs l.toList s.toList) L)) (fun i => dl - (intOf i).toNat)
      case atStart => exact ⟨0, Nat.zero_le _, rfl, Lib.hid (Nat.zero_le _)⟩
      case round =>
        obtain ⟨k, hk, rfl, HA⟩ := hrel
        by_cases hlt : k < dl
        · obtain ⟨b, off, x, rfl, hb, hx, c0, c1, -, -⟩ := h.get hlt
          have hb2 : b < w.heap.size + 1 := by simpa using hb
          have HX := Lib.hid hx
          clear hx
          obtain ⟨n, hn⟩ : ∃ n, x.name = n := ⟨_, rfl⟩
          obtain ⟨o, ho⟩ : ∃ n, x.loc = n := ⟨_, rfl⟩
          rw [hn] at c0
          rw [ho] at c1
          cases e1 : o.toList == l.toList with
          | false =>
            have HR : Hid (k + 1 ≤ firstN (isIs l.toList s.toList) L) := Lib.hid (first_step HA.out HX.out (by unfold isIs; rw [ho, e1]; rfl))
            go_wp2
            go_round
            case rel => exact ⟨k + 1, by omega, by go_num, HR⟩
            case measure => simp [intOf]; omega
          | true =>
            cases e2 : n.toList == s.toList with
            | false =>
              have HR : Hid (k + 1 ≤ firstN (isIs l.toList s.toList) L) := Lib.hid (first_step HA.out HX.out (by unfold isIs; rw [ho, e1, hn, e2]; rfl))
              go_wp2
              go_round
              case rel => exact ⟨k + 1, by omega, by go_num, HR⟩
              case measure => simp [intOf]; omega
            | true =>
              have HR : Hid (findZ2 L l.toList s.toList = (k : Int)) := Lib.hid (by rw [find2_is HO.out]; exact firstZ_here HA.out HX.out (by unfold isIs; rw [ho, e1, hn, e2]; rfl))
              go_wp2
              go_ret
              exact ⟨ret_int HR.out.symm, below_desk _ _⟩
        · have HR : Hid (findZ2 L l.toList s.toList = -1) := Lib.hid (by rw [find2_is HO.out]; exact firstZ_none HA.out (by rw [HLN.out]; omega))
          go_wp2
          go_ret
          exact ⟨ret_int HR.out.symm, below_desk _ _⟩
end Go.Proofs.Ytioeagadhnnajaa
