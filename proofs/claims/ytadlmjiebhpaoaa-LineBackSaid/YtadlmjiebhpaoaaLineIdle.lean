/- Package line's Idle. -/
import Derived.Test.YtadlmjiebhpaoaaLineHas
namespace Go.Proofs.Ytadlmjiebhpaoaa
open Go.RowKit
theorem empty_n {α : Type} {l : List α} {n : Nat} (h : l.length = n) : emptyB l = decide (n = 0) := by unfold emptyB; rw [h]
set_option maxHeartbeats 1000000 in
theorem idle1_any (a : Option Addr) (n c : Nat) (w : World) :
    Calls Try.prog 37 #[.slice a n c] w fun e w' => e = .returned (.bool (decide ((0 : Int) < (n : Int)))) ∧ w = w' := by
  go_enter Try.func37, Try.ntmps37
  go_wp2
  go_ret
  exact ⟨retB (by simp), rfl⟩
/-- What IndexFunc finds: a place, or -1. -/
def FoundB (T : List (Hd TodoD)) (w : World) (e : Ending) (w' : World) : Prop := ∃ z : Int, e = .returned (.int .i64 z) ∧ decide (0 ≤ z) = !T.all (fun x => emptyB x.l) ∧ w = w'
set_option maxHeartbeats 2000000 in
theorem indexTd_any (a : Option Addr) (len cap : Nat) (T : List (Hd TodoD)) (w : World) (h : TdsRow w a len cap T) :
    Calls Try.prog 42 #[.slice a len cap, .func (.func 37) #[] #[]] w (FoundB T w) := by
  have eg : ∀ args w, (callFunc 37 args).run Try.prog w = .ok (.enter 37 args) w := enters_of Try.func37 (by kernel_rfl) rfl
  have hl := h.len64
  have HLN := Lib.hid h.hlen
  have HH := Lib.hid h
  clear h
  go_enter Try.func42, Try.ntmps42
  go_wp2
  go_loop [8] (fun i => ∃ k : Nat, k ≤ len ∧ i = .int .i64 k ∧ Hid (∀ (j : Nat) x, j < k → T[j]? = some x → emptyB x.l = true)) (fun i => len - (intOf i).toNat)
  case atStart => exact ⟨0, Nat.zero_le _, rfl, Lib.hid (fun j _ hj => absurd hj (by omega))⟩
  case round =>
    obtain ⟨k, hk, rfl, HA⟩ := hrel
    by_cases hlt : k < len
    · obtain ⟨b, off, x, ha, hb, hx, hc, hrow⟩ := HH.out.get hlt
      subst ha
      obtain ⟨xa, xn, xc, xl⟩ := x
      dsimp only at hc hrow
      have HX := Lib.hid hx
      have HE : Hid (emptyB xl = decide (xn = 0)) := Lib.hid (empty_n hrow.hlen)
      have h64 := hrow.len64
      have hcall := idle1_any xa xn xc w
      clear hx hrow
      by_cases hz : (0 : Int) < (xn : Int)
      · rw [decide_eq_true hz] at hcall
        have HF : Hid (T.all (fun x => emptyB x.l) = false) := Lib.hid (all_not (p := fun x : Hd TodoD => emptyB x.l) HX.out (by show emptyB xl = false; rw [HE.out]; exact decide_eq_false (by omega)))
        go_wp2_with (go_at_fn 37; refine hcall.mono ?_; rintro e w' ⟨rfl, rfl⟩)
        go_ret
        exact ⟨_, rfl, by rw [HF.out]; simp, rfl⟩
      · rw [decide_eq_false hz] at hcall
        have HG := Lib.hid (all_step HA.out HX.out (by show emptyB xl = true; rw [HE.out]; exact decide_eq_true (by omega)))
        go_wp2_with (go_at_fn 37; refine hcall.mono ?_; rintro e w' ⟨rfl, rfl⟩)
        go_round
        case rel => exact ⟨k + 1, by omega, by go_num, HG⟩
        case measure => simp [intOf]; omega
    · have HF : Hid (T.all (fun x => emptyB x.l) = true) := Lib.hid (all_done (p := fun x : Hd TodoD => emptyB x.l) HA.out (by rw [HLN.out]; omega))
      go_wp2
      go_ret
      exact ⟨-1, rfl, by rw [HF.out]; rfl, rfl⟩
set_option maxHeartbeats 2000000 in
theorem containsTd_any (a : Option Addr) (len cap : Nat) (T : List (Hd TodoD)) (w : World) (h : TdsRow w a len cap T) :
    Calls Try.prog 36 #[.slice a len cap, .func (.func 37) #[] #[]] w fun e w' => e = .returned (.bool (!T.all (fun x => emptyB x.l))) ∧ w = w' := by
  have hcall := Lib.hid (indexTd_any a len cap T w h)
  clear h
  go_enter Try.func36, Try.ntmps36
  go_wp2_with (go_at_call 42; refine hcall.out.mono ?_; rintro e w' ⟨z, rfl, hz, rfl⟩; have HZ := Lib.hid hz; clear hz)
  all_goals (go_ret; exact ⟨retB (by have := HZ.out; first | (rw [← this]; done) | (rw [← this]; simp; done) | (rw [← this]; simp; omega)), rfl⟩)
set_option maxHeartbeats 2000000 in
theorem idle11_any (v : LnV) (w : World) (ht : LineAt w v) :
    Calls Try.prog 16 #[v.val] w fun e w' => e = .returned (.bool (idle11 v.dat)) ∧ Below w.heap.size w w' := by
  have HR : Hid (idle11 v.dat = (decide (v.sl = 0) && decide (v.bl = 0) && !v.bz && v.T.all (fun x => emptyB x.l))) := Lib.hid (by
    unfold idle11 LnV.dat
    dsimp only
    rw [empty_n ht.s.dlen, empty_n ht.b.hlen]
    unfold datL
    rw [List.all_map]
    rfl)
  obtain ⟨R, hRe⟩ : ∃ R, idle11 v.dat = R := ⟨_, rfl⟩
  rw [hRe] at HR ⊢
  clear hRe
  obtain ⟨ta, tl, tc, sa, sl, sc, ba, bl, bc, bz, T, S, B⟩ := v
  dsimp only at HR
  have h1 : Hid (TdsRow (w.alloc (lineB ta tl tc sa sl sc ba bl bc bz)) ta tl tc T) := Lib.hid (ht.t.below (below_one w (lineB ta tl tc sa sl sc ba bl bc bz)))
  have s64 : sl ≤ 9223372036854775807 := ht.s.len64
  have b64 : bl ≤ 9223372036854775807 := ht.b.len64
  clear ht
  by_cases q1 : (0 : Int) < (sl : Int)
  · have HF : Hid (R = false) := Lib.hid (by rw [HR.out, decide_eq_false (by omega : ¬ sl = 0)]; rfl)
    go_enter Try.func16, Try.ntmps16
    go_wp2
    go_ret
    exact ⟨retB HF.out.symm, below_one _ _⟩
  by_cases q2 : (0 : Int) < (bl : Int)
  · have HF : Hid (R = false) := Lib.hid (by rw [HR.out, decide_eq_false (by omega : ¬ bl = 0), Bool.and_false]; rfl)
    go_enter Try.func16, Try.ntmps16
    go_wp2
    go_ret
    exact ⟨retB HF.out.symm, below_one _ _⟩
  obtain rfl : sl = 0 := by omega
  obtain rfl : bl = 0 := by omega
  clear q1 q2
  cases bz with
  | true =>
    have HF : Hid (R = false) := Lib.hid (by rw [HR.out]; simp)
    go_enter Try.func16, Try.ntmps16
    go_wp2
    go_ret
    exact ⟨retB HF.out.symm, below_one _ _⟩
  | false =>
    obtain ⟨q, hq⟩ : ∃ q, T.all (fun x => emptyB x.l) = q := ⟨_, rfl⟩
    have HF : Hid (R = q) := Lib.hid (by rw [HR.out, hq]; rfl)
    have CC := containsTd_any ta tl tc T _ h1.out
    rw [hq] at CC
    have CC := Lib.hid CC
    clear hq
    go_enter Try.func16, Try.ntmps16
    go_wp2_with (go_at_call 36; refine CC.out.mono ?_; rintro e w5 ⟨rfl, rfl⟩)
    go_ret
    exact ⟨retB (by first | exact HF.out.symm | (rw [HF.out]; cases q <;> rfl)), below_one _ _⟩
end Go.Proofs.Ytadlmjiebhpaoaa
