/- The walk of instarlaw09's DeskFinds, over what is asked of package desk. -/
import Derived.Test.YtapfhgimeohmgaaDeskAwake9
import Derived.Test.YtapfhgimeohmgaaRef9Short
import Derived.Test.YtapfhgimeohmgaaNameKinds
import Derived.Test.YtapfhgimeohmgaaExt
import Derived.Deep.QuietTactic
import Derived.BigQuiet
import Derived.Deep.CutBlock
namespace Go.Proofs.Ytapfhgimeohmgaa
open Go.RowKit
def fitZ (z : Int) (k : Nat) : Int := if 0 ≤ z ∧ z < (k : Int) then 1 else 0
theorem fitZ_step {z : Int} {k : Nat} : fitZ z (k + 1) = if (z == (k : Int)) = true then fitZ z k + 1 else fitZ z k := by
  unfold fitZ
  by_cases h : z = (k : Int)
  · rw [if_pos (by omega), if_pos (beq_iff_eq.2 h), if_neg (by omega)]
    rfl
  · rw [if_neg (fun e => h (beq_iff_eq.1 e))]
    by_cases h2 : 0 ≤ z ∧ z < (k : Int)
    · rw [if_pos (by omega), if_pos h2]
    · rw [if_neg (by omega), if_neg h2]
theorem fitZ_in {z : Int} {k : Nat} : 0 ≤ fitZ z k ∧ fitZ z k ≤ 1 := by
  unfold fitZ
  split <;> omega
theorem fitZ_end {z : Int} {n : Nat} (h1 : -1 ≤ z) (h2 : z < (n : Int)) : (fitZ z n == 1) = (z != -1) := by
  unfold fitZ
  by_cases h : z = -1
  · subst h
    rw [if_neg (by omega)]
    rfl
  · rw [if_pos (by omega)]
    have : (z == -1) = false := beq_eq_false_iff_ne.2 h
    unfold bne
    rw [this]
    rfl
theorem ifR {D : DeskD} {z : Int} (h : RightK D) : ifRight D z = z := by unfold ifRight; rw [if_pos (rightK_iff.2 h)]
set_option maxHeartbeats 8000000 in
set_option maxRecDepth 100000 in
theorem deskFinds_walk (F : DeskFns) (da : Option Addr) (dl dc : Nat) (wa : Option Addr) (wl wc : Nat) (nx : Int) (bz : Bool) (L : List DefD) (M : List WaitD) (l s : ByteArray) (w : World) (h : DeskAt w da dl dc wa wl wc ⟨L, M, nx, bz⟩) (hl : l.size ≤ maxLen) (hs : s.size ≤ maxLen) :
    Calls Try.prog 4 #[deskV da dl dc wa wl wc nx bz, .string l, .string s] w fun e w' => e = .returned (.bool true) ∧ Below w.heap.size w w' := by
  have DX := Lib.hid (DBox.start (nx := nx) (bz := bz) h.d h.t)
  have HLN := Lib.hid h.d.hlen
  have hll := h.d.len64
  have z0 := DX.out.c0
  have z1 := DX.out.c1
  have z2 := DX.out.c2
  have z3 := DX.out.c3
  have AW : Hid (∀ V, Calls Try.prog 8 #[] V fun e w' => e = .returned (.bool true) ∧ Below V.heap.size V w') := Lib.hid (fun V => awake9_any F V)
  obtain ⟨q0, hq0⟩ : ∃ q, shortK L M = q := ⟨_, rfl⟩
  obtain ⟨q1, hq1⟩ : ∃ q, rightK ⟨L, M, nx, bz⟩ = q := ⟨_, rfl⟩
  have SH : Hid (∀ V, DefRow V da dl dc L → WaitRow V wa wl wc M → Calls Try.prog 9 #[deskV da dl dc wa wl wc nx bz] V fun e w' => e = .returned (.bool q0) ∧ Below V.heap.size V w') := Lib.hid (fun V h1 h2 => by
    have h := refshort9_any da dl dc wa wl wc nx bz L M V h1 h2
    rw [hq0] at h
    exact h)
  have RI : Hid (∀ V, DefRow V da dl dc L → WaitRow V wa wl wc M → Calls Try.prog 14 #[deskV da dl dc wa wl wc nx bz] V fun e w' => e = .returned (.bool q1) ∧ Below V.heap.size V w') := Lib.hid (fun V h1 h2 => by
    have h := F.right da dl dc wa wl wc nx bz L M V h1 h2
    rw [hq1] at h
    exact h)
  have hl64 : l.size ≤ 9223372036854775807 := by unfold maxLen at hl; omega
  have hs64 : s.size ≤ 9223372036854775807 := by unfold maxLen at hs; omega
  have HL := Lib.hid hl
  have HS := Lib.hid hs
  have HF := Lib.hid F
  clear h hl hs hq0 F
  cases q0 with
  | false => clear hq1; (go_enter Try.func4, Try.ntmps4; go_wp2_with (first
                                                                                                                                         | (go_at_call 8; (with_reducible refine (AW.out _).mono ?_); rintro e w5 ⟨rfl, hb⟩; ((clear z0 z1 z2 z3); have DX := Lib.hid (DX.out.keep hb); have z0 := DX.out.c0; have z1 := DX.out.c1; have z2 := DX.out.c2; have z3 := DX.out.c3; clear hb))
                                                                                                                                         | (go_at_call 9; (with_reducible refine (SH.out _ DX.out.d DX.out.t).mono ?_); rintro e w5 ⟨rfl, hb⟩; ((clear z0 z1 z2 z3); have DX := Lib.hid (DX.out.keep hb); have z0 := DX.out.c0; have z1 := DX.out.c1; have z2 := DX.out.c2; have z3 := DX.out.c3; clear hb))
                                                                                                                                         | (go_at_call 14; (with_reducible refine (RI.out _ DX.out.d DX.out.t).mono ?_); rintro e w5 ⟨rfl, hb⟩; ((clear z0 z1 z2 z3); have DX := Lib.hid (DX.out.keep hb); have z0 := DX.out.c0; have z1 := DX.out.c1; have z2 := DX.out.c2; have z3 := DX.out.c3; clear hb))
                                                                                                                                         | (go_at_call 11; (with_reducible refine (FI.out _ DX.out.d DX.out.t).mono ?_); rintro e w5 ⟨rfl, hb⟩; ((clear z0 z1 z2 z3); have DX := Lib.hid (DX.out.keep hb); have z0 := DX.out.c0; have z1 := DX.out.c1; have z2 := DX.out.c2; have z3 := DX.out.c3; clear hb))); go_ret; exact ⟨rfl, DX.out.below⟩)
  | true =>
  by_cases d0 : (300 : Int) < (l.size : Int)
  · clear hq1; (go_enter Try.func4, Try.ntmps4; go_wp2_with (first
                                                                                                                                | (go_at_call 8; (with_reducible refine (AW.out _).mono ?_); rintro e w5 ⟨rfl, hb⟩; ((clear z0 z1 z2 z3); have DX := Lib.hid (DX.out.keep hb); have z0 := DX.out.c0; have z1 := DX.out.c1; have z2 := DX.out.c2; have z3 := DX.out.c3; clear hb))
                                                                                                                                | (go_at_call 9; (with_reducible refine (SH.out _ DX.out.d DX.out.t).mono ?_); rintro e w5 ⟨rfl, hb⟩; ((clear z0 z1 z2 z3); have DX := Lib.hid (DX.out.keep hb); have z0 := DX.out.c0; have z1 := DX.out.c1; have z2 := DX.out.c2; have z3 := DX.out.c3; clear hb))
                                                                                                                                | (go_at_call 14; (with_reducible refine (RI.out _ DX.out.d DX.out.t).mono ?_); rintro e w5 ⟨rfl, hb⟩; ((clear z0 z1 z2 z3); have DX := Lib.hid (DX.out.keep hb); have z0 := DX.out.c0; have z1 := DX.out.c1; have z2 := DX.out.c2; have z3 := DX.out.c3; clear hb))
                                                                                                                                | (go_at_call 11; (with_reducible refine (FI.out _ DX.out.d DX.out.t).mono ?_); rintro e w5 ⟨rfl, hb⟩; ((clear z0 z1 z2 z3); have DX := Lib.hid (DX.out.keep hb); have z0 := DX.out.c0; have z1 := DX.out.c1; have z2 := DX.out.c2; have z3 := DX.out.c3; clear hb))); go_ret; exact ⟨rfl, DX.out.below⟩)
  by_cases d1 : (300 : Int) < (s.size : Int)
  · clear hq1; (go_enter Try.func4, Try.ntmps4; go_wp2_with (first
                                                                                                                                | (go_at_call 8; (with_reducible refine (AW.out _).mono ?_); rintro e w5 ⟨rfl, hb⟩; ((clear z0 z1 z2 z3); have DX := Lib.hid (DX.out.keep hb); have z0 := DX.out.c0; have z1 := DX.out.c1; have z2 := DX.out.c2; have z3 := DX.out.c3; clear hb))
                                                                                                                                | (go_at_call 9; (with_reducible refine (SH.out _ DX.out.d DX.out.t).mono ?_); rintro e w5 ⟨rfl, hb⟩; ((clear z0 z1 z2 z3); have DX := Lib.hid (DX.out.keep hb); have z0 := DX.out.c0; have z1 := DX.out.c1; have z2 := DX.out.c2; have z3 := DX.out.c3; clear hb))
                                                                                                                                | (go_at_call 14; (with_reducible refine (RI.out _ DX.out.d DX.out.t).mono ?_); rintro e w5 ⟨rfl, hb⟩; ((clear z0 z1 z2 z3); have DX := Lib.hid (DX.out.keep hb); have z0 := DX.out.c0; have z1 := DX.out.c1; have z2 := DX.out.c2; have z3 := DX.out.c3; clear hb))
                                                                                                                                | (go_at_call 11; (with_reducible refine (FI.out _ DX.out.d DX.out.t).mono ?_); rintro e w5 ⟨rfl, hb⟩; ((clear z0 z1 z2 z3); have DX := Lib.hid (DX.out.keep hb); have z0 := DX.out.c0; have z1 := DX.out.c1; have z2 := DX.out.c2; have z3 := DX.out.c3; clear hb))); go_ret; exact ⟨rfl, DX.out.below⟩)
  cases q1 with
  | false => clear hq1; (go_enter Try.func4, Try.ntmps4; go_wp2_with (first
                                                                                                                                         | (go_at_call 8; (with_reducible refine (AW.out _).mono ?_); rintro e w5 ⟨rfl, hb⟩; ((clear z0 z1 z2 z3); have DX := Lib.hid (DX.out.keep hb); have z0 := DX.out.c0; have z1 := DX.out.c1; have z2 := DX.out.c2; have z3 := DX.out.c3; clear hb))
                                                                                                                                         | (go_at_call 9; (with_reducible refine (SH.out _ DX.out.d DX.out.t).mono ?_); rintro e w5 ⟨rfl, hb⟩; ((clear z0 z1 z2 z3); have DX := Lib.hid (DX.out.keep hb); have z0 := DX.out.c0; have z1 := DX.out.c1; have z2 := DX.out.c2; have z3 := DX.out.c3; clear hb))
                                                                                                                                         | (go_at_call 14; (with_reducible refine (RI.out _ DX.out.d DX.out.t).mono ?_); rintro e w5 ⟨rfl, hb⟩; ((clear z0 z1 z2 z3); have DX := Lib.hid (DX.out.keep hb); have z0 := DX.out.c0; have z1 := DX.out.c1; have z2 := DX.out.c2; have z3 := DX.out.c3; clear hb))
                                                                                                                                         | (go_at_call 11; (with_reducible refine (FI.out _ DX.out.d DX.out.t).mono ?_); rintro e w5 ⟨rfl, hb⟩; ((clear z0 z1 z2 z3); have DX := Lib.hid (DX.out.keep hb); have z0 := DX.out.c0; have z1 := DX.out.c1; have z2 := DX.out.c2; have z3 := DX.out.c3; clear hb))); go_ret; exact ⟨rfl, DX.out.below⟩)
  | true =>
  have RK := Lib.hid (rightK_iff.1 hq1)
  clear hq1
  obtain ⟨z, hz⟩ : ∃ z, findZ2 L l.toList s.toList = z := ⟨_, rfl⟩
  have FI : Hid (∀ V, DefRow V da dl dc L → WaitRow V wa wl wc M → Calls Try.prog 11 #[deskV da dl dc wa wl wc nx bz, .string l, .string s] V fun e w' => e = .returned (.int .i64 z) ∧ Below V.heap.size V w') := Lib.hid (fun V h1 h2 => by
    have h := HF.out.find da dl dc wa wl wc nx bz L M l s V h1 h2 HL.out HS.out
    rw [ifR RK.out, hz] at h
    exact h)
  have HZ := Lib.hid hz
  have ZL : Hid (-1 ≤ z ∧ z < (dl : Int)) := Lib.hid (by
    have := find_lt L l.toList s.toList
    rw [hz, HLN.out] at this
    exact this)
  clear hz
  go_enter Try.func4, Try.ntmps4
  go_wp2_with (first
                  | (go_at_call 8; (with_reducible refine (AW.out _).mono ?_); rintro e w5 ⟨rfl, hb⟩; ((clear z0 z1 z2 z3); have DX := Lib.hid (DX.out.keep hb); have z0 := DX.out.c0; have z1 := DX.out.c1; have z2 := DX.out.c2; have z3 := DX.out.c3; clear hb))
                  | (go_at_call 9; (with_reducible refine (SH.out _ DX.out.d DX.out.t).mono ?_); rintro e w5 ⟨rfl, hb⟩; ((clear z0 z1 z2 z3); have DX := Lib.hid (DX.out.keep hb); have z0 := DX.out.c0; have z1 := DX.out.c1; have z2 := DX.out.c2; have z3 := DX.out.c3; clear hb))
                  | (go_at_call 14; (with_reducible refine (RI.out _ DX.out.d DX.out.t).mono ?_); rintro e w5 ⟨rfl, hb⟩; ((clear z0 z1 z2 z3); have DX := Lib.hid (DX.out.keep hb); have z0 := DX.out.c0; have z1 := DX.out.c1; have z2 := DX.out.c2; have z3 := DX.out.c3; clear hb))
                  | (go_at_call 11; (with_reducible refine (FI.out _ DX.out.d DX.out.t).mono ?_); rintro e w5 ⟨rfl, hb⟩; ((clear z0 z1 z2 z3); have DX := Lib.hid (DX.out.keep hb); have z0 := DX.out.c0; have z1 := DX.out.c1; have z2 := DX.out.c2; have z3 := DX.out.c3; clear hb)))
  obtain ⟨wy, rfl⟩ : ∃ wy, wy = w5 := ⟨_, rfl⟩
  have DY := DX
  go_loopw [7, 9] (fun f i wr => ∃ k : Nat, k ≤ dl ∧ i = .int .i64 k ∧ (∃ q, f = .int .i64 q ∧ Hid (q = fitZ z k)) ∧ Hid (Below wy.heap.size wy wr)) (fun _ i _ => dl - (intOf i).toNat)
  case atStart => exact ⟨0, Nat.zero_le _, rfl, ⟨0, rfl, Lib.hid (by unfold fitZ; rw [if_neg (by omega)])⟩, Lib.hid (Below.refl _ _)⟩
  case round =>
    obtain ⟨k, hk, rfl, ⟨q, rfl, HQ⟩, HB⟩ := hrel
    have DR := Lib.hid (DY.out.keep HB.out)
    clear z0 z1 z2 z3
    have z0 := DR.out.c0
    have z1 := DR.out.c1
    have z2 := DR.out.c2
    have z3 := DR.out.c3
    have hq1 : 0 ≤ q := by rw [HQ.out]; exact fitZ_in.1
    have hq2 : q ≤ 1 := by rw [HQ.out]; exact fitZ_in.2
    by_cases hlt : k < dl
    · obtain ⟨b, off, x, rfl, hb, hx, c0, c1, c2, hok⟩ := DR.out.d.get hlt
      have HX := Lib.hid hx
      have HK := Lib.hid hok
      clear hx hok
      obtain ⟨n, o, c⟩ := x
      dsimp only at c0 c1 c2
      go_upto_region 11 with fail
      obtain ⟨W, hW, DX, XX⟩ : ∃ W, wr.alloc (.cells #[.string n, .string o, .int .i64 c] 46) = W ∧ Hid (DBox w W w.heap.size (some ⟨b, off, none⟩) dl dc wa wl wc nx bz L M) ∧ Hid (XBox W wr.heap.size n o c) := ⟨_, rfl, Lib.hid (DR.out.keep (below_desk _ _)), Lib.hid (XBox.new _ _ _ _)⟩
      rw [hW]
      have HBW : Hid (Below wy.heap.size wy W) := Lib.hid (HB.out.trans (by rw [← hW]; exact (below_desk _ _).mono HB.out.size))
      clear hW z0 z1 z2 z3 c0 c1 c2 DR
      have HV := Lib.hid (Below.refl W.heap.size W)
      have z0 := DX.out.c0
      have z1 := DX.out.c1
      have z2 := DX.out.c2
      have z3 := DX.out.c3
      have x0 := XX.out.c0
      have x1 := XX.out.c1
      have x2 := XX.out.c2
      have F1 : Hid (∀ V, Below W.heap.size W V → Calls Try.prog 11 #[deskV (some ⟨b, off, none⟩) dl dc wa wl wc nx bz, .string o, .string n] V fun e w' => e = .returned (.int .i64 k) ∧ Below V.heap.size V w') := Lib.hid (fun V hb => by
        have h := HF.out.find (some ⟨b, off, none⟩) dl dc wa wl wc nx bz L M o n V (DX.out.keep hb).d (DX.out.keep hb).t HK.out.2.1 HK.out.1
        have e := RK.out.find_self HX.out
        dsimp only at e
        rw [ifR RK.out, e] at h
        exact h)
      have N1 : Hid (∀ V, Below W.heap.size W V → Calls Try.prog 12 #[deskV (some ⟨b, off, none⟩) dl dc wa wl wc nx bz, .string n] V fun e w' => e = .returned (.int .i64 k) ∧ Below V.heap.size V w') := Lib.hid (fun V hb => by
        have h := HF.out.named (some ⟨b, off, none⟩) dl dc wa wl wc nx bz L M n V (DX.out.keep hb).d (DX.out.keep hb).t HK.out.1
        have e := (RK.out.d k _ HX.out).2.2.2.2.1
        dsimp only at e
        rw [ifR RK.out, e] at h
        exact h)
      have K1 : Hid (∀ V, Below W.heap.size W V → Calls Try.prog 13 #[deskV (some ⟨b, off, none⟩) dl dc wa wl wc nx bz, .int .i64 c] V fun e w' => e = .returned (.int .i64 k) ∧ Below V.heap.size V w') := Lib.hid (fun V hb => by
        have h := HF.out.classed (some ⟨b, off, none⟩) dl dc wa wl wc nx bz L M c V (DX.out.keep hb).d (DX.out.keep hb).t
        have e := (RK.out.d k _ HX.out).2.2.2.2.2
        dsimp only at e
        rw [ifR RK.out, e] at h
        exact h)
      have CU : Hid (∀ V, Calls Try.prog 25 #[.string n] V fun e w' => e = .returned (.bool true) ∧ Below V.heap.size V w') := Lib.hid (fun V => by
        have h := custom_any n V HK.out.1
        have e := (RK.out.d k _ HX.out).1
        dsimp only at e
        rw [e] at h
        exact h)
      go_upto_region 13 with (first
                                 | (go_at_call 11; (with_reducible refine (F1.out _ HV.out).mono ?_); rintro e w6 ⟨rfl, hb⟩; (have HV := Lib.hid (HV.out.trans (hb.mono HV.out.size)); clear z0 z1 z2 z3 x0 x1 x2 hb; have z0 := (DX.out.keep HV.out).c0; have z1 := (DX.out.keep HV.out).c1; have z2 := (DX.out.keep HV.out).c2; have z3 := (DX.out.keep HV.out).c3; have x0 := (XX.out.keep HV.out).c0; have x1 := (XX.out.keep HV.out).c1; have x2 := (XX.out.keep HV.out).c2))
                                 | (go_at_call 12; (with_reducible refine (N1.out _ HV.out).mono ?_); rintro e w6 ⟨rfl, hb⟩; (have HV := Lib.hid (HV.out.trans (hb.mono HV.out.size)); clear z0 z1 z2 z3 x0 x1 x2 hb; have z0 := (DX.out.keep HV.out).c0; have z1 := (DX.out.keep HV.out).c1; have z2 := (DX.out.keep HV.out).c2; have z3 := (DX.out.keep HV.out).c3; have x0 := (XX.out.keep HV.out).c0; have x1 := (XX.out.keep HV.out).c1; have x2 := (XX.out.keep HV.out).c2))
                                 | (go_at_call 13; (with_reducible refine (K1.out _ HV.out).mono ?_); rintro e w6 ⟨rfl, hb⟩; (have HV := Lib.hid (HV.out.trans (hb.mono HV.out.size)); clear z0 z1 z2 z3 x0 x1 x2 hb; have z0 := (DX.out.keep HV.out).c0; have z1 := (DX.out.keep HV.out).c1; have z2 := (DX.out.keep HV.out).c2; have z3 := (DX.out.keep HV.out).c3; have x0 := (XX.out.keep HV.out).c0; have x1 := (XX.out.keep HV.out).c1; have x2 := (XX.out.keep HV.out).c2))
                                 | (go_at_call 25; (with_reducible refine (CU.out _).mono ?_); rintro e w6 ⟨rfl, hb⟩; (have HV := Lib.hid (HV.out.trans (hb.mono HV.out.size)); clear z0 z1 z2 z3 x0 x1 x2 hb; have z0 := (DX.out.keep HV.out).c0; have z1 := (DX.out.keep HV.out).c1; have z2 := (DX.out.keep HV.out).c2; have z3 := (DX.out.keep HV.out).c3; have x0 := (XX.out.keep HV.out).c0; have x1 := (XX.out.keep HV.out).c1; have x2 := (XX.out.keep HV.out).c2)))
      obtain ⟨y, hy⟩ : ∃ y, findZ2 L n.toList s.toList = y := ⟨_, rfl⟩
      obtain ⟨e1, he1⟩ : ∃ e, (o.toList == n.toList) = e := ⟨_, rfl⟩
      have he2 : (y == (k : Int)) = e1 := by
        have e := RK.out.find_name (s := s.toList) HX.out
        dsimp only at e
        rw [hy, he1] at e
        exact e
      have F2 : Hid (∀ V, Below W.heap.size W V → Calls Try.prog 11 #[deskV (some ⟨b, off, none⟩) dl dc wa wl wc nx bz, .string n, .string s] V fun e w' => e = .returned (.int .i64 y) ∧ Below V.heap.size V w') := Lib.hid (fun V hb => by
        have h := HF.out.find (some ⟨b, off, none⟩) dl dc wa wl wc nx bz L M n s V (DX.out.keep hb).d (DX.out.keep hb).t HK.out.1 HS.out
        rw [ifR RK.out, hy] at h
        exact h)
      clear hy
      obtain ⟨p1, hp1⟩ : ∃ e, (o.toList == l.toList) = e := ⟨_, rfl⟩
      obtain ⟨p2, hp2⟩ : ∃ e, (n.toList == l.toList) = e := ⟨_, rfl⟩
      obtain ⟨p3, hp3⟩ : ∃ e, (n.toList == s.toList) = e := ⟨_, rfl⟩
      have he3 : (z == (k : Int)) = (p1 && (p2 || p3)) := by
        have e := RK.out.find_eq (l := l.toList) (s := s.toList) HX.out
        dsimp only at e
        rw [HZ.out] at e
        rw [e]
        unfold fits
        dsimp only
        rw [hp1, hp2, hp3]
      have HST : Hid (fitZ z (k + 1) = if (p1 && (p2 || p3)) = true then q + 1 else q) := Lib.hid (by rw [fitZ_step, he3, HQ.out])
      have E2 : Hid (∀ x : Ext w6, Calls Try.prog 11 #[deskV (some ⟨b, off, none⟩) dl dc wa wl wc nx bz, .string n, .string s] x.v fun e w' => e = .returned (.int .i64 y) ∧ Below x.v.heap.size x.v w') := Lib.hid (fun x => F2.out _ (HV.out.trans (x.below.mono HV.out.size)))
      have DZ := Lib.hid (DX.out.keep HV.out)
      have XZ := Lib.hid (XX.out.keep HV.out)
      have y0 := Ext.cell z0 (Nat.lt_of_lt_of_le DX.out.lt HV.out.size)
      have y1 := Ext.cell z1 (Nat.lt_of_lt_of_le DX.out.lt HV.out.size)
      have y2 := Ext.cell z2 (Nat.lt_of_lt_of_le DX.out.lt HV.out.size)
      have y3 := Ext.cell z3 (Nat.lt_of_lt_of_le DX.out.lt HV.out.size)
      have u0 := Ext.cell x0 (Nat.lt_of_lt_of_le XX.out.lt HV.out.size)
      have u1 := Ext.cell x1 (Nat.lt_of_lt_of_le XX.out.lt HV.out.size)
      clear F1 N1 K1 CU F2
      cases e1
      all_goals
        refine wp_region_ext (by kernel_rfl) (by kernel_rfl) ?_
        repeat (go_big_quiet_step (first | (go_at_call 11; exact Ext.call_below (E2.out _))))
        refine wpQuiet_nil ?_
        intro w' hw'
        obtain ⟨⟨w8, hb8⟩, hw''⟩ := hw'
        dsimp only at hw''
        subst hw''
        have HV := Lib.hid (HV.out.trans (hb8.mono HV.out.size))
        clear z0 z1 z2 z3 x0 x1 x2 y0 y1 y2 y3 u0 u1 E2
        have z0 := (DX.out.keep HV.out).c0
        have z1 := (DX.out.keep HV.out).c1
        have z2 := (DX.out.keep HV.out).c2
        have z3 := (DX.out.keep HV.out).c3
        have x0 := (XX.out.keep HV.out).c0
        have x1 := (XX.out.keep HV.out).c1
        have x2 := (XX.out.keep HV.out).c2
        cases p1 <;> cases p2 <;> cases p3
        all_goals
          go_wp2
          go_roundw
          case rel => exact ⟨k + 1, by omega, by go_num, ⟨_, rfl, Lib.hid (by rw [HST.out]; first | rfl | go_num)⟩, Lib.hid (HBW.out.trans (HV.out.mono HBW.out.size))⟩
          case measure => simp [intOf]; omega
    · have hkd : k = dl := by omega
      subst hkd
      have HFE := Lib.hid (fitZ_end ZL.out.1 ZL.out.2)
      obtain ⟨e4, he4⟩ : ∃ e, (z == -1) = e := ⟨_, rfl⟩
      have he5 : (z != -1) = !e4 := by unfold bne; rw [he4]
      have he6 : (q == 1) = !e4 := by rw [HQ.out, HFE.out]; exact he5
      have hq3 : q ≤ 1 := hq2
      cases e4
      all_goals
        go_wp2
        go_ret
        exact ⟨rfl, DR.out.below⟩
end Go.Proofs.Ytapfhgimeohmgaa
