/- Texts joined in build order: HeirTriesLaw. -/
import Derived.Test.YtkomeijlljcdgaaGreatP47
import Derived.Test.YtkomeijlljcdgaaGreatP39
import Derived.Test.YtkomeijlljcdgaaGreatP13
import Derived.Deep.DeepCutAuto
import Derived.Deep.CutBlock
import Derived.Deep.QuietTactic
import Derived.BigQuiet
/- The walk of instarlaw10's HeirTries. -/
namespace Go.Proofs.YtkomeijlljcdgaaGreat
open Go.RowKit
abbrev zeroNT : Obj := .cells #[.int .i64 0, .string ⟨#[]⟩, .string ⟨#[]⟩, .string ⟨#[]⟩, .slice none 0 0, .int .i64 0, .slice none 0 0, .int .i64 0, .int .i64 0, .int .i64 0] 47
set_option maxHeartbeats 8000000 in
set_option maxRecDepth 100000 in
theorem heirTries_walk (_F : True) (a : Option Addr) (len cap : Nat) (m : Int) (K : List NodeD) (x : Int) (da : Option Addr) (dl dc : Nat) (wa : Option Addr) (wl wc : Nat) (nx : Int) (bz : Bool) (L : List DefD) (M : List WaitD) (w : World)
    (h0 : NodeRow w a len cap K) (hm : In64 m) (hx : 0 ≤ x ∧ x ≤ 255) (hD : DeskAt w da dl dc wa wl wc ⟨L, M, nx, bz⟩) :
    Calls Tryz.prog 5 #[forV a len cap m, .int .u8 x, deskV da dl dc wa wl wc nx bz] w fun e w' => e = .returned (.bool true) ∧ Below w.heap.size w w' := by
  have AW := Lib.hid (fun W => awake10_any W)
  have FX := Lib.hid (FD.start (m := m) (nx := nx) (bz := bz) h0 hD.d hD.t)
  have HM := Lib.hid hm
  have HL := Lib.hid h0.hlen
  have HDL := Lib.hid hD.d.hlen
  have hl0 := h0.len64
  have hdl := hD.d.len64
  (have z0 := FX.out.f.c0; have z1 := FX.out.f.c1; have d0 := FX.out.d.c0; have d1 := FX.out.d.c1; have d2 := FX.out.d.c2; have d3 := FX.out.d.c3)
  obtain ⟨q0, hq0⟩ : ∃ q, shortF K = q := ⟨_, rfl⟩
  obtain ⟨q1, hq1⟩ : ∃ q, shortK L M = q := ⟨_, rfl⟩
  obtain ⟨q2, hq2⟩ : ∃ q, rightF m (coreL K) = q := ⟨_, rfl⟩
  obtain ⟨q3, hq3⟩ : ∃ q, rightK ⟨L, M, nx, bz⟩ = q := ⟨_, rfl⟩
  have S3 : Hid (∀ V, NodeRow V a len cap K → Calls Tryz.prog 8 #[forV a len cap m] V fun e w' => e = .returned (.bool q0) ∧ Below V.heap.size V w') := Lib.hid (fun V h1 => by
    have h := refshortF_any a len cap m K V h1
    rw [hq0] at h
    exact h)
  have S9 : Hid (∀ V, DefRow V da dl dc L → WaitRow V wa wl wc M → Calls Tryz.prog 9 #[deskV da dl dc wa wl wc nx bz] V fun e w' => e = .returned (.bool q1) ∧ Below V.heap.size V w') := Lib.hid (fun V h1 h2 => by
    have h := refshort9_any da dl dc wa wl wc nx bz L M V h1 h2
    rw [hq1] at h
    exact h)
  have R9 : Hid (∀ V, DefRow V da dl dc L → WaitRow V wa wl wc M → Calls Tryz.prog 23 #[deskV da dl dc wa wl wc nx bz] V fun e w' => e = .returned (.bool q3) ∧ Below V.heap.size V w') := Lib.hid (fun V h1 h2 => by
    have h := deskright_any da dl dc wa wl wc nx bz L M V h1 h2
    rw [hq3] at h
    exact h)
  clear h0 hm hD _F
  cases q0 with
  | false => clear hq0 hq1 hq2 hq3; (go_enter Tryz.func5, Tryz.ntmps5; go_wp2_with (first
                                                                                                                                                     | (go_at_call 7; (with_reducible refine (AW.out _).mono ?_); rintro e w5 ⟨rfl, hb⟩; (clear z0 z1 d0 d1 d2 d3; have FX := Lib.hid (FX.out.keep hb); (have z0 := FX.out.f.c0; have z1 := FX.out.f.c1; have d0 := FX.out.d.c0; have d1 := FX.out.d.c1; have d2 := FX.out.d.c2; have d3 := FX.out.d.c3); clear hb))
                                                                                                                                                     | (go_at_call 8; (with_reducible refine (S3.out _ FX.out.f.row).mono ?_); rintro e w5 ⟨rfl, hb⟩; (clear z0 z1 d0 d1 d2 d3; have FX := Lib.hid (FX.out.keep hb); (have z0 := FX.out.f.c0; have z1 := FX.out.f.c1; have d0 := FX.out.d.c0; have d1 := FX.out.d.c1; have d2 := FX.out.d.c2; have d3 := FX.out.d.c3); clear hb))
                                                                                                                                                     | (go_at_call 9; (with_reducible refine (S9.out _ FX.out.d.d FX.out.d.t).mono ?_); rintro e w5 ⟨rfl, hb⟩; (clear z0 z1 d0 d1 d2 d3; have FX := Lib.hid (FX.out.keep hb); (have z0 := FX.out.f.c0; have z1 := FX.out.f.c1; have d0 := FX.out.d.c0; have d1 := FX.out.d.c1; have d2 := FX.out.d.c2; have d3 := FX.out.d.c3); clear hb))
                                                                                                                                                     | (go_at_call 22; (with_reducible refine (R3.out _ FX.out.f.row).mono ?_); rintro e w5 ⟨rfl, hb⟩; (clear z0 z1 d0 d1 d2 d3; have FX := Lib.hid (FX.out.keep hb); (have z0 := FX.out.f.c0; have z1 := FX.out.f.c1; have d0 := FX.out.d.c0; have d1 := FX.out.d.c1; have d2 := FX.out.d.c2; have d3 := FX.out.d.c3); clear hb))
                                                                                                                                                     | (go_at_call 23; (with_reducible refine (R9.out _ FX.out.d.d FX.out.d.t).mono ?_); rintro e w5 ⟨rfl, hb⟩; (clear z0 z1 d0 d1 d2 d3; have FX := Lib.hid (FX.out.keep hb); (have z0 := FX.out.f.c0; have z1 := FX.out.f.c1; have d0 := FX.out.d.c0; have d1 := FX.out.d.c1; have d2 := FX.out.d.c2; have d3 := FX.out.d.c3); clear hb))); go_ret; exact ⟨rfl, FX.out.f.below⟩)
  | true =>
  have SM := Lib.hid (small_of_short hq0)
  have R3 : Hid (∀ V, NodeRow V a len cap K → Calls Tryz.prog 22 #[forV a len cap m] V fun e w' => e = .returned (.bool q2) ∧ Below V.heap.size V w') := Lib.hid (fun V h1 => by
    have h := rightF_any a len cap m K V h1 HM.out SM.out
    rw [hq2] at h
    exact h)
  clear hq0
  cases q1 with
  | false => clear hq1 hq2 hq3; (go_enter Tryz.func5, Tryz.ntmps5; go_wp2_with (first
                                                                                                                                                 | (go_at_call 7; (with_reducible refine (AW.out _).mono ?_); rintro e w5 ⟨rfl, hb⟩; (clear z0 z1 d0 d1 d2 d3; have FX := Lib.hid (FX.out.keep hb); (have z0 := FX.out.f.c0; have z1 := FX.out.f.c1; have d0 := FX.out.d.c0; have d1 := FX.out.d.c1; have d2 := FX.out.d.c2; have d3 := FX.out.d.c3); clear hb))
                                                                                                                                                 | (go_at_call 8; (with_reducible refine (S3.out _ FX.out.f.row).mono ?_); rintro e w5 ⟨rfl, hb⟩; (clear z0 z1 d0 d1 d2 d3; have FX := Lib.hid (FX.out.keep hb); (have z0 := FX.out.f.c0; have z1 := FX.out.f.c1; have d0 := FX.out.d.c0; have d1 := FX.out.d.c1; have d2 := FX.out.d.c2; have d3 := FX.out.d.c3); clear hb))
                                                                                                                                                 | (go_at_call 9; (with_reducible refine (S9.out _ FX.out.d.d FX.out.d.t).mono ?_); rintro e w5 ⟨rfl, hb⟩; (clear z0 z1 d0 d1 d2 d3; have FX := Lib.hid (FX.out.keep hb); (have z0 := FX.out.f.c0; have z1 := FX.out.f.c1; have d0 := FX.out.d.c0; have d1 := FX.out.d.c1; have d2 := FX.out.d.c2; have d3 := FX.out.d.c3); clear hb))
                                                                                                                                                 | (go_at_call 22; (with_reducible refine (R3.out _ FX.out.f.row).mono ?_); rintro e w5 ⟨rfl, hb⟩; (clear z0 z1 d0 d1 d2 d3; have FX := Lib.hid (FX.out.keep hb); (have z0 := FX.out.f.c0; have z1 := FX.out.f.c1; have d0 := FX.out.d.c0; have d1 := FX.out.d.c1; have d2 := FX.out.d.c2; have d3 := FX.out.d.c3); clear hb))
                                                                                                                                                 | (go_at_call 23; (with_reducible refine (R9.out _ FX.out.d.d FX.out.d.t).mono ?_); rintro e w5 ⟨rfl, hb⟩; (clear z0 z1 d0 d1 d2 d3; have FX := Lib.hid (FX.out.keep hb); (have z0 := FX.out.f.c0; have z1 := FX.out.f.c1; have d0 := FX.out.d.c0; have d1 := FX.out.d.c1; have d2 := FX.out.d.c2; have d3 := FX.out.d.c3); clear hb))); go_ret; exact ⟨rfl, FX.out.f.below⟩)
  | true =>
  clear hq1
  cases q2 with
  | false => clear hq2 hq3; (go_enter Tryz.func5, Tryz.ntmps5; go_wp2_with (first
                                                                                                                                             | (go_at_call 7; (with_reducible refine (AW.out _).mono ?_); rintro e w5 ⟨rfl, hb⟩; (clear z0 z1 d0 d1 d2 d3; have FX := Lib.hid (FX.out.keep hb); (have z0 := FX.out.f.c0; have z1 := FX.out.f.c1; have d0 := FX.out.d.c0; have d1 := FX.out.d.c1; have d2 := FX.out.d.c2; have d3 := FX.out.d.c3); clear hb))
                                                                                                                                             | (go_at_call 8; (with_reducible refine (S3.out _ FX.out.f.row).mono ?_); rintro e w5 ⟨rfl, hb⟩; (clear z0 z1 d0 d1 d2 d3; have FX := Lib.hid (FX.out.keep hb); (have z0 := FX.out.f.c0; have z1 := FX.out.f.c1; have d0 := FX.out.d.c0; have d1 := FX.out.d.c1; have d2 := FX.out.d.c2; have d3 := FX.out.d.c3); clear hb))
                                                                                                                                             | (go_at_call 9; (with_reducible refine (S9.out _ FX.out.d.d FX.out.d.t).mono ?_); rintro e w5 ⟨rfl, hb⟩; (clear z0 z1 d0 d1 d2 d3; have FX := Lib.hid (FX.out.keep hb); (have z0 := FX.out.f.c0; have z1 := FX.out.f.c1; have d0 := FX.out.d.c0; have d1 := FX.out.d.c1; have d2 := FX.out.d.c2; have d3 := FX.out.d.c3); clear hb))
                                                                                                                                             | (go_at_call 22; (with_reducible refine (R3.out _ FX.out.f.row).mono ?_); rintro e w5 ⟨rfl, hb⟩; (clear z0 z1 d0 d1 d2 d3; have FX := Lib.hid (FX.out.keep hb); (have z0 := FX.out.f.c0; have z1 := FX.out.f.c1; have d0 := FX.out.d.c0; have d1 := FX.out.d.c1; have d2 := FX.out.d.c2; have d3 := FX.out.d.c3); clear hb))
                                                                                                                                             | (go_at_call 23; (with_reducible refine (R9.out _ FX.out.d.d FX.out.d.t).mono ?_); rintro e w5 ⟨rfl, hb⟩; (clear z0 z1 d0 d1 d2 d3; have FX := Lib.hid (FX.out.keep hb); (have z0 := FX.out.f.c0; have z1 := FX.out.f.c1; have d0 := FX.out.d.c0; have d1 := FX.out.d.c1; have d2 := FX.out.d.c2; have d3 := FX.out.d.c3); clear hb))); go_ret; exact ⟨rfl, FX.out.f.below⟩)
  | true =>
  have RF := Lib.hid hq2
  clear hq2
  cases q3 with
  | false => clear hq3; (go_enter Tryz.func5, Tryz.ntmps5; go_wp2_with (first
                                                                                                                                         | (go_at_call 7; (with_reducible refine (AW.out _).mono ?_); rintro e w5 ⟨rfl, hb⟩; (clear z0 z1 d0 d1 d2 d3; have FX := Lib.hid (FX.out.keep hb); (have z0 := FX.out.f.c0; have z1 := FX.out.f.c1; have d0 := FX.out.d.c0; have d1 := FX.out.d.c1; have d2 := FX.out.d.c2; have d3 := FX.out.d.c3); clear hb))
                                                                                                                                         | (go_at_call 8; (with_reducible refine (S3.out _ FX.out.f.row).mono ?_); rintro e w5 ⟨rfl, hb⟩; (clear z0 z1 d0 d1 d2 d3; have FX := Lib.hid (FX.out.keep hb); (have z0 := FX.out.f.c0; have z1 := FX.out.f.c1; have d0 := FX.out.d.c0; have d1 := FX.out.d.c1; have d2 := FX.out.d.c2; have d3 := FX.out.d.c3); clear hb))
                                                                                                                                         | (go_at_call 9; (with_reducible refine (S9.out _ FX.out.d.d FX.out.d.t).mono ?_); rintro e w5 ⟨rfl, hb⟩; (clear z0 z1 d0 d1 d2 d3; have FX := Lib.hid (FX.out.keep hb); (have z0 := FX.out.f.c0; have z1 := FX.out.f.c1; have d0 := FX.out.d.c0; have d1 := FX.out.d.c1; have d2 := FX.out.d.c2; have d3 := FX.out.d.c3); clear hb))
                                                                                                                                         | (go_at_call 22; (with_reducible refine (R3.out _ FX.out.f.row).mono ?_); rintro e w5 ⟨rfl, hb⟩; (clear z0 z1 d0 d1 d2 d3; have FX := Lib.hid (FX.out.keep hb); (have z0 := FX.out.f.c0; have z1 := FX.out.f.c1; have d0 := FX.out.d.c0; have d1 := FX.out.d.c1; have d2 := FX.out.d.c2; have d3 := FX.out.d.c3); clear hb))
                                                                                                                                         | (go_at_call 23; (with_reducible refine (R9.out _ FX.out.d.d FX.out.d.t).mono ?_); rintro e w5 ⟨rfl, hb⟩; (clear z0 z1 d0 d1 d2 d3; have FX := Lib.hid (FX.out.keep hb); (have z0 := FX.out.f.c0; have z1 := FX.out.f.c1; have d0 := FX.out.d.c0; have d1 := FX.out.d.c1; have d2 := FX.out.d.c2; have d3 := FX.out.d.c3); clear hb))); go_ret; exact ⟨rfl, FX.out.f.below⟩)
  | true =>
  have RK := Lib.hid hq3
  clear hq3
  have hlp : 0 < len := by
    have := right_len RF.out
    rwa [coreL_len, HL.out] at this
  have hX64 : In64 (x % (len : Int)) := by
    have h1 := Int.emod_nonneg x (show (len : Int) ≠ 0 by omega)
    have h2 := Int.emod_lt_of_pos x (show (0 : Int) < len by omega)
    exact ⟨by omega, by omega⟩
  have hx0 := hx.1
  have hx1 := hx.2
  have hlz : ¬ (len : Int) = 0 := by omega
  have hlb : ((len : Int) == 0) = false := beq_eq_false_iff_ne.2 hlz
  have hlz2 : ¬ len = 0 := by omega
  have hlb2 : (len == 0) = false := beq_eq_false_iff_ne.2 hlz2
  have hm0 := Int.emod_nonneg x (show (len : Int) ≠ 0 by omega)
  have hm1 := Int.emod_lt_of_pos x (show (0 : Int) < len by omega)
  have HMD : Hid ((IntKind.i64.wrap x).tmod (len : Int) = x % (len : Int)) := Lib.hid (by
    rw [show IntKind.i64.wrap x = x by rw [IntKind.wrap_i64]; omega]
    exact Int.tmod_eq_emod_of_nonneg hx0)
  obtain ⟨T, hT⟩ : ∃ T, triesZ m (coreL K) (x % (len : Int)) ⟨L, M, nx, bz⟩ = T := ⟨_, rfl⟩
  obtain ⟨E, hE⟩ : ∃ E, elemsZ m (coreL K) (x % (len : Int)) = E := ⟨_, rfl⟩
  have HTE : Hid (T = E.filterMap (triG (coreL K) ⟨L, M, nx, bz⟩)) := Lib.hid (by rw [← hT, tries_tri RK.out, hE])
  have HEI : Hid (∀ z ∈ E, ∃ t : Nat, z = (t : Int) ∧ t < len) := Lib.hid (fun z hz => by
    rw [← hE] at hz
    obtain ⟨t, h1, h2⟩ := elemsZ_in hz
    rw [coreL_len, HL.out] at h2
    exact ⟨t, h1, h2⟩)
  have CT : Hid (∀ V, NodeRow V a len cap K → DefRow V da dl dc L → WaitRow V wa wl wc M → Calls Tryz.prog 16 #[forV a len cap m, .int .i64 (x % (len : Int)), deskV da dl dc wa wl wc nx bz] V (DuePost V T)) := Lib.hid (fun V h1 h2 h3 => by
    have h := tries_any a len cap m (x % (len : Int)) K da dl dc wa wl wc nx bz L M V h1 HM.out hX64 SM.out h2 h3
    rw [hT] at h
    exact h)
  have CE : Hid (∀ V, NodeRow V a len cap K → Calls Tryz.prog 24 #[forV a len cap m, .int .i64 (x % (len : Int))] V (OrdPost V E)) := Lib.hid (fun V h1 => by
    have h := elemsFn_any a len cap m K (x % (len : Int)) V h1 HM.out hX64 SM.out
    rw [hE] at h
    exact h)
  clear hT hE hX64
  go_enter Tryz.func5, Tryz.ntmps5
  go_upto_region 5 with (first
                            | (go_at_call 7; (with_reducible refine (AW.out _).mono ?_); rintro e w5 ⟨rfl, hb⟩; (clear z0 z1 d0 d1 d2 d3; have FX := Lib.hid (FX.out.keep hb); (have z0 := FX.out.f.c0; have z1 := FX.out.f.c1; have d0 := FX.out.d.c0; have d1 := FX.out.d.c1; have d2 := FX.out.d.c2; have d3 := FX.out.d.c3); clear hb))
                            | (go_at_call 8; (with_reducible refine (S3.out _ FX.out.f.row).mono ?_); rintro e w5 ⟨rfl, hb⟩; (clear z0 z1 d0 d1 d2 d3; have FX := Lib.hid (FX.out.keep hb); (have z0 := FX.out.f.c0; have z1 := FX.out.f.c1; have d0 := FX.out.d.c0; have d1 := FX.out.d.c1; have d2 := FX.out.d.c2; have d3 := FX.out.d.c3); clear hb))
                            | (go_at_call 9; (with_reducible refine (S9.out _ FX.out.d.d FX.out.d.t).mono ?_); rintro e w5 ⟨rfl, hb⟩; (clear z0 z1 d0 d1 d2 d3; have FX := Lib.hid (FX.out.keep hb); (have z0 := FX.out.f.c0; have z1 := FX.out.f.c1; have d0 := FX.out.d.c0; have d1 := FX.out.d.c1; have d2 := FX.out.d.c2; have d3 := FX.out.d.c3); clear hb))
                            | (go_at_call 22; (with_reducible refine (R3.out _ FX.out.f.row).mono ?_); rintro e w5 ⟨rfl, hb⟩; (clear z0 z1 d0 d1 d2 d3; have FX := Lib.hid (FX.out.keep hb); (have z0 := FX.out.f.c0; have z1 := FX.out.f.c1; have d0 := FX.out.d.c0; have d1 := FX.out.d.c1; have d2 := FX.out.d.c2; have d3 := FX.out.d.c3); clear hb))
                            | (go_at_call 23; (with_reducible refine (R9.out _ FX.out.d.d FX.out.d.t).mono ?_); rintro e w5 ⟨rfl, hb⟩; (clear z0 z1 d0 d1 d2 d3; have FX := Lib.hid (FX.out.keep hb); (have z0 := FX.out.f.c0; have z1 := FX.out.f.c1; have d0 := FX.out.d.c0; have d1 := FX.out.d.c1; have d2 := FX.out.d.c2; have d3 := FX.out.d.c3); clear hb)))
  obtain ⟨V, rfl⟩ : ∃ V, V = w5 := ⟨_, rfl⟩
  have SV : V.cell? ⟨w.heap.size, 0, none⟩ = some (.slice a len cap) ∧ V.cell? ⟨w.heap.size, 1, none⟩ = some (.int .i64 m) ∧ V.cell? ⟨w.heap.size + 1, 0, none⟩ = some (.slice da dl dc) ∧ V.cell? ⟨w.heap.size + 1, 1, none⟩ = some (.slice wa wl wc) ∧ V.cell? ⟨w.heap.size + 1, 2, none⟩ = some (.int .i64 nx) ∧ V.cell? ⟨w.heap.size + 1, 3, none⟩ = some (.bool bz) ∧ Below V.heap.size V V := ⟨z0, z1, d0, d1, d2, d3, Below.refl _ _⟩
  clear z0 z1 d0 d1 d2 d3
  go_region_held3 (fun w' => w'.cell? ⟨w.heap.size, 0, none⟩ = some (.slice a len cap) ∧ w'.cell? ⟨w.heap.size, 1, none⟩ = some (.int .i64 m) ∧ w'.cell? ⟨w.heap.size + 1, 0, none⟩ = some (.slice da dl dc) ∧ w'.cell? ⟨w.heap.size + 1, 1, none⟩ = some (.slice wa wl wc) ∧ w'.cell? ⟨w.heap.size + 1, 2, none⟩ = some (.int .i64 nx) ∧ w'.cell? ⟨w.heap.size + 1, 3, none⟩ = some (.bool bz) ∧ Below V.heap.size V w')
    (first | assumption | exact fds_keep FX.out.lt (by assumption) (by assumption) | exact fds_keep FX.out.lt SV (Below.refl _ _).drew)
    (first | (go_at_call 16; rw [HMD.out]; (with_reducible refine (CT.out _ (FX.out.keep (‹_ ∧ _ ∧ _ ∧ _ ∧ _ ∧ _ ∧ Below _ _ _›).2.2.2.2.2.2).f.row (FX.out.keep (‹_ ∧ _ ∧ _ ∧ _ ∧ _ ∧ _ ∧ Below _ _ _›).2.2.2.2.2.2).d.d (FX.out.keep (‹_ ∧ _ ∧ _ ∧ _ ∧ _ ∧ _ ∧ Below _ _ _›).2.2.2.2.2.2).d.t).mono ?_); rintro e w6 ⟨at_, lt, ct, rfl, hdu, hb⟩; have TR := Lib.hid hdu; clear hdu))
  have HB5 := Lib.hid ((‹_ ∧ _ ∧ _ ∧ _ ∧ _ ∧ _ ∧ Below _ _ _›).2.2.2.2.2.2 : Below V.heap.size V w6)
  rename_i hh
  clear hh
  have FX := Lib.hid (FX.out.keep HB5.out)
  clear SV
  go_upto_region 6 with fail
  obtain ⟨V2, rfl⟩ : ∃ V2, V2 = w6 := ⟨_, rfl⟩
  (have z0 := FX.out.f.c0; have z1 := FX.out.f.c1; have d0 := FX.out.d.c0; have d1 := FX.out.d.c1; have d2 := FX.out.d.c2; have d3 := FX.out.d.c3)
  have SV : V2.cell? ⟨w.heap.size, 0, none⟩ = some (.slice a len cap) ∧ V2.cell? ⟨w.heap.size, 1, none⟩ = some (.int .i64 m) ∧ V2.cell? ⟨w.heap.size + 1, 0, none⟩ = some (.slice da dl dc) ∧ V2.cell? ⟨w.heap.size + 1, 1, none⟩ = some (.slice wa wl wc) ∧ V2.cell? ⟨w.heap.size + 1, 2, none⟩ = some (.int .i64 nx) ∧ V2.cell? ⟨w.heap.size + 1, 3, none⟩ = some (.bool bz) ∧ Below V2.heap.size V2 V2 := ⟨z0, z1, d0, d1, d2, d3, Below.refl _ _⟩
  clear z0 z1 d0 d1 d2 d3
  go_region_held3 (fun w' => w'.cell? ⟨w.heap.size, 0, none⟩ = some (.slice a len cap) ∧ w'.cell? ⟨w.heap.size, 1, none⟩ = some (.int .i64 m) ∧ w'.cell? ⟨w.heap.size + 1, 0, none⟩ = some (.slice da dl dc) ∧ w'.cell? ⟨w.heap.size + 1, 1, none⟩ = some (.slice wa wl wc) ∧ w'.cell? ⟨w.heap.size + 1, 2, none⟩ = some (.int .i64 nx) ∧ w'.cell? ⟨w.heap.size + 1, 3, none⟩ = some (.bool bz) ∧ Below V2.heap.size V2 w')
    (first | assumption | exact fds_keep FX.out.lt (by assumption) (by assumption) | exact fds_keep FX.out.lt SV (Below.refl _ _).drew)
    (first | (go_at_call 24; rw [HMD.out]; (with_reducible refine (CE.out _ (FX.out.keep (‹_ ∧ _ ∧ _ ∧ _ ∧ _ ∧ _ ∧ Below _ _ _›).2.2.2.2.2.2).f.row).mono ?_); rintro e w7 ⟨ae, le, ce, rfl, hie, hb⟩; have ER := Lib.hid hie; clear hie))
  have HB6 := Lib.hid ((‹_ ∧ _ ∧ _ ∧ _ ∧ _ ∧ _ ∧ Below _ _ _›).2.2.2.2.2.2 : Below V2.heap.size V2 w7)
  rename_i hh
  clear hh
  have FX := Lib.hid (FX.out.keep HB6.out)
  have TR := Lib.hid (TR.out.below HB6.out)
  clear SV
  go_upto_region 7 with fail
  obtain ⟨V3, rfl⟩ : ∃ V3, V3 = w7 := ⟨_, rfl⟩
  (have z0 := FX.out.f.c0; have z1 := FX.out.f.c1; have d0 := FX.out.d.c0; have d1 := FX.out.d.c1; have d2 := FX.out.d.c2; have d3 := FX.out.d.c3)
  have hTl : T.length = lt := TR.out.row.hlen
  have hEl : E.length = le := ER.out.hlen
  have hel := ER.out.len64
  have htl : (lt : Int) ≤ 9223372036854775807 := by have h1 := TR.out.row.hcap; have h2 := TR.out.row.hmax; unfold maxLen at h2; omega
  clear CT CE S3 S9 R3 R9 HMD hx0 hx1 hm0 hm1 hlz hlb hlz2 hlb2 hx
  have HTL := Lib.hid hTl
  have HEL := Lib.hid hEl
  clear hTl hEl
  go_wp2_with fail
  go_loopw [9, 10] (fun f i wr => ∃ k : Nat, k ≤ le ∧ i = .int .i64 k ∧ (∃ c : Nat, f = .int .i64 c ∧ Hid (c = cntE (triG (coreL K) ⟨L, M, nx, bz⟩) E k)) ∧ Hid (Below V3.heap.size V3 wr)) (fun _ i _ => le - (intOf i).toNat)
  case atStart => exact ⟨0, Nat.zero_le _, rfl, ⟨0, rfl, Lib.hid rfl⟩, Lib.hid (Below.refl _ _)⟩
  case round =>
    obtain ⟨k, hk, rfl, ⟨c, rfl, HC⟩, HB⟩ := hrel
    have FR := Lib.hid (FX.out.keep HB.out)
    have TRR := Lib.hid (TR.out.below HB.out)
    have ERR := Lib.hid (ER.out.below HB.out)
    clear z0 z1 d0 d1 d2 d3
    have z0 := FR.out.f.c0
    have z1 := FR.out.f.c1
    have d0 := FR.out.d.c0
    have d1 := FR.out.d.c1
    have d2 := FR.out.d.c2
    have d3 := FR.out.d.c3
    have hck : c ≤ k := by rw [HC.out]; exact cnt_le
    by_cases hlt : k < le
    · obtain ⟨eb, eo, z, rfl, heb, hz, hce, -⟩ := ERR.out.get hlt
      obtain ⟨t, rfl, ht⟩ := HEI.out z (List.mem_of_getElem? hz)
      obtain ⟨b, off, nd, rfl, hb0, hnd, hat, hok⟩ := FR.out.f.row.get ht
      have HND := Lib.hid (coreL_get hnd)
      have HZ := Lib.hid hz
      have OK := Lib.hid hok
      have HEB := Lib.hid heb
      have HCE := Lib.hid hce
      obtain ⟨y0, y1, y2, y3, y4, y5, y6, y7, y8, y9⟩ := hat.below hb0 (below_box wr zeroNT)
      obtain ⟨x0, x1, x2, x3, x4, x5, x6, x7, x8, x9⟩ := hat
      have z0a := (FR.out.f.keep (below_box wr zeroNT)).c0
      have hcia := ((below_box wr zeroNT).cell (p := ⟨eb, eo + k, none⟩) heb).trans hce
      clear hnd hz hok
      go_upto_region 11 with fail
      go_cut [11] (fun c wx => c = .pointer (some ⟨wr.heap.size, 0, none⟩) ∧ wx = (wr.alloc (nodB nd)).drew)
      case first =>
        go_region_law (fail)
        all_goals
          go_wp2
          go_meet
          exact ⟨rfl, rfl⟩
      case rest =>
        obtain ⟨rfl, rfl⟩ := hcut
        clear x0 x1 x2 x3 x4 x5 x6 x7 x8 x9 y0 y1 y2 y3 y4 y5 y6 y7 y8 y9 z0a hcia z0 z1 d0 d1 d2 d3 hce heb hb0
        obtain ⟨W, hW, NK⟩ : ∃ W, (wr.alloc (nodB nd)).drew = W ∧ NKeep wr W nd := ⟨_, rfl, (NKeep.start OK.out).keep (Below.refl _ _).drew⟩
        rw [hW]
        clear hW
        have NK := Lib.hid NK
        have FW := Lib.hid (FR.out.keep NK.out.below)
        have TW := Lib.hid (TRR.out.below NK.out.below)
        have HCW : Hid (W.cell? ⟨eb, eo + k, none⟩ = some (.int .i64 t)) := Lib.hid ((NK.out.below.cell (p := ⟨eb, eo + k, none⟩) HEB.out).trans HCE.out)
        have HEW : Hid (eb < W.heap.size) := Lib.hid (Nat.lt_of_lt_of_le HEB.out NK.out.below.size)
        have HBW : Hid (Below V3.heap.size V3 W) := Lib.hid (HB.out.trans (NK.out.below.mono HB.out.size))
        clear HB TRR ERR FR HCE HEB
        obtain ⟨fz, hfz⟩ : ∃ z, fateC ⟨L, M, nx, bz⟩ nd.core = z := ⟨_, rfl⟩
        have HFZ := Lib.hid hfz
        have CF : Hid (∀ X : Ext W, Calls Tryz.prog 14 #[forV (some ⟨b, off, none⟩) len cap m, .int .i64 t, deskV da dl dc wa wl wc nx bz] X.v fun e w' => e = .returned (.int .i64 fz) ∧ Below X.v.heap.size X.v w') := Lib.hid (fun X => by
          have h := fateFn_any (some ⟨b, off, none⟩) len cap m K t da dl dc wa wl wc nx bz L M X.v (FW.out.keep X.below).f.row HM.out ⟨by omega, by omega⟩ SM.out (FW.out.keep X.below).d.d (FW.out.keep X.below).d.t
          rw [fate_zat RF.out HND.out, HFZ.out] at h
          exact h)
        clear hfz
        have z0 := Ext.cell FW.out.f.c0 FW.out.f.lt
        have z1 := Ext.cell FW.out.f.c1 FW.out.f.lt
        have d0 := Ext.cell FW.out.d.c0 FW.out.d.lt
        have d1 := Ext.cell FW.out.d.c1 FW.out.d.lt
        have d2 := Ext.cell FW.out.d.c2 FW.out.d.lt
        have d3 := Ext.cell FW.out.d.c3 FW.out.d.lt
        have ec := Ext.cell HCW.out HEW.out
        go_upto_region 12 with fail
        by_cases hfm : fz = -1
        · subst hfm
          refine wp_region_ext (by kernel_rfl) (by kernel_rfl) ?_
          repeat (go_big_quiet_step (first | (go_at_call 14; exact Ext.call_below (CF.out _))))
          refine wpQuiet_nil ?_
          intro w' hw'
          obtain ⟨⟨w8, hb8⟩, hw''⟩ := hw'
          dsimp only at hw''
          subst hw''
          clear z0 z1 d0 d1 d2 d3 ec CF
          have HBE : Hid (Below V3.heap.size V3 w') := Lib.hid (HBW.out.trans (hb8.mono HBW.out.size))
          clear hb8
          go_wp2
          go_roundw
          case rel => exact ⟨k + 1, by omega, by go_num, ⟨c, rfl, Lib.hid (by rw [cnt_miss HZ.out (tri_none HND.out HFZ.out)]; exact HC.out)⟩, HBE⟩
          case measure => simp [intOf]; omega
        · have hfe : (fz == -1) = false := beq_eq_false_iff_ne.2 hfm
          obtain ⟨j, xd, hj, FF⟩ := fate_facts (D := ⟨L, M, nx, bz⟩) (c := nd.core) RK.out (by rw [HFZ.out]; exact hfm)
          rw [HFZ.out] at hj
          subst hj
          have HFF := Lib.hid FF
          clear FF
          have hjl : j < dl := by have := (List.getElem?_eq_some_iff.1 HFF.out.def_).1; have h2 := HDL.out; dsimp only at this; omega
          refine wp_region_ext (by kernel_rfl) (by kernel_rfl) ?_
          repeat (go_big_quiet_step (first | (go_at_call 14; exact Ext.call_below (CF.out _))))
          refine wpQuiet_nil ?_
          intro w' hw'
          obtain ⟨⟨w8, hb8⟩, hw''⟩ := hw'
          dsimp only at hw''
          subst hw''
          clear z0 z1 d0 d1 d2 d3 ec CF
          have FY := Lib.hid (FW.out.keep hb8)
          have TY := Lib.hid (TW.out.below hb8)
          have NY := Lib.hid (NK.out.box.keep hb8)
          have HEY : Hid (eb < w'.heap.size ∧ w'.cell? ⟨eb, eo + k, none⟩ = some (.int .i64 t)) := Lib.hid ⟨Nat.lt_of_lt_of_le HEW.out hb8.size, (hb8.cell (p := ⟨eb, eo + k, none⟩) HEW.out).trans HCW.out⟩
          have HBY : Hid (Below V3.heap.size V3 w') := Lib.hid (HBW.out.trans (hb8.mono HBW.out.size))
          have HNS : Hid (nd.core.name.size ≤ maxLen ∧ nd.core.is.size ≤ maxLen) := Lib.hid ⟨OK.out.name, OK.out.is⟩
          clear FW TW NK HCW HEW HBW hb8
          obtain ⟨Y, hY⟩ : ∃ Y, Y = w' := ⟨_, rfl⟩
          subst hY
          obtain ⟨db, do_, xd2, rfl, hdb, hxd, -, dc1, -, -⟩ := FY.out.d.d.get hjl
          obtain rfl : xd2 = xd := Option.some.inj (hxd.symm.trans HFF.out.def_)
          have CB : Hid (∀ X : Ext Y, Calls Tryz.prog 10 #[.string nd.core.name, .string nd.core.is] X.v fun e w' => e = .returned (.int .i64 1) ∧ Below X.v.heap.size X.v w') := Lib.hid (fun X => by
            have h := born_any nd.core.name nd.core.is X.v HNS.out.1
            rw [HFF.out.born] at h
            exact h)
          have CD : Hid (∀ X : Ext Y, Calls Tryz.prog 25 #[deskV (some ⟨db, do_, none⟩) dl dc wa wl wc nx bz, .string nd.core.name, .string nd.core.is] X.v fun e w' => e = .returned (.int .i64 j) ∧ Below X.v.heap.size X.v w') := Lib.hid (fun X => by
            have h := deskfind_any (some ⟨db, do_, none⟩) dl dc wa wl wc nx bz L M nd.core.name nd.core.is X.v (FY.out.keep X.below).d.d (FY.out.keep X.below).d.t
            rw [HFF.out.find] at h
            exact h)
          have d0 := Ext.cell FY.out.d.c0 FY.out.d.lt
          have d1 := Ext.cell FY.out.d.c1 FY.out.d.lt
          have d2 := Ext.cell FY.out.d.c2 FY.out.d.lt
          have d3 := Ext.cell FY.out.d.c3 FY.out.d.lt
          have ed := Ext.cell dc1 hdb
          have x1 := Ext.cell NY.out.c1 NY.out.lt
          have x2 := Ext.cell NY.out.c2 NY.out.lt
          have x9' : Y.cell? ⟨wr.heap.size, 9, none⟩ = some (.int .i64 0) := by rw [← HFF.out.doc]; exact NY.out.c9
          have x9 := Ext.cell x9' NY.out.lt
          have hloc := HFF.out.loc
          have hloc2 : (xd2.loc.toList != nd.core.name.toList) = false := by unfold bne; rw [hloc]; rfl
          clear dc1 hdb hxd x9'
          go_upto_region 14 with fail
          refine wp_region_ext (by kernel_rfl) (by kernel_rfl) ?_
          repeat (go_big_quiet_step (first | (go_at_call 10; exact Ext.call_below (CB.out _)) | (go_at_call 25; exact Ext.call_below (CD.out _))))
          refine wpQuiet_nil ?_
          intro w' hw'
          obtain ⟨⟨w8, hb8⟩, hw''⟩ := hw'
          dsimp only at hw''
          subst hw''
          have TZ := Lib.hid (TY.out.below hb8)
          have HBZ : Hid (Below V3.heap.size V3 w') := Lib.hid (HBY.out.trans (hb8.mono HBY.out.size))
          have hez : w'.cell? ⟨eb, eo + k, none⟩ = some (.int .i64 t) := (hb8.cell (p := ⟨eb, eo + k, none⟩) HEY.out.1).trans HEY.out.2
          have ez := Ext.cell hez (Nat.lt_of_lt_of_le HEY.out.1 hb8.size)
          clear FY TY NY HEY HBY CB CD d0 d1 d2 d3 ed x1 x2 x9 hloc hloc2 hez hb8
          have HHIT := Lib.hid (cnt_hit HZ.out (tri_some HND.out HFZ.out hfm))
          have hTc : T[c]? = some ⟨(t : Int), upT j⟩ := by rw [HTE.out, HC.out]; exact HHIT.out.2
          have hcl : c < lt := by rw [← HTL.out]; exact (List.getElem?_eq_some_iff.1 hTc).1
          obtain ⟨tb, to_, u, rfl, htb, hu, -, huc⟩ := TZ.out.row.get hcl
          obtain rfl : u = ⟨(t : Int), upT j⟩ := Option.some.inj (hu.symm.trans hTc)
          have t0' : w'.cell? ⟨tb, to_ + c * 11, none⟩ = some (.int .i64 t) := huc 0 _ rfl
          have t0 := Ext.cell t0' htb
          have t1' : w'.cell? ⟨tb, to_ + c * 11 + 1, none⟩ = some (.int .i64 9) := huc 1 _ rfl
          have t1 := Ext.cell t1' htb
          have t2' : w'.cell? ⟨tb, to_ + c * 11 + 2, none⟩ = some (.int .i64 j) := huc 2 _ rfl
          have t2 := Ext.cell t2' htb
          have t3' : w'.cell? ⟨tb, to_ + c * 11 + 3, none⟩ = some (.string ⟨#[]⟩) := huc 3 _ rfl
          have t3 := Ext.cell t3' htb
          have t4' : w'.cell? ⟨tb, to_ + c * 11 + 4, none⟩ = some (.bool false) := huc 4 _ rfl
          have t4 := Ext.cell t4' htb
          have t5' : w'.cell? ⟨tb, to_ + c * 11 + 5, none⟩ = some (.bool false) := huc 5 _ rfl
          have t5 := Ext.cell t5' htb
          have t6' : w'.cell? ⟨tb, to_ + c * 11 + 6, none⟩ = some (.string ⟨#[]⟩) := huc 6 _ rfl
          have t6 := Ext.cell t6' htb
          have t7' : w'.cell? ⟨tb, to_ + c * 11 + 7, none⟩ = some (.string ⟨#[]⟩) := huc 7 _ rfl
          have t7 := Ext.cell t7' htb
          have t8' : w'.cell? ⟨tb, to_ + c * 11 + 8, none⟩ = some (.int .i64 0) := huc 8 _ rfl
          have t8 := Ext.cell t8' htb
          have t9' : w'.cell? ⟨tb, to_ + c * 11 + 9, none⟩ = some (.int .i64 0) := huc 9 _ rfl
          have t9 := Ext.cell t9' htb
          have t10' : w'.cell? ⟨tb, to_ + c * 11 + 10, none⟩ = some (.bool false) := huc 10 _ rfl
          have t10 := Ext.cell t10' htb
          clear t0' t1' t2' t3' t4' t5' t6' t7' t8' t9' t10' huc hu hTc htb
          have hg0 : ¬ (lt : Int) ≤ (c : Int) := by omega
          have hg1 : decide ((lt : Int) ≤ (c : Int)) = false := decide_eq_false hg0
          have hg2 : ¬ lt ≤ c := by omega
          go_upto_region 16 with fail
          refine wp_region_ext (by kernel_rfl) (by kernel_rfl) ?_
          repeat (go_big_quiet_step (fail))
          refine wpQuiet_nil ?_
          intro w' hw'
          obtain ⟨⟨w8, hb8⟩, hw''⟩ := hw'
          dsimp only at hw''
          subst hw''
          clear t0 t1 t2 t3 t4 t5 t6 t7 t8 t9 t10 ez
          have HBE : Hid (Below V3.heap.size V3 w') := Lib.hid (HBZ.out.trans (hb8.mono HBZ.out.size))
          clear hb8
          have hw1 : IntKind.i64.wrap ((c : Int) + 1) = (c : Int) + 1 := by rw [IntKind.wrap_i64]; omega
          go_wp2
          go_roundw
          case rel => exact ⟨k + 1, by omega, by go_num, ⟨c + 1, by go_num, Lib.hid (by rw [HHIT.out.1, ← HC.out])⟩, HBE⟩
          case measure => simp [intOf]; omega
    · have hkd : k = le := by omega
      subst hkd
      obtain rfl : c = lt := by rw [HC.out, ← HEL.out, cnt_end, ← HTE.out, HTL.out]
      go_wp2
      go_ret
      exact ⟨rfl, FR.out.f.below⟩
end Go.Proofs.YtkomeijlljcdgaaGreat
