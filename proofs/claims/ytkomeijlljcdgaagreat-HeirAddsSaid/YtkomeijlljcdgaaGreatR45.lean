/- Texts joined in build order: HeirAddsLaw. -/
import Derived.Test.YtkomeijlljcdgaaGreatR44
import Derived.Test.YtkomeijlljcdgaaGreatR37
import Derived.Test.YtkomeijlljcdgaaGreatR36
import Derived.Test.YtkomeijlljcdgaaGreatR26
import Derived.Test.YtkomeijlljcdgaaGreatR12
import Derived.Deep.DeepCutAuto
import Derived.Deep.CutBlock
import Derived.Deep.QuietTactic
import Derived.BigQuiet
namespace Go.Proofs.YtkomeijlljcdgaaGreat
open Go.RowKit
theorem add9_any (da : Option Addr) (dl dc : Nat) (wa : Option Addr) (wl wc : Nat) (nx : Int) (bz : Bool) (L : List DefD) (M : List WaitD) (m : Int) (s base : ByteArray) (c : Int) (W : World) (h1 : DefRow W da dl dc L) (h2 : WaitRow W wa wl wc M) (h3 : s.size ≤ maxLen) (h4 : base.size ≤ maxLen) (h5 : In64 c) (h6 : L.length ≤ 1000) (h7 : M.length ≤ 1000) :
    Calls Tryz.prog 26 #[deskV da dl dc wa wl wc nx bz, .int .i64 m, .string s, .string base, .int .i64 c] W (AddPost9 W (addR9 ⟨L, M, nx, bz⟩ m s base c)) := by
  by_cases hm : mayE ⟨L, M, nx, bz⟩ m s.toList base.toList c = 0
  · unfold addR9
    rw [if_pos hm]
    exact add_ok da dl dc wa wl wc nx bz L M m s base c W h1 h2 h3 h4 h5 h6 h7 hm
  · unfold addR9
    rw [if_neg hm]
    exact add_err da dl dc wa wl wc nx bz L M m s base c W h1 h2 h3 h6 h7 hm
theorem hd_keep {V W X : World} {b1 b2 b3 o3 o4 o5 : Nat} {v0 v1 v2 v3 v4 v5 : Option Value} (l : b1 < V.heap.size ∧ b2 < V.heap.size ∧ b3 < V.heap.size)
    (h : W.cell? ⟨b1, 0, none⟩ = v0 ∧ W.cell? ⟨b1, 1, none⟩ = v1 ∧ W.cell? ⟨b2, 0, none⟩ = v2 ∧ W.cell? ⟨b3, o3, none⟩ = v3 ∧ W.cell? ⟨b3, o4, none⟩ = v4 ∧ W.cell? ⟨b3, o5, none⟩ = v5 ∧ Below V.heap.size V W) (hb : Below W.heap.size W X) :
    X.cell? ⟨b1, 0, none⟩ = v0 ∧ X.cell? ⟨b1, 1, none⟩ = v1 ∧ X.cell? ⟨b2, 0, none⟩ = v2 ∧ X.cell? ⟨b3, o3, none⟩ = v3 ∧ X.cell? ⟨b3, o4, none⟩ = v4 ∧ X.cell? ⟨b3, o5, none⟩ = v5 ∧ Below V.heap.size V X := by
  obtain ⟨c0, c1, c2, c3, c4, c5, hB⟩ := h
  have hs := hB.size
  exact ⟨(hb.cell (p := ⟨_, _, none⟩) (by simp only; omega)).trans c0, (hb.cell (p := ⟨_, _, none⟩) (by simp only; omega)).trans c1, (hb.cell (p := ⟨_, _, none⟩) (by simp only; omega)).trans c2, (hb.cell (p := ⟨_, _, none⟩) (by simp only; omega)).trans c3, (hb.cell (p := ⟨_, _, none⟩) (by simp only; omega)).trans c4, (hb.cell (p := ⟨_, _, none⟩) (by simp only; omega)).trans c5, hB.trans (hb.mono hB.size)⟩
set_option maxHeartbeats 4000000 in
set_option maxRecDepth 100000 in
theorem heirAdds_walk (_F : True) (a : Option Addr) (len cap : Nat) (m : Int) (K : List NodeD) (da : Option Addr) (dl dc : Nat) (wa : Option Addr) (wl wc : Nat) (nx : Int) (bz : Bool) (L : List DefD) (M : List WaitD) (s base : ByteArray) (c : Int) (w : World)
    (h0 : NodeRow w a len cap K) (hm : In64 m) (hD : DeskAt w da dl dc wa wl wc ⟨L, M, nx, bz⟩) (hs : s.size ≤ maxLen) (hbs : base.size ≤ maxLen) (hc64 : In64 c) :
    Calls Tryz.prog 6 #[forV a len cap m, deskV da dl dc wa wl wc nx bz, .string s, .string base, .int .i64 c] w fun e w' => e = .returned (.bool true) ∧ Below w.heap.size w w' := by
  have AW := Lib.hid (fun W => awake10_any W)
  have FX := Lib.hid (FD.start (m := m) (nx := nx) (bz := bz) h0 hD.d hD.t)
  have HM := Lib.hid hm
  have HL := Lib.hid h0.hlen
  have HDL := Lib.hid hD.d.hlen
  have hl0 := h0.len64
  have hdl := hD.d.len64
  have n1 : s.size ≤ 9223372036854775807 := by unfold maxLen at hs; omega
  have n3 : base.size ≤ 9223372036854775807 := by unfold maxLen at hbs; omega
  have SZ := Lib.hid (⟨hs, hbs⟩ : s.size ≤ maxLen ∧ base.size ≤ maxLen)
  have IN := Lib.hid hc64
  (have z0 := FX.out.f.c0; have z1 := FX.out.f.c1; have d0 := FX.out.d.c0; have d1 := FX.out.d.c1; have d2 := FX.out.d.c2; have d3 := FX.out.d.c3)
  obtain ⟨q0, hq0⟩ : ∃ q, shortF K = q := ⟨_, rfl⟩
  obtain ⟨q1, hq1⟩ : ∃ q, shortK L M = q := ⟨_, rfl⟩
  obtain ⟨q2, hq2⟩ : ∃ q, rightF m (coreL K) = q := ⟨_, rfl⟩
  have S3 : Hid (∀ V, NodeRow V a len cap K → Calls Tryz.prog 8 #[forV a len cap m] V fun e w' => e = .returned (.bool q0) ∧ Below V.heap.size V w') := Lib.hid (fun V h1 => by
    have h := refshortF_any a len cap m K V h1
    rw [hq0] at h
    exact h)
  have S9 : Hid (∀ V, DefRow V da dl dc L → WaitRow V wa wl wc M → Calls Tryz.prog 9 #[deskV da dl dc wa wl wc nx bz] V fun e w' => e = .returned (.bool q1) ∧ Below V.heap.size V w') := Lib.hid (fun V h1 h2 => by
    have h := refshort9_any da dl dc wa wl wc nx bz L M V h1 h2
    rw [hq1] at h
    exact h)
  clear h0 hm hD _F hs hbs hc64
  cases q0 with
  | false => clear hq0 hq1 hq2; (go_enter Tryz.func6, Tryz.ntmps6; go_wp2_with (first
                                                                                                                                               | (go_at_call 7; (with_reducible refine (AW.out _).mono ?_); rintro e w5 ⟨rfl, hb⟩; (clear z0 z1 d0 d1 d2 d3; have FX := Lib.hid (FX.out.keep hb); (have z0 := FX.out.f.c0; have z1 := FX.out.f.c1; have d0 := FX.out.d.c0; have d1 := FX.out.d.c1; have d2 := FX.out.d.c2; have d3 := FX.out.d.c3); clear hb))
                                                                                                                                               | (go_at_call 8; (with_reducible refine (S3.out _ FX.out.f.row).mono ?_); rintro e w5 ⟨rfl, hb⟩; (clear z0 z1 d0 d1 d2 d3; have FX := Lib.hid (FX.out.keep hb); (have z0 := FX.out.f.c0; have z1 := FX.out.f.c1; have d0 := FX.out.d.c0; have d1 := FX.out.d.c1; have d2 := FX.out.d.c2; have d3 := FX.out.d.c3); clear hb))
                                                                                                                                               | (go_at_call 9; (with_reducible refine (S9.out _ FX.out.d.d FX.out.d.t).mono ?_); rintro e w5 ⟨rfl, hb⟩; (clear z0 z1 d0 d1 d2 d3; have FX := Lib.hid (FX.out.keep hb); (have z0 := FX.out.f.c0; have z1 := FX.out.f.c1; have d0 := FX.out.d.c0; have d1 := FX.out.d.c1; have d2 := FX.out.d.c2; have d3 := FX.out.d.c3); clear hb))
                                                                                                                                               | (go_at_call 22; (with_reducible refine (R3.out _ FX.out.f.row).mono ?_); rintro e w5 ⟨rfl, hb⟩; (clear z0 z1 d0 d1 d2 d3; have FX := Lib.hid (FX.out.keep hb); (have z0 := FX.out.f.c0; have z1 := FX.out.f.c1; have d0 := FX.out.d.c0; have d1 := FX.out.d.c1; have d2 := FX.out.d.c2; have d3 := FX.out.d.c3); clear hb))); go_ret; exact ⟨rfl, FX.out.f.below⟩)
  | true =>
  have SM := Lib.hid (small_of_short hq0)
  have R3 : Hid (∀ V, NodeRow V a len cap K → Calls Tryz.prog 22 #[forV a len cap m] V fun e w' => e = .returned (.bool q2) ∧ Below V.heap.size V w') := Lib.hid (fun V h1 => by
    have h := rightF_any a len cap m K V h1 HM.out SM.out
    rw [hq2] at h
    exact h)
  clear hq0
  cases q1 with
  | false => clear hq1 hq2; (go_enter Tryz.func6, Tryz.ntmps6; go_wp2_with (first
                                                                                                                                           | (go_at_call 7; (with_reducible refine (AW.out _).mono ?_); rintro e w5 ⟨rfl, hb⟩; (clear z0 z1 d0 d1 d2 d3; have FX := Lib.hid (FX.out.keep hb); (have z0 := FX.out.f.c0; have z1 := FX.out.f.c1; have d0 := FX.out.d.c0; have d1 := FX.out.d.c1; have d2 := FX.out.d.c2; have d3 := FX.out.d.c3); clear hb))
                                                                                                                                           | (go_at_call 8; (with_reducible refine (S3.out _ FX.out.f.row).mono ?_); rintro e w5 ⟨rfl, hb⟩; (clear z0 z1 d0 d1 d2 d3; have FX := Lib.hid (FX.out.keep hb); (have z0 := FX.out.f.c0; have z1 := FX.out.f.c1; have d0 := FX.out.d.c0; have d1 := FX.out.d.c1; have d2 := FX.out.d.c2; have d3 := FX.out.d.c3); clear hb))
                                                                                                                                           | (go_at_call 9; (with_reducible refine (S9.out _ FX.out.d.d FX.out.d.t).mono ?_); rintro e w5 ⟨rfl, hb⟩; (clear z0 z1 d0 d1 d2 d3; have FX := Lib.hid (FX.out.keep hb); (have z0 := FX.out.f.c0; have z1 := FX.out.f.c1; have d0 := FX.out.d.c0; have d1 := FX.out.d.c1; have d2 := FX.out.d.c2; have d3 := FX.out.d.c3); clear hb))
                                                                                                                                           | (go_at_call 22; (with_reducible refine (R3.out _ FX.out.f.row).mono ?_); rintro e w5 ⟨rfl, hb⟩; (clear z0 z1 d0 d1 d2 d3; have FX := Lib.hid (FX.out.keep hb); (have z0 := FX.out.f.c0; have z1 := FX.out.f.c1; have d0 := FX.out.d.c0; have d1 := FX.out.d.c1; have d2 := FX.out.d.c2; have d3 := FX.out.d.c3); clear hb))); go_ret; exact ⟨rfl, FX.out.f.below⟩)
  | true =>
  have HSH := Lib.hid (shortK_iff.1 hq1)
  have SS := Lib.hid (short_small hq1)
  clear hq1
  by_cases d1' : (300 : Int) < (s.size : Int)
  · clear hq2; (go_enter Tryz.func6, Tryz.ntmps6; go_wp2_with (first
                                                                                                                              | (go_at_call 7; (with_reducible refine (AW.out _).mono ?_); rintro e w5 ⟨rfl, hb⟩; (clear z0 z1 d0 d1 d2 d3; have FX := Lib.hid (FX.out.keep hb); (have z0 := FX.out.f.c0; have z1 := FX.out.f.c1; have d0 := FX.out.d.c0; have d1 := FX.out.d.c1; have d2 := FX.out.d.c2; have d3 := FX.out.d.c3); clear hb))
                                                                                                                              | (go_at_call 8; (with_reducible refine (S3.out _ FX.out.f.row).mono ?_); rintro e w5 ⟨rfl, hb⟩; (clear z0 z1 d0 d1 d2 d3; have FX := Lib.hid (FX.out.keep hb); (have z0 := FX.out.f.c0; have z1 := FX.out.f.c1; have d0 := FX.out.d.c0; have d1 := FX.out.d.c1; have d2 := FX.out.d.c2; have d3 := FX.out.d.c3); clear hb))
                                                                                                                              | (go_at_call 9; (with_reducible refine (S9.out _ FX.out.d.d FX.out.d.t).mono ?_); rintro e w5 ⟨rfl, hb⟩; (clear z0 z1 d0 d1 d2 d3; have FX := Lib.hid (FX.out.keep hb); (have z0 := FX.out.f.c0; have z1 := FX.out.f.c1; have d0 := FX.out.d.c0; have d1 := FX.out.d.c1; have d2 := FX.out.d.c2; have d3 := FX.out.d.c3); clear hb))
                                                                                                                              | (go_at_call 22; (with_reducible refine (R3.out _ FX.out.f.row).mono ?_); rintro e w5 ⟨rfl, hb⟩; (clear z0 z1 d0 d1 d2 d3; have FX := Lib.hid (FX.out.keep hb); (have z0 := FX.out.f.c0; have z1 := FX.out.f.c1; have d0 := FX.out.d.c0; have d1 := FX.out.d.c1; have d2 := FX.out.d.c2; have d3 := FX.out.d.c3); clear hb))); go_ret; exact ⟨rfl, FX.out.f.below⟩)
  by_cases d3' : (300 : Int) < (base.size : Int)
  · clear hq2; (go_enter Tryz.func6, Tryz.ntmps6; go_wp2_with (first
                                                                                                                              | (go_at_call 7; (with_reducible refine (AW.out _).mono ?_); rintro e w5 ⟨rfl, hb⟩; (clear z0 z1 d0 d1 d2 d3; have FX := Lib.hid (FX.out.keep hb); (have z0 := FX.out.f.c0; have z1 := FX.out.f.c1; have d0 := FX.out.d.c0; have d1 := FX.out.d.c1; have d2 := FX.out.d.c2; have d3 := FX.out.d.c3); clear hb))
                                                                                                                              | (go_at_call 8; (with_reducible refine (S3.out _ FX.out.f.row).mono ?_); rintro e w5 ⟨rfl, hb⟩; (clear z0 z1 d0 d1 d2 d3; have FX := Lib.hid (FX.out.keep hb); (have z0 := FX.out.f.c0; have z1 := FX.out.f.c1; have d0 := FX.out.d.c0; have d1 := FX.out.d.c1; have d2 := FX.out.d.c2; have d3 := FX.out.d.c3); clear hb))
                                                                                                                              | (go_at_call 9; (with_reducible refine (S9.out _ FX.out.d.d FX.out.d.t).mono ?_); rintro e w5 ⟨rfl, hb⟩; (clear z0 z1 d0 d1 d2 d3; have FX := Lib.hid (FX.out.keep hb); (have z0 := FX.out.f.c0; have z1 := FX.out.f.c1; have d0 := FX.out.d.c0; have d1 := FX.out.d.c1; have d2 := FX.out.d.c2; have d3 := FX.out.d.c3); clear hb))
                                                                                                                              | (go_at_call 22; (with_reducible refine (R3.out _ FX.out.f.row).mono ?_); rintro e w5 ⟨rfl, hb⟩; (clear z0 z1 d0 d1 d2 d3; have FX := Lib.hid (FX.out.keep hb); (have z0 := FX.out.f.c0; have z1 := FX.out.f.c1; have d0 := FX.out.d.c0; have d1 := FX.out.d.c1; have d2 := FX.out.d.c2; have d3 := FX.out.d.c3); clear hb))); go_ret; exact ⟨rfl, FX.out.f.below⟩)
  cases q2 with
  | false => clear hq2; (go_enter Tryz.func6, Tryz.ntmps6; go_wp2_with (first
                                                                                                                                       | (go_at_call 7; (with_reducible refine (AW.out _).mono ?_); rintro e w5 ⟨rfl, hb⟩; (clear z0 z1 d0 d1 d2 d3; have FX := Lib.hid (FX.out.keep hb); (have z0 := FX.out.f.c0; have z1 := FX.out.f.c1; have d0 := FX.out.d.c0; have d1 := FX.out.d.c1; have d2 := FX.out.d.c2; have d3 := FX.out.d.c3); clear hb))
                                                                                                                                       | (go_at_call 8; (with_reducible refine (S3.out _ FX.out.f.row).mono ?_); rintro e w5 ⟨rfl, hb⟩; (clear z0 z1 d0 d1 d2 d3; have FX := Lib.hid (FX.out.keep hb); (have z0 := FX.out.f.c0; have z1 := FX.out.f.c1; have d0 := FX.out.d.c0; have d1 := FX.out.d.c1; have d2 := FX.out.d.c2; have d3 := FX.out.d.c3); clear hb))
                                                                                                                                       | (go_at_call 9; (with_reducible refine (S9.out _ FX.out.d.d FX.out.d.t).mono ?_); rintro e w5 ⟨rfl, hb⟩; (clear z0 z1 d0 d1 d2 d3; have FX := Lib.hid (FX.out.keep hb); (have z0 := FX.out.f.c0; have z1 := FX.out.f.c1; have d0 := FX.out.d.c0; have d1 := FX.out.d.c1; have d2 := FX.out.d.c2; have d3 := FX.out.d.c3); clear hb))
                                                                                                                                       | (go_at_call 22; (with_reducible refine (R3.out _ FX.out.f.row).mono ?_); rintro e w5 ⟨rfl, hb⟩; (clear z0 z1 d0 d1 d2 d3; have FX := Lib.hid (FX.out.keep hb); (have z0 := FX.out.f.c0; have z1 := FX.out.f.c1; have d0 := FX.out.d.c0; have d1 := FX.out.d.c1; have d2 := FX.out.d.c2; have d3 := FX.out.d.c3); clear hb))); go_ret; exact ⟨rfl, FX.out.f.below⟩)
  | true =>
  have RF := Lib.hid hq2
  clear hq2
  have hs1k : s.size ≤ 1000000 := by omega
  obtain ⟨z, hz⟩ : ∃ z, mayE ⟨L, M, nx, bz⟩ 12 s.toList base.toList c = z := ⟨_, rfl⟩
  have MY : Hid (∀ V, DefRow V da dl dc L → WaitRow V wa wl wc M → Calls Tryz.prog 27 #[deskV da dl dc wa wl wc nx bz, .int .i64 12, .string s, .string base, .int .i64 c] V fun e w' => e = .returned (.int .i64 z) ∧ Below V.heap.size V w') := Lib.hid (fun V h1 h2 => by
    have h := refmay9_any da dl dc wa wl wc nx bz L M 12 s base c V h1 h2 SS.out.1 SS.out.2 hs1k
    rw [hz] at h
    exact h)
  clear hs1k
  by_cases hz0 : z = 0
  rotate_left
  · have AD : Hid (∀ V, DefRow V da dl dc L → WaitRow V wa wl wc M → Calls Tryz.prog 26 #[deskV da dl dc wa wl wc nx bz, .int .i64 12, .string s, .string base, .int .i64 c] V (AddPost9 V (⟨L, M, nx, bz⟩, -1, [], z))) := Lib.hid (fun V h1 h2 => by
      have h := add9_any da dl dc wa wl wc nx bz L M 12 s base c V h1 h2 SZ.out.1 SZ.out.2 IN.out (by have := HSH.out.1; omega) (by have := HSH.out.2.1; omega)
      rw [addR_not (by rw [hz]; exact hz0), hz] at h
      exact h)
    have z0' : (z != 0) = true := bne_iff_ne.2 hz0
    have z0'' : (z == 0) = false := beq_eq_false_iff_ne.2 hz0
    clear hz hz0
    go_enter Tryz.func6, Tryz.ntmps6
    go_upto_region 5 with (first
                              | (go_at_call 7; (with_reducible refine (AW.out _).mono ?_); rintro e w5 ⟨rfl, hb⟩; (clear z0 z1 d0 d1 d2 d3; have FX := Lib.hid (FX.out.keep hb); (have z0 := FX.out.f.c0; have z1 := FX.out.f.c1; have d0 := FX.out.d.c0; have d1 := FX.out.d.c1; have d2 := FX.out.d.c2; have d3 := FX.out.d.c3); clear hb))
                              | (go_at_call 8; (with_reducible refine (S3.out _ FX.out.f.row).mono ?_); rintro e w5 ⟨rfl, hb⟩; (clear z0 z1 d0 d1 d2 d3; have FX := Lib.hid (FX.out.keep hb); (have z0 := FX.out.f.c0; have z1 := FX.out.f.c1; have d0 := FX.out.d.c0; have d1 := FX.out.d.c1; have d2 := FX.out.d.c2; have d3 := FX.out.d.c3); clear hb))
                              | (go_at_call 9; (with_reducible refine (S9.out _ FX.out.d.d FX.out.d.t).mono ?_); rintro e w5 ⟨rfl, hb⟩; (clear z0 z1 d0 d1 d2 d3; have FX := Lib.hid (FX.out.keep hb); (have z0 := FX.out.f.c0; have z1 := FX.out.f.c1; have d0 := FX.out.d.c0; have d1 := FX.out.d.c1; have d2 := FX.out.d.c2; have d3 := FX.out.d.c3); clear hb))
                              | (go_at_call 22; (with_reducible refine (R3.out _ FX.out.f.row).mono ?_); rintro e w5 ⟨rfl, hb⟩; (clear z0 z1 d0 d1 d2 d3; have FX := Lib.hid (FX.out.keep hb); (have z0 := FX.out.f.c0; have z1 := FX.out.f.c1; have d0 := FX.out.d.c0; have d1 := FX.out.d.c1; have d2 := FX.out.d.c2; have d3 := FX.out.d.c3); clear hb)))
    go_upto_region 6 with (go_at_call 26; (refine (AD.out _ FX.out.d.d FX.out.d.t).mono ?_); rintro e w1 ⟨a1, l1, c1, b1, m1, n1, u1, v1, k1, rfl, hd, ht, hir, hb, -, -, -⟩; have FX := Lib.hid (FX.out.keep hb); clear hd ht hir hb z0 z1 d0 d1 d2 d3; dsimp only)
    obtain ⟨W1, hW1, FX⟩ : ∃ W1, w1.alloc (.cells #[.slice a1 l1 c1, .slice b1 m1 n1, .int .i64 nx, .bool bz] 28) = W1 ∧ Hid (FD w W1 w.heap.size (w.heap.size + 1) a len cap m K da dl dc wa wl wc nx bz L M) := ⟨_, rfl, Lib.hid (FX.out.keep (below_desk _ _))⟩
    rw [hW1]
    clear hW1
    (have z0 := FX.out.f.c0; have z1 := FX.out.f.c1; have d0 := FX.out.d.c0; have d1 := FX.out.d.c1; have d2 := FX.out.d.c2; have d3 := FX.out.d.c3)
    go_wp2_with (go_at_call 27; (with_reducible refine (MY.out _ FX.out.d.d FX.out.d.t).mono ?_); rintro e w5 ⟨rfl, hb⟩; (clear z0 z1 d0 d1 d2 d3; have FX := Lib.hid (FX.out.keep hb); (have z0 := FX.out.f.c0; have z1 := FX.out.f.c1; have d0 := FX.out.d.c0; have d1 := FX.out.d.c1; have d2 := FX.out.d.c2; have d3 := FX.out.d.c3); clear hb))
    go_ret
    exact ⟨rfl, FX.out.f.below⟩
  · subst hz0
    have MO := Lib.hid (may_ok9.1 hz)
    obtain rfl : bz = false := MO.out.idle
    clear hz
    have AD : Hid (∀ V, DefRow V da dl dc L → WaitRow V wa wl wc M → Calls Tryz.prog 26 #[deskV da dl dc wa wl wc nx false, .int .i64 12, .string s, .string base, .int .i64 c] V (AddPost9 V (⟨L ++ [newDef s base c], restT M s.toList, nx, false⟩, (dl : Int), toldZ M s.toList, 0))) := Lib.hid (fun V h1 h2 => by
      have h := add9_any da dl dc wa wl wc nx false L M 12 s base c V h1 h2 SZ.out.1 SZ.out.2 IN.out (by have := HSH.out.1; omega) (by have := HSH.out.2.1; omega)
      rw [addR_may MO.out] at h
      dsimp only at h
      rw [HDL.out] at h
      exact h)
    obtain ⟨r, hr⟩ : ∃ r, newDef s base c = ⟨s, r, c⟩ := ⟨_, rfl⟩
    obtain ⟨H, hH⟩ : ∃ H, heirsZ m (coreL K) s r = H := ⟨_, rfl⟩
    have CH : Hid (∀ V, NodeRow V a len cap K → Calls Tryz.prog 15 #[forV a len cap m, .agg #[.string s, .string r, .int .i64 c]] V (OrdPost V H)) := Lib.hid (fun V h1 => by
      have h := heirs_any a len cap m K s r c V h1 HM.out SM.out
      rw [hH] at h
      exact h)
    have HAS : Hid (∀ (t : Nat) (x : Core), (coreL K)[t]? = some x → hasZ H (t : Int) = if isFor s base x && connZ m (coreL K) (t : Int) then 1 else 0) := Lib.hid (fun t x hx => by
      have h := heir_has RF.out MO.out hx
      rw [hr] at h
      dsimp only at h
      rw [hH] at h
      exact h)
    have AT : Hid (∀ x : Core, (isFor s base x = true → fateC ⟨L, M, nx, false⟩ x = -1 ∧ fateC ⟨L ++ [⟨s, r, c⟩], restT M s.toList, nx, false⟩ x = (dl : Int)) ∧ (isFor s base x = false → fateC ⟨L ++ [⟨s, r, c⟩], restT M s.toList, nx, false⟩ x = fateC ⟨L, M, nx, false⟩ x ∧ fateC ⟨L, M, nx, false⟩ x < (dl : Int))) := Lib.hid (fun x => by
      have h := adds_at MO.out x
      have e : addK ⟨L, M, nx, false⟩ s base c = ⟨L ++ [⟨s, r, c⟩], restT M s.toList, nx, false⟩ := by unfold addK; rw [hr]
      rw [e] at h
      dsimp only at h
      rw [HDL.out] at h
      exact h)
    rw [hr] at AD
    clear hr hH
    go_enter Tryz.func6, Tryz.ntmps6
    go_upto_region 5 with (first
                              | (go_at_call 7; (with_reducible refine (AW.out _).mono ?_); rintro e w5 ⟨rfl, hb⟩; (clear z0 z1 d0 d1 d2 d3; have FX := Lib.hid (FX.out.keep hb); (have z0 := FX.out.f.c0; have z1 := FX.out.f.c1; have d0 := FX.out.d.c0; have d1 := FX.out.d.c1; have d2 := FX.out.d.c2; have d3 := FX.out.d.c3); clear hb))
                              | (go_at_call 8; (with_reducible refine (S3.out _ FX.out.f.row).mono ?_); rintro e w5 ⟨rfl, hb⟩; (clear z0 z1 d0 d1 d2 d3; have FX := Lib.hid (FX.out.keep hb); (have z0 := FX.out.f.c0; have z1 := FX.out.f.c1; have d0 := FX.out.d.c0; have d1 := FX.out.d.c1; have d2 := FX.out.d.c2; have d3 := FX.out.d.c3); clear hb))
                              | (go_at_call 9; (with_reducible refine (S9.out _ FX.out.d.d FX.out.d.t).mono ?_); rintro e w5 ⟨rfl, hb⟩; (clear z0 z1 d0 d1 d2 d3; have FX := Lib.hid (FX.out.keep hb); (have z0 := FX.out.f.c0; have z1 := FX.out.f.c1; have d0 := FX.out.d.c0; have d1 := FX.out.d.c1; have d2 := FX.out.d.c2; have d3 := FX.out.d.c3); clear hb))
                              | (go_at_call 22; (with_reducible refine (R3.out _ FX.out.f.row).mono ?_); rintro e w5 ⟨rfl, hb⟩; (clear z0 z1 d0 d1 d2 d3; have FX := Lib.hid (FX.out.keep hb); (have z0 := FX.out.f.c0; have z1 := FX.out.f.c1; have d0 := FX.out.d.c0; have d1 := FX.out.d.c1; have d2 := FX.out.d.c2; have d3 := FX.out.d.c3); clear hb)))
    go_upto_region 6 with (go_at_call 26; (refine (AD.out _ FX.out.d.d FX.out.d.t).mono ?_); rintro e w1 ⟨a1, l1, c1, b1, m1, n1, u1, v1, k1, rfl, hd, ht, hir, hb, -, -, -⟩; have FX := Lib.hid (FX.out.keep hb); have KA := Lib.hid (KBox.new (D := ⟨L ++ [⟨s, r, c⟩], restT M s.toList, nx, false⟩) hd ht FX.out.d.below); clear hd ht hir hb z0 z1 d0 d1 d2 d3; dsimp only)
    have hl1 : l1 = dl + 1 := by
      have h9 := KA.out.d.hlen
      rw [List.length_append, HDL.out] at h9
      exact h9.symm
    have hl2 : (dl : Int) < (l1 : Int) := by omega
    have hl3 : dl < l1 := by omega
    have hl4 : (0 : Int) ≤ (dl : Int) := by omega
    have HL1 := Lib.hid hl1
    clear hl1
    obtain ⟨W1, hW1, FX⟩ : ∃ W1, w1.alloc (.cells #[.slice a1 l1 c1, .slice b1 m1 n1, .int .i64 nx, .bool false] 28) = W1 ∧ Hid (FD w W1 w.heap.size (w.heap.size + 1) a len cap m K da dl dc wa wl wc nx false L M) := ⟨_, rfl, Lib.hid (FX.out.keep (below_desk _ _))⟩
    obtain ⟨g1, hg1⟩ : ∃ g, w1.heap.size = g := ⟨_, rfl⟩
    have KA : Hid (KBox w W1 g1 a1 l1 c1 b1 m1 n1 ⟨L ++ [⟨s, r, c⟩], restT M s.toList, nx, false⟩) := Lib.hid (by rw [← hW1, ← hg1]; exact KA.out)
    rw [hW1, hg1]
    clear hW1 hg1
    (have z0 := FX.out.f.c0; have z1 := FX.out.f.c1; have d0 := FX.out.d.c0; have d1 := FX.out.d.c1; have d2 := FX.out.d.c2; have d3 := FX.out.d.c3)
    go_upto_region 8 with (go_at_call 27; (with_reducible refine (MY.out _ FX.out.d.d FX.out.d.t).mono ?_); rintro e w5 ⟨rfl, hb⟩; have KA := Lib.hid (KA.out.keep hb); (clear z0 z1 d0 d1 d2 d3; have FX := Lib.hid (FX.out.keep hb); (have z0 := FX.out.f.c0; have z1 := FX.out.f.c1; have d0 := FX.out.d.c0; have d1 := FX.out.d.c1; have d2 := FX.out.d.c2; have d3 := FX.out.d.c3); clear hb))
    clear MY AD S3 S9 R3 AW z0 z1 d0 d1 d2 d3
    obtain ⟨bg, og, xg, rfl, hbg, hxg, x0, x1, x2, -⟩ := KA.out.d.get (k := dl) (by omega)
    obtain rfl : xg = ⟨s, r, c⟩ := by
      dsimp only at hxg
      rw [List.getElem?_append_right (by rw [HDL.out]; exact Nat.le_refl _), HDL.out, Nat.sub_self] at hxg
      exact (Option.some.inj hxg).symm
    dsimp only at x0 x1 x2
    clear hxg
    obtain ⟨V, rfl⟩ : ∃ V, V = w5 := ⟨_, rfl⟩
    have z0 := FX.out.f.c0
    have z1 := FX.out.f.c1
    have a0 := KA.out.bx.c0
    have lt1 := FX.out.lt.1
    have lt2 := KA.out.bx.lt
    have SV : V.cell? ⟨w.heap.size, 0, none⟩ = some (.slice a len cap) ∧ V.cell? ⟨w.heap.size, 1, none⟩ = some (.int .i64 m) ∧ V.cell? ⟨g1, 0, none⟩ = some (.slice (some ⟨bg, og, none⟩) l1 c1) ∧ V.cell? ⟨bg, og + dl * 3, none⟩ = some (.string s) ∧ V.cell? ⟨bg, og + dl * 3 + 1, none⟩ = some (.string r) ∧ V.cell? ⟨bg, og + dl * 3 + 2, none⟩ = some (.int .i64 c) ∧ Below V.heap.size V V := ⟨z0, z1, a0, x0, x1, x2, Below.refl _ _⟩
    clear z0 z1 a0 x0 x1 x2
    have LT : Hid (w.heap.size < V.heap.size ∧ g1 < V.heap.size ∧ bg < V.heap.size) := Lib.hid ⟨lt1, lt2, hbg⟩
    clear lt1 lt2 hbg
    go_region_held3 (fun w' => w'.cell? ⟨w.heap.size, 0, none⟩ = some (.slice a len cap) ∧ w'.cell? ⟨w.heap.size, 1, none⟩ = some (.int .i64 m) ∧ w'.cell? ⟨g1, 0, none⟩ = some (.slice (some ⟨bg, og, none⟩) l1 c1) ∧ w'.cell? ⟨bg, og + dl * 3, none⟩ = some (.string s) ∧ w'.cell? ⟨bg, og + dl * 3 + 1, none⟩ = some (.string r) ∧ w'.cell? ⟨bg, og + dl * 3 + 2, none⟩ = some (.int .i64 c) ∧ Below V.heap.size V w')
      (first | assumption | exact hd_keep LT.out (by assumption) (by assumption) | exact hd_keep LT.out SV (Below.refl _ _).drew)
      (first | (go_at_call 15; (with_reducible refine (CH.out _ (FX.out.keep (‹_ ∧ _ ∧ _ ∧ _ ∧ _ ∧ _ ∧ Below _ _ _›).2.2.2.2.2.2).f.row).mono ?_); rintro e w6 ⟨ah, lh, ch, rfl, hir, hb⟩; have HR := Lib.hid hir; clear hir))
    have HB5 := Lib.hid ((‹_ ∧ _ ∧ _ ∧ _ ∧ _ ∧ _ ∧ Below _ _ _›).2.2.2.2.2.2 : Below V.heap.size V w6)
    rename_i hh
    clear hh
    have FX := Lib.hid (FX.out.keep HB5.out)
    have KA := Lib.hid (KA.out.keep HB5.out)
    clear SV
    go_upto_region 9 with fail
    obtain ⟨V3, rfl⟩ : ∃ V3, V3 = w6 := ⟨_, rfl⟩
    (have z0 := FX.out.f.c0; have z1 := FX.out.f.c1; have d0 := FX.out.d.c0; have d1 := FX.out.d.c1; have d2 := FX.out.d.c2; have d3 := FX.out.d.c3)
    clear CH LT HSH SS SZ IN MO n3 d1' d3'
    go_wp2_with fail
    go_loopw [16] (fun i wr => ∃ k : Nat, k ≤ len ∧ i = .int .i64 k ∧ Hid (Below V3.heap.size V3 wr)) (fun i _ => len - (intOf i).toNat)
    case atStart => exact ⟨0, Nat.zero_le _, rfl, Lib.hid (Below.refl _ _)⟩
    case round =>
      obtain ⟨k, hk, rfl, HB⟩ := hrel
      have FR := Lib.hid (FX.out.keep HB.out)
      have KR := Lib.hid (KA.out.keep HB.out)
      have HRR := Lib.hid (HR.out.below HB.out)
      clear z0 z1 d0 d1 d2 d3
      have z0 := FR.out.f.c0
      have z1 := FR.out.f.c1
      by_cases hlt : k < len
      · obtain ⟨b, off, nd, rfl, hb0, hnd, hat, hok⟩ := FR.out.f.row.get hlt
        have HND := Lib.hid (coreL_get hnd)
        have OK := Lib.hid hok
        obtain ⟨x0, x1, x2, x3, x4, x5, x6, x7, x8, x9⟩ := hat
        clear hnd hok
        go_upto_region 13 with fail
        obtain ⟨W, hW, NK⟩ : ∃ W, wr.alloc (nodB nd) = W ∧ Hid (NKeep wr W nd) := ⟨_, rfl, Lib.hid (NKeep.start OK.out)⟩
        rw [hW]
        clear hW x0 x1 x2 x3 x4 x5 x6 x7 x8 x9 z0 z1 hb0
        have FW := Lib.hid (FR.out.keep NK.out.below)
        have KW := Lib.hid (KR.out.keep NK.out.below)
        have HRW := Lib.hid (HRR.out.below NK.out.below)
        have HBW : Hid (Below V3.heap.size V3 W) := Lib.hid (HB.out.trans (NK.out.below.mono HB.out.size))
        clear HB FR KR HRR
        obtain ⟨fw, hfw⟩ : ∃ z, fateC ⟨L, M, nx, false⟩ nd.core = z := ⟨_, rfl⟩
        obtain ⟨fn, hfn⟩ : ∃ z, fateC ⟨L ++ [⟨s, r, c⟩], restT M s.toList, nx, false⟩ nd.core = z := ⟨_, rfl⟩
        obtain ⟨ib, hib⟩ : ∃ q, isFor s base nd.core = q := ⟨_, rfl⟩
        obtain ⟨cf, hcf⟩ : ∃ q, connZ m (coreL K) (k : Int) = q := ⟨_, rfl⟩
        have HA := AT.out nd.core
        rw [hfw, hfn, hib] at HA
        have HA := Lib.hid HA
        have HHAS : Hid (hasZ H (k : Int) = if ib && cf then 1 else 0) := Lib.hid (by rw [HAS.out k nd.core HND.out, hib, hcf])
        have CF : Hid (∀ X : Ext W, Calls Tryz.prog 14 #[forV (some ⟨b, off, none⟩) len cap m, .int .i64 k, deskV da dl dc wa wl wc nx false] X.v fun e w' => e = .returned (.int .i64 fw) ∧ Below X.v.heap.size X.v w') := Lib.hid (fun X => by
          have h := fateFn_any (some ⟨b, off, none⟩) len cap m K k da dl dc wa wl wc nx false L M X.v (FW.out.keep X.below).f.row HM.out ⟨by omega, by omega⟩ SM.out (FW.out.keep X.below).d.d (FW.out.keep X.below).d.t
          rw [fate_zat RF.out HND.out, hfw] at h
          exact h)
        have CG : Hid (∀ X : Ext W, Calls Tryz.prog 14 #[forV (some ⟨b, off, none⟩) len cap m, .int .i64 k, deskV (some ⟨bg, og, none⟩) l1 c1 b1 m1 n1 nx false] X.v fun e w' => e = .returned (.int .i64 fn) ∧ Below X.v.heap.size X.v w') := Lib.hid (fun X => by
          have h := fateFn_any (some ⟨b, off, none⟩) len cap m K k (some ⟨bg, og, none⟩) l1 c1 b1 m1 n1 nx false _ _ X.v (FW.out.keep X.below).f.row HM.out ⟨by omega, by omega⟩ SM.out (KW.out.keep X.below).d (KW.out.keep X.below).t
          dsimp only at h
          rw [fate_zat RF.out HND.out, hfn] at h
          exact h)
        have CC : Hid (∀ V, NodeRow V (some ⟨b, off, none⟩) len cap K → Calls Tryz.prog 29 #[forV (some ⟨b, off, none⟩) len cap m, .int .i64 k] V fun e w' => e = .returned (.bool cf) ∧ Below V.heap.size V w') := Lib.hid (fun V h1 => by
          have h := connFn_any (some ⟨b, off, none⟩) len cap m K k V h1 HM.out ⟨by omega, by omega⟩ SM.out
          rw [hcf] at h
          exact h)
        clear hfw hfn hcf
        have z0 := Ext.cell FW.out.f.c0 FW.out.f.lt
        have z1 := Ext.cell FW.out.f.c1 FW.out.f.lt
        have d0 := Ext.cell FW.out.d.c0 FW.out.d.lt
        have d1 := Ext.cell FW.out.d.c1 FW.out.d.lt
        have d2 := Ext.cell FW.out.d.c2 FW.out.d.lt
        have d3 := Ext.cell FW.out.d.c3 FW.out.d.lt
        have a0 := Ext.cell KW.out.bx.c0 KW.out.bx.lt
        have a1 := Ext.cell KW.out.bx.c1 KW.out.bx.lt
        have a2 := Ext.cell KW.out.bx.c2 KW.out.bx.lt
        have a3 := Ext.cell KW.out.bx.c3 KW.out.bx.lt
        dsimp only at a2 a3
        refine wp_region_ext (by kernel_rfl) (by kernel_rfl) ?_
        repeat (go_big_quiet_step (first | (go_at_call 14; with_reducible exact Ext.call_below (CF.out _)) | (go_at_call 14; with_reducible exact Ext.call_below (CG.out _))))
        refine wpQuiet_nil ?_
        intro w' hw'
        obtain ⟨⟨w8, hb8⟩, hw''⟩ := hw'
        dsimp only at hw''
        subst hw''
        clear z0 z1 d0 d1 d2 d3 a0 a1 a2 a3 CF CG KW
        have FY := Lib.hid (FW.out.keep hb8)
        have NY := Lib.hid (NK.out.box.keep hb8)
        have HRY := Lib.hid (HRW.out.below hb8)
        have HBY : Hid (Below V3.heap.size V3 w') := Lib.hid (HBW.out.trans (hb8.mono HBW.out.size))
        clear FW NK HRW HBW hb8
        obtain ⟨Y, hY⟩ : ∃ Y, Y = w' := ⟨_, rfl⟩
        subst hY
        obtain ⟨qk, hqk⟩ : ∃ q, (nd.core.kind == 1) = q := ⟨_, rfl⟩
        obtain ⟨qd, hqd⟩ : ∃ q, (nd.core.doc == 0) = q := ⟨_, rfl⟩
        obtain ⟨qb, hqb⟩ : ∃ q, (base.toList == []) = q := ⟨_, rfl⟩
        obtain ⟨qn, hqn⟩ : ∃ q, (nd.core.name.toList == s.toList) = q := ⟨_, rfl⟩
        obtain ⟨qm, hqm⟩ : ∃ q, (nd.core.name.toList == base.toList) = q := ⟨_, rfl⟩
        obtain ⟨qi, hqi⟩ : ∃ q, (nd.core.is.toList == s.toList) = q := ⟨_, rfl⟩
        have HIB : Hid (ib = (qk && qd && (qb && qn || !qb && qm && qi))) := Lib.hid (by rw [← hib]; unfold isFor; rw [hqk, hqd, hqb, hqn, hqm, hqi])
        clear hib
        have x0 := NY.out.c0
        have x1 := NY.out.c1
        have x2 := NY.out.c2
        have x9 := NY.out.c9
        go_upto_region 14 with fail
        go_cut [20] (fun c wx => c = .bool ib ∧ wx = Y)
        case first =>
          cases qk with
          | false =>
            go_wp2
            go_meet
            exact ⟨by rw [HIB.out]; rfl, rfl⟩
          | true =>
          cases qd with
          | false =>
            go_wp2
            go_meet
            exact ⟨by rw [HIB.out]; rfl, rfl⟩
          | true =>
          cases qb with
          | true =>
            have hb2 : (base.toList != []) = false := by unfold bne; rw [hqb]; rfl
            cases qn
            all_goals
              go_wp2
              go_meet
              exact ⟨by rw [HIB.out]; rfl, rfl⟩
          | false =>
            have hb2 : (base.toList != []) = true := by unfold bne; rw [hqb]; rfl
            cases qm with
            | false =>
              go_wp2
              go_meet
              exact ⟨by rw [HIB.out]; rfl, rfl⟩
            | true =>
            cases qi
            all_goals
              go_wp2
              go_meet
              exact ⟨by rw [HIB.out]; rfl, rfl⟩
        case rest =>
          obtain ⟨rfl, rfl⟩ := hcut
          clear hqk hqd hqb hqn hqm hqi x0 x1 x2 x9 HIB NY
          have z0 := FY.out.f.c0
          have z1 := FY.out.f.c1
          cases ib with
          | false =>
            obtain ⟨e1, e2⟩ := HA.out.2 rfl
            subst e1
            have e3 : (fn == (dl : Int)) = false := beq_eq_false_iff_ne.2 (by omega)
            have CHS : Hid (∀ V, IntRow V ah lh ch H → Calls Tryz.prog 28 #[.slice ah lh ch, .int .i64 k] V fun e w' => e = .returned (.int .i64 0) ∧ V = w') := Lib.hid (fun V h1 => by
              have h := refhas_any ah lh ch H k V h1
              rw [HHAS.out] at h
              exact h)
            clear HA HHAS e2
            go_wp2_with (go_at_call 28; (with_reducible refine (CHS.out _ HRY.out).mono ?_); rintro e w9 ⟨rfl, rfl⟩)
            go_roundw
            case rel => exact ⟨k + 1, by omega, by go_num, HBY⟩
            case measure => simp [intOf]; omega
          | true =>
            obtain ⟨e1, e2⟩ := HA.out.1 rfl
            subst e1
            subst e2
            obtain ⟨v, hv⟩ : ∃ v : Int, ((if true && cf then 1 else 0 : Nat) : Int) = v := ⟨_, rfl⟩
            have CHS : Hid (∀ V, IntRow V ah lh ch H → Calls Tryz.prog 28 #[.slice ah lh ch, .int .i64 k] V fun e w' => e = .returned (.int .i64 v) ∧ V = w') := Lib.hid (fun V h1 => by
              have h := refhas_any ah lh ch H k V h1
              rw [HHAS.out, hv] at h
              exact h)
            have hv1 : (v == 1) = cf := by rw [← hv]; cases cf <;> rfl
            clear HA HHAS hv
            have e4 : ((dl : Int) == (dl : Int)) = true := beq_self_eq_true _
            cases cf
            all_goals
              go_wp2_with (first
                | (go_at_call 28; (with_reducible refine (CHS.out _ HRY.out).mono ?_); rintro e w9 ⟨rfl, rfl⟩)
                | (go_at_call 29; (with_reducible refine (CC.out _ FY.out.f.row).mono ?_); rintro e w9 ⟨rfl, hb⟩; have HBY := Lib.hid (HBY.out.trans (hb.mono HBY.out.size)); clear hb))
              go_roundw
              case rel => exact ⟨k + 1, by omega, by go_num, HBY⟩
              case measure => simp [intOf]; omega
      · have hkd : k = len := by omega
        subst hkd
        go_wp2
        go_ret
        exact ⟨rfl, FR.out.f.below⟩
end Go.Proofs.YtkomeijlljcdgaaGreat
