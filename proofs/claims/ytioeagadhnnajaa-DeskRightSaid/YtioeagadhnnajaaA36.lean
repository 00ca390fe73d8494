/- Texts joined in build order: Ref9May. -/
import Derived.Test.YtioeagadhnnajaaA22
/- instarref09's May. -/
namespace Go.Proofs.Ytioeagadhnnajaa
open Go.RowKit
set_option maxHeartbeats 16000000 in
set_option maxRecDepth 100000 in
theorem refmay9_any (da : Option Addr) (dl dc : Nat) (wa : Option Addr) (wl wc : Nat) (nx : Int) (bz : Bool) (L : List DefD) (M : List WaitD) (m : Int) (s base : ByteArray) (c : Int) (w : World) (hd : DefRow w da dl dc L) (ht : WaitRow w wa wl wc M) (sd : smallL9 L) (st : smallT9 M) (hs : s.size ≤ 1000000) :
    Calls Try.prog 35 #[deskV da dl dc wa wl wc nx bz, .int .i64 m, .string s, .string base, .int .i64 c] w fun e w' => e = .returned (.int .i64 (mayE ⟨L, M, nx, bz⟩ m s.toList base.toList c)) ∧ Below w.heap.size w w' := by
  have DX := Lib.hid (DBox.start (nx := nx) (bz := bz) hd ht)
  have z0 := DX.out.c0
  have z1 := DX.out.c1
  have z2 := DX.out.c2
  have z3 := DX.out.c3
  have hss : s.size ≤ 9223372036854775807 := by omega
  obtain ⟨q0, hq0⟩ : ∃ q, rightK ⟨L, M, nx, bz⟩ = q := ⟨_, rfl⟩
  obtain ⟨q1, hq1⟩ : ∃ q, customL s.toList = q := ⟨_, rfl⟩
  obtain ⟨q2, hq2⟩ : ∃ q, knownL base.toList = q := ⟨_, rfl⟩
  obtain ⟨q3, hq3⟩ : ∃ q, namedZ L s.toList = q := ⟨_, rfl⟩
  obtain ⟨q4, hq4⟩ : ∃ q, classedZ L c = q := ⟨_, rfl⟩
  have RI : Hid (∀ V, DefRow V da dl dc L → WaitRow V wa wl wc M → Calls Try.prog 6 #[deskV da dl dc wa wl wc nx bz] V fun e w' => e = .returned (.bool q0) ∧ Below V.heap.size V w') := Lib.hid (fun V h1 h2 => by
    have h := refright9_any da dl dc wa wl wc nx bz L M V h1 h2 sd st
    rwa [hq0] at h)
  have CU : Hid (∀ V, Calls Try.prog 21 #[.string s] V fun e w' => e = .returned (.bool q1) ∧ Below V.heap.size V w') := Lib.hid (fun V => by
    have h := refcustom_any s V hs
    rwa [hq1] at h)
  have KN : Hid (∀ V, Calls Try.prog 22 #[.string base] V fun e w' => e = .returned (.bool q2) ∧ Below V.heap.size V w') := Lib.hid (fun V => by
    have h := refknown_any base V
    rw [hq2] at h
    exact h.mono (fun e w' h => ⟨h.1, by rw [← h.2]; exact Below.refl _ _⟩))
  have NM : Hid (∀ V, DefRow V da dl dc L → Calls Try.prog 12 #[deskV da dl dc wa wl wc nx bz, .string s] V fun e w' => e = .returned (.int .i64 q3) ∧ Below V.heap.size V w') := Lib.hid (fun V h => by
    have h := refnamed_any da dl dc wa wl wc nx bz L s V h
    rwa [hq3] at h)
  have CL : Hid (∀ V, DefRow V da dl dc L → Calls Try.prog 13 #[deskV da dl dc wa wl wc nx bz, .int .i64 c] V fun e w' => e = .returned (.int .i64 q4) ∧ Below V.heap.size V w') := Lib.hid (fun V h => by
    have h := refclassed_any da dl dc wa wl wc nx bz L c V h
    rwa [hq4] at h)
  have ME : Hid (mayE ⟨L, M, nx, bz⟩ m s.toList base.toList c = if q0 = false ∨ c < 0 ∨ m ≤ c ∨ 11 < c then 1 else if q1 = false then 4 else if 0 ≤ q3 ∨ 0 ≤ q4 then 10 else if base.toList ≠ [] ∧ q2 = false then 6 else if bz = true then 7 else 0) := Lib.hid (by
    unfold mayE
    rw [hq0, hq1, hq2]
    dsimp only
    rw [hq3, hq4])
  clear hq0 hq1 hq2 hq3 hq4 hd ht sd st hs
  by_cases g0 : q0 = false ∨ c < 0 ∨ m ≤ c ∨ 11 < c
  · have HR : Hid (mayE ⟨L, M, nx, bz⟩ m s.toList base.toList c = 1) := Lib.hid (by rw [ME.out, if_pos g0])
    cases q0 with
    | false => clear g0; (go_enter Try.func35, Try.ntmps35; go_wp2_with (first
                                                                                                                              | (go_at_call 6; (with_reducible refine (RI.out _ DX.out.d DX.out.t).mono ?_); rintro e w5 ⟨rfl, hb⟩; (have DX := Lib.hid (DX.out.keep hb); clear z0 z1 z2 z3 hb; have z0 := DX.out.c0; have z1 := DX.out.c1; have z2 := DX.out.c2; have z3 := DX.out.c3))
                                                                                                                              | (go_at_call 21; (with_reducible refine (CU.out _).mono ?_); rintro e w5 ⟨rfl, hb⟩; (have DX := Lib.hid (DX.out.keep hb); clear z0 z1 z2 z3 hb; have z0 := DX.out.c0; have z1 := DX.out.c1; have z2 := DX.out.c2; have z3 := DX.out.c3))
                                                                                                                              | (go_at_call 22; (with_reducible refine (KN.out _).mono ?_); rintro e w5 ⟨rfl, hb⟩; (have DX := Lib.hid (DX.out.keep hb); clear z0 z1 z2 z3 hb; have z0 := DX.out.c0; have z1 := DX.out.c1; have z2 := DX.out.c2; have z3 := DX.out.c3))
                                                                                                                              | (go_at_call 12; (with_reducible refine (NM.out _ DX.out.d).mono ?_); rintro e w5 ⟨rfl, hb⟩; (have DX := Lib.hid (DX.out.keep hb); clear z0 z1 z2 z3 hb; have z0 := DX.out.c0; have z1 := DX.out.c1; have z2 := DX.out.c2; have z3 := DX.out.c3))
                                                                                                                              | (go_at_call 13; (with_reducible refine (CL.out _ DX.out.d).mono ?_); rintro e w5 ⟨rfl, hb⟩; (have DX := Lib.hid (DX.out.keep hb); clear z0 z1 z2 z3 hb; have z0 := DX.out.c0; have z1 := DX.out.c1; have z2 := DX.out.c2; have z3 := DX.out.c3))); go_ret; exact ⟨ret_int HR.out.symm, DX.out.below⟩)
    | true =>
      by_cases d0 : c < 0
      · clear g0; (go_enter Try.func35, Try.ntmps35; go_wp2_with (first
                                                                                                                       | (go_at_call 6; (with_reducible refine (RI.out _ DX.out.d DX.out.t).mono ?_); rintro e w5 ⟨rfl, hb⟩; (have DX := Lib.hid (DX.out.keep hb); clear z0 z1 z2 z3 hb; have z0 := DX.out.c0; have z1 := DX.out.c1; have z2 := DX.out.c2; have z3 := DX.out.c3))
                                                                                                                       | (go_at_call 21; (with_reducible refine (CU.out _).mono ?_); rintro e w5 ⟨rfl, hb⟩; (have DX := Lib.hid (DX.out.keep hb); clear z0 z1 z2 z3 hb; have z0 := DX.out.c0; have z1 := DX.out.c1; have z2 := DX.out.c2; have z3 := DX.out.c3))
                                                                                                                       | (go_at_call 22; (with_reducible refine (KN.out _).mono ?_); rintro e w5 ⟨rfl, hb⟩; (have DX := Lib.hid (DX.out.keep hb); clear z0 z1 z2 z3 hb; have z0 := DX.out.c0; have z1 := DX.out.c1; have z2 := DX.out.c2; have z3 := DX.out.c3))
                                                                                                                       | (go_at_call 12; (with_reducible refine (NM.out _ DX.out.d).mono ?_); rintro e w5 ⟨rfl, hb⟩; (have DX := Lib.hid (DX.out.keep hb); clear z0 z1 z2 z3 hb; have z0 := DX.out.c0; have z1 := DX.out.c1; have z2 := DX.out.c2; have z3 := DX.out.c3))
                                                                                                                       | (go_at_call 13; (with_reducible refine (CL.out _ DX.out.d).mono ?_); rintro e w5 ⟨rfl, hb⟩; (have DX := Lib.hid (DX.out.keep hb); clear z0 z1 z2 z3 hb; have z0 := DX.out.c0; have z1 := DX.out.c1; have z2 := DX.out.c2; have z3 := DX.out.c3))); go_ret; exact ⟨ret_int HR.out.symm, DX.out.below⟩)
      by_cases d1 : m ≤ c
      · clear g0; (go_enter Try.func35, Try.ntmps35; go_wp2_with (first
                                                                                                                       | (go_at_call 6; (with_reducible refine (RI.out _ DX.out.d DX.out.t).mono ?_); rintro e w5 ⟨rfl, hb⟩; (have DX := Lib.hid (DX.out.keep hb); clear z0 z1 z2 z3 hb; have z0 := DX.out.c0; have z1 := DX.out.c1; have z2 := DX.out.c2; have z3 := DX.out.c3))
                                                                                                                       | (go_at_call 21; (with_reducible refine (CU.out _).mono ?_); rintro e w5 ⟨rfl, hb⟩; (have DX := Lib.hid (DX.out.keep hb); clear z0 z1 z2 z3 hb; have z0 := DX.out.c0; have z1 := DX.out.c1; have z2 := DX.out.c2; have z3 := DX.out.c3))
                                                                                                                       | (go_at_call 22; (with_reducible refine (KN.out _).mono ?_); rintro e w5 ⟨rfl, hb⟩; (have DX := Lib.hid (DX.out.keep hb); clear z0 z1 z2 z3 hb; have z0 := DX.out.c0; have z1 := DX.out.c1; have z2 := DX.out.c2; have z3 := DX.out.c3))
                                                                                                                       | (go_at_call 12; (with_reducible refine (NM.out _ DX.out.d).mono ?_); rintro e w5 ⟨rfl, hb⟩; (have DX := Lib.hid (DX.out.keep hb); clear z0 z1 z2 z3 hb; have z0 := DX.out.c0; have z1 := DX.out.c1; have z2 := DX.out.c2; have z3 := DX.out.c3))
                                                                                                                       | (go_at_call 13; (with_reducible refine (CL.out _ DX.out.d).mono ?_); rintro e w5 ⟨rfl, hb⟩; (have DX := Lib.hid (DX.out.keep hb); clear z0 z1 z2 z3 hb; have z0 := DX.out.c0; have z1 := DX.out.c1; have z2 := DX.out.c2; have z3 := DX.out.c3))); go_ret; exact ⟨ret_int HR.out.symm, DX.out.below⟩)
      have d2 : 11 < c := by
        rcases g0 with h | h | h | h
        · cases h
        · omega
        · omega
        · exact h
      clear g0
      (go_enter Try.func35, Try.ntmps35; go_wp2_with (first
                                                                                                           | (go_at_call 6; (with_reducible refine (RI.out _ DX.out.d DX.out.t).mono ?_); rintro e w5 ⟨rfl, hb⟩; (have DX := Lib.hid (DX.out.keep hb); clear z0 z1 z2 z3 hb; have z0 := DX.out.c0; have z1 := DX.out.c1; have z2 := DX.out.c2; have z3 := DX.out.c3))
                                                                                                           | (go_at_call 21; (with_reducible refine (CU.out _).mono ?_); rintro e w5 ⟨rfl, hb⟩; (have DX := Lib.hid (DX.out.keep hb); clear z0 z1 z2 z3 hb; have z0 := DX.out.c0; have z1 := DX.out.c1; have z2 := DX.out.c2; have z3 := DX.out.c3))
                                                                                                           | (go_at_call 22; (with_reducible refine (KN.out _).mono ?_); rintro e w5 ⟨rfl, hb⟩; (have DX := Lib.hid (DX.out.keep hb); clear z0 z1 z2 z3 hb; have z0 := DX.out.c0; have z1 := DX.out.c1; have z2 := DX.out.c2; have z3 := DX.out.c3))
                                                                                                           | (go_at_call 12; (with_reducible refine (NM.out _ DX.out.d).mono ?_); rintro e w5 ⟨rfl, hb⟩; (have DX := Lib.hid (DX.out.keep hb); clear z0 z1 z2 z3 hb; have z0 := DX.out.c0; have z1 := DX.out.c1; have z2 := DX.out.c2; have z3 := DX.out.c3))
                                                                                                           | (go_at_call 13; (with_reducible refine (CL.out _ DX.out.d).mono ?_); rintro e w5 ⟨rfl, hb⟩; (have DX := Lib.hid (DX.out.keep hb); clear z0 z1 z2 z3 hb; have z0 := DX.out.c0; have z1 := DX.out.c1; have z2 := DX.out.c2; have z3 := DX.out.c3))); go_ret; exact ⟨ret_int HR.out.symm, DX.out.below⟩)
  obtain rfl : q0 = true := by cases q0 with | true => rfl | false => exact absurd (.inl rfl) g0
  have d0 : ¬ c < 0 := fun h => g0 (.inr (.inl h))
  have d1 : ¬ m ≤ c := fun h => g0 (.inr (.inr (.inl h)))
  have d2 : ¬ 11 < c := fun h => g0 (.inr (.inr (.inr h)))
  have G0 := Lib.hid g0
  clear g0
  cases q1 with
  | false =>
    have HR : Hid (mayE ⟨L, M, nx, bz⟩ m s.toList base.toList c = 4) := Lib.hid (by rw [ME.out, if_neg G0.out, if_pos rfl])
    (go_enter Try.func35, Try.ntmps35; go_wp2_with (first
                                                                                                         | (go_at_call 6; (with_reducible refine (RI.out _ DX.out.d DX.out.t).mono ?_); rintro e w5 ⟨rfl, hb⟩; (have DX := Lib.hid (DX.out.keep hb); clear z0 z1 z2 z3 hb; have z0 := DX.out.c0; have z1 := DX.out.c1; have z2 := DX.out.c2; have z3 := DX.out.c3))
                                                                                                         | (go_at_call 21; (with_reducible refine (CU.out _).mono ?_); rintro e w5 ⟨rfl, hb⟩; (have DX := Lib.hid (DX.out.keep hb); clear z0 z1 z2 z3 hb; have z0 := DX.out.c0; have z1 := DX.out.c1; have z2 := DX.out.c2; have z3 := DX.out.c3))
                                                                                                         | (go_at_call 22; (with_reducible refine (KN.out _).mono ?_); rintro e w5 ⟨rfl, hb⟩; (have DX := Lib.hid (DX.out.keep hb); clear z0 z1 z2 z3 hb; have z0 := DX.out.c0; have z1 := DX.out.c1; have z2 := DX.out.c2; have z3 := DX.out.c3))
                                                                                                         | (go_at_call 12; (with_reducible refine (NM.out _ DX.out.d).mono ?_); rintro e w5 ⟨rfl, hb⟩; (have DX := Lib.hid (DX.out.keep hb); clear z0 z1 z2 z3 hb; have z0 := DX.out.c0; have z1 := DX.out.c1; have z2 := DX.out.c2; have z3 := DX.out.c3))
                                                                                                         | (go_at_call 13; (with_reducible refine (CL.out _ DX.out.d).mono ?_); rintro e w5 ⟨rfl, hb⟩; (have DX := Lib.hid (DX.out.keep hb); clear z0 z1 z2 z3 hb; have z0 := DX.out.c0; have z1 := DX.out.c1; have z2 := DX.out.c2; have z3 := DX.out.c3))); go_ret; exact ⟨ret_int HR.out.symm, DX.out.below⟩)
  | true =>
  by_cases d3 : 0 ≤ q3
  · have HR : Hid (mayE ⟨L, M, nx, bz⟩ m s.toList base.toList c = 10) := Lib.hid (by rw [ME.out, if_neg G0.out, if_neg (by decide), if_pos (.inl d3)])
    (go_enter Try.func35, Try.ntmps35; go_wp2_with (first
                                                                                                         | (go_at_call 6; (with_reducible refine (RI.out _ DX.out.d DX.out.t).mono ?_); rintro e w5 ⟨rfl, hb⟩; (have DX := Lib.hid (DX.out.keep hb); clear z0 z1 z2 z3 hb; have z0 := DX.out.c0; have z1 := DX.out.c1; have z2 := DX.out.c2; have z3 := DX.out.c3))
                                                                                                         | (go_at_call 21; (with_reducible refine (CU.out _).mono ?_); rintro e w5 ⟨rfl, hb⟩; (have DX := Lib.hid (DX.out.keep hb); clear z0 z1 z2 z3 hb; have z0 := DX.out.c0; have z1 := DX.out.c1; have z2 := DX.out.c2; have z3 := DX.out.c3))
                                                                                                         | (go_at_call 22; (with_reducible refine (KN.out _).mono ?_); rintro e w5 ⟨rfl, hb⟩; (have DX := Lib.hid (DX.out.keep hb); clear z0 z1 z2 z3 hb; have z0 := DX.out.c0; have z1 := DX.out.c1; have z2 := DX.out.c2; have z3 := DX.out.c3))
                                                                                                         | (go_at_call 12; (with_reducible refine (NM.out _ DX.out.d).mono ?_); rintro e w5 ⟨rfl, hb⟩; (have DX := Lib.hid (DX.out.keep hb); clear z0 z1 z2 z3 hb; have z0 := DX.out.c0; have z1 := DX.out.c1; have z2 := DX.out.c2; have z3 := DX.out.c3))
                                                                                                         | (go_at_call 13; (with_reducible refine (CL.out _ DX.out.d).mono ?_); rintro e w5 ⟨rfl, hb⟩; (have DX := Lib.hid (DX.out.keep hb); clear z0 z1 z2 z3 hb; have z0 := DX.out.c0; have z1 := DX.out.c1; have z2 := DX.out.c2; have z3 := DX.out.c3))); go_ret; exact ⟨ret_int HR.out.symm, DX.out.below⟩)
  by_cases d4 : 0 ≤ q4
  · have HR : Hid (mayE ⟨L, M, nx, bz⟩ m s.toList base.toList c = 10) := Lib.hid (by rw [ME.out, if_neg G0.out, if_neg (by decide), if_pos (.inr d4)])
    (go_enter Try.func35, Try.ntmps35; go_wp2_with (first
                                                                                                         | (go_at_call 6; (with_reducible refine (RI.out _ DX.out.d DX.out.t).mono ?_); rintro e w5 ⟨rfl, hb⟩; (have DX := Lib.hid (DX.out.keep hb); clear z0 z1 z2 z3 hb; have z0 := DX.out.c0; have z1 := DX.out.c1; have z2 := DX.out.c2; have z3 := DX.out.c3))
                                                                                                         | (go_at_call 21; (with_reducible refine (CU.out _).mono ?_); rintro e w5 ⟨rfl, hb⟩; (have DX := Lib.hid (DX.out.keep hb); clear z0 z1 z2 z3 hb; have z0 := DX.out.c0; have z1 := DX.out.c1; have z2 := DX.out.c2; have z3 := DX.out.c3))
                                                                                                         | (go_at_call 22; (with_reducible refine (KN.out _).mono ?_); rintro e w5 ⟨rfl, hb⟩; (have DX := Lib.hid (DX.out.keep hb); clear z0 z1 z2 z3 hb; have z0 := DX.out.c0; have z1 := DX.out.c1; have z2 := DX.out.c2; have z3 := DX.out.c3))
                                                                                                         | (go_at_call 12; (with_reducible refine (NM.out _ DX.out.d).mono ?_); rintro e w5 ⟨rfl, hb⟩; (have DX := Lib.hid (DX.out.keep hb); clear z0 z1 z2 z3 hb; have z0 := DX.out.c0; have z1 := DX.out.c1; have z2 := DX.out.c2; have z3 := DX.out.c3))
                                                                                                         | (go_at_call 13; (with_reducible refine (CL.out _ DX.out.d).mono ?_); rintro e w5 ⟨rfl, hb⟩; (have DX := Lib.hid (DX.out.keep hb); clear z0 z1 z2 z3 hb; have z0 := DX.out.c0; have z1 := DX.out.c1; have z2 := DX.out.c2; have z3 := DX.out.c3))); go_ret; exact ⟨ret_int HR.out.symm, DX.out.below⟩)
  have G1 : Hid (¬ (0 ≤ q3 ∨ 0 ≤ q4)) := Lib.hid (by omega)
  obtain ⟨e1, he1, HE⟩ : ∃ e, (base.toList == []) = e ∧ Hid (e = true ↔ base.toList = []) := ⟨_, rfl, Lib.hid beq_iff_eq⟩
  have he2 : (base.toList != []) = !e1 := by unfold bne; rw [he1]
  cases e1 with
  | true =>
    have he2 : (base.toList != []) = false := he2
    have G2 : Hid (¬ (base.toList ≠ [] ∧ q2 = false)) := Lib.hid (fun h => h.1 (HE.out.1 rfl))
    cases bz with
    | true =>
      have HR : Hid (mayE ⟨L, M, nx, true⟩ m s.toList base.toList c = 7) := Lib.hid (by rw [ME.out, if_neg G0.out, if_neg (by decide), if_neg G1.out, if_neg G2.out, if_pos rfl])
      (go_enter Try.func35, Try.ntmps35; go_wp2_with (first
                                                                                                           | (go_at_call 6; (with_reducible refine (RI.out _ DX.out.d DX.out.t).mono ?_); rintro e w5 ⟨rfl, hb⟩; (have DX := Lib.hid (DX.out.keep hb); clear z0 z1 z2 z3 hb; have z0 := DX.out.c0; have z1 := DX.out.c1; have z2 := DX.out.c2; have z3 := DX.out.c3))
                                                                                                           | (go_at_call 21; (with_reducible refine (CU.out _).mono ?_); rintro e w5 ⟨rfl, hb⟩; (have DX := Lib.hid (DX.out.keep hb); clear z0 z1 z2 z3 hb; have z0 := DX.out.c0; have z1 := DX.out.c1; have z2 := DX.out.c2; have z3 := DX.out.c3))
                                                                                                           | (go_at_call 22; (with_reducible refine (KN.out _).mono ?_); rintro e w5 ⟨rfl, hb⟩; (have DX := Lib.hid (DX.out.keep hb); clear z0 z1 z2 z3 hb; have z0 := DX.out.c0; have z1 := DX.out.c1; have z2 := DX.out.c2; have z3 := DX.out.c3))
                                                                                                           | (go_at_call 12; (with_reducible refine (NM.out _ DX.out.d).mono ?_); rintro e w5 ⟨rfl, hb⟩; (have DX := Lib.hid (DX.out.keep hb); clear z0 z1 z2 z3 hb; have z0 := DX.out.c0; have z1 := DX.out.c1; have z2 := DX.out.c2; have z3 := DX.out.c3))
                                                                                                           | (go_at_call 13; (with_reducible refine (CL.out _ DX.out.d).mono ?_); rintro e w5 ⟨rfl, hb⟩; (have DX := Lib.hid (DX.out.keep hb); clear z0 z1 z2 z3 hb; have z0 := DX.out.c0; have z1 := DX.out.c1; have z2 := DX.out.c2; have z3 := DX.out.c3))); go_ret; exact ⟨ret_int HR.out.symm, DX.out.below⟩)
    | false =>
      have HR : Hid (mayE ⟨L, M, nx, false⟩ m s.toList base.toList c = 0) := Lib.hid (by rw [ME.out, if_neg G0.out, if_neg (by decide), if_neg G1.out, if_neg G2.out, if_neg (by decide)])
      (go_enter Try.func35, Try.ntmps35; go_wp2_with (first
                                                                                                           | (go_at_call 6; (with_reducible refine (RI.out _ DX.out.d DX.out.t).mono ?_); rintro e w5 ⟨rfl, hb⟩; (have DX := Lib.hid (DX.out.keep hb); clear z0 z1 z2 z3 hb; have z0 := DX.out.c0; have z1 := DX.out.c1; have z2 := DX.out.c2; have z3 := DX.out.c3))
                                                                                                           | (go_at_call 21; (with_reducible refine (CU.out _).mono ?_); rintro e w5 ⟨rfl, hb⟩; (have DX := Lib.hid (DX.out.keep hb); clear z0 z1 z2 z3 hb; have z0 := DX.out.c0; have z1 := DX.out.c1; have z2 := DX.out.c2; have z3 := DX.out.c3))
                                                                                                           | (go_at_call 22; (with_reducible refine (KN.out _).mono ?_); rintro e w5 ⟨rfl, hb⟩; (have DX := Lib.hid (DX.out.keep hb); clear z0 z1 z2 z3 hb; have z0 := DX.out.c0; have z1 := DX.out.c1; have z2 := DX.out.c2; have z3 := DX.out.c3))
                                                                                                           | (go_at_call 12; (with_reducible refine (NM.out _ DX.out.d).mono ?_); rintro e w5 ⟨rfl, hb⟩; (have DX := Lib.hid (DX.out.keep hb); clear z0 z1 z2 z3 hb; have z0 := DX.out.c0; have z1 := DX.out.c1; have z2 := DX.out.c2; have z3 := DX.out.c3))
                                                                                                           | (go_at_call 13; (with_reducible refine (CL.out _ DX.out.d).mono ?_); rintro e w5 ⟨rfl, hb⟩; (have DX := Lib.hid (DX.out.keep hb); clear z0 z1 z2 z3 hb; have z0 := DX.out.c0; have z1 := DX.out.c1; have z2 := DX.out.c2; have z3 := DX.out.c3))); go_ret; exact ⟨ret_int HR.out.symm, DX.out.below⟩)
  | false =>
    have he2 : (base.toList != []) = true := he2
    have HN : Hid (base.toList ≠ []) := Lib.hid (fun h => by have := HE.out.2 h; cases this)
    cases q2 with
    | false =>
      have HR : Hid (mayE ⟨L, M, nx, bz⟩ m s.toList base.toList c = 6) := Lib.hid (by rw [ME.out, if_neg G0.out, if_neg (by decide), if_neg G1.out, if_pos ⟨HN.out, rfl⟩])
      (go_enter Try.func35, Try.ntmps35; go_wp2_with (first
                                                                                                           | (go_at_call 6; (with_reducible refine (RI.out _ DX.out.d DX.out.t).mono ?_); rintro e w5 ⟨rfl, hb⟩; (have DX := Lib.hid (DX.out.keep hb); clear z0 z1 z2 z3 hb; have z0 := DX.out.c0; have z1 := DX.out.c1; have z2 := DX.out.c2; have z3 := DX.out.c3))
                                                                                                           | (go_at_call 21; (with_reducible refine (CU.out _).mono ?_); rintro e w5 ⟨rfl, hb⟩; (have DX := Lib.hid (DX.out.keep hb); clear z0 z1 z2 z3 hb; have z0 := DX.out.c0; have z1 := DX.out.c1; have z2 := DX.out.c2; have z3 := DX.out.c3))
                                                                                                           | (go_at_call 22; (with_reducible refine (KN.out _).mono ?_); rintro e w5 ⟨rfl, hb⟩; (have DX := Lib.hid (DX.out.keep hb); clear z0 z1 z2 z3 hb; have z0 := DX.out.c0; have z1 := DX.out.c1; have z2 := DX.out.c2; have z3 := DX.out.c3))
                                                                                                           | (go_at_call 12; (with_reducible refine (NM.out _ DX.out.d).mono ?_); rintro e w5 ⟨rfl, hb⟩; (have DX := Lib.hid (DX.out.keep hb); clear z0 z1 z2 z3 hb; have z0 := DX.out.c0; have z1 := DX.out.c1; have z2 := DX.out.c2; have z3 := DX.out.c3))
                                                                                                           | (go_at_call 13; (with_reducible refine (CL.out _ DX.out.d).mono ?_); rintro e w5 ⟨rfl, hb⟩; (have DX := Lib.hid (DX.out.keep hb); clear z0 z1 z2 z3 hb; have z0 := DX.out.c0; have z1 := DX.out.c1; have z2 := DX.out.c2; have z3 := DX.out.c3))); go_ret; exact ⟨ret_int HR.out.symm, DX.out.below⟩)
    | true =>
      have G2 : Hid (¬ (base.toList ≠ [] ∧ true = false)) := Lib.hid (fun h => by cases h.2)
      cases bz with
      | true =>
        have HR : Hid (mayE ⟨L, M, nx, true⟩ m s.toList base.toList c = 7) := Lib.hid (by rw [ME.out, if_neg G0.out, if_neg (by decide), if_neg G1.out, if_neg G2.out, if_pos rfl])
        (go_enter Try.func35, Try.ntmps35; go_wp2_with (first
                                                                                                             | (go_at_call 6; (with_reducible refine (RI.out _ DX.out.d DX.out.t).mono ?_); rintro e w5 ⟨rfl, hb⟩; (have DX := Lib.hid (DX.out.keep hb); clear z0 z1 z2 z3 hb; have z0 := DX.out.c0; have z1 := DX.out.c1; have z2 := DX.out.c2; have z3 := DX.out.c3))
                                                                                                             | (go_at_call 21; (with_reducible refine (CU.out _).mono ?_); rintro e w5 ⟨rfl, hb⟩; (have DX := Lib.hid (DX.out.keep hb); clear z0 z1 z2 z3 hb; have z0 := DX.out.c0; have z1 := DX.out.c1; have z2 := DX.out.c2; have z3 := DX.out.c3))
                                                                                                             | (go_at_call 22; (with_reducible refine (KN.out _).mono ?_); rintro e w5 ⟨rfl, hb⟩; (have DX := Lib.hid (DX.out.keep hb); clear z0 z1 z2 z3 hb; have z0 := DX.out.c0; have z1 := DX.out.c1; have z2 := DX.out.c2; have z3 := DX.out.c3))
                                                                                                             | (go_at_call 12; (with_reducible refine (NM.out _ DX.out.d).mono ?_); rintro e w5 ⟨rfl, hb⟩; (have DX := Lib.hid (DX.out.keep hb); clear z0 z1 z2 z3 hb; have z0 := DX.out.c0; have z1 := DX.out.c1; have z2 := DX.out.c2; have z3 := DX.out.c3))
                                                                                                             | (go_at_call 13; (with_reducible refine (CL.out _ DX.out.d).mono ?_); rintro e w5 ⟨rfl, hb⟩; (have DX := Lib.hid (DX.out.keep hb); clear z0 z1 z2 z3 hb; have z0 := DX.out.c0; have z1 := DX.out.c1; have z2 := DX.out.c2; have z3 := DX.out.c3))); go_ret; exact ⟨ret_int HR.out.symm, DX.out.below⟩)
      | false =>
        have HR : Hid (mayE ⟨L, M, nx, false⟩ m s.toList base.toList c = 0) := Lib.hid (by rw [ME.out, if_neg G0.out, if_neg (by decide), if_neg G1.out, if_neg G2.out, if_neg (by decide)])
        (go_enter Try.func35, Try.ntmps35; go_wp2_with (first
                                                                                                             | (go_at_call 6; (with_reducible refine (RI.out _ DX.out.d DX.out.t).mono ?_); rintro e w5 ⟨rfl, hb⟩; (have DX := Lib.hid (DX.out.keep hb); clear z0 z1 z2 z3 hb; have z0 := DX.out.c0; have z1 := DX.out.c1; have z2 := DX.out.c2; have z3 := DX.out.c3))
                                                                                                             | (go_at_call 21; (with_reducible refine (CU.out _).mono ?_); rintro e w5 ⟨rfl, hb⟩; (have DX := Lib.hid (DX.out.keep hb); clear z0 z1 z2 z3 hb; have z0 := DX.out.c0; have z1 := DX.out.c1; have z2 := DX.out.c2; have z3 := DX.out.c3))
                                                                                                             | (go_at_call 22; (with_reducible refine (KN.out _).mono ?_); rintro e w5 ⟨rfl, hb⟩; (have DX := Lib.hid (DX.out.keep hb); clear z0 z1 z2 z3 hb; have z0 := DX.out.c0; have z1 := DX.out.c1; have z2 := DX.out.c2; have z3 := DX.out.c3))
                                                                                                             | (go_at_call 12; (with_reducible refine (NM.out _ DX.out.d).mono ?_); rintro e w5 ⟨rfl, hb⟩; (have DX := Lib.hid (DX.out.keep hb); clear z0 z1 z2 z3 hb; have z0 := DX.out.c0; have z1 := DX.out.c1; have z2 := DX.out.c2; have z3 := DX.out.c3))
                                                                                                             | (go_at_call 13; (with_reducible refine (CL.out _ DX.out.d).mono ?_); rintro e w5 ⟨rfl, hb⟩; (have DX := Lib.hid (DX.out.keep hb); clear z0 z1 z2 z3 hb; have z0 := DX.out.c0; have z1 := DX.out.c1; have z2 := DX.out.c2; have z3 := DX.out.c3))); go_ret; exact ⟨ret_int HR.out.symm, DX.out.below⟩)
end Go.Proofs.Ytioeagadhnnajaa
