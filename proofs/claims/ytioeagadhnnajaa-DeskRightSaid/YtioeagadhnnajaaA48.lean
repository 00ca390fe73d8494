/- Texts joined in build order: DeskRightLaw. -/
import Derived.Test.YtioeagadhnnajaaA38
import Derived.Test.YtioeagadhnnajaaA32
import Derived.Test.YtioeagadhnnajaaA33
import Derived.Test.YtioeagadhnnajaaA34
import Derived.Test.YtioeagadhnnajaaA35
import Derived.Test.YtioeagadhnnajaaA07
import Derived.Test.YtioeagadhnnajaaA22
import Derived.Test.YtioeagadhnnajaaA18
import Derived.Test.YtioeagadhnnajaaA16
import Derived.Deep.QuietTactic
import Derived.BigQuiet
import Derived.Deep.CutBlock
/- The walk of instarlaw09's DeskRight, over what is asked of package desk and of the reference's Add and Await. -/
namespace Go.Proofs.Ytioeagadhnnajaa
open Go.RowKit
set_option maxHeartbeats 4000000 in
set_option maxRecDepth 100000 in
theorem deskRight_walk (F : DeskFns) (G : Ref9Fns) (da : Option Addr) (dl dc : Nat) (wa : Option Addr) (wl wq : Nat) (nx : Int) (bz : Bool) (L : List DefD) (M : List WaitD) (m : Int) (s base i : ByteArray) (c : Int) (w : World) (h : DeskAt w da dl dc wa wl wq ⟨L, M, nx, bz⟩)
    (_ : In64 m) (hs : s.size ≤ maxLen) (hbs : base.size ≤ maxLen) (hi : i.size ≤ maxLen) (hc64 : In64 c) :
    Calls Try.prog 3 #[deskV da dl dc wa wl wq nx bz, .int .i64 m, .string s, .string base, .string i, .int .i64 c] w fun e w' => e = .returned (.bool true) ∧ Below w.heap.size w w' := by
  have DX := Lib.hid (DBox.start (nx := nx) (bz := bz) h.d h.t)
  have z0 := DX.out.c0
  have z1 := DX.out.c1
  have z2 := DX.out.c2
  have z3 := DX.out.c3
  have HN := Lib.hid h.n
  have AW : Hid (∀ V, Calls Try.prog 4 #[] V fun e w' => e = .returned (.bool true) ∧ Below V.heap.size V w') := Lib.hid (fun V => awake9_any F V)
  obtain ⟨q0, hq0⟩ : ∃ q, shortK L M = q := ⟨_, rfl⟩
  have SH : Hid (∀ V, DefRow V da dl dc L → WaitRow V wa wl wq M → Calls Try.prog 5 #[deskV da dl dc wa wl wq nx bz] V fun e w' => e = .returned (.bool q0) ∧ Below V.heap.size V w') := Lib.hid (fun V h1 h2 => by
    have h := refshort9_any da dl dc wa wl wq nx bz L M V h1 h2
    rw [hq0] at h
    exact h)
  have n1 : s.size ≤ 9223372036854775807 := by unfold maxLen at hs; omega
  have n3 : base.size ≤ 9223372036854775807 := by unfold maxLen at hbs; omega
  have n6 : i.size ≤ 9223372036854775807 := by unfold maxLen at hi; omega
  have SZ := Lib.hid (⟨hs, hbs, hi⟩ : s.size ≤ maxLen ∧ base.size ≤ maxLen ∧ i.size ≤ maxLen)
  have IN := Lib.hid hc64
  have HF := Lib.hid F
  have HG := Lib.hid G
  clear h hs hbs hi hc64 F G
  cases q0 with
  | false => clear hq0; (go_enter Try.func3, Try.ntmps3; go_wp2_with (first
                                                                                                                                         | (go_at_call 4; (with_reducible refine (AW.out _).mono ?_); rintro e w5 ⟨rfl, hb⟩; (clear z0 z1 z2 z3; have DX := Lib.hid (DX.out.keep hb); have z0 := DX.out.c0; have z1 := DX.out.c1; have z2 := DX.out.c2; have z3 := DX.out.c3; clear hb))
                                                                                                                                         | (go_at_call 5; (with_reducible refine (SH.out _ DX.out.d DX.out.t).mono ?_); rintro e w5 ⟨rfl, hb⟩; (clear z0 z1 z2 z3; have DX := Lib.hid (DX.out.keep hb); have z0 := DX.out.c0; have z1 := DX.out.c1; have z2 := DX.out.c2; have z3 := DX.out.c3; clear hb))
                                                                                                                                         | (go_at_call 6; (with_reducible refine (RR.out _ DX.out.d DX.out.t).mono ?_); rintro e w5 ⟨rfl, hb⟩; (clear z0 z1 z2 z3; have DX := Lib.hid (DX.out.keep hb); have z0 := DX.out.c0; have z1 := DX.out.c1; have z2 := DX.out.c2; have z3 := DX.out.c3; clear hb))
                                                                                                                                         | (go_at_call 10; (with_reducible refine (RD.out _ DX.out.d DX.out.t).mono ?_); rintro e w5 ⟨rfl, hb⟩; (clear z0 z1 z2 z3; have DX := Lib.hid (DX.out.keep hb); have z0 := DX.out.c0; have z1 := DX.out.c1; have z2 := DX.out.c2; have z3 := DX.out.c3; clear hb))
                                                                                                                                         | (go_at_call 11; (with_reducible refine (RF.out _ DX.out.d DX.out.t).mono ?_); rintro e w5 ⟨rfl, hb⟩; (clear z0 z1 z2 z3; have DX := Lib.hid (DX.out.keep hb); have z0 := DX.out.c0; have z1 := DX.out.c1; have z2 := DX.out.c2; have z3 := DX.out.c3; clear hb))
                                                                                                                                         | (go_at_call 12; (with_reducible refine (RN.out _ DX.out.d DX.out.t).mono ?_); rintro e w5 ⟨rfl, hb⟩; (clear z0 z1 z2 z3; have DX := Lib.hid (DX.out.keep hb); have z0 := DX.out.c0; have z1 := DX.out.c1; have z2 := DX.out.c2; have z3 := DX.out.c3; clear hb))
                                                                                                                                         | (go_at_call 13; (with_reducible refine (RC.out _ DX.out.d DX.out.t).mono ?_); rintro e w5 ⟨rfl, hb⟩; (clear z0 z1 z2 z3; have DX := Lib.hid (DX.out.keep hb); have z0 := DX.out.c0; have z1 := DX.out.c1; have z2 := DX.out.c2; have z3 := DX.out.c3; clear hb))); go_ret; exact ⟨rfl, DX.out.below⟩)
  | true =>
  have HQ := Lib.hid hq0
  have HSH := Lib.hid (shortK_iff.1 hq0)
  have SM := Lib.hid (short_small hq0)
  clear hq0
  by_cases d1 : (300 : Int) < (s.size : Int)
  · (go_enter Try.func3, Try.ntmps3; go_wp2_with (first
                                                                                                                     | (go_at_call 4; (with_reducible refine (AW.out _).mono ?_); rintro e w5 ⟨rfl, hb⟩; (clear z0 z1 z2 z3; have DX := Lib.hid (DX.out.keep hb); have z0 := DX.out.c0; have z1 := DX.out.c1; have z2 := DX.out.c2; have z3 := DX.out.c3; clear hb))
                                                                                                                     | (go_at_call 5; (with_reducible refine (SH.out _ DX.out.d DX.out.t).mono ?_); rintro e w5 ⟨rfl, hb⟩; (clear z0 z1 z2 z3; have DX := Lib.hid (DX.out.keep hb); have z0 := DX.out.c0; have z1 := DX.out.c1; have z2 := DX.out.c2; have z3 := DX.out.c3; clear hb))
                                                                                                                     | (go_at_call 6; (with_reducible refine (RR.out _ DX.out.d DX.out.t).mono ?_); rintro e w5 ⟨rfl, hb⟩; (clear z0 z1 z2 z3; have DX := Lib.hid (DX.out.keep hb); have z0 := DX.out.c0; have z1 := DX.out.c1; have z2 := DX.out.c2; have z3 := DX.out.c3; clear hb))
                                                                                                                     | (go_at_call 10; (with_reducible refine (RD.out _ DX.out.d DX.out.t).mono ?_); rintro e w5 ⟨rfl, hb⟩; (clear z0 z1 z2 z3; have DX := Lib.hid (DX.out.keep hb); have z0 := DX.out.c0; have z1 := DX.out.c1; have z2 := DX.out.c2; have z3 := DX.out.c3; clear hb))
                                                                                                                     | (go_at_call 11; (with_reducible refine (RF.out _ DX.out.d DX.out.t).mono ?_); rintro e w5 ⟨rfl, hb⟩; (clear z0 z1 z2 z3; have DX := Lib.hid (DX.out.keep hb); have z0 := DX.out.c0; have z1 := DX.out.c1; have z2 := DX.out.c2; have z3 := DX.out.c3; clear hb))
                                                                                                                     | (go_at_call 12; (with_reducible refine (RN.out _ DX.out.d DX.out.t).mono ?_); rintro e w5 ⟨rfl, hb⟩; (clear z0 z1 z2 z3; have DX := Lib.hid (DX.out.keep hb); have z0 := DX.out.c0; have z1 := DX.out.c1; have z2 := DX.out.c2; have z3 := DX.out.c3; clear hb))
                                                                                                                     | (go_at_call 13; (with_reducible refine (RC.out _ DX.out.d DX.out.t).mono ?_); rintro e w5 ⟨rfl, hb⟩; (clear z0 z1 z2 z3; have DX := Lib.hid (DX.out.keep hb); have z0 := DX.out.c0; have z1 := DX.out.c1; have z2 := DX.out.c2; have z3 := DX.out.c3; clear hb))); go_ret; exact ⟨rfl, DX.out.below⟩)
  by_cases d3 : (300 : Int) < (base.size : Int)
  · (go_enter Try.func3, Try.ntmps3; go_wp2_with (first
                                                                                                                     | (go_at_call 4; (with_reducible refine (AW.out _).mono ?_); rintro e w5 ⟨rfl, hb⟩; (clear z0 z1 z2 z3; have DX := Lib.hid (DX.out.keep hb); have z0 := DX.out.c0; have z1 := DX.out.c1; have z2 := DX.out.c2; have z3 := DX.out.c3; clear hb))
                                                                                                                     | (go_at_call 5; (with_reducible refine (SH.out _ DX.out.d DX.out.t).mono ?_); rintro e w5 ⟨rfl, hb⟩; (clear z0 z1 z2 z3; have DX := Lib.hid (DX.out.keep hb); have z0 := DX.out.c0; have z1 := DX.out.c1; have z2 := DX.out.c2; have z3 := DX.out.c3; clear hb))
                                                                                                                     | (go_at_call 6; (with_reducible refine (RR.out _ DX.out.d DX.out.t).mono ?_); rintro e w5 ⟨rfl, hb⟩; (clear z0 z1 z2 z3; have DX := Lib.hid (DX.out.keep hb); have z0 := DX.out.c0; have z1 := DX.out.c1; have z2 := DX.out.c2; have z3 := DX.out.c3; clear hb))
                                                                                                                     | (go_at_call 10; (with_reducible refine (RD.out _ DX.out.d DX.out.t).mono ?_); rintro e w5 ⟨rfl, hb⟩; (clear z0 z1 z2 z3; have DX := Lib.hid (DX.out.keep hb); have z0 := DX.out.c0; have z1 := DX.out.c1; have z2 := DX.out.c2; have z3 := DX.out.c3; clear hb))
                                                                                                                     | (go_at_call 11; (with_reducible refine (RF.out _ DX.out.d DX.out.t).mono ?_); rintro e w5 ⟨rfl, hb⟩; (clear z0 z1 z2 z3; have DX := Lib.hid (DX.out.keep hb); have z0 := DX.out.c0; have z1 := DX.out.c1; have z2 := DX.out.c2; have z3 := DX.out.c3; clear hb))
                                                                                                                     | (go_at_call 12; (with_reducible refine (RN.out _ DX.out.d DX.out.t).mono ?_); rintro e w5 ⟨rfl, hb⟩; (clear z0 z1 z2 z3; have DX := Lib.hid (DX.out.keep hb); have z0 := DX.out.c0; have z1 := DX.out.c1; have z2 := DX.out.c2; have z3 := DX.out.c3; clear hb))
                                                                                                                     | (go_at_call 13; (with_reducible refine (RC.out _ DX.out.d DX.out.t).mono ?_); rintro e w5 ⟨rfl, hb⟩; (clear z0 z1 z2 z3; have DX := Lib.hid (DX.out.keep hb); have z0 := DX.out.c0; have z1 := DX.out.c1; have z2 := DX.out.c2; have z3 := DX.out.c3; clear hb))); go_ret; exact ⟨rfl, DX.out.below⟩)
  by_cases d6 : (300 : Int) < (i.size : Int)
  · (go_enter Try.func3, Try.ntmps3; go_wp2_with (first
                                                                                                                     | (go_at_call 4; (with_reducible refine (AW.out _).mono ?_); rintro e w5 ⟨rfl, hb⟩; (clear z0 z1 z2 z3; have DX := Lib.hid (DX.out.keep hb); have z0 := DX.out.c0; have z1 := DX.out.c1; have z2 := DX.out.c2; have z3 := DX.out.c3; clear hb))
                                                                                                                     | (go_at_call 5; (with_reducible refine (SH.out _ DX.out.d DX.out.t).mono ?_); rintro e w5 ⟨rfl, hb⟩; (clear z0 z1 z2 z3; have DX := Lib.hid (DX.out.keep hb); have z0 := DX.out.c0; have z1 := DX.out.c1; have z2 := DX.out.c2; have z3 := DX.out.c3; clear hb))
                                                                                                                     | (go_at_call 6; (with_reducible refine (RR.out _ DX.out.d DX.out.t).mono ?_); rintro e w5 ⟨rfl, hb⟩; (clear z0 z1 z2 z3; have DX := Lib.hid (DX.out.keep hb); have z0 := DX.out.c0; have z1 := DX.out.c1; have z2 := DX.out.c2; have z3 := DX.out.c3; clear hb))
                                                                                                                     | (go_at_call 10; (with_reducible refine (RD.out _ DX.out.d DX.out.t).mono ?_); rintro e w5 ⟨rfl, hb⟩; (clear z0 z1 z2 z3; have DX := Lib.hid (DX.out.keep hb); have z0 := DX.out.c0; have z1 := DX.out.c1; have z2 := DX.out.c2; have z3 := DX.out.c3; clear hb))
                                                                                                                     | (go_at_call 11; (with_reducible refine (RF.out _ DX.out.d DX.out.t).mono ?_); rintro e w5 ⟨rfl, hb⟩; (clear z0 z1 z2 z3; have DX := Lib.hid (DX.out.keep hb); have z0 := DX.out.c0; have z1 := DX.out.c1; have z2 := DX.out.c2; have z3 := DX.out.c3; clear hb))
                                                                                                                     | (go_at_call 12; (with_reducible refine (RN.out _ DX.out.d DX.out.t).mono ?_); rintro e w5 ⟨rfl, hb⟩; (clear z0 z1 z2 z3; have DX := Lib.hid (DX.out.keep hb); have z0 := DX.out.c0; have z1 := DX.out.c1; have z2 := DX.out.c2; have z3 := DX.out.c3; clear hb))
                                                                                                                     | (go_at_call 13; (with_reducible refine (RC.out _ DX.out.d DX.out.t).mono ?_); rintro e w5 ⟨rfl, hb⟩; (clear z0 z1 z2 z3; have DX := Lib.hid (DX.out.keep hb); have z0 := DX.out.c0; have z1 := DX.out.c1; have z2 := DX.out.c2; have z3 := DX.out.c3; clear hb))); go_ret; exact ⟨rfl, DX.out.below⟩)
  obtain ⟨rt, hrt⟩ : ∃ r, rightK ⟨L, M, nx, bz⟩ = r := ⟨_, rfl⟩
  obtain ⟨x1, hx1⟩ : ∃ x, findZ2 L s.toList i.toList = x := ⟨_, rfl⟩
  obtain ⟨x2, hx2⟩ : ∃ x, namedZ L s.toList = x := ⟨_, rfl⟩
  obtain ⟨x3, hx3⟩ : ∃ x, classedZ L c = x := ⟨_, rfl⟩
  obtain ⟨x4, hx4⟩ : ∃ x, findZ2 L base.toList s.toList = x := ⟨_, rfl⟩
  obtain ⟨u1, hu1⟩ : ∃ u, (if rt = true then x1 else -1) = u := ⟨_, rfl⟩
  obtain ⟨u2, hu2⟩ : ∃ u, (if rt = true then x2 else -1) = u := ⟨_, rfl⟩
  obtain ⟨u3, hu3⟩ : ∃ u, (if rt = true then x3 else -1) = u := ⟨_, rfl⟩
  obtain ⟨u4, hu4⟩ : ∃ u, (if rt = true then x4 else -1) = u := ⟨_, rfl⟩
  have RR : Hid (∀ V, DefRow V da dl dc L → WaitRow V wa wl wq M → Calls Try.prog 6 #[deskV da dl dc wa wl wq nx bz] V fun e w' => e = .returned (.bool rt) ∧ Below V.heap.size V w') := Lib.hid (fun V h1 h2 => by
    have h := refright9_any da dl dc wa wl wq nx bz L M V h1 h2 SM.out.1 SM.out.2
    rw [hrt] at h
    exact h)
  have RD : Hid (∀ V, DefRow V da dl dc L → WaitRow V wa wl wq M → Calls Try.prog 10 #[deskV da dl dc wa wl wq nx bz] V fun e w' => e = .returned (.bool rt) ∧ Below V.heap.size V w') := Lib.hid (fun V h1 h2 => by
    have h := HF.out.right da dl dc wa wl wq nx bz L M V h1 h2
    rw [hrt] at h
    exact h)
  have RF : Hid (∀ V, DefRow V da dl dc L → WaitRow V wa wl wq M → Calls Try.prog 11 #[deskV da dl dc wa wl wq nx bz, .string s, .string i] V fun e w' => e = .returned (.int .i64 x1) ∧ Below V.heap.size V w') := Lib.hid (fun V h1 h2 => by
    have h := reffind9_any da dl dc wa wl wq nx bz L s i V h1
    rw [hx1] at h
    exact h)
  have RF4 : Hid (∀ V, DefRow V da dl dc L → WaitRow V wa wl wq M → Calls Try.prog 11 #[deskV da dl dc wa wl wq nx bz, .string base, .string s] V fun e w' => e = .returned (.int .i64 x4) ∧ Below V.heap.size V w') := Lib.hid (fun V h1 h2 => by
    have h := reffind9_any da dl dc wa wl wq nx bz L base s V h1
    rw [hx4] at h
    exact h)
  have RN : Hid (∀ V, DefRow V da dl dc L → WaitRow V wa wl wq M → Calls Try.prog 12 #[deskV da dl dc wa wl wq nx bz, .string s] V fun e w' => e = .returned (.int .i64 x2) ∧ Below V.heap.size V w') := Lib.hid (fun V h1 h2 => by
    have h := refnamed_any da dl dc wa wl wq nx bz L s V h1
    rw [hx2] at h
    exact h)
  have RC : Hid (∀ V, DefRow V da dl dc L → WaitRow V wa wl wq M → Calls Try.prog 13 #[deskV da dl dc wa wl wq nx bz, .int .i64 c] V fun e w' => e = .returned (.int .i64 x3) ∧ Below V.heap.size V w') := Lib.hid (fun V h1 h2 => by
    have h := refclassed_any da dl dc wa wl wq nx bz L c V h1
    rw [hx3] at h
    exact h)
  have FD : Hid (∀ V, DefRow V da dl dc L → WaitRow V wa wl wq M → Calls Try.prog 7 #[deskV da dl dc wa wl wq nx bz, .string s, .string i] V fun e w' => e = .returned (.int .i64 u1) ∧ Below V.heap.size V w') := Lib.hid (fun V h1 h2 => by
    have h := HF.out.find da dl dc wa wl wq nx bz L M s i V h1 h2 SZ.out.1 SZ.out.2.2
    rw [show ifRight ⟨L, M, nx, bz⟩ (findZ2 L s.toList i.toList) = u1 by unfold ifRight; rw [hrt, hx1]; exact hu1] at h
    exact h)
  have FD4 : Hid (∀ V, DefRow V da dl dc L → WaitRow V wa wl wq M → Calls Try.prog 7 #[deskV da dl dc wa wl wq nx bz, .string base, .string s] V fun e w' => e = .returned (.int .i64 u4) ∧ Below V.heap.size V w') := Lib.hid (fun V h1 h2 => by
    have h := HF.out.find da dl dc wa wl wq nx bz L M base s V h1 h2 SZ.out.2.1 SZ.out.1
    rw [show ifRight ⟨L, M, nx, bz⟩ (findZ2 L base.toList s.toList) = u4 by unfold ifRight; rw [hrt, hx4]; exact hu4] at h
    exact h)
  have ND : Hid (∀ V, DefRow V da dl dc L → WaitRow V wa wl wq M → Calls Try.prog 8 #[deskV da dl dc wa wl wq nx bz, .string s] V fun e w' => e = .returned (.int .i64 u2) ∧ Below V.heap.size V w') := Lib.hid (fun V h1 h2 => by
    have h := HF.out.named da dl dc wa wl wq nx bz L M s V h1 h2 SZ.out.1
    rw [show ifRight ⟨L, M, nx, bz⟩ (namedZ L s.toList) = u2 by unfold ifRight; rw [hrt, hx2]; exact hu2] at h
    exact h)
  have CD : Hid (∀ V, DefRow V da dl dc L → WaitRow V wa wl wq M → Calls Try.prog 9 #[deskV da dl dc wa wl wq nx bz, .int .i64 c] V fun e w' => e = .returned (.int .i64 u3) ∧ Below V.heap.size V w') := Lib.hid (fun V h1 h2 => by
    have h := HF.out.classed da dl dc wa wl wq nx bz L M c V h1 h2
    rw [show ifRight ⟨L, M, nx, bz⟩ (classedZ L c) = u3 by unfold ifRight; rw [hrt, hx3]; exact hu3] at h
    exact h)
  obtain ⟨⟨⟨EL, EM, en, eb⟩, ez, eT, ee⟩, hE⟩ : ∃ R, addR9 ⟨L, M, nx, bz⟩ m s base c = R := ⟨_, rfl⟩
  have MY : Hid (∀ V, DefRow V da dl dc L → WaitRow V wa wl wq M → Calls Try.prog 16 #[deskV da dl dc wa wl wq nx bz, .int .i64 m, .string s, .string base, .int .i64 c] V fun e w' => e = .returned (.int .i64 ee) ∧ Below V.heap.size V w') := Lib.hid (fun V h1 h2 => by
    have h := HF.out.may da dl dc wa wl wq nx bz L M m s base c V h1 h2 SZ.out.1 SZ.out.2.1
    rw [← addR_err, hE] at h
    exact h)
  have AD : Hid (∀ V, DefRow V da dl dc L → WaitRow V wa wl wq M → Calls Try.prog 14 #[deskV da dl dc wa wl wq nx bz, .int .i64 m, .string s, .string base, .int .i64 c] V (AddPost9 V (⟨EL, EM, en, eb⟩, ez, eT, ee))) := Lib.hid (fun V h1 h2 => by
    have h := HF.out.add da dl dc wa wl wq nx bz L M m s base c V h1 h2 SZ.out.1 SZ.out.2.1 IN.out (by have := HSH.out.1; omega) (by have := HSH.out.2.1; omega)
    rw [hE] at h
    exact h)
  have AR : Hid (∀ V, DefRow V da dl dc L → WaitRow V wa wl wq M → Calls Try.prog 15 #[deskV da dl dc wa wl wq nx bz, .int .i64 m, .string s, .string base, .int .i64 c] V (RefAddPost V (⟨EL, EM, en, eb⟩, ez, eT, ee))) := Lib.hid (fun V h1 h2 => by
    have h := HG.out.add da dl dc wa wl wq nx bz L M m s base c V h1 h2 HQ.out (by omega) (by omega) IN.out
    rw [hE] at h
    exact h)
  obtain ⟨⟨⟨KL, KM, kn, kb⟩, kt, kp, kj⟩, hK⟩ : ∃ R, awaitR ⟨L, M, nx, bz⟩ s = R := ⟨_, rfl⟩
  have TD : Hid (∀ V, DefRow V da dl dc L → WaitRow V wa wl wq M → Calls Try.prog 19 #[deskV da dl dc wa wl wq nx bz, .string s] V (AwaitPost V (⟨KL, KM, kn, kb⟩, kt, kp, kj))) := Lib.hid (fun V h1 h2 => by
    have h := HF.out.await da dl dc wa wl wq nx bz L M s V h1 h2 SZ.out.1 HN.out (by have := HSH.out.1; omega) (by have := HSH.out.2.1; omega)
    rw [hK] at h
    exact h)
  have TR : Hid (∀ V, DefRow V da dl dc L → WaitRow V wa wl wq M → Calls Try.prog 20 #[deskV da dl dc wa wl wq nx bz, .string s] V (RefAwaitPost V (⟨KL, KM, kn, kb⟩, kt, kp, kj))) := Lib.hid (fun V h1 h2 => by
    have h := HG.out.await da dl dc wa wl wq nx bz L M s V h1 h2 HQ.out (by omega) HN.out
    rw [hK] at h
    exact h)
  have CI : Hid (∀ V a l c a' l' c', IntRow V a l c eT → IntRow V a' l' c' eT → Calls Try.prog 17 #[.slice a l c, .slice a' l' c'] V fun e w' => e = .returned (.bool true) ∧ Below V.heap.size V w') := Lib.hid (fun V a l c a' l' c' h h' => (refints_any a a' l c l' c' eT eT V h h').mono fun e w' ⟨he, n, hn⟩ => ⟨by rw [he]; simp, by rw [hn]; exact below_dn (Below.refl _ _) n⟩)
  have SE : Hid (∀ V a l c b m n a' l' c' b' m' n', DefRow V a l c EL → WaitRow V b m n EM → DefRow V a' l' c' EL → WaitRow V b' m' n' EM → Calls Try.prog 18 #[deskV a l c b m n en eb, deskV a' l' c' b' m' n' en eb] V fun e w' => e = .returned (.bool true) ∧ Below V.heap.size V w') := Lib.hid (fun V a l c b m n a' l' c' b' m' n' h1 h2 h3 h4 => by
    have h := refsame9_any a l c b m n en eb EL EM a' l' c' b' m' n' en eb EL EM V h1 h2 h3 h4
    rw [sameK_yes ⟨rfl, rfl, rfl, rfl⟩] at h
    exact h)
  have SK : Hid (∀ V a l c b m n a' l' c' b' m' n', DefRow V a l c KL → WaitRow V b m n KM → DefRow V a' l' c' KL → WaitRow V b' m' n' KM → Calls Try.prog 18 #[deskV a l c b m n kn kb, deskV a' l' c' b' m' n' kn kb] V fun e w' => e = .returned (.bool true) ∧ Below V.heap.size V w') := Lib.hid (fun V a l c b m n a' l' c' b' m' n' h1 h2 h3 h4 => by
    have h := refsame9_any a l c b m n kn kb KL KM a' l' c' b' m' n' kn kb KL KM V h1 h2 h3 h4
    rw [sameK_yes ⟨rfl, rfl, rfl, rfl⟩] at h
    exact h)
  clear hrt hx1 hx2 hx3 hx4 hE hK
  go_enter Try.func3, Try.ntmps3
  go_upto_region 6 with (first
                            | (go_at_call 4; (with_reducible refine (AW.out _).mono ?_); rintro e w5 ⟨rfl, hb⟩; (clear z0 z1 z2 z3; have DX := Lib.hid (DX.out.keep hb); have z0 := DX.out.c0; have z1 := DX.out.c1; have z2 := DX.out.c2; have z3 := DX.out.c3; clear hb))
                            | (go_at_call 5; (with_reducible refine (SH.out _ DX.out.d DX.out.t).mono ?_); rintro e w5 ⟨rfl, hb⟩; (clear z0 z1 z2 z3; have DX := Lib.hid (DX.out.keep hb); have z0 := DX.out.c0; have z1 := DX.out.c1; have z2 := DX.out.c2; have z3 := DX.out.c3; clear hb))
                            | (go_at_call 6; (with_reducible refine (RR.out _ DX.out.d DX.out.t).mono ?_); rintro e w5 ⟨rfl, hb⟩; (clear z0 z1 z2 z3; have DX := Lib.hid (DX.out.keep hb); have z0 := DX.out.c0; have z1 := DX.out.c1; have z2 := DX.out.c2; have z3 := DX.out.c3; clear hb))
                            | (go_at_call 10; (with_reducible refine (RD.out _ DX.out.d DX.out.t).mono ?_); rintro e w5 ⟨rfl, hb⟩; (clear z0 z1 z2 z3; have DX := Lib.hid (DX.out.keep hb); have z0 := DX.out.c0; have z1 := DX.out.c1; have z2 := DX.out.c2; have z3 := DX.out.c3; clear hb))
                            | (go_at_call 11; (with_reducible refine (RF.out _ DX.out.d DX.out.t).mono ?_); rintro e w5 ⟨rfl, hb⟩; (clear z0 z1 z2 z3; have DX := Lib.hid (DX.out.keep hb); have z0 := DX.out.c0; have z1 := DX.out.c1; have z2 := DX.out.c2; have z3 := DX.out.c3; clear hb))
                            | (go_at_call 12; (with_reducible refine (RN.out _ DX.out.d DX.out.t).mono ?_); rintro e w5 ⟨rfl, hb⟩; (clear z0 z1 z2 z3; have DX := Lib.hid (DX.out.keep hb); have z0 := DX.out.c0; have z1 := DX.out.c1; have z2 := DX.out.c2; have z3 := DX.out.c3; clear hb))
                            | (go_at_call 13; (with_reducible refine (RC.out _ DX.out.d DX.out.t).mono ?_); rintro e w5 ⟨rfl, hb⟩; (clear z0 z1 z2 z3; have DX := Lib.hid (DX.out.keep hb); have z0 := DX.out.c0; have z1 := DX.out.c1; have z2 := DX.out.c2; have z3 := DX.out.c3; clear hb)))
  (clear z0 z1 z2 z3; have y0 := Ext.cell DX.out.c0 DX.out.lt; have y1 := Ext.cell DX.out.c1 DX.out.lt; have y2 := Ext.cell DX.out.c2 DX.out.lt; have y3 := Ext.cell DX.out.c3 DX.out.lt)
  have E1 : Hid (∀ x' : Ext w5, Calls Try.prog 7 #[deskV da dl dc wa wl wq nx bz, .string s, .string i] x'.v fun e w' => e = .returned (.int .i64 u1) ∧ Below x'.v.heap.size x'.v w') := Lib.hid (fun x' => FD.out _ (DX.out.d.below x'.below) (DX.out.t.below x'.below))
  have E2 : Hid (∀ x' : Ext w5, Calls Try.prog 8 #[deskV da dl dc wa wl wq nx bz, .string s] x'.v fun e w' => e = .returned (.int .i64 u2) ∧ Below x'.v.heap.size x'.v w') := Lib.hid (fun x' => ND.out _ (DX.out.d.below x'.below) (DX.out.t.below x'.below))
  have E3 : Hid (∀ x' : Ext w5, Calls Try.prog 9 #[deskV da dl dc wa wl wq nx bz, .int .i64 c] x'.v fun e w' => e = .returned (.int .i64 u3) ∧ Below x'.v.heap.size x'.v w') := Lib.hid (fun x' => CD.out _ (DX.out.d.below x'.below) (DX.out.t.below x'.below))
  refine wp_region_ext (by kernel_rfl) (by kernel_rfl) ?_
  repeat (go_big_quiet_step (first
    | (go_at_call 7; with_reducible exact Ext.call_below (E1.out _))
    | (go_at_call 8; with_reducible exact Ext.call_below (E2.out _))
    | (go_at_call 9; with_reducible exact Ext.call_below (E3.out _))))
  refine wpQuiet_nil ?_
  intro w6 hw6
  obtain ⟨⟨w8, hb8⟩, hw7⟩ := hw6
  dsimp only at hw7
  subst hw7
  have DX := Lib.hid (DX.out.keep hb8)
  clear y0 y1 y2 y3 E1 E2 E3 hb8 FD ND CD
  have z0 := DX.out.c0
  have z1 := DX.out.c1
  have z2 := DX.out.c2
  have z3 := DX.out.c3
  cases rt
  case' false =>
    rw [if_neg (by decide)] at hu1 hu2 hu3 hu4
    subst hu1
    subst hu2
    subst hu3
    subst hu4
    go_upto_region 11 with (first
                               | (go_at_call 4; (with_reducible refine (AW.out _).mono ?_); rintro e w5 ⟨rfl, hb⟩; (clear z0 z1 z2 z3; have DX := Lib.hid (DX.out.keep hb); have z0 := DX.out.c0; have z1 := DX.out.c1; have z2 := DX.out.c2; have z3 := DX.out.c3; clear hb))
                               | (go_at_call 5; (with_reducible refine (SH.out _ DX.out.d DX.out.t).mono ?_); rintro e w5 ⟨rfl, hb⟩; (clear z0 z1 z2 z3; have DX := Lib.hid (DX.out.keep hb); have z0 := DX.out.c0; have z1 := DX.out.c1; have z2 := DX.out.c2; have z3 := DX.out.c3; clear hb))
                               | (go_at_call 6; (with_reducible refine (RR.out _ DX.out.d DX.out.t).mono ?_); rintro e w5 ⟨rfl, hb⟩; (clear z0 z1 z2 z3; have DX := Lib.hid (DX.out.keep hb); have z0 := DX.out.c0; have z1 := DX.out.c1; have z2 := DX.out.c2; have z3 := DX.out.c3; clear hb))
                               | (go_at_call 10; (with_reducible refine (RD.out _ DX.out.d DX.out.t).mono ?_); rintro e w5 ⟨rfl, hb⟩; (clear z0 z1 z2 z3; have DX := Lib.hid (DX.out.keep hb); have z0 := DX.out.c0; have z1 := DX.out.c1; have z2 := DX.out.c2; have z3 := DX.out.c3; clear hb))
                               | (go_at_call 11; (with_reducible refine (RF.out _ DX.out.d DX.out.t).mono ?_); rintro e w5 ⟨rfl, hb⟩; (clear z0 z1 z2 z3; have DX := Lib.hid (DX.out.keep hb); have z0 := DX.out.c0; have z1 := DX.out.c1; have z2 := DX.out.c2; have z3 := DX.out.c3; clear hb))
                               | (go_at_call 12; (with_reducible refine (RN.out _ DX.out.d DX.out.t).mono ?_); rintro e w5 ⟨rfl, hb⟩; (clear z0 z1 z2 z3; have DX := Lib.hid (DX.out.keep hb); have z0 := DX.out.c0; have z1 := DX.out.c1; have z2 := DX.out.c2; have z3 := DX.out.c3; clear hb))
                               | (go_at_call 13; (with_reducible refine (RC.out _ DX.out.d DX.out.t).mono ?_); rintro e w5 ⟨rfl, hb⟩; (clear z0 z1 z2 z3; have DX := Lib.hid (DX.out.keep hb); have z0 := DX.out.c0; have z1 := DX.out.c1; have z2 := DX.out.c2; have z3 := DX.out.c3; clear hb)))
    (clear z0 z1 z2 z3; have y0 := Ext.cell DX.out.c0 DX.out.lt; have y1 := Ext.cell DX.out.c1 DX.out.lt; have y2 := Ext.cell DX.out.c2 DX.out.lt; have y3 := Ext.cell DX.out.c3 DX.out.lt)
    have E1 : Hid (∀ x' : Ext w5, Calls Try.prog 7 #[deskV da dl dc wa wl wq nx bz, .string base, .string s] x'.v fun e w' => e = .returned (.int .i64 (-1)) ∧ Below x'.v.heap.size x'.v w') := Lib.hid (fun x' => FD4.out _ (DX.out.d.below x'.below) (DX.out.t.below x'.below))
    have E2 : Hid (∀ x' : Ext w5, Calls Try.prog 11 #[deskV da dl dc wa wl wq nx bz, .string base, .string s] x'.v fun e w' => e = .returned (.int .i64 x4) ∧ Below x'.v.heap.size x'.v w') := Lib.hid (fun x' => RF4.out _ (DX.out.d.below x'.below) (DX.out.t.below x'.below))
    refine wp_region_ext (by kernel_rfl) (by kernel_rfl) ?_
    repeat (go_big_quiet_step (first
      | (go_at_call 7; with_reducible exact Ext.call_below (E1.out _))
      | (go_at_call 11; with_reducible exact Ext.call_below (E2.out _))))
    refine wpQuiet_nil ?_
    intro w6 hw6
    obtain ⟨⟨w8, hb8⟩, hw7⟩ := hw6
    dsimp only at hw7
    subst hw7
  case' true =>
    rw [if_pos rfl] at hu1 hu2 hu3 hu4
    subst hu1
    subst hu2
    subst hu3
    subst hu4
    go_upto_region 11 with (first
                               | (go_at_call 4; (with_reducible refine (AW.out _).mono ?_); rintro e w5 ⟨rfl, hb⟩; (clear z0 z1 z2 z3; have DX := Lib.hid (DX.out.keep hb); have z0 := DX.out.c0; have z1 := DX.out.c1; have z2 := DX.out.c2; have z3 := DX.out.c3; clear hb))
                               | (go_at_call 5; (with_reducible refine (SH.out _ DX.out.d DX.out.t).mono ?_); rintro e w5 ⟨rfl, hb⟩; (clear z0 z1 z2 z3; have DX := Lib.hid (DX.out.keep hb); have z0 := DX.out.c0; have z1 := DX.out.c1; have z2 := DX.out.c2; have z3 := DX.out.c3; clear hb))
                               | (go_at_call 6; (with_reducible refine (RR.out _ DX.out.d DX.out.t).mono ?_); rintro e w5 ⟨rfl, hb⟩; (clear z0 z1 z2 z3; have DX := Lib.hid (DX.out.keep hb); have z0 := DX.out.c0; have z1 := DX.out.c1; have z2 := DX.out.c2; have z3 := DX.out.c3; clear hb))
                               | (go_at_call 10; (with_reducible refine (RD.out _ DX.out.d DX.out.t).mono ?_); rintro e w5 ⟨rfl, hb⟩; (clear z0 z1 z2 z3; have DX := Lib.hid (DX.out.keep hb); have z0 := DX.out.c0; have z1 := DX.out.c1; have z2 := DX.out.c2; have z3 := DX.out.c3; clear hb))
                               | (go_at_call 11; (with_reducible refine (RF.out _ DX.out.d DX.out.t).mono ?_); rintro e w5 ⟨rfl, hb⟩; (clear z0 z1 z2 z3; have DX := Lib.hid (DX.out.keep hb); have z0 := DX.out.c0; have z1 := DX.out.c1; have z2 := DX.out.c2; have z3 := DX.out.c3; clear hb))
                               | (go_at_call 12; (with_reducible refine (RN.out _ DX.out.d DX.out.t).mono ?_); rintro e w5 ⟨rfl, hb⟩; (clear z0 z1 z2 z3; have DX := Lib.hid (DX.out.keep hb); have z0 := DX.out.c0; have z1 := DX.out.c1; have z2 := DX.out.c2; have z3 := DX.out.c3; clear hb))
                               | (go_at_call 13; (with_reducible refine (RC.out _ DX.out.d DX.out.t).mono ?_); rintro e w5 ⟨rfl, hb⟩; (clear z0 z1 z2 z3; have DX := Lib.hid (DX.out.keep hb); have z0 := DX.out.c0; have z1 := DX.out.c1; have z2 := DX.out.c2; have z3 := DX.out.c3; clear hb)))
    (clear z0 z1 z2 z3; have y0 := Ext.cell DX.out.c0 DX.out.lt; have y1 := Ext.cell DX.out.c1 DX.out.lt; have y2 := Ext.cell DX.out.c2 DX.out.lt; have y3 := Ext.cell DX.out.c3 DX.out.lt)
    have E1 : Hid (∀ x' : Ext w5, Calls Try.prog 7 #[deskV da dl dc wa wl wq nx bz, .string base, .string s] x'.v fun e w' => e = .returned (.int .i64 x4) ∧ Below x'.v.heap.size x'.v w') := Lib.hid (fun x' => FD4.out _ (DX.out.d.below x'.below) (DX.out.t.below x'.below))
    have E2 : Hid (∀ x' : Ext w5, Calls Try.prog 11 #[deskV da dl dc wa wl wq nx bz, .string base, .string s] x'.v fun e w' => e = .returned (.int .i64 x4) ∧ Below x'.v.heap.size x'.v w') := Lib.hid (fun x' => RF4.out _ (DX.out.d.below x'.below) (DX.out.t.below x'.below))
    refine wp_region_ext (by kernel_rfl) (by kernel_rfl) ?_
    repeat (go_big_quiet_step (first
      | (go_at_call 7; with_reducible exact Ext.call_below (E1.out _))
      | (go_at_call 11; with_reducible exact Ext.call_below (E2.out _))))
    refine wpQuiet_nil ?_
    intro w6 hw6
    obtain ⟨⟨w8, hb8⟩, hw7⟩ := hw6
    dsimp only at hw7
    subst hw7
  all_goals
    have DX := Lib.hid (DX.out.keep hb8)
    clear y0 y1 y2 y3 E1 E2 hb8 FD4 RF4 RF RN RC RR RD SH AW
    have z0 := DX.out.c0
    have z1 := DX.out.c1
    have z2 := DX.out.c2
    have z3 := DX.out.c3
    go_upto_region 14 with (go_at_call 14; (refine (AD.out _ DX.out.d DX.out.t).mono ?_); rintro e w1 ⟨pa, pl, pc, pb, pm, pn, pu, pv, pk, rfl, hd, ht, hir, hb, -, -, -⟩; have DX := Lib.hid (DX.out.keep hb); have KA := Lib.hid (KBox.new (D := ⟨EL, EM, en, eb⟩) hd ht DX.out.below); have I1 : Hid (IntRow _ pu pv pk eT) := Lib.hid (hir.below (below_desk w1 (.cells #[.slice pa pl pc, .slice pb pm pn, .int .i64 en, .bool eb] 25))); clear hd ht hir hb z0 z1 z2 z3; dsimp only)
    obtain ⟨W1, hW1, DX⟩ : ∃ W1, w1.alloc (.cells #[.slice pa pl pc, .slice pb pm pn, .int .i64 en, .bool eb] 25) = W1 ∧ Hid (DBox w W1 w.heap.size da dl dc wa wl wq nx bz L M) := ⟨_, rfl, Lib.hid (DX.out.keep (below_desk _ _))⟩
    obtain ⟨g1, hg1⟩ : ∃ g, w1.heap.size = g := ⟨_, rfl⟩
    have KA : Hid (KBox w W1 g1 pa pl pc pb pm pn ⟨EL, EM, en, eb⟩) := Lib.hid (by rw [← hW1, ← hg1]; exact KA.out)
    rw [hW1] at I1
    rw [hW1, hg1]
    clear hW1 hg1 AD
    have z0 := DX.out.c0
    have z1 := DX.out.c1
    have z2 := DX.out.c2
    have z3 := DX.out.c3
    go_upto_region 15 with (go_at_call 15; (refine (AR.out _ DX.out.d DX.out.t).mono ?_); rintro e w2 ⟨qa, ql, qc, qb, qm, qn, qu, qv, qk, rfl, hd, ht, hir, hb⟩; have DX := Lib.hid (DX.out.keep hb); have KA := Lib.hid (KA.out.keep hb); have I1 := Lib.hid (I1.out.below hb); have KB := Lib.hid (KBox.new (D := ⟨EL, EM, en, eb⟩) hd ht DX.out.below); have I2 : Hid (IntRow _ qu qv qk eT) := Lib.hid (hir.below (below_desk w2 (.cells #[.slice qa ql qc, .slice qb qm qn, .int .i64 en, .bool eb] 25))); clear hd ht hir hb z0 z1 z2 z3; dsimp only)
    obtain ⟨W2, hW2, DX, KA, I1⟩ : ∃ W2, w2.alloc (.cells #[.slice qa ql qc, .slice qb qm qn, .int .i64 en, .bool eb] 25) = W2 ∧ Hid (DBox w W2 w.heap.size da dl dc wa wl wq nx bz L M) ∧ Hid (KBox w W2 g1 pa pl pc pb pm pn ⟨EL, EM, en, eb⟩) ∧ Hid (IntRow W2 pu pv pk eT) := ⟨_, rfl, Lib.hid (DX.out.keep (below_desk _ _)), Lib.hid (KA.out.keep (below_desk _ _)), Lib.hid (I1.out.below (below_desk _ _))⟩
    obtain ⟨g2, hg2⟩ : ∃ g, w2.heap.size = g := ⟨_, rfl⟩
    have KB : Hid (KBox w W2 g2 qa ql qc qb qm qn ⟨EL, EM, en, eb⟩) := Lib.hid (by rw [← hW2, ← hg2]; exact KB.out)
    rw [hW2] at I2
    rw [hW2, hg2]
    clear hW2 hg2 AR
    have z0 := DX.out.c0
    have z1 := DX.out.c1
    have z2 := DX.out.c2
    have z3 := DX.out.c3
    (have a0 := KA.out.bx.c0; have a1 := KA.out.bx.c1; have a2 := KA.out.bx.c2; have a3 := KA.out.bx.c3; have b0 := KB.out.bx.c0; have b1 := KB.out.bx.c1; have b2 := KB.out.bx.c2; have b3 := KB.out.bx.c3; dsimp only at a2 a3 b2 b3)
    have f1 : (ee != ee) = false := by simp
    have f2 : (ez != ez) = false := by simp
    go_upto_region 17 with (first
      | (go_at_call 16; (with_reducible refine (MY.out _ DX.out.d DX.out.t).mono ?_); rintro e w7 ⟨rfl, hb⟩; (clear a0 a1 a2 a3 b0 b1 b2 b3; have KA := Lib.hid (KA.out.keep hb); have KB := Lib.hid (KB.out.keep hb); have I1 := Lib.hid (I1.out.below hb); have I2 := Lib.hid (I2.out.below hb); (clear z0 z1 z2 z3; have DX := Lib.hid (DX.out.keep hb); have z0 := DX.out.c0; have z1 := DX.out.c1; have z2 := DX.out.c2; have z3 := DX.out.c3; clear hb); (have a0 := KA.out.bx.c0; have a1 := KA.out.bx.c1; have a2 := KA.out.bx.c2; have a3 := KA.out.bx.c3; have b0 := KB.out.bx.c0; have b1 := KB.out.bx.c1; have b2 := KB.out.bx.c2; have b3 := KB.out.bx.c3; dsimp only at a2 a3 b2 b3)))
      | (go_at_call 17; (with_reducible refine (CI.out _ _ _ _ _ _ _ I1.out I2.out).mono ?_); rintro e w7 ⟨rfl, hb⟩; (clear a0 a1 a2 a3 b0 b1 b2 b3; have KA := Lib.hid (KA.out.keep hb); have KB := Lib.hid (KB.out.keep hb); have I1 := Lib.hid (I1.out.below hb); have I2 := Lib.hid (I2.out.below hb); (clear z0 z1 z2 z3; have DX := Lib.hid (DX.out.keep hb); have z0 := DX.out.c0; have z1 := DX.out.c1; have z2 := DX.out.c2; have z3 := DX.out.c3; clear hb); (have a0 := KA.out.bx.c0; have a1 := KA.out.bx.c1; have a2 := KA.out.bx.c2; have a3 := KA.out.bx.c3; have b0 := KB.out.bx.c0; have b1 := KB.out.bx.c1; have b2 := KB.out.bx.c2; have b3 := KB.out.bx.c3; dsimp only at a2 a3 b2 b3)))
      | (go_at_call 18; (with_reducible refine (SE.out _ _ _ _ _ _ _ _ _ _ _ _ _ KA.out.d KA.out.t KB.out.d KB.out.t).mono ?_); rintro e w7 ⟨rfl, hb⟩; (clear a0 a1 a2 a3 b0 b1 b2 b3; have KA := Lib.hid (KA.out.keep hb); have KB := Lib.hid (KB.out.keep hb); have I1 := Lib.hid (I1.out.below hb); have I2 := Lib.hid (I2.out.below hb); (clear z0 z1 z2 z3; have DX := Lib.hid (DX.out.keep hb); have z0 := DX.out.c0; have z1 := DX.out.c1; have z2 := DX.out.c2; have z3 := DX.out.c3; clear hb); (have a0 := KA.out.bx.c0; have a1 := KA.out.bx.c1; have a2 := KA.out.bx.c2; have a3 := KA.out.bx.c3; have b0 := KB.out.bx.c0; have b1 := KB.out.bx.c1; have b2 := KB.out.bx.c2; have b3 := KB.out.bx.c3; dsimp only at a2 a3 b2 b3))))
    clear a0 a1 a2 a3 b0 b1 b2 b3 KA KB I1 I2 MY CI SE f1 f2
    go_upto_region 18 with (go_at_call 19; (refine (TD.out _ DX.out.d DX.out.t).mono ?_); rintro e w1 ⟨pa, pl, pc, pb, pm, pn, rfl, hd, ht, hb, -, -⟩; have DX := Lib.hid (DX.out.keep hb); have KA := Lib.hid (KBox.new (D := ⟨KL, KM, kn, kb⟩) hd ht DX.out.below); clear hd ht hb z0 z1 z2 z3; dsimp only)
    obtain ⟨W1, hW1, DX⟩ : ∃ W1, w1.alloc (.cells #[.slice pa pl pc, .slice pb pm pn, .int .i64 kn, .bool kb] 25) = W1 ∧ Hid (DBox w W1 w.heap.size da dl dc wa wl wq nx bz L M) := ⟨_, rfl, Lib.hid (DX.out.keep (below_desk _ _))⟩
    obtain ⟨g1, hg1⟩ : ∃ g, w1.heap.size = g := ⟨_, rfl⟩
    have KA : Hid (KBox w W1 g1 pa pl pc pb pm pn ⟨KL, KM, kn, kb⟩) := Lib.hid (by rw [← hW1, ← hg1]; exact KA.out)
    rw [hW1, hg1]
    clear hW1 hg1 TD
    have z0 := DX.out.c0
    have z1 := DX.out.c1
    have z2 := DX.out.c2
    have z3 := DX.out.c3
    go_upto_region 19 with (go_at_call 20; (refine (TR.out _ DX.out.d DX.out.t).mono ?_); rintro e w2 ⟨qa, ql, qc, qb, qm, qn, rfl, hd, ht, hb⟩; have DX := Lib.hid (DX.out.keep hb); have KA := Lib.hid (KA.out.keep hb); have KB := Lib.hid (KBox.new (D := ⟨KL, KM, kn, kb⟩) hd ht DX.out.below); clear hd ht hb z0 z1 z2 z3; dsimp only)
    obtain ⟨W2, hW2, DX, KA⟩ : ∃ W2, w2.alloc (.cells #[.slice qa ql qc, .slice qb qm qn, .int .i64 kn, .bool kb] 25) = W2 ∧ Hid (DBox w W2 w.heap.size da dl dc wa wl wq nx bz L M) ∧ Hid (KBox w W2 g1 pa pl pc pb pm pn ⟨KL, KM, kn, kb⟩) := ⟨_, rfl, Lib.hid (DX.out.keep (below_desk _ _)), Lib.hid (KA.out.keep (below_desk _ _))⟩
    obtain ⟨g2, hg2⟩ : ∃ g, w2.heap.size = g := ⟨_, rfl⟩
    have KB : Hid (KBox w W2 g2 qa ql qc qb qm qn ⟨KL, KM, kn, kb⟩) := Lib.hid (by rw [← hW2, ← hg2]; exact KB.out)
    rw [hW2, hg2]
    clear hW2 hg2 TR
    (have a0 := KA.out.bx.c0; have a1 := KA.out.bx.c1; have a2 := KA.out.bx.c2; have a3 := KA.out.bx.c3; have b0 := KB.out.bx.c0; have b1 := KB.out.bx.c1; have b2 := KB.out.bx.c2; have b3 := KB.out.bx.c3; dsimp only at a2 a3 b2 b3)
    have f1 : (kt == kt) = true := by simp
    have f2 : (kp == kp) = true := by simp
    have f3 : (kj == kj) = true := by simp
    go_wp2_with (go_at_call 18; (with_reducible refine (SK.out _ _ _ _ _ _ _ _ _ _ _ _ _ KA.out.d KA.out.t KB.out.d KB.out.t).mono ?_); rintro e w7 ⟨rfl, hb⟩; have DX := Lib.hid (DX.out.keep hb))
    go_ret
    exact ⟨rfl, DX.out.below⟩
end Go.Proofs.Ytioeagadhnnajaa
