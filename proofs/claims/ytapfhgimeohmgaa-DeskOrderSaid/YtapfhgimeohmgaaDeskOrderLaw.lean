/- The walk of instarlaw09's DeskOrder, over what is asked of package desk. -/
import Derived.Test.YtapfhgimeohmgaaDeskAwake9
import Derived.Test.YtapfhgimeohmgaaRef9Short
import Derived.Test.YtapfhgimeohmgaaDeskEq
import Derived.Test.YtapfhgimeohmgaaExt
import Derived.Deep.QuietTactic
import Derived.BigQuiet
import Derived.Deep.CutBlock
namespace Go.Proofs.Ytapfhgimeohmgaa
open Go.RowKit
theorem addR_small {D : DeskD} {m : Int} {s base : ByteArray} {c : Int} : (addR D m s base c).1.defs.length ≤ D.defs.length + 1 ∧ (addR D m s base c).1.waits.length ≤ D.waits.length := by
  unfold addR
  split
  · refine ⟨?_, ?_⟩
    · show (D.defs ++ [_]).length ≤ _
      rw [List.length_append]; simp
    · show (restT D.waits s.toList).length ≤ _
      exact List.length_filter_le _ _
  · exact ⟨Nat.le_succ _, Nat.le_refl _⟩
/-- Two definitions in either order: their errors, their tickets. -/
structure OrderFacts (D : DeskD) (s t base other : ByteArray) (a b : Int) (R1 R2 R3 R4 : DeskD × Int × List Int × Int) : Prop where
  e2 : R2.2.2.2 = R3.2.2.2
  e4 : R4.2.2.2 = R1.2.2.2
  told : R1.2.2.2 = 0 → R3.2.2.2 = 0 → R1.2.2.1 = R4.2.2.1 ∧ R2.2.2.1 = R3.2.2.1
  find : R1.2.2.2 = 0 → R3.2.2.2 = 0 → RightK R2.1 ∧ RightK R4.1 ∧ ∀ x, x ∈ R2.1.defs ↔ x ∈ R4.1.defs
theorem orderFacts {D : DeskD} {s t base other : ByteArray} {a b : Int} (hs : s.toList ≠ t.toList) (ha : a ≠ b) : OrderFacts D s t base other a b (addR D 12 s base a) (addR (addR D 12 s base a).1 12 t other b) (addR D 12 t other b) (addR (addR D 12 t other b).1 12 s base a) := by
  have h2 : mayE (addR D 12 s base a).1 12 t.toList other.toList b = mayE D 12 t.toList other.toList b := order_err hs ha
  have h4 : mayE (addR D 12 t other b).1 12 s.toList base.toList a = mayE D 12 s.toList base.toList a := order_err (fun e => hs e.symm) (fun e => ha e.symm)
  refine ⟨by rw [addR_err, addR_err, h2], by rw [addR_err, addR_err, h4], fun e1 e3 => ?_, fun e1 e3 => ?_⟩
  · rw [addR_err] at e1 e3
    have m1 := may_ok.1 e1
    have m3 := may_ok.1 e3
    rw [addR_may m1, addR_may m3]
    rw [addR_may m1] at h2
    rw [addR_may m3] at h4
    rw [e3] at h2
    rw [e1] at h4
    have m2 := may_ok.1 h2
    have m4 := may_ok.1 h4
    rw [addR_may m2, addR_may m4]
    exact ⟨(told_other hs).symm, told_other (fun e => hs e.symm)⟩
  · rw [addR_err] at e1 e3
    have m1 := may_ok.1 e1
    have m3 := may_ok.1 e3
    rw [addR_may m1, addR_may m3]
    rw [addR_may m1] at h2
    rw [addR_may m3] at h4
    rw [e3] at h2
    rw [e1] at h4
    have m2 := may_ok.1 h2
    have m4 := may_ok.1 h4
    rw [addR_may m2, addR_may m4]
    exact ⟨m2.right, m4.right, order_mem⟩
set_option maxHeartbeats 8000000 in
set_option maxRecDepth 100000 in
theorem deskOrder_walk (F : DeskFns) (da : Option Addr) (dl dc : Nat) (wa : Option Addr) (wl wc : Nat) (nx : Int) (bz : Bool) (L : List DefD) (M : List WaitD) (s t base other l i : ByteArray) (a b : Int) (w : World) (h : DeskAt w da dl dc wa wl wc ⟨L, M, nx, bz⟩)
    (hs : s.size ≤ maxLen) (ht : t.size ≤ maxLen) (hbs : base.size ≤ maxLen) (hot : other.size ≤ maxLen) (hl : l.size ≤ maxLen) (hi : i.size ≤ maxLen) (ha64 : In64 a) (hb64 : In64 b) :
    Calls Try.prog 7 #[deskV da dl dc wa wl wc nx bz, .string s, .string t, .string base, .string other, .string l, .string i, .int .i64 a, .int .i64 b] w fun e w' => e = .returned (.bool true) ∧ Below w.heap.size w w' := by
  have DX := Lib.hid (DBox.start (nx := nx) (bz := bz) h.d h.t)
  have z0 := DX.out.c0
  have z1 := DX.out.c1
  have z2 := DX.out.c2
  have z3 := DX.out.c3
  have AW : Hid (∀ V, Calls Try.prog 8 #[] V fun e w' => e = .returned (.bool true) ∧ Below V.heap.size V w') := Lib.hid (fun V => awake9_any F V)
  obtain ⟨q0, hq0⟩ : ∃ q, shortK L M = q := ⟨_, rfl⟩
  have SH : Hid (∀ V, DefRow V da dl dc L → WaitRow V wa wl wc M → Calls Try.prog 9 #[deskV da dl dc wa wl wc nx bz] V fun e w' => e = .returned (.bool q0) ∧ Below V.heap.size V w') := Lib.hid (fun V h1 h2 => by
    have h := refshort9_any da dl dc wa wl wc nx bz L M V h1 h2
    rw [hq0] at h
    exact h)
  have n1 : s.size ≤ 9223372036854775807 := by unfold maxLen at hs; omega
  have n2 : t.size ≤ 9223372036854775807 := by unfold maxLen at ht; omega
  have n3 : base.size ≤ 9223372036854775807 := by unfold maxLen at hbs; omega
  have n4 : other.size ≤ 9223372036854775807 := by unfold maxLen at hot; omega
  have n5 : l.size ≤ 9223372036854775807 := by unfold maxLen at hl; omega
  have n6 : i.size ≤ 9223372036854775807 := by unfold maxLen at hi; omega
  have SZ := Lib.hid (⟨hs, ht, hbs, hot, hl, hi⟩ : s.size ≤ maxLen ∧ t.size ≤ maxLen ∧ base.size ≤ maxLen ∧ other.size ≤ maxLen ∧ l.size ≤ maxLen ∧ i.size ≤ maxLen)
  have IN := Lib.hid (⟨ha64, hb64⟩ : In64 a ∧ In64 b)
  have HF := Lib.hid F
  clear h hs ht hbs hot hl hi ha64 hb64 F
  cases q0 with
  | false => clear hq0; (go_enter Try.func7, Try.ntmps7; go_wp2_with (first
                                                                                                                                         | (go_at_call 8; (with_reducible refine (AW.out _).mono ?_); rintro e w5 ⟨rfl, hb⟩; (clear z0 z1 z2 z3; have DX := Lib.hid (DX.out.keep hb); have z0 := DX.out.c0; have z1 := DX.out.c1; have z2 := DX.out.c2; have z3 := DX.out.c3; clear hb))
                                                                                                                                         | (go_at_call 9; (with_reducible refine (SH.out _ DX.out.d DX.out.t).mono ?_); rintro e w5 ⟨rfl, hb⟩; (clear z0 z1 z2 z3; have DX := Lib.hid (DX.out.keep hb); have z0 := DX.out.c0; have z1 := DX.out.c1; have z2 := DX.out.c2; have z3 := DX.out.c3; clear hb))); go_ret; exact ⟨rfl, DX.out.below⟩)
  | true =>
  have HSH := Lib.hid hq0
  clear hq0
  by_cases d1 : (300 : Int) < (s.size : Int)
  · (go_enter Try.func7, Try.ntmps7; go_wp2_with (first
                                                                                                                     | (go_at_call 8; (with_reducible refine (AW.out _).mono ?_); rintro e w5 ⟨rfl, hb⟩; (clear z0 z1 z2 z3; have DX := Lib.hid (DX.out.keep hb); have z0 := DX.out.c0; have z1 := DX.out.c1; have z2 := DX.out.c2; have z3 := DX.out.c3; clear hb))
                                                                                                                     | (go_at_call 9; (with_reducible refine (SH.out _ DX.out.d DX.out.t).mono ?_); rintro e w5 ⟨rfl, hb⟩; (clear z0 z1 z2 z3; have DX := Lib.hid (DX.out.keep hb); have z0 := DX.out.c0; have z1 := DX.out.c1; have z2 := DX.out.c2; have z3 := DX.out.c3; clear hb))); go_ret; exact ⟨rfl, DX.out.below⟩)
  by_cases d2 : (300 : Int) < (t.size : Int)
  · (go_enter Try.func7, Try.ntmps7; go_wp2_with (first
                                                                                                                     | (go_at_call 8; (with_reducible refine (AW.out _).mono ?_); rintro e w5 ⟨rfl, hb⟩; (clear z0 z1 z2 z3; have DX := Lib.hid (DX.out.keep hb); have z0 := DX.out.c0; have z1 := DX.out.c1; have z2 := DX.out.c2; have z3 := DX.out.c3; clear hb))
                                                                                                                     | (go_at_call 9; (with_reducible refine (SH.out _ DX.out.d DX.out.t).mono ?_); rintro e w5 ⟨rfl, hb⟩; (clear z0 z1 z2 z3; have DX := Lib.hid (DX.out.keep hb); have z0 := DX.out.c0; have z1 := DX.out.c1; have z2 := DX.out.c2; have z3 := DX.out.c3; clear hb))); go_ret; exact ⟨rfl, DX.out.below⟩)
  by_cases d3 : (300 : Int) < (base.size : Int)
  · (go_enter Try.func7, Try.ntmps7; go_wp2_with (first
                                                                                                                     | (go_at_call 8; (with_reducible refine (AW.out _).mono ?_); rintro e w5 ⟨rfl, hb⟩; (clear z0 z1 z2 z3; have DX := Lib.hid (DX.out.keep hb); have z0 := DX.out.c0; have z1 := DX.out.c1; have z2 := DX.out.c2; have z3 := DX.out.c3; clear hb))
                                                                                                                     | (go_at_call 9; (with_reducible refine (SH.out _ DX.out.d DX.out.t).mono ?_); rintro e w5 ⟨rfl, hb⟩; (clear z0 z1 z2 z3; have DX := Lib.hid (DX.out.keep hb); have z0 := DX.out.c0; have z1 := DX.out.c1; have z2 := DX.out.c2; have z3 := DX.out.c3; clear hb))); go_ret; exact ⟨rfl, DX.out.below⟩)
  by_cases d4 : (300 : Int) < (other.size : Int)
  · (go_enter Try.func7, Try.ntmps7; go_wp2_with (first
                                                                                                                     | (go_at_call 8; (with_reducible refine (AW.out _).mono ?_); rintro e w5 ⟨rfl, hb⟩; (clear z0 z1 z2 z3; have DX := Lib.hid (DX.out.keep hb); have z0 := DX.out.c0; have z1 := DX.out.c1; have z2 := DX.out.c2; have z3 := DX.out.c3; clear hb))
                                                                                                                     | (go_at_call 9; (with_reducible refine (SH.out _ DX.out.d DX.out.t).mono ?_); rintro e w5 ⟨rfl, hb⟩; (clear z0 z1 z2 z3; have DX := Lib.hid (DX.out.keep hb); have z0 := DX.out.c0; have z1 := DX.out.c1; have z2 := DX.out.c2; have z3 := DX.out.c3; clear hb))); go_ret; exact ⟨rfl, DX.out.below⟩)
  by_cases d5 : (300 : Int) < (l.size : Int)
  · (go_enter Try.func7, Try.ntmps7; go_wp2_with (first
                                                                                                                     | (go_at_call 8; (with_reducible refine (AW.out _).mono ?_); rintro e w5 ⟨rfl, hb⟩; (clear z0 z1 z2 z3; have DX := Lib.hid (DX.out.keep hb); have z0 := DX.out.c0; have z1 := DX.out.c1; have z2 := DX.out.c2; have z3 := DX.out.c3; clear hb))
                                                                                                                     | (go_at_call 9; (with_reducible refine (SH.out _ DX.out.d DX.out.t).mono ?_); rintro e w5 ⟨rfl, hb⟩; (clear z0 z1 z2 z3; have DX := Lib.hid (DX.out.keep hb); have z0 := DX.out.c0; have z1 := DX.out.c1; have z2 := DX.out.c2; have z3 := DX.out.c3; clear hb))); go_ret; exact ⟨rfl, DX.out.below⟩)
  by_cases d6 : (300 : Int) < (i.size : Int)
  · (go_enter Try.func7, Try.ntmps7; go_wp2_with (first
                                                                                                                     | (go_at_call 8; (with_reducible refine (AW.out _).mono ?_); rintro e w5 ⟨rfl, hb⟩; (clear z0 z1 z2 z3; have DX := Lib.hid (DX.out.keep hb); have z0 := DX.out.c0; have z1 := DX.out.c1; have z2 := DX.out.c2; have z3 := DX.out.c3; clear hb))
                                                                                                                     | (go_at_call 9; (with_reducible refine (SH.out _ DX.out.d DX.out.t).mono ?_); rintro e w5 ⟨rfl, hb⟩; (clear z0 z1 z2 z3; have DX := Lib.hid (DX.out.keep hb); have z0 := DX.out.c0; have z1 := DX.out.c1; have z2 := DX.out.c2; have z3 := DX.out.c3; clear hb))); go_ret; exact ⟨rfl, DX.out.below⟩)
  cases d7 : s.toList == t.toList with
  | true => (go_enter Try.func7, Try.ntmps7; go_wp2_with (first
                                                                                                                             | (go_at_call 8; (with_reducible refine (AW.out _).mono ?_); rintro e w5 ⟨rfl, hb⟩; (clear z0 z1 z2 z3; have DX := Lib.hid (DX.out.keep hb); have z0 := DX.out.c0; have z1 := DX.out.c1; have z2 := DX.out.c2; have z3 := DX.out.c3; clear hb))
                                                                                                                             | (go_at_call 9; (with_reducible refine (SH.out _ DX.out.d DX.out.t).mono ?_); rintro e w5 ⟨rfl, hb⟩; (clear z0 z1 z2 z3; have DX := Lib.hid (DX.out.keep hb); have z0 := DX.out.c0; have z1 := DX.out.c1; have z2 := DX.out.c2; have z3 := DX.out.c3; clear hb))); go_ret; exact ⟨rfl, DX.out.below⟩)
  | false =>
  cases d8 : a == b with
  | true => (go_enter Try.func7, Try.ntmps7; go_wp2_with (first
                                                                                                                             | (go_at_call 8; (with_reducible refine (AW.out _).mono ?_); rintro e w5 ⟨rfl, hb⟩; (clear z0 z1 z2 z3; have DX := Lib.hid (DX.out.keep hb); have z0 := DX.out.c0; have z1 := DX.out.c1; have z2 := DX.out.c2; have z3 := DX.out.c3; clear hb))
                                                                                                                             | (go_at_call 9; (with_reducible refine (SH.out _ DX.out.d DX.out.t).mono ?_); rintro e w5 ⟨rfl, hb⟩; (clear z0 z1 z2 z3; have DX := Lib.hid (DX.out.keep hb); have z0 := DX.out.c0; have z1 := DX.out.c1; have z2 := DX.out.c2; have z3 := DX.out.c3; clear hb))); go_ret; exact ⟨rfl, DX.out.below⟩)
  | false =>
  have OF := Lib.hid (orderFacts (D := ⟨L, M, nx, bz⟩) (base := base) (other := other) (beq_eq_false_iff_ne.1 d7) (beq_eq_false_iff_ne.1 d8))
  obtain ⟨R1, hR1⟩ : ∃ R, addR ⟨L, M, nx, bz⟩ 12 s base a = R := ⟨_, rfl⟩
  obtain ⟨R3, hR3⟩ : ∃ R, addR ⟨L, M, nx, bz⟩ 12 t other b = R := ⟨_, rfl⟩
  rw [hR1, hR3] at OF
  obtain ⟨R2, hR2⟩ : ∃ R, addR R1.1 12 t other b = R := ⟨_, rfl⟩
  obtain ⟨R4, hR4⟩ : ∃ R, addR R3.1 12 s base a = R := ⟨_, rfl⟩
  rw [hR2, hR4] at OF
  have B1 : R1.1.defs.length ≤ 41 ∧ R1.1.waits.length ≤ 40 := by
    have h1 := addR_small (D := ⟨L, M, nx, bz⟩) (m := 12) (s := s) (base := base) (c := a)
    rw [hR1] at h1
    have h2 := shortK_iff.1 HSH.out
    dsimp only at h1
    omega
  have B3 : R3.1.defs.length ≤ 41 ∧ R3.1.waits.length ≤ 40 := by
    have h1 := addR_small (D := ⟨L, M, nx, bz⟩) (m := 12) (s := t) (base := other) (c := b)
    rw [hR3] at h1
    have h2 := shortK_iff.1 HSH.out
    dsimp only at h1
    omega
  have BL := Lib.hid B1
  have BL3 := Lib.hid B3
  clear B1 B3
  have C1 : Hid (∀ V, DefRow V da dl dc L → WaitRow V wa wl wc M → Calls Try.prog 18 #[deskV da dl dc wa wl wc nx bz, .int .i64 12, .string s, .string base, .int .i64 a] V (AddPost V R1)) := Lib.hid (fun V h1 h2 => by
    have h := HF.out.add da dl dc wa wl wc nx bz L M 12 s base a V h1 h2 SZ.out.1 SZ.out.2.2.1 IN.out.1 (by have := (shortK_iff.1 HSH.out).1; omega) (by have := (shortK_iff.1 HSH.out).2.1; omega)
    rw [hR1] at h
    exact h)
  have C3 : Hid (∀ V, DefRow V da dl dc L → WaitRow V wa wl wc M → Calls Try.prog 18 #[deskV da dl dc wa wl wc nx bz, .int .i64 12, .string t, .string other, .int .i64 b] V (AddPost V R3)) := Lib.hid (fun V h1 h2 => by
    have h := HF.out.add da dl dc wa wl wc nx bz L M 12 t other b V h1 h2 SZ.out.2.1 SZ.out.2.2.2.1 IN.out.2 (by have := (shortK_iff.1 HSH.out).1; omega) (by have := (shortK_iff.1 HSH.out).2.1; omega)
    rw [hR3] at h
    exact h)
  have C2 : Hid (∀ V da dl dc wa wl wc, DefRow V da dl dc R1.1.defs → WaitRow V wa wl wc R1.1.waits → Calls Try.prog 18 #[deskV da dl dc wa wl wc R1.1.next R1.1.busy, .int .i64 12, .string t, .string other, .int .i64 b] V (AddPost V R2)) := Lib.hid (fun V da dl dc wa wl wc h1 h2 => by
    have h := HF.out.add da dl dc wa wl wc R1.1.next R1.1.busy R1.1.defs R1.1.waits 12 t other b V h1 h2 SZ.out.2.1 SZ.out.2.2.2.1 IN.out.2 (by have := BL.out; omega) (by have := BL.out; omega)
    have e : (⟨R1.1.defs, R1.1.waits, R1.1.next, R1.1.busy⟩ : DeskD) = R1.1 := rfl
    rw [e, hR2] at h
    exact h)
  have C4 : Hid (∀ V da dl dc wa wl wc, DefRow V da dl dc R3.1.defs → WaitRow V wa wl wc R3.1.waits → Calls Try.prog 18 #[deskV da dl dc wa wl wc R3.1.next R3.1.busy, .int .i64 12, .string s, .string base, .int .i64 a] V (AddPost V R4)) := Lib.hid (fun V da dl dc wa wl wc h1 h2 => by
    have h := HF.out.add da dl dc wa wl wc R3.1.next R3.1.busy R3.1.defs R3.1.waits 12 s base a V h1 h2 SZ.out.1 SZ.out.2.2.1 IN.out.1 (by have := BL3.out; omega) (by have := BL3.out; omega)
    have e : (⟨R3.1.defs, R3.1.waits, R3.1.next, R3.1.busy⟩ : DeskD) = R3.1 := rfl
    rw [e, hR4] at h
    exact h)
  clear hR1 hR2 hR3 hR4 HSH BL BL3
  obtain ⟨⟨L1, M1, x1, y1⟩, p1, T1, e1⟩ := R1
  obtain ⟨⟨L2, M2, x2, y2⟩, p2, T2, e2⟩ := R2
  obtain ⟨⟨L3, M3, x3, y3⟩, p3, T3, e3⟩ := R3
  obtain ⟨⟨L4, M4, x4, y4⟩, p4, T4, e4⟩ := R4
  obtain rfl : e2 = e3 := OF.out.e2
  obtain rfl : e4 = e1 := OF.out.e4
  go_enter Try.func7, Try.ntmps7
  go_upto_region 5 with (first
                            | (go_at_call 8; (with_reducible refine (AW.out _).mono ?_); rintro e w5 ⟨rfl, hb⟩; (clear z0 z1 z2 z3; have DX := Lib.hid (DX.out.keep hb); have z0 := DX.out.c0; have z1 := DX.out.c1; have z2 := DX.out.c2; have z3 := DX.out.c3; clear hb))
                            | (go_at_call 9; (with_reducible refine (SH.out _ DX.out.d DX.out.t).mono ?_); rintro e w5 ⟨rfl, hb⟩; (clear z0 z1 z2 z3; have DX := Lib.hid (DX.out.keep hb); have z0 := DX.out.c0; have z1 := DX.out.c1; have z2 := DX.out.c2; have z3 := DX.out.c3; clear hb)))
  go_upto_region 6 with (go_at_call 18; (refine (C1.out _ DX.out.d DX.out.t).mono ?_); rintro e w1 ⟨a1, l1, c1, b1, m1, n1, u1, v1, k1, rfl, hd, ht, hi, hb, -, -, -⟩; have DX := Lib.hid (DX.out.keep hb); have KA := Lib.hid (KBox.new (D := ⟨L1, M1, x1, y1⟩) hd ht DX.out.below); have I1 : Hid (IntRow _ u1 v1 k1 T1) := Lib.hid (hi.below (below_desk w1 (.cells #[.slice a1 l1 c1, .slice b1 m1 n1, .int .i64 x1, .bool y1] 25))); clear z0 z1 z2 z3; have z0 := DX.out.c0; have z1 := DX.out.c1; have z2 := DX.out.c2; have z3 := DX.out.c3; clear hd ht hi hb; dsimp only)
  obtain ⟨W1, hW1, DX⟩ : ∃ W1, w1.alloc (.cells #[.slice a1 l1 c1, .slice b1 m1 n1, .int .i64 x1, .bool y1] 25) = W1 ∧ Hid (DBox w W1 w.heap.size da dl dc wa wl wc nx bz L M) := ⟨_, rfl, Lib.hid (DX.out.keep (below_desk _ _))⟩
  obtain ⟨g1, hg1⟩ : ∃ g, w1.heap.size = g := ⟨_, rfl⟩
  have KA : Hid (KBox w W1 g1 a1 l1 c1 b1 m1 n1 ⟨L1, M1, x1, y1⟩) := Lib.hid (by rw [← hW1, ← hg1]; exact KA.out)
  rw [hW1] at I1 ⊢
  rw [hg1]
  clear hW1 hg1 z0 z1 z2 z3
  have a0 := KA.out.bx.c0
  have a1' := KA.out.bx.c1
  have a2' := KA.out.bx.c2
  have a3' := KA.out.bx.c3
  go_upto_region 7 with (go_at_call 18; (refine (C2.out _ _ _ _ _ _ _ KA.out.d KA.out.t).mono ?_); rintro e w2 ⟨a2, l2, c2, b2, m2, n2, u2, v2, k2, rfl, hd, ht, hi, hb, -, -, -⟩; have DX := Lib.hid (DX.out.keep hb); have KA := Lib.hid (KA.out.keep hb); have I1 := Lib.hid (I1.out.below hb); have KB := Lib.hid (KBox.new (D := ⟨L2, M2, x2, y2⟩) hd ht DX.out.below); have I2 : Hid (IntRow _ u2 v2 k2 T2) := Lib.hid (hi.below (below_desk w2 (.cells #[.slice a2 l2 c2, .slice b2 m2 n2, .int .i64 x2, .bool y2] 25))); clear hd ht hi hb a0 a1' a2' a3'; dsimp only)
  obtain ⟨W2, hW2, DX, I1⟩ : ∃ W2, w2.alloc (.cells #[.slice a2 l2 c2, .slice b2 m2 n2, .int .i64 x2, .bool y2] 25) = W2 ∧ Hid (DBox w W2 w.heap.size da dl dc wa wl wc nx bz L M) ∧ Hid (IntRow W2 u1 v1 k1 T1) := ⟨_, rfl, Lib.hid (DX.out.keep (below_desk _ _)), Lib.hid (I1.out.below (below_desk _ _))⟩
  obtain ⟨g2, hg2⟩ : ∃ g, w2.heap.size = g := ⟨_, rfl⟩
  have KB : Hid (KBox w W2 g2 a2 l2 c2 b2 m2 n2 ⟨L2, M2, x2, y2⟩) := Lib.hid (by rw [← hW2, ← hg2]; exact KB.out)
  rw [hW2] at I2 ⊢
  rw [hg2]
  clear hW2 hg2 KA
  have z0 := DX.out.c0
  have z1 := DX.out.c1
  have z2 := DX.out.c2
  have z3 := DX.out.c3
  go_upto_region 8 with (go_at_call 18; (refine (C3.out _ DX.out.d DX.out.t).mono ?_); rintro e w3 ⟨a3, l3, c3, b3, m3, n3, u3, v3, k3, rfl, hd, ht, hi, hb, -, -, -⟩; have DX := Lib.hid (DX.out.keep hb); have KB := Lib.hid (KB.out.keep hb); have I1 := Lib.hid (I1.out.below hb); have I2 := Lib.hid (I2.out.below hb); have KC := Lib.hid (KBox.new (D := ⟨L3, M3, x3, y3⟩) hd ht DX.out.below); have I3 : Hid (IntRow _ u3 v3 k3 T3) := Lib.hid (hi.below (below_desk w3 (.cells #[.slice a3 l3 c3, .slice b3 m3 n3, .int .i64 x3, .bool y3] 25))); clear hd ht hi hb z0 z1 z2 z3; dsimp only)
  obtain ⟨W3, hW3, DX, KB, I1, I2⟩ : ∃ W3, w3.alloc (.cells #[.slice a3 l3 c3, .slice b3 m3 n3, .int .i64 x3, .bool y3] 25) = W3 ∧ Hid (DBox w W3 w.heap.size da dl dc wa wl wc nx bz L M) ∧ Hid (KBox w W3 g2 a2 l2 c2 b2 m2 n2 ⟨L2, M2, x2, y2⟩) ∧ Hid (IntRow W3 u1 v1 k1 T1) ∧ Hid (IntRow W3 u2 v2 k2 T2) := ⟨_, rfl, Lib.hid (DX.out.keep (below_desk _ _)), Lib.hid (KB.out.keep (below_desk _ _)), Lib.hid (I1.out.below (below_desk _ _)), Lib.hid (I2.out.below (below_desk _ _))⟩
  obtain ⟨g3, hg3⟩ : ∃ g, w3.heap.size = g := ⟨_, rfl⟩
  have KC : Hid (KBox w W3 g3 a3 l3 c3 b3 m3 n3 ⟨L3, M3, x3, y3⟩) := Lib.hid (by rw [← hW3, ← hg3]; exact KC.out)
  rw [hW3] at I3 ⊢
  rw [hg3]
  clear hW3 hg3
  have a0 := KC.out.bx.c0
  have a1' := KC.out.bx.c1
  have a2' := KC.out.bx.c2
  have a3' := KC.out.bx.c3
  go_upto_region 9 with (go_at_call 18; (refine (C4.out _ _ _ _ _ _ _ KC.out.d KC.out.t).mono ?_); rintro e w4 ⟨a4, l4, c4, b4, m4, n4, u4, v4, k4, rfl, hd, ht, hi, hb, -, -, -⟩; have DX := Lib.hid (DX.out.keep hb); have KB := Lib.hid (KB.out.keep hb); have I1 := Lib.hid (I1.out.below hb); have I2 := Lib.hid (I2.out.below hb); have I3 := Lib.hid (I3.out.below hb); have KD := Lib.hid (KBox.new (D := ⟨L4, M4, x4, y4⟩) hd ht DX.out.below); have I4 : Hid (IntRow _ u4 v4 k4 T4) := Lib.hid (hi.below (below_desk w4 (.cells #[.slice a4 l4 c4, .slice b4 m4 n4, .int .i64 x4, .bool y4] 25))); clear hd ht hi hb a0 a1' a2' a3'; dsimp only)
  obtain ⟨W4, hW4, DX, KB, I1, I2, I3⟩ : ∃ W4, w4.alloc (.cells #[.slice a4 l4 c4, .slice b4 m4 n4, .int .i64 x4, .bool y4] 25) = W4 ∧ Hid (DBox w W4 w.heap.size da dl dc wa wl wc nx bz L M) ∧ Hid (KBox w W4 g2 a2 l2 c2 b2 m2 n2 ⟨L2, M2, x2, y2⟩) ∧ Hid (IntRow W4 u1 v1 k1 T1) ∧ Hid (IntRow W4 u2 v2 k2 T2) ∧ Hid (IntRow W4 u3 v3 k3 T3) := ⟨_, rfl, Lib.hid (DX.out.keep (below_desk _ _)), Lib.hid (KB.out.keep (below_desk _ _)), Lib.hid (I1.out.below (below_desk _ _)), Lib.hid (I2.out.below (below_desk _ _)), Lib.hid (I3.out.below (below_desk _ _))⟩
  obtain ⟨g4, hg4⟩ : ∃ g, w4.heap.size = g := ⟨_, rfl⟩
  have KD : Hid (KBox w W4 g4 a4 l4 c4 b4 m4 n4 ⟨L4, M4, x4, y4⟩) := Lib.hid (by rw [← hW4, ← hg4]; exact KD.out)
  rw [hW4] at I4 ⊢
  rw [hg4]
  clear hW4 hg4 KC C1 C2 C3 C4
  have z3 := DX.out.c3
  cases bz with
  | true =>
    go_wp2
    go_ret
    exact ⟨rfl, DX.out.below⟩
  | false =>
  cases f1 : e4 == 0 with
  | false =>
    have f1' : (e4 != 0) = true := by unfold bne; rw [f1]; rfl
    go_wp2
    go_ret
    exact ⟨by simp, DX.out.below⟩
  | true =>
  obtain rfl : e4 = 0 := beq_iff_eq.1 f1
  cases f3 : e2 == 0 with
  | false =>
    have f3' : (e2 != 0) = true := by unfold bne; rw [f3]; rfl
    go_wp2
    go_ret
    exact ⟨by simp, DX.out.below⟩
  | true =>
  obtain rfl : e2 = 0 := beq_iff_eq.1 f3
  clear f1 f3
  obtain ⟨t1, t2⟩ := OF.out.told rfl rfl
  dsimp only at t1 t2
  subst t1
  subst t2
  have CI : Hid (∀ V a l c a' l' c' T, IntRow V a l c T → IntRow V a' l' c' T → Calls Try.prog 21 #[.slice a l c, .slice a' l' c'] V fun e w' => e = .returned (.bool true) ∧ Below V.heap.size V w') := Lib.hid (fun V a l c a' l' c' T h h' => (refints_any a a' l c l' c' T T V h h').mono fun e w' ⟨he, n, hn⟩ => ⟨by rw [he]; simp, by rw [hn]; exact below_dn (Below.refl _ _) n⟩)
  obtain ⟨r2, r4, hmem⟩ := OF.out.find rfl rfl
  dsimp only at r2 r4 hmem
  have OFI := Lib.hid (order_find r2 r4 hmem l.toList i.toList)
  obtain ⟨x, hx⟩ : ∃ x, findZ2 L2 l.toList i.toList = x := ⟨_, rfl⟩
  obtain ⟨y, hy⟩ : ∃ y, findZ2 L4 l.toList i.toList = y := ⟨_, rfl⟩
  dsimp only at OFI
  rw [hx, hy] at OFI
  have FB : Hid (∀ V, DefRow V a2 l2 c2 L2 → WaitRow V b2 m2 n2 M2 → Calls Try.prog 11 #[deskV a2 l2 c2 b2 m2 n2 x2 y2, .string l, .string i] V fun e w' => e = .returned (.int .i64 x) ∧ Below V.heap.size V w') := Lib.hid (fun V h1 h2 => by
    have h := HF.out.find a2 l2 c2 b2 m2 n2 x2 y2 L2 M2 l i V h1 h2 SZ.out.2.2.2.2.1 SZ.out.2.2.2.2.2
    rw [show ifRight ⟨L2, M2, x2, y2⟩ (findZ2 L2 l.toList i.toList) = x by unfold ifRight; rw [if_pos (rightK_iff.2 r2)]; exact hx] at h
    exact h)
  have FD : Hid (∀ V, DefRow V a4 l4 c4 L4 → WaitRow V b4 m4 n4 M4 → Calls Try.prog 11 #[deskV a4 l4 c4 b4 m4 n4 x4 y4, .string l, .string i] V fun e w' => e = .returned (.int .i64 y) ∧ Below V.heap.size V w') := Lib.hid (fun V h1 h2 => by
    have h := HF.out.find a4 l4 c4 b4 m4 n4 x4 y4 L4 M4 l i V h1 h2 SZ.out.2.2.2.2.1 SZ.out.2.2.2.2.2
    rw [show ifRight ⟨L4, M4, x4, y4⟩ (findZ2 L4 l.toList i.toList) = y by unfold ifRight; rw [if_pos (rightK_iff.2 r4)]; exact hy] at h
    exact h)
  clear hx hy r2 r4 hmem OF
  go_upto_region 13 with (first
    | (go_at_call 21; (with_reducible refine (CI.out _ _ _ _ _ _ _ _ I1.out I4.out).mono ?_); rintro e w5 ⟨rfl, hb⟩; have DX := Lib.hid (DX.out.keep hb); have KB := Lib.hid (KB.out.keep hb); have KD := Lib.hid (KD.out.keep hb); have I2 := Lib.hid (I2.out.below hb); have I3 := Lib.hid (I3.out.below hb); clear hb)
    | (go_at_call 21; (with_reducible refine (CI.out _ _ _ _ _ _ _ _ I2.out I3.out).mono ?_); rintro e w6 ⟨rfl, hb⟩; have DX := Lib.hid (DX.out.keep hb); have KB := Lib.hid (KB.out.keep hb); have KD := Lib.hid (KD.out.keep hb); clear hb))
  have y0 := Ext.cell KB.out.bx.c0 KB.out.bx.lt
  have y1 := Ext.cell KB.out.bx.c1 KB.out.bx.lt
  have y2' := Ext.cell KB.out.bx.c2 KB.out.bx.lt
  have y3' := Ext.cell KB.out.bx.c3 KB.out.bx.lt
  have u0 := Ext.cell KD.out.bx.c0 KD.out.bx.lt
  have u1' := Ext.cell KD.out.bx.c1 KD.out.bx.lt
  have u2' := Ext.cell KD.out.bx.c2 KD.out.bx.lt
  have u3' := Ext.cell KD.out.bx.c3 KD.out.bx.lt
  have E2 : Hid (∀ x' : Ext w6, Calls Try.prog 11 #[deskV a2 l2 c2 b2 m2 n2 x2 y2, .string l, .string i] x'.v fun e w' => e = .returned (.int .i64 x) ∧ Below x'.v.heap.size x'.v w') := Lib.hid (fun x' => FB.out _ (KB.out.d.below x'.below) (KB.out.t.below x'.below))
  have E4 : Hid (∀ x' : Ext w6, Calls Try.prog 11 #[deskV a4 l4 c4 b4 m4 n4 x4 y4, .string l, .string i] x'.v fun e w' => e = .returned (.int .i64 y) ∧ Below x'.v.heap.size x'.v w') := Lib.hid (fun x' => FD.out _ (KD.out.d.below x'.below) (KD.out.t.below x'.below))
  refine wp_region_ext (by kernel_rfl) (by kernel_rfl) ?_
  repeat (go_big_quiet_step (first
    | (go_at_call 11; with_reducible exact Ext.call_below (E2.out _))
    | (go_at_call 11; with_reducible exact Ext.call_below (E4.out _))))
  refine wpQuiet_nil ?_
  intro w' hw'
  obtain ⟨⟨w8, hb8⟩, hw''⟩ := hw'
  dsimp only at hw''
  subst hw''
  have DX := Lib.hid (DX.out.keep hb8)
  have KB := Lib.hid (KB.out.keep hb8)
  have KD := Lib.hid (KD.out.keep hb8)
  clear y0 y1 y2' y3' u0 u1' u2' u3' E2 E4 hb8 FB FD
  rcases OFI.out with ⟨rfl, rfl⟩ | ⟨j, k, ⟨n, o, c⟩, rfl, rfl, hj, hk⟩
  · go_wp2
    go_ret
    exact ⟨rfl, DX.out.below⟩
  · have hjl : j < l2 := by have := (List.getElem?_eq_some_iff.1 hj).1; rw [KB.out.d.hlen] at this; exact this
    have hkl : k < l4 := by have := (List.getElem?_eq_some_iff.1 hk).1; rw [KD.out.d.hlen] at this; exact this
    obtain ⟨bj, oj, xj, rfl, hbj, hgj, j0, j1, j2, -⟩ := KB.out.d.get hjl
    obtain ⟨bk, ok, xk, rfl, hbk, hgk, q0, q1, q2, -⟩ := KD.out.d.get hkl
    obtain rfl : xj = ⟨n, o, c⟩ := Option.some.inj (hgj.symm.trans hj)
    obtain rfl : xk = ⟨n, o, c⟩ := Option.some.inj (hgk.symm.trans hk)
    dsimp only at j0 j1 j2 q0 q1 q2
    have f1 : ((j : Int) == -1) = false := beq_eq_false_iff_ne.2 (by omega)
    have f2 : ((k : Int) == -1) = false := beq_eq_false_iff_ne.2 (by omega)
    have g0 := KB.out.bx.c0
    have g0' := KD.out.bx.c0
    have hl2 := KB.out.d.len64
    have hl4 := KD.out.d.len64
    have de := fun W => def_eql n o c n o c W
    have sd : sameD n o c n o c = true := by unfold sameD; simp
    rw [sd] at de
    go_upto_region 16 with fail
    go_quiet (fail)
    go_wp2
    go_ret
    exact ⟨rfl, below_dn DX.out.below _⟩
end Go.Proofs.Ytapfhgimeohmgaa
