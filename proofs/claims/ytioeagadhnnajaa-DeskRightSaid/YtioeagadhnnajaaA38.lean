/- Texts joined in build order: Ref9Fns Ref9Await. -/
import Derived.Test.YtioeagadhnnajaaA32
import Derived.Test.YtioeagadhnnajaaA33
import Derived.Test.YtioeagadhnnajaaA36
import Derived.Test.YtioeagadhnnajaaA37
/- What is asked of instarref09's Add and Await: they answer what the mathematics says. -/
namespace Go.Proofs.Ytioeagadhnnajaa
open Go.RowKit
def RefAddPost (W : World) (R : DeskD × Int × List Int × Int) (e : Ending) (W' : World) : Prop :=
  ∃ da dl dc wa wl wc ta tl tc, e = .returned (.tuple #[deskV da dl dc wa wl wc R.1.next R.1.busy, .int .i64 R.2.1, .slice ta tl tc, .int .i64 R.2.2.2]) ∧ DefRow W' da dl dc R.1.defs ∧ WaitRow W' wa wl wc R.1.waits ∧ IntRow W' ta tl tc R.2.2.1 ∧ Below W.heap.size W W'
def RefAwaitPost (W : World) (R : DeskD × Int × Int × Int) (e : Ending) (W' : World) : Prop :=
  ∃ da dl dc wa wl wc, e = .returned (.tuple #[deskV da dl dc wa wl wc R.1.next R.1.busy, .int .i64 R.2.1, .int .i64 R.2.2.1, .int .i64 R.2.2.2]) ∧ DefRow W' da dl dc R.1.defs ∧ WaitRow W' wa wl wc R.1.waits ∧ Below W.heap.size W W'
structure Ref9Fns : Prop where
  add : ∀ (da : Option Addr) (dl dc : Nat) (wa : Option Addr) (wl wc : Nat) (nx : Int) (bz : Bool) (L : List DefD) (M : List WaitD) (m : Int) (s base : ByteArray) (c : Int) (W : World), DefRow W da dl dc L → WaitRow W wa wl wc M → shortK L M = true → s.size ≤ 1000 → base.size ≤ 1000 → In64 c →
    Calls Try.prog 15 #[deskV da dl dc wa wl wc nx bz, .int .i64 m, .string s, .string base, .int .i64 c] W (RefAddPost W (addR9 ⟨L, M, nx, bz⟩ m s base c))
  await : ∀ (da : Option Addr) (dl dc : Nat) (wa : Option Addr) (wl wc : Nat) (nx : Int) (bz : Bool) (L : List DefD) (M : List WaitD) (s : ByteArray) (W : World), DefRow W da dl dc L → WaitRow W wa wl wc M → shortK L M = true → s.size ≤ 1000 → In64 nx →
    Calls Try.prog 20 #[deskV da dl dc wa wl wc nx bz, .string s] W (RefAwaitPost W (awaitR ⟨L, M, nx, bz⟩ s))
end Go.Proofs.Ytioeagadhnnajaa
/- instarref09's Await, where nobody may wait. -/
namespace Go.Proofs.Ytioeagadhnnajaa
open Go.RowKit
set_option maxHeartbeats 4000000 in
set_option maxRecDepth 100000 in
theorem refawait_err (da : Option Addr) (dl dc : Nat) (wa : Option Addr) (wl wc : Nat) (nx : Int) (bz : Bool) (L : List DefD) (M : List WaitD) (s : ByteArray) (w : World) (hd : DefRow w da dl dc L) (ht : WaitRow w wa wl wc M) (sd : smallL9 L) (st : smallT9 M) (hs : s.size ≤ 1000000) (hE : awaitE ⟨L, M, nx, bz⟩ s.toList ≠ 0) :
    Calls Try.prog 20 #[deskV da dl dc wa wl wc nx bz, .string s] w (RefAwaitPost w (awaitR ⟨L, M, nx, bz⟩ s)) := by
  have hR : awaitR ⟨L, M, nx, bz⟩ s = (⟨L, M, nx, bz⟩, -1, -1, awaitE ⟨L, M, nx, bz⟩ s.toList) := by unfold awaitR; rw [if_neg hE]
  rw [hR]
  clear hR
  obtain ⟨V, hV, DX, RB⟩ : ∃ V, (w.alloc (deskB da dl dc wa wl wc nx bz)).alloc (.cells #[.slice none 0 0, .slice none 0 0, .int .i64 0, .bool false] 25) = V ∧ Hid (DBox w V w.heap.size da dl dc wa wl wc nx bz L M) ∧ Hid (GBox V (w.heap.size + 1) (.slice none 0 0) (.slice none 0 0) 0 false) := ⟨_, rfl, Lib.hid ((DBox.start (nx := nx) (bz := bz) hd ht).keep (below_desk _ _)), Lib.hid (by have h := GBox.new (w.alloc (deskB da dl dc wa wl wc nx bz)) (.slice none 0 0) (.slice none 0 0) 0 false; simpa using h)⟩
  obtain ⟨q0, hq0⟩ : ∃ q, rightK ⟨L, M, nx, bz⟩ = q := ⟨_, rfl⟩
  obtain ⟨q1, hq1⟩ : ∃ q, customL s.toList = q := ⟨_, rfl⟩
  have RI : Hid (∀ V, DefRow V da dl dc L → WaitRow V wa wl wc M → Calls Try.prog 6 #[deskV da dl dc wa wl wc nx bz] V fun e w' => e = .returned (.bool q0) ∧ Below V.heap.size V w') := Lib.hid (fun V h1 h2 => by
    have h := refright9_any da dl dc wa wl wc nx bz L M V h1 h2 sd st
    rw [hq0] at h
    exact h)
  have CU : Hid (∀ V, Calls Try.prog 21 #[.string s] V fun e w' => e = .returned (.bool q1) ∧ Below V.heap.size V w') := Lib.hid (fun V => by
    have h := refcustom_any s V hs
    rw [hq1] at h
    exact h)
  obtain ⟨ee, hee⟩ : ∃ ee, awaitE ⟨L, M, nx, bz⟩ s.toList = ee := ⟨_, rfl⟩
  rw [hee] at hE
  rw [hee]
  unfold awaitE at hee
  rw [hq0, hq1] at hee
  dsimp only at hee
  have HD := Lib.hid hd
  have HT := Lib.hid ht
  clear hq0 hq1 hd ht sd st hs
  go_enter Try.func20, Try.ntmps20
  go_upto_region 1 with fail
  clear hV
  (have z0 := DX.out.c0; have z1 := DX.out.c1; have z2 := DX.out.c2; have z3 := DX.out.c3; have r0 := RB.out.c0; have r1 := RB.out.c1; have r2 := RB.out.c2; have r3 := RB.out.c3; have k0 := RB.out.f 0; have k1 := RB.out.f 1; have k2 := RB.out.f 2; have k3 := RB.out.f 3)
  cases q0 with
  | false =>
    rw [if_pos rfl] at hee
    subst hee
    (clear hE; go_wp2_with (first | (go_at_call 6; (with_reducible refine (RI.out _ DX.out.d DX.out.t).mono ?_); rintro e w5 ⟨rfl, hb⟩; (have DX := Lib.hid (DX.out.keep hb); have RB := Lib.hid (RB.out.keep hb); clear z0 z1 z2 z3 r0 r1 r2 r3 k0 k1 k2 k3 hb; (have z0 := DX.out.c0; have z1 := DX.out.c1; have z2 := DX.out.c2; have z3 := DX.out.c3; have r0 := RB.out.c0; have r1 := RB.out.c1; have r2 := RB.out.c2; have r3 := RB.out.c3; have k0 := RB.out.f 0; have k1 := RB.out.f 1; have k2 := RB.out.f 2; have k3 := RB.out.f 3))) | (go_at_call 21; (with_reducible refine (CU.out _).mono ?_); rintro e w5 ⟨rfl, hb⟩; (have DX := Lib.hid (DX.out.keep hb); have RB := Lib.hid (RB.out.keep hb); clear z0 z1 z2 z3 r0 r1 r2 r3 k0 k1 k2 k3 hb; (have z0 := DX.out.c0; have z1 := DX.out.c1; have z2 := DX.out.c2; have z3 := DX.out.c3; have r0 := RB.out.c0; have r1 := RB.out.c1; have r2 := RB.out.c2; have r3 := RB.out.c3; have k0 := RB.out.f 0; have k1 := RB.out.f 1; have k2 := RB.out.f 2; have k3 := RB.out.f 3)))); refine bodyPost_ret (v := .tuple #[deskV da dl dc wa wl wc nx bz, .int .i64 (-1), .int .i64 (-1), .int .i64 _]) ?_ rfl ⟨da, dl, dc, wa, wl, wc, rfl, ?_, ?_, ?_⟩; (simp [results, Try.results20, go_sem, r0, r1, r2, r3]); (exact DX.out.d.same2 (fun b off e hp => put4_same (by subst e; have := HD.out.block_lt hp; omega)) (by simp [World.setCell])); (exact DX.out.t.same2 (fun b off e hp => put4_same (by subst e; have := HT.out.block_lt hp; omega)) (by simp [World.setCell])); exact put4_below DX.out.below (by omega))
  | true =>
    rw [if_neg (by decide)] at hee
    cases q1 with
    | false =>
      rw [if_pos rfl] at hee
      subst hee
      (clear hE; go_wp2_with (first | (go_at_call 6; (with_reducible refine (RI.out _ DX.out.d DX.out.t).mono ?_); rintro e w5 ⟨rfl, hb⟩; (have DX := Lib.hid (DX.out.keep hb); have RB := Lib.hid (RB.out.keep hb); clear z0 z1 z2 z3 r0 r1 r2 r3 k0 k1 k2 k3 hb; (have z0 := DX.out.c0; have z1 := DX.out.c1; have z2 := DX.out.c2; have z3 := DX.out.c3; have r0 := RB.out.c0; have r1 := RB.out.c1; have r2 := RB.out.c2; have r3 := RB.out.c3; have k0 := RB.out.f 0; have k1 := RB.out.f 1; have k2 := RB.out.f 2; have k3 := RB.out.f 3))) | (go_at_call 21; (with_reducible refine (CU.out _).mono ?_); rintro e w5 ⟨rfl, hb⟩; (have DX := Lib.hid (DX.out.keep hb); have RB := Lib.hid (RB.out.keep hb); clear z0 z1 z2 z3 r0 r1 r2 r3 k0 k1 k2 k3 hb; (have z0 := DX.out.c0; have z1 := DX.out.c1; have z2 := DX.out.c2; have z3 := DX.out.c3; have r0 := RB.out.c0; have r1 := RB.out.c1; have r2 := RB.out.c2; have r3 := RB.out.c3; have k0 := RB.out.f 0; have k1 := RB.out.f 1; have k2 := RB.out.f 2; have k3 := RB.out.f 3)))); refine bodyPost_ret (v := .tuple #[deskV da dl dc wa wl wc nx bz, .int .i64 (-1), .int .i64 (-1), .int .i64 _]) ?_ rfl ⟨da, dl, dc, wa, wl, wc, rfl, ?_, ?_, ?_⟩; (simp [results, Try.results20, go_sem, r0, r1, r2, r3]); (exact DX.out.d.same2 (fun b off e hp => put4_same (by subst e; have := HD.out.block_lt hp; omega)) (by simp [World.setCell])); (exact DX.out.t.same2 (fun b off e hp => put4_same (by subst e; have := HT.out.block_lt hp; omega)) (by simp [World.setCell])); exact put4_below DX.out.below (by omega))
    | true =>
      rw [if_neg (by decide)] at hee
      by_cases hn : 100000 ≤ nx
      · rw [if_pos hn] at hee
        subst hee
        (clear hE; go_wp2_with (first | (go_at_call 6; (with_reducible refine (RI.out _ DX.out.d DX.out.t).mono ?_); rintro e w5 ⟨rfl, hb⟩; (have DX := Lib.hid (DX.out.keep hb); have RB := Lib.hid (RB.out.keep hb); clear z0 z1 z2 z3 r0 r1 r2 r3 k0 k1 k2 k3 hb; (have z0 := DX.out.c0; have z1 := DX.out.c1; have z2 := DX.out.c2; have z3 := DX.out.c3; have r0 := RB.out.c0; have r1 := RB.out.c1; have r2 := RB.out.c2; have r3 := RB.out.c3; have k0 := RB.out.f 0; have k1 := RB.out.f 1; have k2 := RB.out.f 2; have k3 := RB.out.f 3))) | (go_at_call 21; (with_reducible refine (CU.out _).mono ?_); rintro e w5 ⟨rfl, hb⟩; (have DX := Lib.hid (DX.out.keep hb); have RB := Lib.hid (RB.out.keep hb); clear z0 z1 z2 z3 r0 r1 r2 r3 k0 k1 k2 k3 hb; (have z0 := DX.out.c0; have z1 := DX.out.c1; have z2 := DX.out.c2; have z3 := DX.out.c3; have r0 := RB.out.c0; have r1 := RB.out.c1; have r2 := RB.out.c2; have r3 := RB.out.c3; have k0 := RB.out.f 0; have k1 := RB.out.f 1; have k2 := RB.out.f 2; have k3 := RB.out.f 3)))); refine bodyPost_ret (v := .tuple #[deskV da dl dc wa wl wc nx bz, .int .i64 (-1), .int .i64 (-1), .int .i64 _]) ?_ rfl ⟨da, dl, dc, wa, wl, wc, rfl, ?_, ?_, ?_⟩; (simp [results, Try.results20, go_sem, r0, r1, r2, r3]); (exact DX.out.d.same2 (fun b off e hp => put4_same (by subst e; have := HD.out.block_lt hp; omega)) (by simp [World.setCell])); (exact DX.out.t.same2 (fun b off e hp => put4_same (by subst e; have := HT.out.block_lt hp; omega)) (by simp [World.setCell])); exact put4_below DX.out.below (by omega))
      · rw [if_neg hn] at hee
        exact absurd hee.symm hE
end Go.Proofs.Ytioeagadhnnajaa
