/- Texts joined in build order: Ref9Add. -/
import Derived.Test.YtioeagadhnnajaaA38
/- instarref09's Add, where it may not be. -/
namespace Go.Proofs.Ytioeagadhnnajaa
open Go.RowKit
set_option maxHeartbeats 4000000 in
set_option maxRecDepth 100000 in
theorem refadd_err (da : Option Addr) (dl dc : Nat) (wa : Option Addr) (wl wc : Nat) (nx : Int) (bz : Bool) (L : List DefD) (M : List WaitD) (m : Int) (s base : ByteArray) (c : Int) (w : World) (hd : DefRow w da dl dc L) (ht : WaitRow w wa wl wc M) (sd : smallL9 L) (st : smallT9 M) (hs : s.size ≤ 1000000) (hE : mayE ⟨L, M, nx, bz⟩ m s.toList base.toList c ≠ 0) :
    Calls Try.prog 15 #[deskV da dl dc wa wl wc nx bz, .int .i64 m, .string s, .string base, .int .i64 c] w (RefAddPost w (addR9 ⟨L, M, nx, bz⟩ m s base c)) := by
  rw [addR_not hE]
  obtain ⟨V, hV, DX, RB⟩ : ∃ V, (w.alloc (deskB da dl dc wa wl wc nx bz)).alloc (.cells #[.slice none 0 0, .slice none 0 0, .int .i64 0, .bool false] 25) = V ∧ Hid (DBox w V w.heap.size da dl dc wa wl wc nx bz L M) ∧ Hid (GBox V (w.heap.size + 1) (.slice none 0 0) (.slice none 0 0) 0 false) := ⟨_, rfl, Lib.hid ((DBox.start (nx := nx) (bz := bz) hd ht).keep (below_desk _ _)), Lib.hid (by have h := GBox.new (w.alloc (deskB da dl dc wa wl wc nx bz)) (.slice none 0 0) (.slice none 0 0) 0 false; simpa using h)⟩
  obtain ⟨ee, hee⟩ : ∃ ee, mayE ⟨L, M, nx, bz⟩ m s.toList base.toList c = ee := ⟨_, rfl⟩
  have MY : Hid (∀ V, DefRow V da dl dc L → WaitRow V wa wl wc M → Calls Try.prog 35 #[deskV da dl dc wa wl wc nx bz, .int .i64 m, .string s, .string base, .int .i64 c] V fun e w' => e = .returned (.int .i64 ee) ∧ Below V.heap.size V w') := Lib.hid (fun V h1 h2 => by
    have h := refmay9_any da dl dc wa wl wc nx bz L M m s base c V h1 h2 sd st hs
    rw [hee] at h
    exact h)
  rw [hee] at hE
  rw [hee]
  have q1 : (ee != 0) = true := bne_iff_ne.2 hE
  have q2 : (ee == 0) = false := beq_eq_false_iff_ne.2 hE
  have HD := Lib.hid hd
  have HT := Lib.hid ht
  clear hee hE hd ht sd st hs
  go_enter Try.func15, Try.ntmps15
  go_upto_region 1 with fail
  clear hV
  (have z0 := DX.out.c0; have z1 := DX.out.c1; have z2 := DX.out.c2; have z3 := DX.out.c3; have r0 := RB.out.c0; have r1 := RB.out.c1; have r2 := RB.out.c2; have r3 := RB.out.c3; have k0 := RB.out.f 0; have k1 := RB.out.f 1; have k2 := RB.out.f 2; have k3 := RB.out.f 3)
  go_wp2_with (go_at_call 35; (with_reducible refine (MY.out _ DX.out.d DX.out.t).mono ?_); rintro e w5 ⟨rfl, hb⟩; (have DX := Lib.hid (DX.out.keep hb); have RB := Lib.hid (RB.out.keep hb); clear z0 z1 z2 z3 r0 r1 r2 r3 k0 k1 k2 k3 hb; (have z0 := DX.out.c0; have z1 := DX.out.c1; have z2 := DX.out.c2; have z3 := DX.out.c3; have r0 := RB.out.c0; have r1 := RB.out.c1; have r2 := RB.out.c2; have r3 := RB.out.c3; have k0 := RB.out.f 0; have k1 := RB.out.f 1; have k2 := RB.out.f 2; have k3 := RB.out.f 3)))
  refine bodyPost_ret (v := .tuple #[deskV da dl dc wa wl wc nx bz, .int .i64 (-1), .slice none 0 0, .int .i64 ee]) ?_ rfl ⟨da, dl, dc, wa, wl, wc, none, 0, 0, rfl, ?_, ?_, IntRow.nil9 _, ?_⟩
  · simp [results, Try.results15, go_sem, r0, r1, r2, r3]
  · exact DX.out.d.same2 (fun b off e hp => put4_same (by subst e; have := HD.out.block_lt hp; omega)) (by simp [World.setCell])
  · exact DX.out.t.same2 (fun b off e hp => put4_same (by subst e; have := HT.out.block_lt hp; omega)) (by simp [World.setCell])
  · exact put4_below DX.out.below (by omega)
end Go.Proofs.Ytioeagadhnnajaa
