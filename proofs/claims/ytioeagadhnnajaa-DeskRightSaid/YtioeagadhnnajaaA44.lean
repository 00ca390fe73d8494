/- Texts joined in build order: DeskAddErr. -/
import Derived.Test.YtioeagadhnnajaaA31
/- Package desk's Add, where it may not be. -/
namespace Go.Proofs.Ytioeagadhnnajaa
open Go.RowKit
theorem below_alloc_start (w : World) (a b c : Obj) : Below w.heap.size w (((w.alloc a).alloc b).alloc c) := (((Below.refl _ _).alloc (Nat.le_refl _) a).alloc (by simp) b).alloc (by simp; omega) c
set_option maxHeartbeats 4000000 in
set_option maxRecDepth 100000 in
theorem add_err (da : Option Addr) (dl dc : Nat) (wa : Option Addr) (wl wc : Nat) (nx : Int) (bz : Bool) (L : List DefD) (M : List WaitD) (m : Int) (s base : ByteArray) (c : Int) (w : World) (hd : DefRow w da dl dc L) (ht : WaitRow w wa wl wc M) (hs : s.size ≤ maxLen) (h1 : L.length ≤ 1000) (h2 : M.length ≤ 1000)
    (hm : mayE ⟨L, M, nx, bz⟩ m s.toList base.toList c ≠ 0) :
    Calls Try.prog 14 #[deskV da dl dc wa wl wc nx bz, .int .i64 m, .string s, .string base, .int .i64 c] w (AddPost9 w (⟨L, M, nx, bz⟩, -1, [], mayE ⟨L, M, nx, bz⟩ m s.toList base.toList c)) := by
  have AI := Lib.hid (AddIn.start (nx := nx) (bz := bz) (s := s) hd ht)
  have B0 := Lib.hid (below_alloc_start w (deskB da dl dc wa wl wc nx bz) (.cells #[.string s] 9) (.cells #[.slice none 0 0, .slice none 0 0, .int .i64 0, .bool false] 25))
  have HD := Lib.hid hd
  have HT := Lib.hid ht
  have F5 : Hid (∀ V, DefRow V da dl dc L → WaitRow V wa wl wc M → Calls Try.prog 30 #[deskV da dl dc wa wl wc nx bz] V (FreshPost V L M nx bz)) := Lib.hid (fun V h h' => freshdesk_any da dl dc wa wl wc nx bz L M V h h' (by rw [← hd.hlen]; exact h1) (by rw [← ht.hlen]; exact h2))
  obtain ⟨z, hz⟩ : ∃ z, mayE ⟨L, M, nx, bz⟩ m s.toList base.toList c = z := ⟨_, rfl⟩
  have MY : Hid (∀ V, DefRow V da dl dc L → WaitRow V wa wl wc M → Calls Try.prog 16 #[deskV da dl dc wa wl wc nx bz, .int .i64 m, .string s, .string base, .int .i64 c] V fun e w' => e = .returned (.int .i64 z) ∧ Below V.heap.size V w') := Lib.hid (fun V h h' => by
    have := deskmay_any da dl dc wa wl wc nx bz L M m s base c V h h' hs
    rw [hz] at this
    exact this)
  rw [hz] at hm ⊢
  have z1 : (z == 0) = false := beq_eq_false_iff_ne.2 hm
  have z2 : (z != 0) = true := bne_iff_ne.2 hm
  clear hz hm hd ht hs h1 h2
  go_enter Try.func14, Try.ntmps14
  go_upto_region 1 with fail
  obtain ⟨V0, hV0⟩ : ∃ V0, ((w.alloc (deskB da dl dc wa wl wc nx bz)).alloc (.cells #[.string s] 9)).alloc (.cells #[.slice none 0 0, .slice none 0 0, .int .i64 0, .bool false] 25) = V0 := ⟨_, rfl⟩
  have e3 : V0.heap.size = w.heap.size + 1 + 1 + 1 := by rw [← hV0]; simp
  rw [hV0] at AI B0 ⊢
  have E3 := Lib.hid e3
  clear hV0 e3
  have d0 := AI.out.d.c0
  have d1 := AI.out.d.c1
  have d2 := AI.out.d.c2
  have d3 := AI.out.d.c3
  go_upto_region 2 with (go_at_call 30; (refine (F5.out _ AI.out.d.d AI.out.d.t).mono ?_); rintro e w1 ⟨a2, l2, c2, a3, l3, c3, rfl, ho⟩; have OD := Lib.hid ho; clear ho)
  obtain ⟨W1, hW1⟩ : ∃ W1, w1.alloc (.cells #[.slice a2 l2 c2, .slice a3 l3 c3, .int .i64 nx, .bool bz] 25) = W1 := ⟨_, rfl⟩
  have HB1 : Hid (Below V0.heap.size V0 W1) := Lib.hid (by rw [← hW1]; exact OD.out.below.alloc OD.out.below.size _)
  have GB := Lib.hid (GBox.new w1 (.slice a2 l2 c2) (.slice a3 l3 c3) nx bz)
  have OD1 := Lib.hid (OD.out.keep (below_desk w1 (.cells #[.slice a2 l2 c2, .slice a3 l3 c3, .int .i64 nx, .bool bz] 25)))
  rw [hW1] at GB OD1 ⊢
  clear hW1 d0 d1 d2 d3
  have A1 := Lib.hid (AI.out.keep HB1.out)
  have d0 := A1.out.d.c0
  have d1 := A1.out.d.c1
  have d2 := A1.out.d.c2
  have d3 := A1.out.d.c3
  have ds := A1.out.s
  go_upto_region 3 with (go_at_call 16; (with_reducible refine (MY.out _ A1.out.d.d A1.out.d.t).mono ?_); rintro e w2 ⟨rfl, hb2⟩; have HB2 := Lib.hid hb2; clear hb2)
  clear d0 d1 d2 d3 ds
  have A2 := Lib.hid (A1.out.keep HB2.out)
  have G2 := Lib.hid (GB.out.keep HB2.out)
  have O2 := Lib.hid (OD1.out.keep HB2.out)
  have g0 := G2.out.c0
  have g1 := G2.out.c1
  have g2 := G2.out.c2
  have g3 := G2.out.c3
  have r0 := A2.out.r.c0
  have r1 := A2.out.r.c1
  have r2 := A2.out.r.c2
  have r3 := A2.out.r.c3
  have f0 := A2.out.r.f 0
  have f1 := A2.out.r.f 1
  have f2 := A2.out.r.f 2
  have f3 := A2.out.r.f 3
  go_wp2
  refine bodyPost_ret (v := .tuple #[deskV a2 l2 c2 a3 l3 c3 nx bz, .int .i64 (-1), .slice none 0 0, .int .i64 z]) ?_ rfl ⟨a2, l2, c2, a3, l3, c3, none, 0, 0, rfl, ?_, ?_, IntRow.nil9 _, ?_, ?_, ?_, fun b off e => by cases e⟩
  · simp [results, Try.results14, go_sem, r0, r1, r2, r3]
  · exact O2.out.dr.same (fun b off e => put4_same (by
      subst e
      have := (O2.out.d.lt b rfl).1
      have := E3.out
      omega)) (by simp [World.setCell])
  · exact O2.out.tr.same (fun b off e => put4_same (by
      subst e
      have := (O2.out.t.lt b rfl).1
      have := E3.out
      omega)) (by simp [World.setCell])
  · exact put4_below ((B0.out.trans (HB1.out.mono B0.out.size)).trans (HB2.out.mono (Nat.le_trans B0.out.size HB1.out.size))) (by omega)
  · intro b off e
    subst e
    exact Nat.le_trans B0.out.size (O2.out.d.lt b rfl).1
  · intro b off e
    subst e
    exact Nat.le_trans B0.out.size (O2.out.t.lt b rfl).1
end Go.Proofs.Ytioeagadhnnajaa
