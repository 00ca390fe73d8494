/- Texts joined in build order: Ref9AwaitOk. -/
import Derived.Test.YtioeagadhnnajaaA47
import Derived.Deep.DeepCutAuto
/- instarref09's Await, where somebody may wait. -/
namespace Go.Proofs.Ytioeagadhnnajaa
open Go.RowKit
set_option maxHeartbeats 8000000 in
set_option maxRecDepth 100000 in
theorem refawait_ok (da : Option Addr) (dl dc : Nat) (wa : Option Addr) (wl wc : Nat) (nx : Int) (bz : Bool) (L : List DefD) (M : List WaitD) (s : ByteArray) (w : World) (hd : DefRow w da dl dc L) (ht : WaitRow w wa wl wc M) (sd : smallL9 L) (st : smallT9 M) (hs : s.size ≤ 1000000) (hm : wl ≤ 1000) (h0 : 0 ≤ nx) (hn : ¬ 100000 ≤ nx) (hr : rightK ⟨L, M, nx, bz⟩ = true) (hc : customL s.toList = true) :
    Calls Try.prog 20 #[deskV da dl dc wa wl wc nx bz, .string s] w (RefAwaitPost w (awaitK ⟨L, M, nx, bz⟩ s, nx, namedZ L s.toList, 0)) := by
  obtain ⟨V, hV, DX, RB⟩ : ∃ V, (w.alloc (deskB da dl dc wa wl wc nx bz)).alloc (.cells #[.slice none 0 0, .slice none 0 0, .int .i64 0, .bool false] 25) = V ∧ Hid (DBox w V w.heap.size da dl dc wa wl wc nx bz L M) ∧ Hid (GBox V (w.heap.size + 1) (.slice none 0 0) (.slice none 0 0) 0 false) := ⟨_, rfl, Lib.hid ((DBox.start (nx := nx) (bz := bz) hd ht).keep (below_desk _ _)), Lib.hid (by have h := GBox.new (w.alloc (deskB da dl dc wa wl wc nx bz)) (.slice none 0 0) (.slice none 0 0) 0 false; simpa using h)⟩
  have RI : Hid (∀ V, DefRow V da dl dc L → WaitRow V wa wl wc M → Calls Try.prog 6 #[deskV da dl dc wa wl wc nx bz] V fun e w' => e = .returned (.bool true) ∧ Below V.heap.size V w') := Lib.hid (fun V h1 h2 => by
    have h := refright9_any da dl dc wa wl wc nx bz L M V h1 h2 sd st
    rw [hr] at h
    exact h)
  have CU : Hid (∀ V, Calls Try.prog 21 #[.string s] V fun e w' => e = .returned (.bool true) ∧ Below V.heap.size V w') := Lib.hid (fun V => by
    have h := refcustom_any s V hs
    rw [hc] at h
    exact h)
  obtain ⟨z, hz⟩ : ∃ z, namedZ L s.toList = z := ⟨_, rfl⟩
  have NM : Hid (∀ V, DefRow V da dl dc L → Calls Try.prog 12 #[deskV da dl dc wa wl wc nx bz, .string s] V fun e w' => e = .returned (.int .i64 z) ∧ Below V.heap.size V w') := Lib.hid (fun V h => by
    rw [← hz]
    exact refnamed_any da dl dc wa wl wc nx bz L s V h)
  have HAK : Hid (awaitK ⟨L, M, nx, bz⟩ s = ⟨L, if z < 0 then M ++ [⟨s, nx⟩] else M, nx + 1, bz⟩) := Lib.hid (by unfold awaitK; dsimp only; rw [hz])
  have HTL : Hid (M.length = wl) := Lib.hid ht.hlen
  have HDO : Hid (∀ b off, da = some ⟨b, off, none⟩ → 0 < dl → b < w.heap.size) := Lib.hid (fun b off e hp => by subst e; exact hd.block_lt hp)
  have HOK : Hid (∀ x ∈ M ++ [(⟨s, nx⟩ : WaitD)], x.name.size ≤ maxLen ∧ In64 x.ticket) := Lib.hid (by
    intro x hx
    rcases List.mem_append.1 hx with hx | hx
    · exact ht.ok x hx
    · rw [List.mem_singleton] at hx
      subst hx
      exact ⟨by show s.size ≤ maxLen; unfold maxLen; omega, by show -9223372036854775808 ≤ nx; omega, by show nx ≤ 9223372036854775807; omega⟩)
  rw [hz]
  clear hr hc hd ht sd st hs hz
  obtain ⟨i0, hi0, hq0, hq1, hq2⟩ := info_parts3 wait_info
  go_enter Try.func20, Try.ntmps20
  go_upto_region 1 with fail
  clear hV
  (have z0 := DX.out.c0; have z1 := DX.out.c1; have z2 := DX.out.c2; have z3 := DX.out.c3; have r0 := RB.out.c0; have r1 := RB.out.c1; have r2 := RB.out.c2; have r3 := RB.out.c3; have k0 := RB.out.f 0; have k1 := RB.out.f 1; have k2 := RB.out.f 2; have k3 := RB.out.f 3)
  go_upto_region 7 with (first
    | (go_at_call 6; (with_reducible refine (RI.out _ DX.out.d DX.out.t).mono ?_); rintro e w5 ⟨rfl, hb⟩; (have DX := Lib.hid (DX.out.keep hb); have RB := Lib.hid (RB.out.keep hb); clear z0 z1 z2 z3 r0 r1 r2 r3 k0 k1 k2 k3 hb; (have z0 := DX.out.c0; have z1 := DX.out.c1; have z2 := DX.out.c2; have z3 := DX.out.c3; have r0 := RB.out.c0; have r1 := RB.out.c1; have r2 := RB.out.c2; have r3 := RB.out.c3; have k0 := RB.out.f 0; have k1 := RB.out.f 1; have k2 := RB.out.f 2; have k3 := RB.out.f 3)))
    | (go_at_call 21; (with_reducible refine (CU.out _).mono ?_); rintro e w5 ⟨rfl, hb⟩; (have DX := Lib.hid (DX.out.keep hb); have RB := Lib.hid (RB.out.keep hb); clear z0 z1 z2 z3 r0 r1 r2 r3 k0 k1 k2 k3 hb; (have z0 := DX.out.c0; have z1 := DX.out.c1; have z2 := DX.out.c2; have z3 := DX.out.c3; have r0 := RB.out.c0; have r1 := RB.out.c1; have r2 := RB.out.c2; have r3 := RB.out.c3; have k0 := RB.out.f 0; have k1 := RB.out.f 1; have k2 := RB.out.f 2; have k3 := RB.out.f 3))))
  clear r0 r1 r2 r3 k0 k1 k2 k3
  have HX5 : Hid (∀ V, Below w5.heap.size w5 V → DBox w V w.heap.size da dl dc wa wl wc nx bz L M) := Lib.hid (fun V hb => DX.out.keep hb)
  have HR5 : Hid (∀ V, Below w5.heap.size w5 V → GBox V (w.heap.size + 1) (.slice none 0 0) (.slice none 0 0) 0 false) := Lib.hid (fun V hb => RB.out.keep hb)
  have HRL := Lib.hid RB.out.lt
  have HDT := Lib.hid DX.out.t
  refine aw_region (by simp) w.heap.size da dl dc wa wl wc nx bz M rfl DX.out.lt z0 z1 z2 z3 DX.out.t (by omega) ⟨h0, by omega⟩ ?_
  intro v g x w7 hg hgb hown hne hb7
  obtain ⟨W8, hW8⟩ : ∃ W8, put4 w7 g (.slice da dl dc) x (.int .i64 (nx + 1)) (.bool bz) = W8 := ⟨_, rfl⟩
  have GB : Hid (GBox W8 g (.slice da dl dc) x (nx + 1) bz) := Lib.hid (by rw [← hW8]; exact (((hgb.set0 _).set1 _).set2 _).set3 _)
  have OW : Hid (W8.ownsRow w5.heap.size 48 2 x wl (M.flatMap encT9)) := Lib.hid (by rw [← hW8]; exact own_eq9 hown (fun k hk => put4_same (hne k hk)))
  have HB : Hid (Below w5.heap.size w5 W8) := Lib.hid (by rw [← hW8]; exact put4_below hb7 hg)
  have HNE := Lib.hid hne
  have HGE := Lib.hid hg
  simp only [Iv1.puts, List.set_cons_succ, List.set_cons_zero]
  generalize v 0 = v0
  generalize v 1 = v1
  generalize v 2 = v2
  generalize v 3 = v3
  generalize v 4 = v4
  generalize v 5 = v5
  generalize v 6 = v6
  generalize v 7 = v7
  generalize v 8 = v8
  generalize v 9 = v9
  generalize v 10 = v10
  generalize v 11 = v11
  rw [hW8]
  clear hW8 hgb hown hb7 hne hg z0 z1 z2 z3 DX RB RI CU v
  have DX := Lib.hid (HX5.out _ HB.out)
  have z0 := DX.out.c0
  have z1 := DX.out.c1
  have z2 := DX.out.c2
  have z3 := DX.out.c3
  go_upto_region 9 with (go_at_call 12; (with_reducible refine (NM.out _ DX.out.d).mono ?_); rintro e w9 ⟨rfl, hb⟩; have GB := Lib.hid (GB.out.keep hb); have OW := Lib.hid (own_below OW.out hb); have HB := Lib.hid (HB.out.trans (hb.mono HB.out.size)); clear hb z0 z1 z2 z3)
  clear DX NM
  obtain ⟨xa, xc, rfl⟩ := Iv1.own_shapeI OW.out
  go_upto_if 38 with fail
  go_cut [] (fun wx => True ∧ ∃ (ya : Option Addr) (yl yc : Nat), Hid (GBox wx g (.slice da dl dc) (.slice ya yl yc) (nx + 1) bz) ∧ Hid (WaitRow wx ya yl yc (if z < 0 then M ++ [⟨s, nx⟩] else M)) ∧ Hid (Below w5.heap.size w5 wx) ∧ Hid (∀ b off, ya = some ⟨b, off, none⟩ → w5.heap.size ≤ b ∧ b ≠ g))
  case first =>
    by_cases hz0 : z < 0
    · have g1 := GB.out.c1
      have z2 := (HX5.out _ HB.out).c2
      have hsz := HB.out.size
      have HGL := Lib.hid GB.out.lt
      have hzt : decide (z < 0) = true := decide_eq_true hz0
      have HIF : Hid ((if z < 0 then M ++ [(⟨s, nx⟩ : WaitD)] else M) = M ++ [⟨s, nx⟩]) := Lib.hid (if_pos hz0)
      go_wp2_with (at_builtin; (refine wpList_append_rows rfl (.tmp 40) (.tmp 45) 23 rfl 48 i0 _ 2 24 Try.underlying23 hi0 hq0 hq1 hq2 rfl (by decide) w5.heap.size _ wl M [(⟨s, nx⟩ : WaitD)] rfl (OW.out.alloc _) _ 1 1 rfl (own_one _ _ _ _ rfl rfl) (fun x _ => encT_one x) (by unfold maxLen; omega) (by omega) (by simp; omega) (fun h => by cases h) ?_); intro v5 w6 hown5 hg5 hat5; obtain ⟨a5, c5, rfl, hr5, -⟩ := WaitRow.of_own (by rw [List.length_append, HTL.out]; rfl) hown5 HOK.out; have HO5 := Lib.hid hown5; have HG5 := Lib.hid hg5; have HA5 := Lib.hid hat5; have G5 := Lib.hid ((GB.out.keep (below_desk _ _)).same (hg5.block g (Nat.lt_of_lt_of_le HGL.out (below_desk w9 _).size) (fun e => HNE.out g e.symm rfl)) hg5.size); have k1 := G5.out.c1; have f1 := G5.out.f 1; clear hown5 hr5 hg5 hat5 g1 z2)
      go_meet
      have HX := below_desk w9 (.cells #[.string s, .int .i64 nx] 48)
      have NG5 : ∀ k, Value.ownBlock (.slice a5 (wl + 1) c5) = some k → k ≠ g := fun k hk => by
        rcases HA5.out with h | h
        · rw [h] at hk
          exact HNE.out k hk
        · rw [h] at hk
          injection hk with hk
          have h9 := HX.size
          have h8 := HGL.out
          omega
      have hT := own_eq9 HO5.out (W := w6.setCell ⟨g, 1, none⟩ (.slice a5 (wl + 1) c5)) (fun k hk => Below.heap_setCell _ _ _ k (NG5 k hk))
      have hB : Below w5.heap.size w5 (w6.setCell ⟨g, 1, none⟩ (.slice a5 (wl + 1) c5)) := ((HB.out.trans (HX.mono hsz)).grown HG5.out (Nat.le_trans hsz HX.size) (fun k hk => (OW.out.lt k hk).1)).setCell HGE.out _
      obtain ⟨a8, c8, e8, hr8, -⟩ := WaitRow.of_own (by rw [List.length_append, HTL.out]; rfl) hT HOK.out
      injection e8 with e1' _ e3'
      subst e1'; subst e3'
      refine ⟨trivial, a5, wl + 1, c5, Lib.hid (G5.out.set1 _), Lib.hid (by rw [HIF.out]; exact hr8), Lib.hid hB, Lib.hid (fun b off e => ?_)⟩
      subst e
      exact ⟨(HO5.out.lt b rfl).1, NG5 b rfl⟩
    · have hzt : decide (z < 0) = false := decide_eq_false hz0
      obtain ⟨a8, c8, e8, hr8, -⟩ := WaitRow.of_own HTL.out OW.out (fun x hx => HOK.out x (List.mem_append_left _ hx))
      injection e8 with e1' _ e3'
      subst e1'; subst e3'
      have HR8 := Lib.hid hr8
      have HIF : Hid ((if z < 0 then M ++ [(⟨s, nx⟩ : WaitD)] else M) = M) := Lib.hid (if_neg hz0)
      clear hr8
      go_wp2
      go_meet
      refine ⟨trivial, xa, wl, xc, GB, Lib.hid (by rw [HIF.out]; exact HR8.out), HB, Lib.hid (fun b off e => ?_)⟩
      subst e
      exact ⟨(OW.out.lt b rfl).1, HNE.out b rfl⟩
  case rest =>
    obtain ⟨-, ya, yl, yc, GY, WY, HBY, NY⟩ := hcut
    obtain ⟨M5, hM5⟩ : ∃ M5, (if z < 0 then M ++ [(⟨s, nx⟩ : WaitD)] else M) = M5 := ⟨_, rfl⟩
    rw [hM5] at WY HAK
    clear hM5 GB OW HB
    have DX := Lib.hid (HX5.out _ HBY.out)
    have RX := Lib.hid (HR5.out _ HBY.out)
    go_upto_region 11 with fail
    go_cut [5, 6, 7] (fun x y q wx => x = .int .i64 nx ∧ y = .int .i64 z ∧ q = .int .i64 0 ∧ True ∧ Hid (GBox wx (w.heap.size + 1) (.slice da dl dc) (.slice ya yl yc) (nx + 1) bz) ∧ Hid (DefRow wx da dl dc L) ∧ Hid (WaitRow wx ya yl yc M5) ∧ Hid (Below w.heap.size w wx))
    case first =>
      have g0 := GY.out.c0
      have g1 := GY.out.c1
      have g2 := GY.out.c2
      have g3 := GY.out.c3
      have d2 := DX.out.c2
      have r0 := RX.out.c0
      have r1 := RX.out.c1
      have r2 := RX.out.c2
      have r3 := RX.out.c3
      have f0 := RX.out.f 0
      have f1 := RX.out.f 1
      have f2 := RX.out.f 2
      have f3 := RX.out.f 3
      have n1 : w.heap.size + 1 ≠ w.heap.size := by omega
      have n2 : w.heap.size ≠ w.heap.size + 1 := by omega
      have n3 : w.heap.size + 1 ≠ g := by have h1 := HGE.out; have h2 := HRL.out; omega
      have n4 : g ≠ w.heap.size + 1 := fun e => n3 e.symm
      go_region_law fail
      all_goals go_wp2_with fail
      all_goals
        go_meet
        have hge : w.heap.size ≤ w.heap.size + 1 := by omega
        refine ⟨rfl, rfl, rfl, trivial, Lib.hid (((((RX.out.keep (Below.refl _ _).drew).set0 _).set1 _).set2 _).set3 _), Lib.hid ((DX.out.d.below (Below.refl _ _).drew).same2 (fun b off e hp => put4_same (by have := HDO.out b off e hp; omega)) (by simp [World.setCell])), Lib.hid ((WY.out.below (Below.refl _ _).drew).same (fun b off e => put4_same (by have := (NY.out b off e).1; have := HRL.out; omega)) (by simp [World.setCell])), Lib.hid (put4_below DX.out.below hge).drew⟩
    case rest =>
      obtain ⟨rfl, rfl, rfl, -, RX, DR, WR, BX⟩ := hcut
      have r0 := RX.out.c0
      have r1 := RX.out.c1
      have r2 := RX.out.c2
      have r3 := RX.out.c3
      go_wp2
      refine bodyPost_ret (v := .tuple #[deskV da dl dc ya yl yc (nx + 1) bz, .int .i64 nx, .int .i64 z, .int .i64 0]) ?_ rfl ⟨da, dl, dc, ya, yl, yc, ?_, ?_, ?_, BX.out⟩
      · simp [results, Try.results20, go_sem, r0, r1, r2, r3]
      · rw [HAK.out]
      · rw [HAK.out]
        exact DR.out
      · rw [HAK.out]
        exact WR.out
end Go.Proofs.Ytioeagadhnnajaa
