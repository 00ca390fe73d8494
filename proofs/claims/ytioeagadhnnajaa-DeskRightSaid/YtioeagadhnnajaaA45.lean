/- Texts joined in build order: DeskAddOk. -/
import Derived.Test.YtioeagadhnnajaaA44
import Derived.Deep.CutBlock
/- Package desk's Add, where it may be. -/
namespace Go.Proofs.Ytioeagadhnnajaa
open Go.RowKit
set_option maxHeartbeats 8000000 in
set_option maxRecDepth 100000 in
theorem add_ok (da : Option Addr) (dl dc : Nat) (wa : Option Addr) (wl wc : Nat) (nx : Int) (bz : Bool) (L : List DefD) (M : List WaitD) (m : Int) (s base : ByteArray) (c : Int) (w : World) (hd : DefRow w da dl dc L) (ht : WaitRow w wa wl wc M) (hs : s.size ≤ maxLen) (hbs : base.size ≤ maxLen) (hc64 : In64 c) (h1 : L.length ≤ 1000) (h2 : M.length ≤ 1000)
    (hm : mayE ⟨L, M, nx, bz⟩ m s.toList base.toList c = 0) :
    Calls Try.prog 14 #[deskV da dl dc wa wl wc nx bz, .int .i64 m, .string s, .string base, .int .i64 c] w (AddPost9 w (addK ⟨L, M, nx, bz⟩ s base c, (L.length : Int), toldZ M s.toList, 0)) := by
  obtain rfl : bz = false := (may_ok9.1 hm).idle
  obtain ⟨i0, hi0, hq0, hq1, hq2⟩ := info_parts3 def_info
  have AI := Lib.hid (AddIn.start (nx := nx) (bz := false) (s := s) hd ht)
  have B0 := Lib.hid (below_alloc_start w (deskB da dl dc wa wl wc nx false) (.cells #[.string s] 9) (.cells #[.slice none 0 0, .slice none 0 0, .int .i64 0, .bool false] 25))
  have HD := Lib.hid hd
  have HT := Lib.hid ht
  have HDL := Lib.hid hd.hlen
  have F5 : Hid (∀ V, DefRow V da dl dc L → WaitRow V wa wl wc M → Calls Try.prog 30 #[deskV da dl dc wa wl wc nx false] V (FreshPost V L M nx false)) := Lib.hid (fun V h h' => freshdesk_any da dl dc wa wl wc nx false L M V h h' (by rw [← hd.hlen]; exact h1) (by rw [← ht.hlen]; exact h2))
  have MY : Hid (∀ V, DefRow V da dl dc L → WaitRow V wa wl wc M → Calls Try.prog 16 #[deskV da dl dc wa wl wc nx false, .int .i64 m, .string s, .string base, .int .i64 c] V fun e w' => e = .returned (.int .i64 0) ∧ Below V.heap.size V w') := Lib.hid (fun V h h' => by
    have := deskmay_any da dl dc wa wl wc nx false L M m s base c V h h' hs
    rw [hm] at this
    exact this)
  obtain ⟨r, hr⟩ : ∃ r, (if base.toList = [] then s else base) = r := ⟨_, rfl⟩
  have OR : Hid (∀ V : World, Calls Try.prog 31 #[.slice (some ⟨V.heap.size, 0, none⟩) 2 2] (V.alloc (.cells #[.string base, .string s] 9)) fun e w' => e = .returned (.string r) ∧ V.alloc (.cells #[.string base, .string s] 9) = w') := Lib.hid (fun V => by
    have h := or_any V.heap.size base s _ (cell_two V (.string base) (.string s) 9).1 (cell_two V (.string base) (.string s) 9).2 (by simp)
    rw [hr] at h
    exact h)
  have HND : Hid (newDef s base c = ⟨s, r, c⟩) := Lib.hid (by unfold newDef; rw [hr])
  have HOK : Hid (∀ x ∈ L ++ [(⟨s, r, c⟩ : DefD)], x.name.size ≤ maxLen ∧ x.loc.size ≤ maxLen ∧ In64 x.cls) := Lib.hid (fun x hx => by
    rcases List.mem_append.1 hx with hx | hx
    · exact hd.ok x hx
    · rw [List.mem_singleton.1 hx]
      refine ⟨hs, ?_, hc64⟩
      show r.size ≤ maxLen
      rw [← hr]
      split
      · exact hs
      · exact hbs)
  have TK : Hid (∀ V, DefRow V da dl dc L → WaitRow V wa wl wc M → Calls Try.prog 34 #[deskV da dl dc wa wl wc nx false, .string s] V (TellPost V (toldZ M s.toList))) := Lib.hid (fun V h h' => tickets_any da dl dc wa wl wc nx false L M s V h h' (by rw [← ht.hlen]; exact h2))
  have HL1 := Lib.hid h1
  have HL2 := Lib.hid h2
  clear hm hd ht hs hbs hc64 h1 h2 hr
  go_enter Try.func14, Try.ntmps14
  go_upto_region 1 with fail
  obtain ⟨V0, hV0⟩ : ∃ V0, ((w.alloc (deskB da dl dc wa wl wc nx false)).alloc (.cells #[.string s] 9)).alloc (.cells #[.slice none 0 0, .slice none 0 0, .int .i64 0, .bool false] 25) = V0 := ⟨_, rfl⟩
  have e3 : V0.heap.size = w.heap.size + 1 + 1 + 1 := by rw [← hV0]; simp
  rw [hV0] at AI B0 ⊢
  have E3 := Lib.hid e3
  clear hV0 e3
  have d0 := AI.out.d.c0
  have d1 := AI.out.d.c1
  have d2 := AI.out.d.c2
  have d3 := AI.out.d.c3
  go_upto_region 2 with (go_at_call 30; (refine (F5.out _ AI.out.d.d AI.out.d.t).mono ?_); rintro e w1 ⟨a2, l2, c2, a3, l3, c3, rfl, ho⟩; have OD := Lib.hid ho; clear ho)
  obtain rfl : l2 = dl := by rw [← OD.out.dr.hlen, HDL.out]
  obtain ⟨W1, hW1⟩ : ∃ W1, w1.alloc (.cells #[.slice a2 l2 c2, .slice a3 l3 c3, .int .i64 nx, .bool false] 25) = W1 := ⟨_, rfl⟩
  have HB1 : Hid (Below V0.heap.size V0 W1) := Lib.hid (by rw [← hW1]; exact OD.out.below.alloc OD.out.below.size _)
  have GB := Lib.hid (GBox.new w1 (.slice a2 l2 c2) (.slice a3 l3 c3) nx false)
  have OD1 := Lib.hid (OD.out.keep (below_desk w1 (.cells #[.slice a2 l2 c2, .slice a3 l3 c3, .int .i64 nx, .bool false] 25)))
  have DG : Hid (∀ k, Value.ownBlock (.slice a2 l2 c2) = some k → k < w1.heap.size) := Lib.hid (fun k hk => (OD.out.d.lt k hk).2)
  have TG : Hid (∀ k, Value.ownBlock (.slice a3 l3 c3) = some k → k < w1.heap.size) := Lib.hid (fun k hk => (OD.out.t.lt k hk).2)
  have GHI : Hid (V0.heap.size ≤ w1.heap.size) := Lib.hid OD.out.below.size
  obtain ⟨g, hg⟩ : ∃ g, w1.heap.size = g := ⟨_, rfl⟩
  rw [hW1] at GB OD1 ⊢
  rw [hg] at GB DG TG GHI ⊢
  clear hW1 d0 d1 d2 d3 OD hg
  have A1 := Lib.hid (AI.out.keep HB1.out)
  have d0 := A1.out.d.c0
  have d1 := A1.out.d.c1
  have d2 := A1.out.d.c2
  have d3 := A1.out.d.c3
  have ds := A1.out.s
  go_upto_region 5 with (go_at_call 16; (with_reducible refine (MY.out _ A1.out.d.d A1.out.d.t).mono ?_); rintro e w2 ⟨rfl, hb2⟩; have HB2 := Lib.hid hb2; clear hb2)
  clear d0 d1 d2 d3 ds
  have A2 := Lib.hid (A1.out.keep HB2.out)
  have G2 := Lib.hid (GB.out.keep HB2.out)
  have O2 := Lib.hid (OD1.out.keep HB2.out)
  have BV2 := Lib.hid (HB1.out.trans (HB2.out.mono HB1.out.size))
  clear A1 GB OD1
  go_cut [] (fun wx => True ∧ ∃ (a5 : Option Addr) (c5 : Nat), Hid (AddMid V0 wx g a5 (l2 + 1) c5 a3 l3 c3 (L ++ [⟨s, r, c⟩]) M nx false))
  case first =>
    have g0 := G2.out.c0
    have ds := A2.out.s
    have g0a : ∀ o, (w2.alloc o).cell? ⟨g, 0, none⟩ = some (.slice a2 l2 c2) := fun o => (G2.out.keep (below_desk w2 o)).c0
    have dsa : ∀ o, (w2.alloc o).cell? ⟨w.heap.size + 1, 0, none⟩ = some (.string s) := fun o => (A2.out.keep (below_desk w2 o)).s
    have g0b : ∀ o, (w2.drew.alloc o).cell? ⟨g, 0, none⟩ = some (.slice a2 l2 c2) := fun o => (G2.out.keep ((Below.refl _ _).drew.alloc (Nat.le_refl _) o)).c0
    have dsb : ∀ o, (w2.drew.alloc o).cell? ⟨w.heap.size + 1, 0, none⟩ = some (.string s) := fun o => (A2.out.keep ((Below.refl _ _).drew.alloc (Nat.le_refl _) o)).s
    have g0c : ∀ o o', ((w2.drew.alloc o).alloc o').cell? ⟨g, 0, none⟩ = some (.slice a2 l2 c2) := fun o o' => (G2.out.keep (((Below.refl _ _).drew.alloc (Nat.le_refl _) o).alloc (by simp) o')).c0
    have g0d : ∀ o o', ((w2.alloc o).alloc o').cell? ⟨g, 0, none⟩ = some (.slice a2 l2 c2) := fun o o' => (G2.out.keep (((Below.refl _ _).alloc (Nat.le_refl _) o).alloc (by simp) o')).c0
    have hlen : l2 ≤ 1000 := by have := HL1.out; rw [HDL.out] at this; exact this
    have OW : Hid (∀ X Y, (((w2.alloc X).alloc Y).drew).ownsRow V0.heap.size 46 3 (.slice a2 l2 c2) l2 (L.flatMap encD)) := Lib.hid (fun X Y => own_below O2.out.d ((((Below.refl _ _).alloc (Nat.le_refl _) X).alloc (by simp) Y).drew))
    have SRC : Hid (∀ X, SRow encD 3 (((w2.alloc X).alloc (.cells #[.string s, .string r, .int .i64 c] 46)).drew) (some ⟨w2.heap.size + 1, 0, none⟩) 1 1 [(⟨s, r, c⟩ : DefD)]) := Lib.hid (fun X => by
      have h := (own_one (enc := encD) (size := 3) (w2.alloc X) 46 (⟨s, r, c⟩ : DefD) #[.string s, .string r, .int .i64 c] rfl rfl).drew
      rwa [show (w2.alloc X).heap.size = w2.heap.size + 1 by simp] at h)
    have BXY : Hid (∀ X Y, Below w2.heap.size w2 (((w2.alloc X).alloc Y).drew)) := Lib.hid (fun X Y => (((Below.refl _ _).alloc (Nat.le_refl _) X).alloc (by simp) Y).drew)
    have hsz2 : V0.heap.size ≤ w2.heap.size := BV2.out.size
    have NG : Hid (∀ k, Value.ownBlock (.slice a2 l2 c2) = some k → k ≠ g) := Lib.hid (fun k hk => Nat.ne_of_lt (DG.out k hk))
    have HGL := Lib.hid G2.out.lt
    go_region_law (first
      | (refine step_wpS rfl ?_; (go_simp; go_at_call 31; refine (OR.out w2.drew).mono ?_; rintro e w3 ⟨rfl, rfl⟩))
      | (go_loud (refine step_append_rows rfl (.tmp 29) (.tmp 37) _ rfl 46 i0 _ 3 40 Try.underlying22 hi0 hq0 hq1 hq2 rfl (by decide) V0.heap.size _ l2 L [(⟨s, r, c⟩ : DefD)] rfl (OW.out _ _) _ 1 1 rfl (SRC.out _) (fun x _ => encD_one x) (by unfold maxLen; omega) (by omega) (Nat.le_trans hsz2 (BXY.out _ _).size) (fun h => by cases h) ?_; intro v5 w5 hown5 hg5 hat5; obtain ⟨a5, c5, rfl, hr5, -⟩ := DefRow.of_own (by rw [List.length_append, HDL.out]; rfl) hown5 HOK.out; have HO5 := Lib.hid hown5; have G5 := Lib.hid ((G2.out.keep (BXY.out _ _)).same (hg5.block g (Nat.lt_of_lt_of_le HGL.out (BXY.out _ _).size) (fun e => NG.out g e.symm rfl)) hg5.size); have HG5 := Lib.hid hg5; have HA5 := Lib.hid hat5; have k0 := G5.out.c0; have k1 := G5.out.f 0; clear hown5 hr5 hg5 hat5)))
    all_goals go_wp2_with fail
    all_goals
      go_meet
      have HX := BXY.out (.cells #[.string base, .string s] 9) (.cells #[.string s, .string r, .int .i64 c] 46)
      have NG5 : ∀ k, Value.ownBlock (.slice a5 (l2 + 1) c5) = some k → k ≠ g := fun k hk => by
        rcases HA5.out with h | h
        · rw [h] at hk
          exact NG.out k hk
        · rw [h] at hk
          injection hk with hk
          have h9 := HX.size
          have h8 := HGL.out
          omega
      refine ⟨trivial, a5, c5, Lib.hid ⟨own_eq9 HO5.out (fun k hk => Below.heap_setCell _ _ _ k (NG5 k hk)), own_eq9 O2.out.t (fun k hk => ?_), G5.out.set0 _, ?_, NG5, fun k hk => Nat.ne_of_lt (TG.out k hk)⟩⟩
      · have h1 := (O2.out.t.lt k hk).2
        exact (Below.heap_setCell _ _ _ k (Nat.ne_of_lt (TG.out k hk))).trans ((HG5.out.block k (Nat.lt_of_lt_of_le h1 HX.size) (fun e => own_apart O2.out.t O2.out.d (by decide) k hk e.symm)).trans (HX.block k h1))
      · exact ((BV2.out.trans (HX.mono BV2.out.size)).grown HG5.out (Nat.le_trans hsz2 HX.size) (fun k hk => (O2.out.d.lt k hk).1)).setCell GHI.out _
  case rest =>
    obtain ⟨-, a5, c5, AM⟩ := hcut
    clear G2 O2 BV2 HB2 HB1
    have A3 := Lib.hid (AI.out.keep AM.out.below)
    have WR3 : Hid (WaitRow wc a3 l3 c3 M) := Lib.hid (by
      have hl : M.length = l3 := by
        have := AM.out.t.1
        rw [flat_len (fun x _ => encT_len x)] at this
        omega
      obtain ⟨a8, c8, e8, hwr8, -⟩ := WaitRow.of_own hl AM.out.t HT.out.ok
      injection e8 with e1 _ e3
      subst e1; subst e3
      exact hwr8)
    have HL3 : Hid (l3 ≤ 1000) := Lib.hid (by rw [← WR3.out.hlen]; exact HL2.out)
    have ds := A3.out.s
    have k0 := AM.out.bx.c0
    have k1 := AM.out.bx.c1
    go_upto_region 7 with (go_at_call 32; (refine (deletefunc_any V0.heap.size a3 l3 c3 M s (w.heap.size + 1) _ AM.out.t WR3.out (by have h1 := AM.out.below.size; have h2 := E3.out; omega) A3.out.s (by have h2 := E3.out; omega) HL3.out).mono ?_); rintro e w4 ⟨l6, c6, rfl, hw6, hg6⟩; have W6 := Lib.hid hw6; have G6 := Lib.hid hg6; have GX := Lib.hid (AM.out.bx.same (hg6.block g AM.out.bx.lt (fun e => AM.out.tg g e.symm rfl)) hg6.size); clear k0 k1; have k0 := GX.out.c0; have k1 := GX.out.c1; have f1 := GX.out.f 1; clear hw6 hg6)
    have B4 : Hid (Below V0.heap.size V0 w4) := Lib.hid (AM.out.below.grown G6.out AM.out.below.size (fun k hk => (AM.out.t.lt k hk).1))
    have D4 : Hid (w4.ownsRow V0.heap.size 46 3 (.slice a5 (l2 + 1) c5) (l2 + 1) ((L ++ [(⟨s, r, c⟩ : DefD)]).flatMap encD)) := Lib.hid (own_eq9 AM.out.d (fun k hk => G6.out.block k (AM.out.d.lt k hk).2 (fun e => own_apart AM.out.d AM.out.t (by decide) k hk e.symm)))
    obtain ⟨W7, hW7, AE⟩ : ∃ W7, w4.setCell ⟨g, 1, none⟩ (.slice a3 l6 c6) = W7 ∧ Hid (AddEnd V0 W7 g a5 (l2 + 1) c5 a3 l6 c6 (L ++ [(⟨s, r, c⟩ : DefD)]) (restT M s.toList) nx false) := by
      refine ⟨_, rfl, Lib.hid ⟨?_, W6.out.same (fun b off e => ?_) (by simp [World.setCell]), GX.out.set1 _, B4.out.setCell GHI.out _, fun b off e => ?_, fun b off e => ?_⟩⟩
      · have hD := own_eq9 D4.out (W := w4.setCell ⟨g, 1, none⟩ (.slice a3 l6 c6)) (fun k hk => Below.heap_setCell _ _ _ k (AM.out.dg k hk))
        obtain ⟨a8, c8, e8, hr8, -⟩ := DefRow.of_own (by rw [List.length_append, HDL.out]; rfl) hD HOK.out
        injection e8 with e1 _ e3
        subst e1; subst e3
        exact hr8
      · subst e
        exact Below.heap_setCell _ _ _ b (AM.out.tg b rfl)
      · subst e
        exact (AM.out.d.lt b rfl).1
      · subst e
        exact (AM.out.t.lt b rfl).1
    rw [hW7]
    clear hW7 k0 k1 f1 ds GX W6 G6 D4 B4 AM A3 WR3
    have A7 := Lib.hid (AI.out.keep AE.out.below)
    go_cut [11, 12, 13] (fun x y z wx => x = .int .i64 l2 ∧ z = .int .i64 0 ∧ ∃ (ta : Option Addr) (tl tc : Nat), y = .slice ta tl tc ∧ Hid (GBox wx (w.heap.size + 1 + 1) (.slice a5 (l2 + 1) c5) (.slice a3 l6 c6) nx false) ∧ Hid (IntRow wx ta tl tc (toldZ M s.toList)) ∧ Hid (DefRow wx a5 (l2 + 1) c5 (L ++ [(⟨s, r, c⟩ : DefD)])) ∧ Hid (WaitRow wx a3 l6 c6 (restT M s.toList)) ∧ Hid (Below w.heap.size w wx) ∧ Hid (∀ b off, ta = some ⟨b, off, none⟩ → w.heap.size ≤ b))
    case first =>
      have g0 := AE.out.bx.c0
      have g1 := AE.out.bx.c1
      have g2 := AE.out.bx.c2
      have g3 := AE.out.bx.c3
      have d0 := A7.out.d.c0
      have d1 := A7.out.d.c1
      have d2 := A7.out.d.c2
      have d3 := A7.out.d.c3
      have ds := A7.out.s
      have n1 : w.heap.size + 1 + 1 ≠ w.heap.size := by omega
      have n2 : w.heap.size ≠ w.heap.size + 1 + 1 := by omega
      have n3 : w.heap.size + 1 + 1 ≠ g := by have h1 := GHI.out; have h2 := E3.out; omega
      have n4 : g ≠ w.heap.size + 1 + 1 := fun e => n3 e.symm
      go_region_law (refine step_wpS rfl ?_; (go_simp; go_at_call 34; (refine (TK.out _ A7.out.d.d.drew A7.out.d.t.drew).mono ?_); rintro e w8 ⟨ta, tl, tc, rfl, hir, hlo, hb8⟩; have B8 : Hid (Below W7.heap.size W7 w8) := (Lib.hid ((Below.refl W7.heap.size W7).drew.trans hb8)); have IR := Lib.hid hir; have IL : Hid (∀ b off, ta = some ⟨b, off, none⟩ → W7.heap.size ≤ b) := (Lib.hid hlo); have AE8 := Lib.hid (AE.out.keep B8.out); have A8 := Lib.hid (A7.out.keep B8.out); clear g0 g1 g2 g3 d0 d1 d2 d3 ds; have g0 := AE8.out.bx.c0; have g1 := AE8.out.bx.c1; have g2 := AE8.out.bx.c2; have g3 := AE8.out.bx.c3; have d0 := A8.out.d.c0; have r0 := A8.out.r.c0; have r1 := A8.out.r.c1; have r2 := A8.out.r.c2; have r3 := A8.out.r.c3; have f0 := A8.out.r.f 0; have f1 := A8.out.r.f 1; have f2 := A8.out.r.f 2; have f3 := A8.out.r.f 3; clear hir hlo hb8))
      all_goals go_wp2_with fail
      all_goals
        go_meet
        have h2 := E3.out
        have hb7 := AE.out.below.size
        have hb9 := B8.out.size
        refine ⟨rfl, rfl, ta, tl, tc, rfl, Lib.hid ((((A8.out.r.set0 _).set1 _).set2 _).set3 _), Lib.hid (IR.out.same9 (fun b off e => put4_same (by have := IL.out b off e; omega)) (by simp [World.setCell])), Lib.hid (AE8.out.d.same (fun b off e => put4_same (by have := AE8.out.dlo b off e; omega)) (by simp [World.setCell])), Lib.hid (AE8.out.t.same (fun b off e => put4_same (by have := AE8.out.tlo b off e; omega)) (by simp [World.setCell])), Lib.hid (put4_below ?_ (by omega)), Lib.hid (fun b off e => by have := IL.out b off e; omega)⟩
        exact B0.out.trans (AE8.out.below.mono B0.out.size)
    case rest =>
      obtain ⟨rfl, rfl, ta, tl, tc, rfl, RX, IR, DR, WR, BX, IL⟩ := hcut
      have r0 := RX.out.c0
      have r1 := RX.out.c1
      have r2 := RX.out.c2
      have r3 := RX.out.c3
      go_wp2
      refine bodyPost_ret (v := .tuple #[deskV a5 (l2 + 1) c5 a3 l6 c6 nx false, .int .i64 l2, .slice ta tl tc, .int .i64 0]) ?_ rfl ⟨a5, l2 + 1, c5, a3, l6, c6, ta, tl, tc, ?_, ?_, WR.out, IR.out, BX.out, fun b off e => Nat.le_trans B0.out.size (AE.out.dlo b off e), fun b off e => Nat.le_trans B0.out.size (AE.out.tlo b off e), IL.out⟩
      · simp [results, Try.results14, go_sem, r0, r1, r2, r3]
      · show _ = Ending.returned (.tuple #[_, .int .i64 (L.length : Int), _, _])
        rw [HDL.out]
        rfl
      · show DefRow _ _ _ _ (L ++ [newDef s base c])
        rw [HND.out]
        exact DR.out
end Go.Proofs.Ytioeagadhnnajaa
