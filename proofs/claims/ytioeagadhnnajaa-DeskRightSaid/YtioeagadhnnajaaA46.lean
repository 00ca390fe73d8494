/- Texts joined in build order: DeskAwaitFn. -/
import Derived.Test.YtioeagadhnnajaaA44
import Derived.Deep.CutBlock
/- Package desk's Await. -/
namespace Go.Proofs.Ytioeagadhnnajaa
open Go.RowKit
theorem GBox.drew {W : World} {g : Nat} {x0 x1 : Value} {nx : Int} {bz : Bool} (h : GBox W g x0 x1 nx bz) : GBox W.drew g x0 x1 nx bz := ⟨h.lt, h.c0, h.c1, h.c2, h.c3, h.f⟩
/-- What Await enters with: the desk's box, the result's box. -/
structure WaitIn (w W : World) (da : Option Addr) (dl dc : Nat) (wa : Option Addr) (wl wc : Nat) (nx : Int) (bz : Bool) (L : List DefD) (M : List WaitD) : Prop where
  d : DBox w W w.heap.size da dl dc wa wl wc nx bz L M
  r : GBox W (w.heap.size + 1) (.slice none 0 0) (.slice none 0 0) 0 false
section
variable {w W V : World} {da wa : Option Addr} {dl dc wl wc : Nat} {nx : Int} {bz : Bool} {L : List DefD} {M : List WaitD} {s : ByteArray}
theorem WaitIn.keep (h : WaitIn w W da dl dc wa wl wc nx bz L M) (hb : Below W.heap.size W V) : WaitIn w V da dl dc wa wl wc nx bz L M := ⟨h.d.keep hb, h.r.keep hb⟩
theorem WaitIn.start (hd : DefRow w da dl dc L) (ht : WaitRow w wa wl wc M) : WaitIn w ((w.alloc (deskB da dl dc wa wl wc nx bz)).alloc (.cells #[.slice none 0 0, .slice none 0 0, .int .i64 0, .bool false] 25)) da dl dc wa wl wc nx bz L M := by
  have e1 : (w.alloc (deskB da dl dc wa wl wc nx bz)).heap.size = w.heap.size + 1 := by simp
  refine ⟨DBox.two hd ht _, ?_⟩
  have := GBox.new (w.alloc (deskB da dl dc wa wl wc nx bz)) (.slice none 0 0) (.slice none 0 0) 0 false
  rwa [e1] at this
end
set_option maxHeartbeats 4000000 in
set_option maxRecDepth 100000 in
theorem await_err (da : Option Addr) (dl dc : Nat) (wa : Option Addr) (wl wc : Nat) (nx : Int) (bz : Bool) (L : List DefD) (M : List WaitD) (s : ByteArray) (w : World) (hd : DefRow w da dl dc L) (ht : WaitRow w wa wl wc M) (hs : s.size ≤ maxLen) (h1 : L.length ≤ 1000) (h2 : M.length ≤ 1000)
    (hm : awaitE ⟨L, M, nx, bz⟩ s.toList ≠ 0) :
    Calls Try.prog 19 #[deskV da dl dc wa wl wc nx bz, .string s] w (AwaitPost w (⟨L, M, nx, bz⟩, -1, -1, awaitE ⟨L, M, nx, bz⟩ s.toList)) := by
  have AI := Lib.hid (WaitIn.start (nx := nx) (bz := bz) hd ht)
  have B0 := Lib.hid (((Below.refl _ _).alloc (Nat.le_refl _) (deskB da dl dc wa wl wc nx bz)).alloc (by simp) (.cells #[.slice none 0 0, .slice none 0 0, .int .i64 0, .bool false] 25) : Below w.heap.size w _)
  have F5 : Hid (∀ V, DefRow V da dl dc L → WaitRow V wa wl wc M → Calls Try.prog 30 #[deskV da dl dc wa wl wc nx bz] V (FreshPost V L M nx bz)) := Lib.hid (fun V h h' => freshdesk_any da dl dc wa wl wc nx bz L M V h h' (by rw [← hd.hlen]; exact h1) (by rw [← ht.hlen]; exact h2))
  obtain ⟨z, hz⟩ : ∃ z, awaitE ⟨L, M, nx, bz⟩ s.toList = z := ⟨_, rfl⟩
  have MY : Hid (∀ V, DefRow V da dl dc L → WaitRow V wa wl wc M → Calls Try.prog 38 #[deskV da dl dc wa wl wc nx bz, .string s] V fun e w' => e = .returned (.int .i64 z) ∧ Below V.heap.size V w') := Lib.hid (fun V h h' => by
    have := mayawait_any da dl dc wa wl wc nx bz L M s V h h' hs
    rw [hz] at this
    exact this)
  rw [hz] at hm ⊢
  have z1 : (z == 0) = false := beq_eq_false_iff_ne.2 hm
  have z2 : (z != 0) = true := bne_iff_ne.2 hm
  clear hz hm hd ht hs h1 h2
  go_enter Try.func19, Try.ntmps19
  go_upto_region 1 with fail
  obtain ⟨V0, hV0⟩ : ∃ V0, (w.alloc (deskB da dl dc wa wl wc nx bz)).alloc (.cells #[.slice none 0 0, .slice none 0 0, .int .i64 0, .bool false] 25) = V0 := ⟨_, rfl⟩
  have e3 : V0.heap.size = w.heap.size + 1 + 1 := by rw [← hV0]; simp
  rw [hV0] at AI B0 ⊢
  have E3 := Lib.hid e3
  clear hV0 e3
  have d0 := AI.out.d.c0
  have d1 := AI.out.d.c1
  have d2 := AI.out.d.c2
  have d3 := AI.out.d.c3
  go_upto_region 2 with (go_at_call 30; (refine (F5.out _ AI.out.d.d AI.out.d.t).mono ?_); rintro e w1 ⟨a2, l2, c2, a3, l3, c3, rfl, ho⟩; have OD := Lib.hid ho; clear ho)
  obtain ⟨W1, hW1⟩ : ∃ W1, w1.alloc (.cells #[.slice a2 l2 c2, .slice a3 l3 c3, .int .i64 nx, .bool bz] 25) = W1 := ⟨_, rfl⟩
  have HB1 : Hid (Below V0.heap.size V0 W1) := Lib.hid (by rw [← hW1]; exact OD.out.below.alloc OD.out.below.size _)
  have GB := Lib.hid (GBox.new w1 (.slice a2 l2 c2) (.slice a3 l3 c3) nx bz)
  have OD1 := Lib.hid (OD.out.keep (below_desk w1 (.cells #[.slice a2 l2 c2, .slice a3 l3 c3, .int .i64 nx, .bool bz] 25)))
  rw [hW1] at GB OD1 ⊢
  clear hW1 d0 d1 d2 d3
  have A1 := Lib.hid (AI.out.keep HB1.out)
  have d0 := A1.out.d.c0
  have d1 := A1.out.d.c1
  have d2 := A1.out.d.c2
  have d3 := A1.out.d.c3
  go_upto_region 3 with (go_at_call 38; (with_reducible refine (MY.out _ A1.out.d.d A1.out.d.t).mono ?_); rintro e w2 ⟨rfl, hb2⟩; have HB2 := Lib.hid hb2; clear hb2)
  clear d0 d1 d2 d3
  have A2 := Lib.hid (A1.out.keep HB2.out)
  have G2 := Lib.hid (GB.out.keep HB2.out)
  have O2 := Lib.hid (OD1.out.keep HB2.out)
  have g0 := G2.out.c0
  have g1 := G2.out.c1
  have g2 := G2.out.c2
  have g3 := G2.out.c3
  have r0 := A2.out.r.c0
  have r1 := A2.out.r.c1
  have r2 := A2.out.r.c2
  have r3 := A2.out.r.c3
  have f0 := A2.out.r.f 0
  have f1 := A2.out.r.f 1
  have f2 := A2.out.r.f 2
  have f3 := A2.out.r.f 3
  go_wp2
  refine bodyPost_ret (v := .tuple #[deskV a2 l2 c2 a3 l3 c3 nx bz, .int .i64 (-1), .int .i64 (-1), .int .i64 z]) ?_ rfl ⟨a2, l2, c2, a3, l3, c3, rfl, ?_, ?_, ?_, ?_, ?_⟩
  · simp [results, Try.results19, go_sem, r0, r1, r2, r3]
  · exact O2.out.dr.same (fun b off e => put4_same (by
      subst e
      have := (O2.out.d.lt b rfl).1
      have := E3.out
      omega)) (by simp [World.setCell])
  · exact O2.out.tr.same (fun b off e => put4_same (by
      subst e
      have := (O2.out.t.lt b rfl).1
      have := E3.out
      omega)) (by simp [World.setCell])
  · exact put4_below ((B0.out.trans (HB1.out.mono B0.out.size)).trans (HB2.out.mono (Nat.le_trans B0.out.size HB1.out.size))) (by omega)
  · intro b off e
    subst e
    exact Nat.le_trans B0.out.size (O2.out.d.lt b rfl).1
  · intro b off e
    subst e
    exact Nat.le_trans B0.out.size (O2.out.t.lt b rfl).1
theorem await_parts {D : DeskD} {s : List UInt8} (h : awaitE D s = 0) : rightK D = true ∧ D.next < 100000 ∧ 0 ≤ D.next := by
  obtain ⟨h1, _, h3⟩ := await_ok.1 h
  exact ⟨rightK_iff.2 h1, h3, h1.n0⟩
set_option maxHeartbeats 8000000 in
set_option maxRecDepth 100000 in
theorem await_good (da : Option Addr) (dl dc : Nat) (wa : Option Addr) (wl wc : Nat) (nx : Int) (bz : Bool) (L : List DefD) (M : List WaitD) (s : ByteArray) (w : World) (hd : DefRow w da dl dc L) (ht : WaitRow w wa wl wc M) (hs : s.size ≤ maxLen) (h1 : L.length ≤ 1000) (h2 : M.length ≤ 1000)
    (hm : awaitE ⟨L, M, nx, bz⟩ s.toList = 0) :
    Calls Try.prog 19 #[deskV da dl dc wa wl wc nx bz, .string s] w (AwaitPost w (awaitK ⟨L, M, nx, bz⟩ s, nx, namedZ L s.toList, 0)) := by
  obtain ⟨i0, hi0, hq0, hq1, hq2⟩ := info_parts3 wait_info
  obtain ⟨hri, hn1, hn0⟩ := await_parts hm
  dsimp only at hn1 hn0
  have AI := Lib.hid (WaitIn.start (nx := nx) (bz := bz) hd ht)
  have B0 := Lib.hid (((Below.refl _ _).alloc (Nat.le_refl _) (deskB da dl dc wa wl wc nx bz)).alloc (by simp) (.cells #[.slice none 0 0, .slice none 0 0, .int .i64 0, .bool false] 25) : Below w.heap.size w _)
  have HTL := Lib.hid ht.hlen
  have F5 : Hid (∀ V, DefRow V da dl dc L → WaitRow V wa wl wc M → Calls Try.prog 30 #[deskV da dl dc wa wl wc nx bz] V (FreshPost V L M nx bz)) := Lib.hid (fun V h h' => freshdesk_any da dl dc wa wl wc nx bz L M V h h' (by rw [← hd.hlen]; exact h1) (by rw [← ht.hlen]; exact h2))
  have MY : Hid (∀ V, DefRow V da dl dc L → WaitRow V wa wl wc M → Calls Try.prog 38 #[deskV da dl dc wa wl wc nx bz, .string s] V fun e w' => e = .returned (.int .i64 0) ∧ Below V.heap.size V w') := Lib.hid (fun V h h' => by
    have := mayawait_any da dl dc wa wl wc nx bz L M s V h h' hs
    rw [hm] at this
    exact this)
  obtain ⟨z, hz⟩ : ∃ z, namedZ L s.toList = z := ⟨_, rfl⟩
  have NM : Hid (∀ V, DefRow V da dl dc L → WaitRow V wa wl wc M → Calls Try.prog 8 #[deskV da dl dc wa wl wc nx bz, .string s] V fun e w' => e = .returned (.int .i64 z) ∧ Below V.heap.size V w') := Lib.hid (fun V h h' => by
    have := named_any da dl dc wa wl wc nx bz L M s V h h'
    rw [ifRight_yes hri, hz] at this
    exact this)
  have hz1 : -1 ≤ z := by rw [← hz]; exact (firstZ_lt _ _).1
  have HAK : Hid (awaitK ⟨L, M, nx, bz⟩ s = ⟨L, if z < 0 then M ++ [⟨s, nx⟩] else M, nx + 1, bz⟩) := Lib.hid (by unfold awaitK; dsimp only; rw [hz])
  have HOK : Hid (∀ x ∈ M ++ [(⟨s, nx⟩ : WaitD)], x.name.size ≤ maxLen ∧ In64 x.ticket) := Lib.hid (fun x hx => by
    rcases List.mem_append.1 hx with hx | hx
    · exact ht.ok x hx
    · rw [List.mem_singleton.1 hx]
      exact ⟨hs, by unfold In64; dsimp only; omega⟩)
  have HZ1 := Lib.hid hz1
  have HL2 := Lib.hid h2
  have w1a : -9223372036854775808 ≤ nx + 1 := by omega
  have w1b : nx + 1 ≤ 9223372036854775807 := by omega
  rw [hz]
  clear hm hd ht hs h1 h2 hz hri hz1
  go_enter Try.func19, Try.ntmps19
  go_upto_region 1 with fail
  obtain ⟨V0, hV0⟩ : ∃ V0, (w.alloc (deskB da dl dc wa wl wc nx bz)).alloc (.cells #[.slice none 0 0, .slice none 0 0, .int .i64 0, .bool false] 25) = V0 := ⟨_, rfl⟩
  have e3 : V0.heap.size = w.heap.size + 1 + 1 := by rw [← hV0]; simp
  rw [hV0] at AI B0 ⊢
  have E3 := Lib.hid e3
  clear hV0 e3
  have d0 := AI.out.d.c0
  have d1 := AI.out.d.c1
  have d2 := AI.out.d.c2
  have d3 := AI.out.d.c3
  go_upto_region 2 with (go_at_call 30; (refine (F5.out _ AI.out.d.d AI.out.d.t).mono ?_); rintro e w1 ⟨a2, l2, c2, a3, l3, c3, rfl, ho⟩; have OD := Lib.hid ho; clear ho)
  obtain ⟨W1, hW1⟩ : ∃ W1, w1.alloc (.cells #[.slice a2 l2 c2, .slice a3 l3 c3, .int .i64 nx, .bool bz] 25) = W1 := ⟨_, rfl⟩
  have HB1 : Hid (Below V0.heap.size V0 W1) := Lib.hid (by rw [← hW1]; exact OD.out.below.alloc OD.out.below.size _)
  have GB := Lib.hid (GBox.new w1 (.slice a2 l2 c2) (.slice a3 l3 c3) nx bz)
  have OD1 := Lib.hid (OD.out.keep (below_desk w1 (.cells #[.slice a2 l2 c2, .slice a3 l3 c3, .int .i64 nx, .bool bz] 25)))
  have DG : Hid (∀ k, Value.ownBlock (.slice a2 l2 c2) = some k → k < w1.heap.size) := Lib.hid (fun k hk => (OD.out.d.lt k hk).2)
  have TG : Hid (∀ k, Value.ownBlock (.slice a3 l3 c3) = some k → k < w1.heap.size) := Lib.hid (fun k hk => (OD.out.t.lt k hk).2)
  have GHI : Hid (V0.heap.size ≤ w1.heap.size) := Lib.hid OD.out.below.size
  have HTL3 : Hid (M.length = l3) := Lib.hid OD.out.tr.hlen
  obtain ⟨g, hg⟩ : ∃ g, w1.heap.size = g := ⟨_, rfl⟩
  rw [hW1] at GB OD1 ⊢
  rw [hg] at GB DG TG GHI ⊢
  clear hW1 d0 d1 d2 d3 OD hg
  have A1 := Lib.hid (AI.out.keep HB1.out)
  have d0 := A1.out.d.c0
  have d1 := A1.out.d.c1
  have d2 := A1.out.d.c2
  have d3 := A1.out.d.c3
  go_upto_region 5 with (go_at_call 38; (with_reducible refine (MY.out _ A1.out.d.d A1.out.d.t).mono ?_); rintro e w2 ⟨rfl, hb2⟩; have HB2 := Lib.hid hb2; clear hb2)
  clear d0 d1 d2 d3
  have A2 := Lib.hid (A1.out.keep HB2.out)
  have d0 := A2.out.d.c0
  have d1 := A2.out.d.c1
  have d2 := A2.out.d.c2
  have d3 := A2.out.d.c3
  go_upto_region 6 with (go_at_call 8; (with_reducible refine (NM.out _ A2.out.d.d A2.out.d.t).mono ?_); rintro e w3 ⟨rfl, hb3⟩; have HB3 := Lib.hid hb3; clear hb3)
  clear d0 d1 d2 d3
  have BV3 := Lib.hid ((HB1.out.trans (HB2.out.mono HB1.out.size)).trans (HB3.out.mono (Nat.le_trans HB1.out.size HB2.out.size)))
  have A3 := Lib.hid (A2.out.keep HB3.out)
  have G3 := Lib.hid ((GB.out.keep HB2.out).keep HB3.out)
  have O3 := Lib.hid ((OD1.out.keep HB2.out).keep HB3.out)
  clear A1 A2 GB OD1 HB1 HB2 HB3
  obtain ⟨q, hq⟩ : ∃ q, (z == -1) = q := ⟨_, rfl⟩
  have HQ : Hid (q = decide (z < 0)) := Lib.hid (by
    rw [← hq]
    have h1 := HZ1.out
    by_cases h2 : z < 0
    · rw [decide_eq_true h2, beq_iff_eq]; omega
    · rw [decide_eq_false h2, beq_eq_false_iff_ne]; omega)
  go_upto_if 24 with fail
  clear hq
  go_cut [] (fun wx => True ∧ ∃ (a5 : Option Addr) (l5 c5 : Nat), Hid (AddEnd V0 wx g a2 l2 c2 a5 l5 c5 L (if z < 0 then M ++ [⟨s, nx⟩] else M) nx bz) ∧ Hid (∀ b off, a5 = some ⟨b, off, none⟩ → b ≠ g))
  case first =>
    by_cases hz0 : z < 0
    · obtain rfl : q = true := by rw [HQ.out]; exact decide_eq_true hz0
      have HIF : Hid ((if z < 0 then M ++ [(⟨s, nx⟩ : WaitD)] else M) = M ++ [⟨s, nx⟩]) := Lib.hid (if_pos hz0)
      have HL5 : Hid (l3 ≤ 1000) := Lib.hid (by rw [← HTL3.out]; exact HL2.out)
      have g0 := G3.out.c0
      have g1 := G3.out.c1
      have d2 := A3.out.d.c2
      have hl3 : l3 ≤ 1000 := HL5.out
      have hsz3 : V0.heap.size ≤ w3.heap.size := BV3.out.size
      have NG : Hid (∀ k, Value.ownBlock (.slice a3 l3 c3) = some k → k ≠ g) := Lib.hid (fun k hk => Nat.ne_of_lt (TG.out k hk))
      have HGL := Lib.hid G3.out.lt
      clear hz0
      go_wp2_with (at_builtin; (refine wpList_append_rows rfl (.tmp 26) (.tmp 31) 23 rfl 48 i0 _ 2 24 Try.underlying23 hi0 hq0 hq1 hq2 rfl (by decide) V0.heap.size _ l3 M [(⟨s, nx⟩ : WaitD)] rfl (O3.out.t.alloc _) _ 1 1 rfl (own_one _ _ _ _ rfl rfl) (fun x _ => encT_one x) (by unfold maxLen; omega) (by omega) (by simp; omega) (fun h => by cases h) ?_); intro v5 w5 hown5 hg5 hat5; obtain ⟨a5, c5, rfl, hr5, -⟩ := WaitRow.of_own (by rw [List.length_append, HTL3.out]; rfl) hown5 HOK.out; have HO5 := Lib.hid hown5; have HG5 := Lib.hid hg5; have HA5 := Lib.hid hat5; have G5 := Lib.hid ((G3.out.keep (below_desk _ _)).same (hg5.block g (Nat.lt_of_lt_of_le HGL.out (below_desk w3 _).size) (fun e => NG.out g e.symm rfl)) hg5.size); have k1 := G5.out.c1; have f1 := G5.out.f 1; clear hown5 hr5 hg5 hat5 g0 g1 d2)
      go_meet
      have HX := below_desk w3 (.cells #[.string s, .int .i64 nx] 48)
      have NG5 : ∀ k, Value.ownBlock (.slice a5 (l3 + 1) c5) = some k → k ≠ g := fun k hk => by
        rcases HA5.out with h | h
        · rw [h] at hk
          exact NG.out k hk
        · rw [h] at hk
          injection hk with hk
          have h9 := HX.size
          have h8 := HGL.out
          omega
      have hT := own_eq9 HO5.out (W := w5.setCell ⟨g, 1, none⟩ (.slice a5 (l3 + 1) c5)) (fun k hk => Below.heap_setCell _ _ _ k (NG5 k hk))
      have hB : Below V0.heap.size V0 (w5.setCell ⟨g, 1, none⟩ (.slice a5 (l3 + 1) c5)) := ((BV3.out.trans (HX.mono hsz3)).grown HG5.out (Nat.le_trans hsz3 HX.size) (fun k hk => (O3.out.t.lt k hk).1)).setCell GHI.out _
      obtain ⟨a8, c8, e8, hr8, -⟩ := WaitRow.of_own (by rw [List.length_append, HTL3.out]; rfl) hT HOK.out
      injection e8 with e1' _ e3'
      subst e1'; subst e3'
      refine ⟨trivial, a5, l3 + 1, c5, Lib.hid ⟨O3.out.dr.same (fun b off e => ?_) ?_, by rw [HIF.out]; exact hr8, G5.out.set1 _, hB, fun b off e => ?_, fun b off e => ?_⟩, Lib.hid (fun b off e => NG5 b (by rw [e]; rfl))⟩
      · subst e
        have h1 := (O3.out.d.lt b rfl).2
        exact (Below.heap_setCell _ _ _ b (Nat.ne_of_lt (DG.out b rfl))).trans ((HG5.out.block b (Nat.lt_of_lt_of_le h1 HX.size) (fun e => own_apart O3.out.d O3.out.t (by decide) b rfl e.symm)).trans (HX.block b h1))
      · simp only [World.setCell, Array.size_modify]
        exact Nat.le_trans HX.size HG5.out.size
      · subst e
        exact (O3.out.d.lt b rfl).1
      · subst e
        exact (HO5.out.lt b rfl).1
    · obtain rfl : q = false := by rw [HQ.out]; exact decide_eq_false hz0
      have HIF : Hid ((if z < 0 then M ++ [(⟨s, nx⟩ : WaitD)] else M) = M) := Lib.hid (if_neg hz0)
      clear hz0
      go_wp2
      go_meet
      refine ⟨trivial, a3, l3, c3, Lib.hid ⟨O3.out.dr, by rw [HIF.out]; exact O3.out.tr, G3.out, BV3.out, fun b off e => ?_, fun b off e => ?_⟩, Lib.hid (fun b off e => Nat.ne_of_lt (TG.out b (by rw [e]; rfl)))⟩
      · subst e
        exact (O3.out.d.lt b rfl).1
      · subst e
        exact (O3.out.t.lt b rfl).1
  case rest =>
    obtain ⟨-, a5, l5, c5, AE, NE⟩ := hcut
    obtain ⟨M5, hM5⟩ : ∃ M5, (if z < 0 then M ++ [(⟨s, nx⟩ : WaitD)] else M) = M5 := ⟨_, rfl⟩
    rw [hM5] at AE HAK
    clear hM5 G3 O3 A3 BV3
    have k2 := AE.out.bx.c2
    have f2 := AE.out.bx.f 2
    go_upto_region 9 with fail
    obtain ⟨W7, hW7, AF⟩ : ∃ W7, wc.setCell ⟨g, 2, none⟩ (.int .i64 (nx + 1)) = W7 ∧ Hid (AddEnd V0 W7 g a2 l2 c2 a5 l5 c5 L M5 (nx + 1) bz) := by
      refine ⟨_, rfl, Lib.hid ⟨AE.out.d.same (fun b off e => Below.heap_setCell _ _ _ b (Nat.ne_of_lt (DG.out b (by rw [e]; rfl)))) (by simp [World.setCell]), AE.out.t.same (fun b off e => Below.heap_setCell _ _ _ b (NE.out b off e)) (by simp [World.setCell]), AE.out.bx.set2 _, AE.out.below.setCell GHI.out _, AE.out.dlo, AE.out.tlo⟩⟩
    rw [hW7]
    clear hW7 k2 f2 AE
    have A7 := Lib.hid (AI.out.keep AF.out.below)
    go_cut [5, 6, 7] (fun x y q wx => x = .int .i64 nx ∧ y = .int .i64 z ∧ q = .int .i64 0 ∧ True ∧ Hid (GBox wx (w.heap.size + 1) (.slice a2 l2 c2) (.slice a5 l5 c5) (nx + 1) bz) ∧ Hid (DefRow wx a2 l2 c2 L) ∧ Hid (WaitRow wx a5 l5 c5 M5) ∧ Hid (Below w.heap.size w wx))
    case first =>
      have g0 := AF.out.bx.c0
      have g1 := AF.out.bx.c1
      have g2 := AF.out.bx.c2
      have g3 := AF.out.bx.c3
      have d2 := A7.out.d.c2
      have r0 := A7.out.r.c0
      have r1 := A7.out.r.c1
      have r2 := A7.out.r.c2
      have r3 := A7.out.r.c3
      have f0 := A7.out.r.f 0
      have f1 := A7.out.r.f 1
      have f2 := A7.out.r.f 2
      have f3 := A7.out.r.f 3
      have n1 : w.heap.size + 1 ≠ w.heap.size := by omega
      have n2 : w.heap.size ≠ w.heap.size + 1 := by omega
      have n3 : w.heap.size + 1 ≠ g := by have h1 := GHI.out; have h2 := E3.out; omega
      have n4 : g ≠ w.heap.size + 1 := fun e => n3 e.symm
      go_region_law fail
      all_goals go_wp2_with fail
      all_goals
        go_meet
        have h2 := E3.out
        have hge : w.heap.size ≤ w.heap.size + 1 := by omega
        refine ⟨rfl, rfl, rfl, trivial, Lib.hid ((((A7.out.r.drew.set0 _).set1 _).set2 _).set3 _), Lib.hid (AF.out.d.drew.same (fun b off e => put4_same (by have := AF.out.dlo b off e; omega)) (by simp [World.setCell])), Lib.hid (AF.out.t.drew.same (fun b off e => put4_same (by have := AF.out.tlo b off e; omega)) (by simp [World.setCell])), Lib.hid (put4_below (B0.out.trans (AF.out.below.mono B0.out.size)) hge).drew⟩
    case rest =>
      obtain ⟨rfl, rfl, rfl, -, RX, DR, WR, BX⟩ := hcut
      have r0 := RX.out.c0
      have r1 := RX.out.c1
      have r2 := RX.out.c2
      have r3 := RX.out.c3
      go_wp2
      refine bodyPost_ret (v := .tuple #[deskV a2 l2 c2 a5 l5 c5 (nx + 1) bz, .int .i64 nx, .int .i64 z, .int .i64 0]) ?_ rfl ⟨a2, l2, c2, a5, l5, c5, ?_, ?_, ?_, BX.out, fun b off e => Nat.le_trans B0.out.size (AF.out.dlo b off e), fun b off e => Nat.le_trans B0.out.size (AF.out.tlo b off e)⟩
      · simp [results, Try.results19, go_sem, r0, r1, r2, r3]
      · rw [HAK.out]
      · rw [HAK.out]
        exact DR.out
      · rw [HAK.out]
        exact WR.out
end Go.Proofs.Ytioeagadhnnajaa
