/- Texts joined in build order: DeskFreshFn. -/
import Derived.Test.YtioeagadhnnajaaA27
import Derived.Test.YtioeagadhnnajaaA10
/- Package fresh's Desk, walked. -/
namespace Go.Proofs.Ytioeagadhnnajaa
open Go.RowKit
theorem box_free {w W : World} {g : Nat} {cs : Array Value} {t : TypeId} (hg : w.heap[g]? = some (.cells cs t (0, 0))) (hb : Below w.heap.size w W) (j : Nat) : W.frozen? ⟨g, j, none⟩ = false := by
  have hlt : g < w.heap.size := by
    rcases Nat.lt_or_ge g w.heap.size with h | h
    · exact h
    · rw [Array.getElem?_eq_none h] at hg; cases hg
  have := hb.block g hlt
  rw [hg] at this
  simp [World.frozen?, this]
theorem own_far {w : World} {base base' : Nat} {e : TypeId} {size n : Nat} {v : Value} {xs : List Value} (h : w.ownsRow base e size v n xs) {W : World} (hs : ∀ b, base ≤ b → W.heap[b]? = w.heap[b]?) (hb : base' ≤ base) : W.ownsRow base' e size v n xs := by
  refine ⟨h.1, ?_⟩
  rcases h.2 with h0 | ⟨g, cap, cur, hv, hbg, hg, h1, h2, h3, h4⟩
  · exact .inl h0
  · exact .inr ⟨g, cap, cur, hv, by omega, (hs g hbg).trans hg, h1, h2, h3, h4⟩
theorem OwnDesk.of {w W : World} {da wa : Option Addr} {dl dc wl wc : Nat} {L : List DefD} {M : List WaitD} (h1 : W.ownsRow w.heap.size 46 3 (.slice da dl dc) dl (L.flatMap encD)) (h2 : W.ownsRow w.heap.size 48 2 (.slice wa wl wc) wl (M.flatMap encT9)) (l1 : L.length = dl) (l2 : M.length = wl)
    (s1 : ∀ x ∈ L, x.name.size ≤ maxLen ∧ x.loc.size ≤ maxLen ∧ In64 x.cls) (s2 : ∀ x ∈ M, x.name.size ≤ maxLen ∧ In64 x.ticket) (hb : Below w.heap.size w W) : OwnDesk w W da dl dc wa wl wc L M := by
  obtain ⟨a, c, e, hr, _⟩ := DefRow.of_own l1 h1 s1
  injection e with e1 _ e3
  subst e1; subst e3
  obtain ⟨a', c', e, hr', _⟩ := WaitRow.of_own l2 h2 s2
  injection e with e1 _ e3
  subst e1; subst e3
  exact ⟨h1, h2, hr, hr', hb⟩
/-- Two stores into one block. -/
theorem set_two {W : World} {g : Nat} {x0 x1 : Value} (A B : Value) (z0 : W.cell? ⟨g, 0, none⟩ = some x0) (z1 : W.cell? ⟨g, 1, none⟩ = some x1) :
    ∃ V, (W.setCell ⟨g, 0, none⟩ A).setCell ⟨g, 1, none⟩ B = V ∧ V.cell? ⟨g, 0, none⟩ = some A ∧ V.cell? ⟨g, 1, none⟩ = some B ∧ (∀ j, 2 ≤ j → V.cell? ⟨g, j, none⟩ = W.cell? ⟨g, j, none⟩) ∧ (∀ b, b ≠ g → V.heap[b]? = W.heap[b]?) ∧ V.heap.size = W.heap.size := by
  refine ⟨_, rfl, ?_, ?_, fun j hj => ?_, fun b hb => ?_, by simp [World.setCell]⟩
  · rw [World.cell?_setCell_other _ _ _ _ (by intro e; injection e with _ e; omega)]
    exact World.cell?_setCell_same _ _ _ z0
  · refine World.cell?_setCell_same _ _ _ (u := x1) ?_
    rw [World.cell?_setCell_other _ _ _ _ (by intro e; injection e with _ e; omega)]
    exact z1
  · rw [World.cell?_setCell_other _ _ _ _ (by intro e; injection e with _ e; omega), World.cell?_setCell_other _ _ _ _ (by intro e; injection e with _ e; omega)]
  · exact (Below.heap_setCell _ _ _ b hb).trans (Below.heap_setCell _ _ _ b hb)
set_option maxHeartbeats 4000000 in
set_option maxRecDepth 100000 in
theorem freshdesk_any (da : Option Addr) (dl dc : Nat) (wa : Option Addr) (wl wc : Nat) (nx : Int) (bz : Bool) (L : List DefD) (M : List WaitD) (w : World) (hd : DefRow w da dl dc L) (ht : WaitRow w wa wl wc M) (h1 : dl ≤ 1000) (h2 : wl ≤ 1000) :
    Calls Try.prog 30 #[deskV da dl dc wa wl wc nx bz] w (FreshPost w L M nx bz) := by
  have HLD := Lib.hid hd.hlen
  have HLT := Lib.hid ht.hlen
  have OKD := Lib.hid hd.ok
  have OKT := Lib.hid ht.ok
  have DX := Lib.hid (DBox.two (nx := nx) (bz := bz) hd ht (.cells #[.slice none 0 0, .slice none 0 0, .int .i64 0, .bool false] 25))
  have FR := Lib.hid (fun (W : World) (hb : Below ((w.alloc (deskB da dl dc wa wl wc nx bz)).alloc (.cells #[.slice none 0 0, .slice none 0 0, .int .i64 0, .bool false] 25)).heap.size ((w.alloc (deskB da dl dc wa wl wc nx bz)).alloc (.cells #[.slice none 0 0, .slice none 0 0, .int .i64 0, .bool false] 25)) W) (j : Nat) => (box_free (heap_alloc_new w (deskB da dl dc wa wl wc nx bz)) ((below_desk _ (.cells #[.slice none 0 0, .slice none 0 0, .int .i64 0, .bool false] 25)).trans (hb.mono (below_desk _ _).size)) j : W.frozen? ⟨w.heap.size, j, none⟩ = false))
  have CD : Hid (∀ V, DefRow V da dl dc L → Calls Try.prog 46 #[.slice da dl dc] V (OwnPostD V L)) := Lib.hid (fun V h => cloneD_any da dl dc L V h (by omega))
  have CT : Hid (∀ V, WaitRow V wa wl wc M → Calls Try.prog 47 #[.slice wa wl wc] V (OwnPostT V M)) := Lib.hid (fun V h => cloneT_any wa wl wc M V h (by omega))
  clear hd ht h1 h2
  go_enter Try.func30, Try.ntmps30
  go_upto_region 1 with fail
  obtain ⟨W0, hW0⟩ : ∃ W0, (w.alloc (deskB da dl dc wa wl wc nx bz)).alloc (.cells #[.slice none 0 0, .slice none 0 0, .int .i64 0, .bool false] 25) = W0 := ⟨_, rfl⟩
  have hs0 : W0.heap.size = w.heap.size + 1 + 1 := by rw [← hW0]; simp
  rw [hW0] at DX FR ⊢
  have HS0 := Lib.hid hs0
  have HC0 : Hid (∀ j, W0.cell? ⟨w.heap.size + 1, j, none⟩ = (#[.slice none 0 0, .slice none 0 0, .int .i64 0, .bool false] : Array Value)[j]?) := Lib.hid (fun j => by
    have e1 : (w.alloc (deskB da dl dc wa wl wc nx bz)).heap.size = w.heap.size + 1 := by simp
    have := cell_of_row ((w.alloc (deskB da dl dc wa wl wc nx bz)).alloc (.cells #[.slice none 0 0, .slice none 0 0, .int .i64 0, .bool false] 25)) (w.alloc (deskB da dl dc wa wl wc nx bz)).heap.size j _ 25 (0, 0) (heap_alloc_new _ _)
    rw [e1, hW0] at this
    exact this)
  have HF0 : Hid (∀ j, W0.frozen? ⟨w.heap.size + 1, j, none⟩ = false) := Lib.hid (fun j => by
    have e1 : (w.alloc (deskB da dl dc wa wl wc nx bz)).heap.size = w.heap.size + 1 := by simp
    have := box_free (heap_alloc_new (w.alloc (deskB da dl dc wa wl wc nx bz)) (.cells #[.slice none 0 0, .slice none 0 0, .int .i64 0, .bool false] 25)) (Below.refl _ _) j
    rw [e1, hW0] at this
    exact this)
  clear hW0 hs0
  have z0 := DX.out.c0
  have z1 := DX.out.c1
  have nz : w.heap.size ≠ w.heap.size + 1 := by omega
  have nz2 : w.heap.size + 1 ≠ w.heap.size := by omega
  go_region_law (first
      | (refine step_wpS rfl ?_; (go_simp; go_at_call 46; refine (CD.out _ DX.out.d.drew).mono ?_; intro e w2 hp; obtain ⟨v2, rfl, hown2, hb2⟩ := hp; rw [HLD.out] at hown2; obtain ⟨a2, c2, rfl, hr2, hlo2⟩ := DefRow.of_own HLD.out hown2 OKD.out; have HR2 := Lib.hid hr2; have HB2 : Hid (Below W0.heap.size W0 w2) := (Lib.hid ((Below.refl W0.heap.size W0).drew.trans hb2)); have HO2 := Lib.hid hown2; have D2 := Lib.hid (DX.out.keep HB2.out); clear z0 z1; have z0 := D2.out.c0; have z1 := D2.out.c1; clear hown2 hb2 hr2 hlo2))
      | (refine step_wpS rfl ?_; (go_simp; go_at_call 47; refine (CT.out _ D2.out.t).mono ?_; intro e w3 hp; obtain ⟨v3, rfl, hown3, hb3⟩ := hp; rw [HLT.out] at hown3; obtain ⟨a3, c3, rfl, hr3, hlo3⟩ := WaitRow.of_own HLT.out hown3 OKT.out; have HR3 := Lib.hid hr3; have HB3 : Hid (Below w2.heap.size w2 w3) := (Lib.hid hb3); have HO3 := Lib.hid hown3; have D3 := Lib.hid (D2.out.keep HB3.out); have HB5 := Lib.hid (HB2.out.trans (hb3.mono HB2.out.size)); clear z0 z1; have z0 := D3.out.c0; have z1 := D3.out.c1; have z2 := D3.out.c2; have z3 := D3.out.c3; have f0 := FR.out w3 HB5.out 0; have f1 := FR.out w3 HB5.out 1; clear hown3 hb3 hr3 hlo3)))
  all_goals
    obtain ⟨V, hV, y0, y1, yr, hsame, hsz⟩ := set_two (.slice a2 dl c2) (.slice a3 wl c3) z0 z1
    rw [hV]
    have y2 := (yr 2 (by omega)).trans z2
    have y3 := (yr 3 (by omega)).trans z3
    have h0 := HS0.out
    have hlt1 : w.heap.size + 1 < W0.heap.size := by omega
    have hk : ∀ j, V.cell? ⟨w.heap.size + 1, j, none⟩ = (#[.slice none 0 0, .slice none 0 0, .int .i64 0, .bool false] : Array Value)[j]? := fun j => (World.cell?_of_block (a := ⟨w.heap.size + 1, j, none⟩) ((hsame (w.heap.size + 1) (by omega)).trans (HB5.out.block _ hlt1))).trans (HC0.out j)
    have hf : ∀ j, V.frozen? ⟨w.heap.size + 1, j, none⟩ = false := fun j => (World.frozen?_of_block (a := ⟨w.heap.size + 1, j, none⟩) ((hsame (w.heap.size + 1) (by omega)).trans (HB5.out.block _ hlt1))).trans (HF0.out j)
    have k0 : V.cell? ⟨w.heap.size + 1, 0, none⟩ = some (.slice none 0 0) := hk 0
    have k1 : V.cell? ⟨w.heap.size + 1, 1, none⟩ = some (.slice none 0 0) := hk 1
    have k2 : V.cell? ⟨w.heap.size + 1, 2, none⟩ = some (.int .i64 0) := hk 2
    have k3 : V.cell? ⟨w.heap.size + 1, 3, none⟩ = some (.bool false) := hk 3
    have g0 := hf 0
    have g1 := hf 1
    have g2 := hf 2
    have g3 := hf 3
    have HS := Lib.hid hsame
    have HZ := Lib.hid hsz
    have HBV : Hid (Below w.heap.size w V) := Lib.hid (by
      rw [← hV]
      exact ((DX.out.below.trans (HB5.out.mono DX.out.below.size)).setCell (Nat.le_refl w.heap.size) _).setCell (Nat.le_refl w.heap.size) _)
    clear hV yr hsame hsz hk hf h0 hlt1 z0 z1 z2 z3 f0 f1
    go_wp2
    have far : ∀ b, W0.heap.size ≤ b → ((((V.setCell ⟨w.heap.size + 1, 0, none⟩ (.slice a2 dl c2)).setCell ⟨w.heap.size + 1, 1, none⟩ (.slice a3 wl c3)).setCell ⟨w.heap.size + 1, 2, none⟩ (.int .i64 nx)).setCell ⟨w.heap.size + 1, 3, none⟩ (.bool bz)).heap[b]? = w3.heap[b]? := fun b hb => by
      have h0 := HS0.out
      have n1 : b ≠ w.heap.size + 1 := by omega
      exact (Below.heap_setCell _ _ _ b n1).trans ((Below.heap_setCell _ _ _ b n1).trans ((Below.heap_setCell _ _ _ b n1).trans ((Below.heap_setCell _ _ _ b n1).trans (HS.out b (by omega)))))
    have l2 : W0.heap.size ≤ w2.heap.size := HB2.out.size
    have l0 : w.heap.size ≤ W0.heap.size := by have h0 := HS0.out; omega
    refine bodyPost_ret (v := deskV a2 dl c2 a3 wl c3 nx bz) ?_ rfl ⟨a2, dl, c2, a3, wl, c3, rfl, OwnDesk.of (own_far (own_below HO2.out HB3.out) (fun b hb => far b hb) l0) (own_far HO3.out (fun b hb => far b (by omega)) (by omega)) HLD.out HLT.out OKD.out OKT.out ?_⟩
    · simp [results, Try.results30, go_sem, k0, k1, k2, k3]
    · have hge : w.heap.size ≤ w.heap.size + 1 := by omega
      exact (((HBV.out.setCell hge _).setCell hge _).setCell hge _).setCell hge _
end Go.Proofs.Ytioeagadhnnajaa
