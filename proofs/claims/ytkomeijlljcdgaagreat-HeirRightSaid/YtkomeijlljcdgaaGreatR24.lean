/- Texts joined in build order: DeskFreshFn DeskTell. -/
import Derived.Test.YtkomeijlljcdgaaGreatR18
import Derived.Test.YtkomeijlljcdgaaGreatR09
namespace Go.Proofs.YtkomeijlljcdgaaGreat
open Go.RowKit
theorem box_free {w W : World} {g : Nat} {cs : Array Value} {t : TypeId} (hg : w.heap[g]? = some (.cells cs t (0, 0))) (hb : Below w.heap.size w W) (j : Nat) : W.frozen? ⟨g, j, none⟩ = false := by
  have hlt : g < w.heap.size := by
    rcases Nat.lt_or_ge g w.heap.size with h | h
    · exact h
    · rw [Array.getElem?_eq_none h] at hg; cases hg
  have := hb.block g hlt
  rw [hg] at this
  simp [World.frozen?, this]
theorem own_far {w : World} {base base' : Nat} {e : TypeId} {size n : Nat} {v : Value} {xs : List Value} (h : w.ownsRow base e size v n xs) {W : World} (hs : ∀ b, base ≤ b → W.heap[b]? = w.heap[b]?) (hb : base' ≤ base) : W.ownsRow base' e size v n xs := by
  refine ⟨h.1, ?_⟩
  rcases h.2 with h0 | ⟨g, cap, cur, hv, hbg, hg, h1, h2, h3, h4⟩
  · exact .inl h0
  · exact .inr ⟨g, cap, cur, hv, by omega, (hs g hbg).trans hg, h1, h2, h3, h4⟩
theorem OwnDesk.of {w W : World} {da wa : Option Addr} {dl dc wl wc : Nat} {L : List DefD} {M : List WaitD} (h1 : W.ownsRow w.heap.size 30 3 (.slice da dl dc) dl (L.flatMap encD)) (h2 : W.ownsRow w.heap.size 64 2 (.slice wa wl wc) wl (M.flatMap encT9)) (l1 : L.length = dl) (l2 : M.length = wl)
    (s1 : ∀ x ∈ L, x.name.size ≤ maxLen ∧ x.loc.size ≤ maxLen ∧ In64 x.cls) (s2 : ∀ x ∈ M, x.name.size ≤ maxLen ∧ In64 x.ticket) (hb : Below w.heap.size w W) : OwnDesk w W da dl dc wa wl wc L M := by
  obtain ⟨a, c, e, hr, _⟩ := DefRow.of_own l1 h1 s1
  injection e with e1 _ e3
  subst e1; subst e3
  obtain ⟨a', c', e, hr', _⟩ := WaitRow.of_own l2 h2 s2
  injection e with e1 _ e3
  subst e1; subst e3
  exact ⟨h1, h2, hr, hr', hb⟩
theorem set_two {W : World} {g : Nat} {x0 x1 : Value} (A B : Value) (z0 : W.cell? ⟨g, 0, none⟩ = some x0) (z1 : W.cell? ⟨g, 1, none⟩ = some x1) :
    ∃ V, (W.setCell ⟨g, 0, none⟩ A).setCell ⟨g, 1, none⟩ B = V ∧ V.cell? ⟨g, 0, none⟩ = some A ∧ V.cell? ⟨g, 1, none⟩ = some B ∧ (∀ j, 2 ≤ j → V.cell? ⟨g, j, none⟩ = W.cell? ⟨g, j, none⟩) ∧ (∀ b, b ≠ g → V.heap[b]? = W.heap[b]?) ∧ V.heap.size = W.heap.size := by
  refine ⟨_, rfl, ?_, ?_, fun j hj => ?_, fun b hb => ?_, by simp [World.setCell]⟩
  · rw [World.cell?_setCell_other _ _ _ _ (by intro e; injection e with _ e; omega)]
    exact World.cell?_setCell_same _ _ _ z0
  · refine World.cell?_setCell_same _ _ _ (u := x1) ?_
    rw [World.cell?_setCell_other _ _ _ _ (by intro e; injection e with _ e; omega)]
    exact z1
  · rw [World.cell?_setCell_other _ _ _ _ (by intro e; injection e with _ e; omega), World.cell?_setCell_other _ _ _ _ (by intro e; injection e with _ e; omega)]
  · exact (Below.heap_setCell _ _ _ b hb).trans (Below.heap_setCell _ _ _ b hb)
set_option maxHeartbeats 4000000 in
set_option maxRecDepth 100000 in
theorem freshdesk_any (da : Option Addr) (dl dc : Nat) (wa : Option Addr) (wl wc : Nat) (nx : Int) (bz : Bool) (L : List DefD) (M : List WaitD) (w : World) (hd : DefRow w da dl dc L) (ht : WaitRow w wa wl wc M) (h1 : dl ≤ 1000) (h2 : wl ≤ 1000) :
    Calls Tryz.prog 52 #[deskV da dl dc wa wl wc nx bz] w (FreshPost w L M nx bz) := by
  have HLD := Lib.hid hd.hlen
  have HLT := Lib.hid ht.hlen
  have OKD := Lib.hid hd.ok
  have OKT := Lib.hid ht.ok
  have DX := Lib.hid (DBox.two (nx := nx) (bz := bz) hd ht (.cells #[.slice none 0 0, .slice none 0 0, .int .i64 0, .bool false] 28))
  have FR := Lib.hid (fun (W : World) (hb : Below ((w.alloc (deskB da dl dc wa wl wc nx bz)).alloc (.cells #[.slice none 0 0, .slice none 0 0, .int .i64 0, .bool false] 28)).heap.size ((w.alloc (deskB da dl dc wa wl wc nx bz)).alloc (.cells #[.slice none 0 0, .slice none 0 0, .int .i64 0, .bool false] 28)) W) (j : Nat) => (box_free (heap_alloc_new w (deskB da dl dc wa wl wc nx bz)) ((below_desk _ (.cells #[.slice none 0 0, .slice none 0 0, .int .i64 0, .bool false] 28)).trans (hb.mono (below_desk _ _).size)) j : W.frozen? ⟨w.heap.size, j, none⟩ = false))
  have CD : Hid (∀ V, DefRow V da dl dc L → Calls Tryz.prog 84 #[.slice da dl dc] V (OwnPostD V L)) := Lib.hid (fun V h => cloneD_any da dl dc L V h (by omega))
  have CT : Hid (∀ V, WaitRow V wa wl wc M → Calls Tryz.prog 85 #[.slice wa wl wc] V (OwnPostT V M)) := Lib.hid (fun V h => cloneT_any wa wl wc M V h (by omega))
  clear hd ht h1 h2
  go_enter Tryz.func52, Tryz.ntmps52
  go_upto_region 1 with fail
  obtain ⟨W0, hW0⟩ : ∃ W0, (w.alloc (deskB da dl dc wa wl wc nx bz)).alloc (.cells #[.slice none 0 0, .slice none 0 0, .int .i64 0, .bool false] 28) = W0 := ⟨_, rfl⟩
  have hs0 : W0.heap.size = w.heap.size + 1 + 1 := by rw [← hW0]; simp
  rw [hW0] at DX FR ⊢
  have HS0 := Lib.hid hs0
  have HC0 : Hid (∀ j, W0.cell? ⟨w.heap.size + 1, j, none⟩ = (#[.slice none 0 0, .slice none 0 0, .int .i64 0, .bool false] : Array Value)[j]?) := Lib.hid (fun j => by
    have e1 : (w.alloc (deskB da dl dc wa wl wc nx bz)).heap.size = w.heap.size + 1 := by simp
    have := cell_of_row ((w.alloc (deskB da dl dc wa wl wc nx bz)).alloc (.cells #[.slice none 0 0, .slice none 0 0, .int .i64 0, .bool false] 28)) (w.alloc (deskB da dl dc wa wl wc nx bz)).heap.size j _ 28 (0, 0) (heap_alloc_new _ _)
    rw [e1, hW0] at this
    exact this)
  have HF0 : Hid (∀ j, W0.frozen? ⟨w.heap.size + 1, j, none⟩ = false) := Lib.hid (fun j => by
    have e1 : (w.alloc (deskB da dl dc wa wl wc nx bz)).heap.size = w.heap.size + 1 := by simp
    have := box_free (heap_alloc_new (w.alloc (deskB da dl dc wa wl wc nx bz)) (.cells #[.slice none 0 0, .slice none 0 0, .int .i64 0, .bool false] 28)) (Below.refl _ _) j
    rw [e1, hW0] at this
    exact this)
  clear hW0 hs0
  have z0 := DX.out.c0
  have z1 := DX.out.c1
  have nz : w.heap.size ≠ w.heap.size + 1 := by omega
  have nz2 : w.heap.size + 1 ≠ w.heap.size := by omega
  go_region_law (first
      | (refine step_wpS rfl ?_; (go_simp; go_at_call 84; refine (CD.out _ DX.out.d.drew).mono ?_; intro e w2 hp; obtain ⟨v2, rfl, hown2, hb2⟩ := hp; rw [HLD.out] at hown2; obtain ⟨a2, c2, rfl, hr2, hlo2⟩ := DefRow.of_own HLD.out hown2 OKD.out; have HR2 := Lib.hid hr2; have HB2 : Hid (Below W0.heap.size W0 w2) := (Lib.hid ((Below.refl W0.heap.size W0).drew.trans hb2)); have HO2 := Lib.hid hown2; have D2 := Lib.hid (DX.out.keep HB2.out); clear z0 z1; have z0 := D2.out.c0; have z1 := D2.out.c1; clear hown2 hb2 hr2 hlo2))
      | (refine step_wpS rfl ?_; (go_simp; go_at_call 85; refine (CT.out _ D2.out.t).mono ?_; intro e w3 hp; obtain ⟨v3, rfl, hown3, hb3⟩ := hp; rw [HLT.out] at hown3; obtain ⟨a3, c3, rfl, hr3, hlo3⟩ := WaitRow.of_own HLT.out hown3 OKT.out; have HR3 := Lib.hid hr3; have HB3 : Hid (Below w2.heap.size w2 w3) := (Lib.hid hb3); have HO3 := Lib.hid hown3; have D3 := Lib.hid (D2.out.keep HB3.out); have HB5 := Lib.hid (HB2.out.trans (hb3.mono HB2.out.size)); clear z0 z1; have z0 := D3.out.c0; have z1 := D3.out.c1; have z2 := D3.out.c2; have z3 := D3.out.c3; have f0 := FR.out w3 HB5.out 0; have f1 := FR.out w3 HB5.out 1; clear hown3 hb3 hr3 hlo3)))
  all_goals
    obtain ⟨V, hV, y0, y1, yr, hsame, hsz⟩ := set_two (.slice a2 dl c2) (.slice a3 wl c3) z0 z1
    rw [hV]
    have y2 := (yr 2 (by omega)).trans z2
    have y3 := (yr 3 (by omega)).trans z3
    have h0 := HS0.out
    have hlt1 : w.heap.size + 1 < W0.heap.size := by omega
    have hk : ∀ j, V.cell? ⟨w.heap.size + 1, j, none⟩ = (#[.slice none 0 0, .slice none 0 0, .int .i64 0, .bool false] : Array Value)[j]? := fun j => (World.cell?_of_block (a := ⟨w.heap.size + 1, j, none⟩) ((hsame (w.heap.size + 1) (by omega)).trans (HB5.out.block _ hlt1))).trans (HC0.out j)
    have hf : ∀ j, V.frozen? ⟨w.heap.size + 1, j, none⟩ = false := fun j => (World.frozen?_of_block (a := ⟨w.heap.size + 1, j, none⟩) ((hsame (w.heap.size + 1) (by omega)).trans (HB5.out.block _ hlt1))).trans (HF0.out j)
    have k0 : V.cell? ⟨w.heap.size + 1, 0, none⟩ = some (.slice none 0 0) := hk 0
    have k1 : V.cell? ⟨w.heap.size + 1, 1, none⟩ = some (.slice none 0 0) := hk 1
    have k2 : V.cell? ⟨w.heap.size + 1, 2, none⟩ = some (.int .i64 0) := hk 2
    have k3 : V.cell? ⟨w.heap.size + 1, 3, none⟩ = some (.bool false) := hk 3
    have g0 := hf 0
    have g1 := hf 1
    have g2 := hf 2
    have g3 := hf 3
    have HS := Lib.hid hsame
    have HZ := Lib.hid hsz
    have HBV : Hid (Below w.heap.size w V) := Lib.hid (by
      rw [← hV]
      exact ((DX.out.below.trans (HB5.out.mono DX.out.below.size)).setCell (Nat.le_refl w.heap.size) _).setCell (Nat.le_refl w.heap.size) _)
    clear hV yr hsame hsz hk hf h0 hlt1 z0 z1 z2 z3 f0 f1
    go_wp2
    have far : ∀ b, W0.heap.size ≤ b → ((((V.setCell ⟨w.heap.size + 1, 0, none⟩ (.slice a2 dl c2)).setCell ⟨w.heap.size + 1, 1, none⟩ (.slice a3 wl c3)).setCell ⟨w.heap.size + 1, 2, none⟩ (.int .i64 nx)).setCell ⟨w.heap.size + 1, 3, none⟩ (.bool bz)).heap[b]? = w3.heap[b]? := fun b hb => by
      have h0 := HS0.out
      have n1 : b ≠ w.heap.size + 1 := by omega
      exact (Below.heap_setCell _ _ _ b n1).trans ((Below.heap_setCell _ _ _ b n1).trans ((Below.heap_setCell _ _ _ b n1).trans ((Below.heap_setCell _ _ _ b n1).trans (HS.out b (by omega)))))
    have l2 : W0.heap.size ≤ w2.heap.size := HB2.out.size
    have l0 : w.heap.size ≤ W0.heap.size := by have h0 := HS0.out; omega
    refine bodyPost_ret (v := deskV a2 dl c2 a3 wl c3 nx bz) ?_ rfl ⟨a2, dl, c2, a3, wl, c3, rfl, OwnDesk.of (own_far (own_below HO2.out HB3.out) (fun b hb => far b hb) l0) (own_far HO3.out (fun b hb => far b (by omega)) (by omega)) HLD.out HLT.out OKD.out OKT.out ?_⟩
    · simp [results, Tryz.results52, go_sem, k0, k1, k2, k3]
    · have hge : w.heap.size ≤ w.heap.size + 1 := by omega
      exact (((HBV.out.setCell hge _).setCell hge _).setCell hge _).setCell hge _
end Go.Proofs.YtkomeijlljcdgaaGreat
namespace Go.Proofs.YtkomeijlljcdgaaGreat
open Go.RowKit
theorem ret_string {a b : ByteArray} (h : a = b) : Ending.returned (.string a) = .returned (.string b) := by rw [h]
def TellPost (w : World) (T : List Int) (e : Ending) (w' : World) : Prop := ∃ a l c, e = .returned (.slice a l c) ∧ IntRow w' a l c T ∧ (∀ b off, a = some ⟨b, off, none⟩ → w.heap.size ≤ b) ∧ Below w.heap.size w w'
theorem IntRow.of_own9 {w : World} {base : Nat} {v : Value} {n : Nat} {M : List Int} (hl : M.length = n) (h : w.ownsRow base 3 1 v n (M.flatMap encZ)) (hs : ∀ x ∈ M, In64 x) : ∃ a cap, v = .slice a n cap ∧ IntRow w a n cap M ∧ (∀ b off, a = some ⟨b, off, none⟩ → base ≤ b) := by
  obtain ⟨a, cap, rfl, h2, h3⟩ := SRow.of_own (fun x _ => encZ_len x) hl h
  refine ⟨a, cap, rfl, ⟨h2, hs, fun e => ?_⟩, h3⟩
  rcases h.2 with ⟨hv, _⟩ | ⟨g, cap', cur, hv, _⟩
  · injection hv
  · subst e
    injection hv with hv
    cases hv
theorem told_step {M : List WaitD} {k : Nat} {n : ByteArray} {c : Int} {s : List UInt8} (h : M[k]? = some ⟨n, c⟩) : toldZ (M.take (k + 1)) s = toldZ (M.take k) s ++ (if (n.toList == s) = true then [c] else []) := by
  obtain ⟨hl, hg⟩ := List.getElem?_eq_some_iff.1 h
  unfold toldZ
  rw [List.take_succ_eq_append_getElem hl, List.filter_append, List.map_append, hg]
  cases hp : n.toList == s <;> simp [hp]
theorem told_len (M : List WaitD) (s : List UInt8) (k : Nat) : (toldZ (M.take k) s).length ≤ k := by
  unfold toldZ
  rw [List.length_map]
  refine Nat.le_trans (List.length_filter_le _ _) ?_
  rw [List.length_take]
  omega
theorem told_in {M : List WaitD} {s : List UInt8} (h : ∀ x ∈ M, x.name.size ≤ maxLen ∧ In64 x.ticket) : ∀ z ∈ toldZ M s, In64 z := fun z hz => by
  obtain ⟨y, hy, rfl⟩ := List.mem_map.1 hz
  exact (h y (List.mem_filter.1 hy).1).2
set_option maxHeartbeats 4000000 in
set_option maxRecDepth 100000 in
theorem tickets_any (da : Option Addr) (dl dc : Nat) (wa : Option Addr) (wl wc : Nat) (nx : Int) (bz : Bool) (L : List DefD) (M : List WaitD) (s : ByteArray) (w : World) (hd : DefRow w da dl dc L) (ht : WaitRow w wa wl wc M) (h1 : wl ≤ 1000) :
    Calls Tryz.prog 57 #[deskV da dl dc wa wl wc nx bz, .string s] w (TellPost w (toldZ M s.toList)) := by
  obtain ⟨i0, hi0, hq0, hq1, hq2⟩ := info_parts3 tick_info
  have HTN := Lib.hid ht.hlen
  have OKT := Lib.hid ht.ok
  have DB := Lib.hid (DBox.start (nx := nx) (bz := bz) hd ht)
  clear hd ht
  have z1 := DB.out.c1
  go_enter Tryz.func57, Tryz.ntmps57
  go_upto_region 2 with fail
  obtain ⟨wb, hwb⟩ : ∃ wb, w.alloc (deskB da dl dc wa wl wc nx bz) = wb := ⟨_, rfl⟩
  rw [hwb] at DB z1 ⊢
  clear hwb
  go_wp2
  go_loopw [5, 11] (fun v i wr => ∃ (k n : Nat), k ≤ wl ∧ i = .int .i64 k ∧ Hid (wr.ownsRow wb.heap.size 3 1 v n ((toldZ (M.take k) s.toList).flatMap encZ)) ∧ Hid ((toldZ (M.take k) s.toList).length = n) ∧ Hid (Below wb.heap.size wb wr)) (fun _ i _ => wl - (intOf i).toNat)
  case atStart => exact ⟨0, 0, Nat.zero_le _, rfl, Lib.hid (World.ownsRow_nil _ _ _ _), Lib.hid rfl, Lib.hid (Below.refl _ _)⟩
  case round =>
    obtain ⟨k, m, hk, rfl, HO, HN, HB⟩ := hrel
    have DR := Lib.hid (DB.out.keep HB.out)
    clear z1
    by_cases hlt : k < wl
    · obtain ⟨b, off, x, rfl, hb, hx, c0, c1, -⟩ := DR.out.t.get hlt
      have HX := Lib.hid hx
      clear hx
      obtain ⟨n, c⟩ := x
      dsimp only at c0 c1
      have hml : m ≤ 1000 := by have := told_len M s.toList k; have := HN.out; omega
      go_upto_region 5 with fail
      obtain ⟨W, hW, XX⟩ : ∃ W, wr.alloc (.cells #[.string n, .int .i64 c] 64) = W ∧ Hid (TBox9 W wr.heap.size n c) := ⟨_, rfl, Lib.hid (TBox9.new _ _ _)⟩
      rw [hW]
      have HBW : Hid (Below wb.heap.size wb W) := Lib.hid (HB.out.trans (by rw [← hW]; exact (below_desk _ _).mono HB.out.size))
      have HOW : Hid (W.ownsRow wb.heap.size 3 1 _ m ((toldZ (M.take k) s.toList).flatMap encZ)) := Lib.hid (own_below HO.out (by rw [← hW]; exact below_desk _ _))
      clear hW c0 c1
      have x0 := XX.out.c0
      have x1 := XX.out.c1
      cases e1 : n.toList == s.toList with
      | false =>
        have HT : Hid (toldZ (M.take (k + 1)) s.toList = toldZ (M.take k) s.toList) := Lib.hid (by rw [told_step HX.out, e1]; simp)
        go_wp2
        go_roundw
        case rel => exact ⟨k + 1, m, by omega, by go_num, Lib.hid (by rw [HT.out]; exact HOW.out), Lib.hid (by rw [HT.out]; exact HN.out), HBW⟩
        case measure => simp [intOf]; omega
      | true =>
        have HT : Hid (toldZ (M.take (k + 1)) s.toList = toldZ (M.take k) s.toList ++ [c]) := Lib.hid (by rw [told_step HX.out, e1]; simp)
        go_wp2_with (at_builtin
                     refine wpList_append_rows rfl (.tmp 19) (.tmp 22) 36 rfl 3 i0 _ 1 8 Tryz.underlying36 hi0 hq0 hq1 hq2 rfl (by decide) wb.heap.size _ m (toldZ (M.take k) s.toList) [c] rfl (HOW.out.alloc _) _ 1 1 rfl (own_one _ _ _ _ rfl rfl) (fun x _ => encZ_one x) (by unfold maxLen; omega) (by omega) (by have := HBW.out.size; simp; omega) (fun h => by cases h) ?_
                     intro v3 w3 hown3 hg3 hat3
                     have HB3 := Lib.hid ((HBW.out.alloc HBW.out.size (.cells #[.int .i64 c] 3)).grown hg3 (by have := HBW.out.size; simp; omega) (fun k hk => (HOW.out.lt k hk).1))
                     have HO3 := Lib.hid hown3
                     clear hown3 hg3 hat3)
        go_roundw
        case rel => exact ⟨k + 1, m + 1, by omega, by go_num, Lib.hid (by rw [HT.out]; exact HO3.out), Lib.hid (by rw [HT.out, List.length_append, HN.out]; rfl), HB3⟩
        case measure => simp [intOf]; omega
    · have HE : Hid (M.take k = M) := Lib.hid (List.take_of_length_le (by rw [HTN.out]; omega))
      have hown := HO.out
      have hlen := HN.out
      rw [HE.out] at hown hlen
      obtain ⟨a2, cap2, rfl, hr2, hlo2⟩ := IntRow.of_own9 hlen hown (told_in OKT.out)
      have HR2 := Lib.hid hr2
      have HL2 := Lib.hid hlo2
      clear hown hlen hr2 hlo2
      go_wp2
      go_ret
      exact ⟨_, _, _, rfl, HR2.out, fun b off e => Nat.le_trans DB.out.below.size (HL2.out b off e), DR.out.below⟩
set_option maxHeartbeats 2000000 in
set_option maxRecDepth 100000 in
theorem or_any (b : Nat) (x y : ByteArray) (w : World) (h0 : w.cell? ⟨b, 0, none⟩ = some (.string x)) (h1 : w.cell? ⟨b, 1, none⟩ = some (.string y)) (_hlt : b < w.heap.size) :
    Calls Tryz.prog 54 #[.slice (some ⟨b, 0, none⟩) 2 2] w fun e w' => e = .returned (.string (if x.toList = [] then y else x)) ∧ w = w' := by
  obtain ⟨e1, he1, HE⟩ : ∃ e, (x.toList == []) = e ∧ Hid (e = true ↔ x.toList = []) := ⟨_, rfl, Lib.hid beq_iff_eq⟩
  have he2 : (x.toList != []) = !e1 := by unfold bne; rw [he1]
  obtain ⟨e3, he3, HE3⟩ : ∃ e, (y.toList == []) = e ∧ Hid (e = true ↔ y.toList = []) := ⟨_, rfl, Lib.hid beq_iff_eq⟩
  have he4 : (y.toList != []) = !e3 := by unfold bne; rw [he3]
  obtain ⟨r, hr⟩ : ∃ r, (if x.toList = [] then y else x) = r := ⟨_, rfl⟩
  rw [hr]
  have HE9 := Lib.hid hr
  clear hr
  cases e1 with
  | false =>
    have HR : Hid (r = x) := Lib.hid (HE9.out.symm.trans (if_neg (fun h => by have := HE.out.2 h; cases this)))
    have he2 : (x.toList != []) = true := he2
    go_enter Tryz.func54, Tryz.ntmps54
    go_wp2
    go_loop [8] (fun i => i = .int .i64 0) (fun i => 2 - (intOf i).toNat)
    case atStart => rfl
    case round =>
      obtain rfl := hrel
      go_wp2
      go_ret
      exact ⟨ret_string HR.out.symm, rfl⟩
  | true =>
    have HR : Hid (r = y) := Lib.hid (HE9.out.symm.trans (if_pos (HE.out.1 rfl)))
    have he2 : (x.toList != []) = false := he2
    have HX : Hid (x = ⟨#[]⟩) := Lib.hid (toList_inj (by rw [HE.out.1 rfl]; simp))
    go_enter Tryz.func54, Tryz.ntmps54
    go_wp2
    go_loop [8] (fun i => i = .int .i64 0 ∨ i = .int .i64 1 ∨ (i = .int .i64 2 ∧ Hid (e3 = true))) (fun i => 2 - (intOf i).toNat)
    case atStart => exact .inl rfl
    case round =>
      rcases hrel with rfl | rfl | ⟨rfl, HT⟩
      · go_wp2
        go_round
        case rel => exact .inr (.inl rfl)
        case measure => simp [intOf]
      · cases e3 with
        | false =>
          have he4 : (y.toList != []) = true := he4
          go_wp2
          go_ret
          exact ⟨ret_string HR.out.symm, rfl⟩
        | true =>
          have he4 : (y.toList != []) = false := he4
          go_wp2
          go_round
          case rel => exact .inr (.inr ⟨rfl, Lib.hid (by first | rfl | trivial)⟩)
          case measure => simp [intOf]
      · have HY : Hid (y = ⟨#[]⟩) := Lib.hid (toList_inj (by rw [HE3.out.1 HT.out]; simp))
        clear he1 he2 he3 he4
        go_wp2
        go_ret
        exact ⟨ret_string (HR.out.trans HY.out).symm, rfl⟩
end Go.Proofs.YtkomeijlljcdgaaGreat
