/- Texts joined in build order: MoveEnds. -/
import Derived.Test.YtclledmgiliggaaGreatDoorP25
import Derived.Test.YtclledmgiliggaaGreatDoorP28
import Derived.Test.YtclledmgiliggaaGreatDoorP31
namespace Go.Proofs.YtclledmgiliggaaGreatDoor
open Go.RowKit
structure Begun (w w' : World) (pw : Nat) (a2 : Option Addr) (len cap2 : Nat) (m : Int) (M : List NodeD) (F : List Core) : Prop where
  row : NodeRow w' a2 len cap2 M
  core : coreL M = F
  c0 : w'.cell? ⟨pw, 0, none⟩ = some (.slice a2 len cap2)
  c1 : w'.cell? ⟨pw, 1, none⟩ = some (.int .i64 m)
  c2 : w'.cell? ⟨pw, 2, none⟩ = some (.slice none 0 0)
  lt : pw < w'.heap.size
  plo : w.heap.size ≤ pw
  below : Below w.heap.size w w'
  new : ∀ x ∈ M, newLists w.heap.size x
  rlo : ∀ b off, a2 = some ⟨b, off, none⟩ → w.heap.size ≤ b
  wk : 0 < len → ∃ g ρ, a2 = some ⟨g, 0, none⟩ ∧ Wk ρ w' pw g cap2 len m M (.slice none 0 0) [] ∧ ∀ k, k < w.heap.size → ρ k = 0
theorem begun_of {w w1 : World} {n : Nat} {v : Value} {M : List NodeD} {F : List Core} {m : Int} (hC : Copy w.heap.size w w1 v n M F) (hN : ∀ x ∈ M, newLists w.heap.size x) (hK : ∀ g, v.ownBlock = some g → KidsOwn w.heap.size w1 g n M) :
    ∃ a2 cap2, v = .slice a2 n cap2 ∧ Begun w (w1.alloc (.cells #[.slice a2 n cap2, .int .i64 m, .slice none 0 0] 110)) w1.heap.size a2 n cap2 m M F := by
  obtain ⟨a2, cap2, hv, hr, hlo⟩ := hC.row
  have hb : Below w1.heap.size w1 (w1.alloc (.cells #[.slice a2 n cap2, .int .i64 m, .slice none 0 0] 110)) := below_box _ _
  have cell : ∀ j, (w1.alloc (.cells #[.slice a2 n cap2, .int .i64 m, .slice none 0 0] 110)).cell? ⟨w1.heap.size, j, none⟩ = (#[.slice a2 n cap2, .int .i64 m, .slice none 0 0] : Array Value)[j]? := fun j => cell_of_row _ w1.heap.size j _ 110 (0, 0) (heap_alloc_new w1 _)
  have hs := hC.below.size
  refine ⟨a2, cap2, hv, hr.below hb, hC.core, cell 0, cell 1, cell 2, by simp, hC.below.size, hC.below.trans (hb.mono hs), hN, fun b off e => (hlo b off e).1, fun h0 => ?_⟩
  obtain ⟨g, cap3, hg⟩ := own_some hC.own h0
  rw [hv] at hg
  injection hg with h1 h2 h3
  subst h1; subst h3
  have hKO := hK g (by rw [hv]; rfl)
  have hgl : w.heap.size ≤ g ∧ g < w1.heap.size := by
    have := hC.own.lt g (by rw [hv]; rfl)
    exact this
  have kl : ∀ (i : Nat) x b, M[i]? = some x → (kidV x).ownBlock = some b → w.heap.size ≤ b ∧ b < w1.heap.size ∧ b ≠ g := fun i x b hx hb2 => by
    have hi : i < n := by have := (List.getElem?_eq_some_iff.1 hx).1; rwa [hC.hl] at this
    exact ⟨(hKO.ne i x b hi hx hb2).2, own_block_lt (hKO.own i x hi hx) hb2, (hKO.ne i x b hi hx hb2).1⟩
  have il : ∀ (i : Nat) x, M[i]? = some x → i < n := fun i x hx => by have := (List.getElem?_eq_some_iff.1 hx).1; rwa [hC.hl] at this
  classical
  obtain ⟨κ, hκ1, hκ2⟩ : ∃ κ : Nat → Nat, (∀ (i : Nat) x b, M[i]? = some x → (kidV x).ownBlock = some b → κ b = i + 5) ∧ ∀ b, κ b ≠ 0 → ∃ (i : Nat) (x : NodeD), M[i]? = some x ∧ (kidV x).ownBlock = some b := by
    refine ⟨fun b => if h : ∃ i : Nat, ∃ x, M[i]? = some x ∧ (kidV x).ownBlock = some b then h.choose + 5 else 0, fun i x b hx hb2 => ?_, fun b hne => ?_⟩
    · have hex : ∃ i : Nat, ∃ x, M[i]? = some x ∧ (kidV x).ownBlock = some b := ⟨i, x, hx, hb2⟩
      simp only [dif_pos hex]
      obtain ⟨y, hy, hby⟩ := hex.choose_spec
      by_cases e : hex.choose = i
      · rw [e]
      · exact absurd rfl (hKO.kk _ _ y x b b (il _ _ hy) (il _ _ hx) hy hx e hby hb2)
    · by_cases hex : ∃ i : Nat, ∃ x, M[i]? = some x ∧ (kidV x).ownBlock = some b
      · exact hex
      · exact absurd (dif_neg hex) hne
  refine ⟨g, fun b => if b = w1.heap.size then 1 else if b = g then 2 else κ b, rfl, ?_, fun k hk => ?_⟩
  · have hH := hr.below hb
    have hsz : (w1.alloc (.cells #[.slice (some ⟨g, 0, none⟩) n cap2, .int .i64 m, .slice none 0 0] 110)).heap.size = w1.heap.size + 1 := by simp
    refine ⟨hC.hl, hr.row.hcap, hr.row.hmax, fun i x j u hx hu => ?_, fun o => ?_, by rw [hsz]; omega, fun i x hx => ?_, fun i x b hx hb2 => ?_, fun x hx => (hH.ok x hx).attrs, fun x hx b off e hp => ?_, fun x hx => ?_, cell 0, cell 1, cell 2, fun o => row_free (heap_alloc_new w1 _) o, by simp, World.ownsRow_nil _ _ _ _, (fun b e => by cases e), (fun x hx => by cases hx), if_pos rfl, ?_, fun b hb2 => ?_⟩
    · rcases hH.row.cells with h0' | ⟨b, off, ha, _, hc⟩
      · omega
      · injection ha with ha
        injection ha with e1 e2
        subst e1 e2
        have := hc i x j u hx hu
        rwa [Nat.zero_add] at this
    · rw [hv] at hC
      exact (hb.frozen (p := ⟨g, o, none⟩) hgl.2).trans (own_free hC.own o)
    · exact own_below (hKO.own i x (il i x hx) hx) hb
    · obtain ⟨h1, h2, h3⟩ := kl i x b hx hb2
      rw [if_neg (by omega), if_neg h3]
      exact hκ1 i x b hx hb2
    · obtain ⟨i, hi⟩ := List.getElem?_of_mem hx
      have h1 := hKO.alt i x b off (il i x hi) hi e hp
      have h2 := (hN x hx).1 b off e
      have h3 : b ≠ g := fun e2 => (hC.away g (.inr (by rw [hv]; rfl)) x hx).1 b off e hp e2
      refine ⟨?_, hKO.al i x b off (il i x hi) hi e hp⟩
      rw [if_neg (by omega), if_neg h3]
      by_cases h4 : κ b = 0
      · exact h4
      · obtain ⟨j, y, hy, hby⟩ := hκ2 b h4
        exact absurd rfl (hKO.ak i j x y b off b (il i x hi) (il j y hy) hi hy e hp hby)
    · have o := hH.ok x hx
      exact ⟨o.name, o.is, o.data, o.kind, o.parent, o.host, o.under, o.doc, o.kids.inb⟩
    · rw [if_neg (by omega), if_pos rfl]
    · rw [hsz] at hb2
      rw [if_neg (by omega), if_neg (by omega)]
      by_cases h4 : κ b = 0
      · exact h4
      · obtain ⟨j, y, hy, hby⟩ := hκ2 b h4
        have := (kl j y b hy hby).2.1
        omega
  · show (if k = w1.heap.size then 1 else if k = g then 2 else κ k) = 0
    rw [if_neg (by omega), if_neg (by omega)]
    by_cases h4 : κ k = 0
    · exact h4
    · obtain ⟨j, y, hy, hby⟩ := hκ2 k h4
      have := (kl j y k hy hby).1
      omega
theorem Begun.upto {w w0 w' : World} {pw : Nat} {a2 : Option Addr} {len cap2 : Nat} {m : Int} {M : List NodeD} {F : List Core} (h : Begun w0 w' pw a2 len cap2 m M F) (hb : Below w.heap.size w w0) : Begun w w' pw a2 len cap2 m M F :=
  ⟨h.row, h.core, h.c0, h.c1, h.c2, h.lt, Nat.le_trans hb.size h.plo, hb.trans (h.below.mono hb.size), fun x hx => ⟨fun b off e => Nat.le_trans hb.size ((h.new x hx).1 b off e), fun b off e => Nat.le_trans hb.size ((h.new x hx).2 b off e)⟩, fun b off e => Nat.le_trans hb.size (h.rlo b off e), fun h0 => by
    obtain ⟨g, ρ, h1, h2, h3⟩ := h.wk h0
    exact ⟨g, ρ, h1, h2, fun k hk => h3 k (Nat.lt_of_lt_of_le hk hb.size)⟩⟩
theorem NodeRow.far {W : World} {a : Option Addr} {len cap q : Nat} {M : List NodeD} (h : NodeRow W a len cap M) (ha : ∀ b off, a = some ⟨b, off, none⟩ → b ≠ q) (hM : ∀ x ∈ M, NodeAway q x) (o : Nat) (u : Value) : NodeRow (W.setCell ⟨q, o, none⟩ u) a len cap M :=
  ⟨h.row.keep (by simp [World.setCell]) (fun b off he hp o' => World.cell?_setCell_other _ _ _ _ (fun e => by injection e with e _; exact ha b off he e.symm)), fun x hx => (h.ok x hx).setCell (hM x hx) u, h.hnil⟩
theorem Wk.stored1 {ρ : Nat → Nat} {W : World} {pw g cap len : Nat} {m : Int} {M : List NodeD} {v : Value} {N : List NoteD} (h : Wk ρ W pw g cap len m M v N) {b B : Nat} (hb : b < B) (hB : B ≤ W.heap.size) (h0 : ∀ k, k < B → ρ k = 0) (o : Nat) (u : Value) :
    Wk (upd ρ (some b) 4) (W.setCell ⟨b, o, none⟩ u) pw g cap len m M v N := by
  have hbg : b < g := by
    rcases Nat.lt_or_ge g B with h1 | h1
    · have := h0 g h1
      rw [h.grole] at this
      cases this
    · omega
  have hm := h.mark (b := b) (by omega) (h0 b hb) (fun x hx b' off he hp e => by have := (h.arole x hx b' off he hp).2; omega)
  have h4 : upd ρ (some b) 4 b = 4 := by unfold upd; rw [if_pos rfl]
  exact hm.other h4 o u
theorem Begun.stored {w w0 w' : World} {pw b : Nat} {a2 : Option Addr} {len cap2 : Nat} {m : Int} {M : List NodeD} {F : List Core} (h : Begun w0 w' pw a2 len cap2 m M F) (hb : Below w.heap.size w w0) (h1 : w.heap.size ≤ b) (h2 : b < w0.heap.size) (o : Nat) (u : Value) : Begun w (w'.setCell ⟨b, o, none⟩ u) pw a2 len cap2 m M F := by
  have hp := h.plo
  have hs := h.below.size
  have cp : ∀ j, (w'.setCell ⟨b, o, none⟩ u).cell? ⟨pw, j, none⟩ = w'.cell? ⟨pw, j, none⟩ := fun j => World.cell?_setCell_other _ _ _ _ (fun e => by injection e with e _; omega)
  refine ⟨h.row.far (fun b' off e => by have := h.rlo b' off e; omega) (fun x hx => (h.new x hx).away h2) o u, h.core, (cp 0).trans h.c0, (cp 1).trans h.c1, (cp 2).trans h.c2, by simpa [World.setCell] using h.lt, Nat.le_trans hb.size hp, (hb.trans (h.below.mono hb.size)).setCell (p := ⟨b, o, none⟩) h1 u, fun x hx => ⟨fun b off e => Nat.le_trans hb.size ((h.new x hx).1 b off e), fun b off e => Nat.le_trans hb.size ((h.new x hx).2 b off e)⟩, fun b off e => Nat.le_trans hb.size (h.rlo b off e), fun h0 => ?_⟩
  obtain ⟨g, ρ, h3, h4, h5⟩ := h.wk h0
  refine ⟨g, _, h3, h4.stored1 h2 (by omega) h5 o u, fun k hk => ?_⟩
  unfold upd
  rw [if_neg (fun e => by injection e with e; omega)]
  exact h5 k (Nat.lt_of_lt_of_le hk hb.size)
structure Held (w w' : World) (pw wb : Nat) (a2 : Option Addr) (len cap2 : Nat) (m : Int) (M : List NodeD) (F : List Core) : Prop where
  row : NodeRow w' a2 len cap2 M
  core : coreL M = F
  c0 : w'.cell? ⟨pw, 0, none⟩ = some (.slice a2 len cap2)
  c1 : w'.cell? ⟨pw, 1, none⟩ = some (.int .i64 m)
  c2 : w'.cell? ⟨pw, 2, none⟩ = some (.slice none 0 0)
  lt : pw < w'.heap.size
  below : Below w.heap.size w w'
  new : ∀ x ∈ M, newLists w.heap.size x
  rlo : ∀ b off, a2 = some ⟨b, off, none⟩ → w.heap.size ≤ b
  wlt : wb < w'.heap.size
  wc : w'.cell? ⟨wb, 0, none⟩ = some (ptrV pw)
  wk : 0 < len → ∃ g ρ, a2 = some ⟨g, 0, none⟩ ∧ Wk ρ w' pw g cap2 len m M (.slice none 0 0) [] ∧ (∀ k, k < w.heap.size → ρ k = 0) ∧ ρ wb = 0
theorem Held.keep {w w' w2 : World} {pw wb : Nat} {a2 : Option Addr} {len cap2 : Nat} {m : Int} {M : List NodeD} {F : List Core} (h : Held w w' pw wb a2 len cap2 m M F) (hb : Below w'.heap.size w' w2) : Held w w2 pw wb a2 len cap2 m M F :=
  ⟨h.row.below hb, h.core, (hb.cell (p := ⟨pw, 0, none⟩) h.lt).trans h.c0, (hb.cell (p := ⟨pw, 1, none⟩) h.lt).trans h.c1, (hb.cell (p := ⟨pw, 2, none⟩) h.lt).trans h.c2, Nat.lt_of_lt_of_le h.lt hb.size, h.below.trans (hb.mono h.below.size), h.new, h.rlo, Nat.lt_of_lt_of_le h.wlt hb.size, (hb.cell (p := ⟨wb, 0, none⟩) h.wlt).trans h.wc, fun h0 => by
    obtain ⟨g, ρ, h1, h2, h3⟩ := h.wk h0
    exact ⟨g, ρ, h1, h2.keep hb, h3⟩⟩
theorem held_below (w1 : World) (pw : Nat) : Below w1.heap.size w1 (w1.alloc (wkB pw)) := below_box _ _
theorem Begun.held {w w1 : World} {pw : Nat} {a2 : Option Addr} {len cap2 : Nat} {m : Int} {M : List NodeD} {F : List Core} (h : Begun w w1 pw a2 len cap2 m M F) : Held w (w1.alloc (wkB pw)) pw w1.heap.size a2 len cap2 m M F := by
  have hb := held_below w1 pw
  exact ⟨h.row.below hb, h.core, (hb.cell (p := ⟨pw, 0, none⟩) h.lt).trans h.c0, (hb.cell (p := ⟨pw, 1, none⟩) h.lt).trans h.c1, (hb.cell (p := ⟨pw, 2, none⟩) h.lt).trans h.c2, Nat.lt_of_lt_of_le h.lt hb.size, h.below.trans (hb.mono h.below.size), h.new, h.rlo, by simp, cell_box, fun h0 => by
    obtain ⟨g, ρ, h1, h2, h3⟩ := h.wk h0
    exact ⟨g, ρ, h1, h2.keep hb, h3, h2.fresh _ (Nat.le_refl _)⟩⟩
set_option maxHeartbeats 4000000 in
set_option maxRecDepth 100000 in
theorem cbegin_any (a : Option Addr) (len cap : Nat) (m : Int) (L : List NodeD) (w : World) (h : NodeRow w a len cap L) (hs : smallF L) :
    Calls Tryz.prog 71 #[forV a len cap m] w fun e w' => ∃ pw a2 cap2 M, e = .returned (ptrV pw) ∧ Begun w w' pw a2 len cap2 m M (coreL L) := by
  have BX := Lib.hid (Box.start (m := m) h)
  have CF : Hid (∀ W, NodeRow W a len cap L → Calls Tryz.prog 90 #[forV a len cap m] W (CopyOwn W len (coreL L) m)) := Lib.hid (fun W h1 => cloneOwn_any a len cap m L W h1 hs)
  have z0 := BX.out.c0
  have z1 := BX.out.c1
  clear h hs
  go_enter Tryz.func71, Tryz.ntmps71
  go_wp2_with (go_at_call 90; (with_reducible refine (CF.out _ BX.out.row).mono ?_); rintro e w1 ⟨v, M, rfl, hC, hN, hK⟩; obtain ⟨a2, cap2, rfl, hB⟩ := begun_of (m := m) hC hN hK; have HB := Lib.hid hB; clear hC hN hK hB)
  go_ret
  exact ⟨_, a2, cap2, M, rfl, HB.out.upto BX.out.below⟩
set_option maxHeartbeats 4000000 in
set_option maxRecDepth 100000 in
theorem mbegin_any (a : Option Addr) (len cap : Nat) (m : Int) (L : List NodeD) (w : World) (h : NodeRow w a len cap L) (hs : smallF L) :
    Calls Tryz.prog 46 #[forV a len cap m] w fun e w' => ∃ pw a2 cap2 M, e = .returned (workV pw) ∧ Begun w w' pw a2 len cap2 m M (coreL L) := by
  have CF : Hid (∀ W, NodeRow W a len cap L → Calls Tryz.prog 71 #[forV a len cap m] W fun e w' => ∃ pw a2 cap2 M, e = .returned (ptrV pw) ∧ Begun W w' pw a2 len cap2 m M (coreL L)) := Lib.hid (fun W h1 => cbegin_any a len cap m L W h1 hs)
  obtain ⟨w0, hw0, BX, HB0, HZ⟩ : ∃ w0, (w.alloc (forB a len cap m)).alloc wkZ = w0 ∧ Hid (Box w w0 w.heap.size a len cap m L (coreL L)) ∧ Hid (Below w.heap.size w w0) ∧ Hid (w0.cell? ⟨w.heap.size + 1, 0, none⟩ = some (.pointer none) ∧ w0.frozen? ⟨w.heap.size + 1, 0, none⟩ = false ∧ w.heap.size + 1 < w0.heap.size) := by
    refine ⟨_, rfl, Lib.hid ((Box.start h).keep (below_box _ _)), Lib.hid ((below_box _ _).trans ((below_box _ _).mono (by simp))), Lib.hid ⟨?_, ?_, by simp⟩⟩
    · simp
    · simp
  have HW0 := Lib.hid hw0
  have z0 := BX.out.c0
  have z1 := BX.out.c1
  clear h hs hw0
  go_enter Tryz.func46, Tryz.ntmps46
  go_upto_region 1 with fail
  rw [HW0.out]
  go_wp2_with (go_at_call 71; (with_reducible refine (CF.out _ BX.out.row).mono ?_); rintro e w1 ⟨pw, a2, cap2, M, rfl, hB⟩; have HB := Lib.hid hB; have hs1 := hB.below.size; have x0 := (hB.below.cell (p := ⟨w.heap.size + 1, 0, none⟩) HZ.out.2.2).trans HZ.out.1; have f0 := (hB.below.frozen (p := ⟨w.heap.size + 1, 0, none⟩) HZ.out.2.2).trans HZ.out.2.1; clear hB)
  have q0 : (w1.setCell ⟨w.heap.size + 1, 0, none⟩ (ptrV pw)).cell? ⟨w.heap.size + 1, 0, none⟩ = some (ptrV pw) := World.cell?_setCell_same _ _ _ x0
  refine bodyPost_ret (v := workV pw) ?_ rfl ⟨pw, a2, cap2, M, rfl, HB.out.stored HB0.out (by omega) HZ.out.2.2 0 (ptrV pw)⟩
  simp [results, Tryz.results46, go_sem, q0]
set_option maxHeartbeats 8000000 in
set_option maxRecDepth 100000 in
theorem mend_any (w : World) (pw : Nat) (a2 va : Option Addr) (len cap vl vc : Nat) (m : Int) (err : Value) (no : Int) (h0 : w.cell? ⟨pw, 0, none⟩ = some (.slice a2 len cap)) (h1 : w.cell? ⟨pw, 1, none⟩ = some (.int .i64 m)) (h2 : w.cell? ⟨pw, 2, none⟩ = some (.slice va vl vc)) (hlt : pw < w.heap.size)
    (CW : ∀ W, Below w.heap.size w W → Calls Tryz.prog 93 #[err] W fun e w' => e = .returned (.int .i64 no) ∧ Below W.heap.size W w') :
    Calls Tryz.prog 48 #[workV pw, err] w fun e w' => e = .returned (.tuple #[forV a2 len cap m, .slice va vl vc, .int .i64 no]) ∧ Below w.heap.size w w' := by
  obtain ⟨w0, hw0, BX, hb0, HZ⟩ : ∃ w0, (w.alloc (wkB pw)).alloc (.cells #[.slice none 0 0, .int .i64 0] 24) = w0 ∧ Hid (Box2 w0 (w.heap.size + 1) (.slice none 0 0) (.int .i64 0)) ∧ Below w.heap.size w w0 ∧ Hid (w0.cell? ⟨w.heap.size, 0, none⟩ = some (ptrV pw) ∧ w.heap.size < w0.heap.size) := by
    refine ⟨_, rfl, Lib.hid (Box2.newAt (by simp)), (below_box _ _).trans ((below_box _ _).mono (by simp)), Lib.hid ⟨((below_box (w.alloc (wkB pw)) (.cells #[.slice none 0 0, .int .i64 0] 24)).cell (p := ⟨w.heap.size, 0, none⟩) (by simp)).trans cell_box, by simp; omega⟩⟩
  have HB0 := Lib.hid hb0
  have HW0 := Lib.hid hw0
  have K : Hid (∀ W, Below w.heap.size w W → W.cell? ⟨pw, 0, none⟩ = some (.slice a2 len cap) ∧ W.cell? ⟨pw, 1, none⟩ = some (.int .i64 m) ∧ W.cell? ⟨pw, 2, none⟩ = some (.slice va vl vc)) := Lib.hid (fun W hb => ⟨(hb.cell (p := ⟨pw, 0, none⟩) hlt).trans h0, (hb.cell (p := ⟨pw, 1, none⟩) hlt).trans h1, (hb.cell (p := ⟨pw, 2, none⟩) hlt).trans h2⟩)
  have CW := Lib.hid CW
  clear hb0 hw0 h0 h1 h2
  go_enter Tryz.func48, Tryz.ntmps48
  go_upto_region 1 with fail
  rw [HW0.out]
  have p0 := (K.out w0 HB0.out).1
  have p1 := (K.out w0 HB0.out).2.1
  have p2 := (K.out w0 HB0.out).2.2
  have zw := HZ.out.1
  go_region_with (go_at_call 93; (refine (CW.out _ HB0.out.drew).mono ?_); rintro e w1 ⟨rfl, hb⟩; have hb := (Below.refl w0.heap.size w0).drew.trans hb; have HB1 := Lib.hid (HB0.out.trans (hb.mono HB0.out.size)); have BX1 := Lib.hid (BX.out.keep hb); have zw := (hb.cell (p := ⟨w.heap.size, 0, none⟩) HZ.out.2).trans HZ.out.1; have p0 := (K.out _ HB1.out).1; have p1 := (K.out _ HB1.out).2.1; have p2 := (K.out _ HB1.out).2.2; have d0 := BX1.out.c0; have d1 := BX1.out.c1; have f0 := BX1.out.f0; have f1 := BX1.out.f1; clear hb)
  all_goals go_wp2
  all_goals
    have hlt0 := BX1.out.lt
    have q0 : ((w1.setCell ⟨w.heap.size + 1, 0, none⟩ (.slice a2 len cap)).setCell ⟨w.heap.size + 1, 1, none⟩ (.int .i64 m)).cell? ⟨w.heap.size + 1, 0, none⟩ = some (.slice a2 len cap) := (World.cell?_setCell_other _ _ _ _ (fun e => by injection e with _ e; omega)).trans (World.cell?_setCell_same _ _ _ d0)
    have q1 : ((w1.setCell ⟨w.heap.size + 1, 0, none⟩ (.slice a2 len cap)).setCell ⟨w.heap.size + 1, 1, none⟩ (.int .i64 m)).cell? ⟨w.heap.size + 1, 1, none⟩ = some (.int .i64 m) := World.cell?_setCell_same _ _ _ ((World.cell?_setCell_other _ _ _ _ (fun e => by injection e with _ e; omega)).trans d1)
    refine bodyPost_ret (v := .tuple #[forV a2 len cap m, .slice va vl vc, .int .i64 no]) ?_ rfl ⟨rfl, (HB1.out.setCell (p := ⟨w.heap.size + 1, 0, none⟩) (by show w.heap.size ≤ w.heap.size + 1; omega) _).setCell (p := ⟨w.heap.size + 1, 1, none⟩) (by show w.heap.size ≤ w.heap.size + 1; omega) _⟩
    simp [results, Tryz.results48, go_sem, q0, q1]
end Go.Proofs.YtclledmgiliggaaGreatDoor
