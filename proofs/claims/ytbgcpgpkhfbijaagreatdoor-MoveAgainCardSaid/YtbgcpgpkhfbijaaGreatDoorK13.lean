/- Texts joined in build order: MoveEnds MoveInsert MoveRemove AttrRem2 AttrTog2 MoveChange MoveSet. -/
import Derived.Test.YtbgcpgpkhfbijaaGreatDoorK09
import Derived.Test.YtbgcpgpkhfbijaaGreatDoorK11
import Derived.Test.YtbgcpgpkhfbijaaGreatDoorK12
import Derived.Test.YtbgcpgpkhfbijaaGreatDoorK06
/- Package move: begin, end. -/
namespace Go.Proofs.YtbgcpgpkhfbijaaGreatDoor
open Go.RowKit
/-- What begins: the copy, in a box. -/
structure Begun (w w' : World) (pw : Nat) (a2 : Option Addr) (len cap2 : Nat) (m : Int) (M : List NodeD) (F : List Core) : Prop where
  row : NodeRow w' a2 len cap2 M
  core : coreL M = F
  c0 : w'.cell? ⟨pw, 0, none⟩ = some (.slice a2 len cap2)
  c1 : w'.cell? ⟨pw, 1, none⟩ = some (.int .i64 m)
  c2 : w'.cell? ⟨pw, 2, none⟩ = some (.slice none 0 0)
  lt : pw < w'.heap.size
  plo : w.heap.size ≤ pw
  below : Below w.heap.size w w'
  new : ∀ x ∈ M, newLists w.heap.size x
  rlo : ∀ b off, a2 = some ⟨b, off, none⟩ → w.heap.size ≤ b
  wk : 0 < len → ∃ g ρ, a2 = some ⟨g, 0, none⟩ ∧ Wk ρ w' pw g cap2 len m M (.slice none 0 0) [] ∧ ∀ k, k < w.heap.size → ρ k = 0
theorem begun_of {w w1 : World} {n : Nat} {v : Value} {M : List NodeD} {F : List Core} {m : Int} (hC : Copy w.heap.size w w1 v n M F) (hN : ∀ x ∈ M, newLists w.heap.size x) (hK : ∀ g, v.ownBlock = some g → KidsOwn w.heap.size w1 g n M) :
    ∃ a2 cap2, v = .slice a2 n cap2 ∧ Begun w (w1.alloc (.cells #[.slice a2 n cap2, .int .i64 m, .slice none 0 0] 130)) w1.heap.size a2 n cap2 m M F := by
  obtain ⟨a2, cap2, hv, hr, hlo⟩ := hC.row
  have hb : Below w1.heap.size w1 (w1.alloc (.cells #[.slice a2 n cap2, .int .i64 m, .slice none 0 0] 130)) := below_box _ _
  have cell : ∀ j, (w1.alloc (.cells #[.slice a2 n cap2, .int .i64 m, .slice none 0 0] 130)).cell? ⟨w1.heap.size, j, none⟩ = (#[.slice a2 n cap2, .int .i64 m, .slice none 0 0] : Array Value)[j]? := fun j => cell_of_row _ w1.heap.size j _ 130 (0, 0) (heap_alloc_new w1 _)
  have hs := hC.below.size
  refine ⟨a2, cap2, hv, hr.below hb, hC.core, cell 0, cell 1, cell 2, by simp, hC.below.size, hC.below.trans (hb.mono hs), hN, fun b off e => (hlo b off e).1, fun h0 => ?_⟩
  obtain ⟨g, cap3, hg⟩ := own_some hC.own h0
  rw [hv] at hg
  injection hg with h1 h2 h3
  subst h1; subst h3
  have hKO := hK g (by rw [hv]; rfl)
  have hgl : w.heap.size ≤ g ∧ g < w1.heap.size := by
    have := hC.own.lt g (by rw [hv]; rfl)
    exact this
  have kl : ∀ (i : Nat) x b, M[i]? = some x → (kidV x).ownBlock = some b → w.heap.size ≤ b ∧ b < w1.heap.size ∧ b ≠ g := fun i x b hx hb2 => by
    have hi : i < n := by have := (List.getElem?_eq_some_iff.1 hx).1; rwa [hC.hl] at this
    exact ⟨(hKO.ne i x b hi hx hb2).2, own_block_lt (hKO.own i x hi hx) hb2, (hKO.ne i x b hi hx hb2).1⟩
  have il : ∀ (i : Nat) x, M[i]? = some x → i < n := fun i x hx => by have := (List.getElem?_eq_some_iff.1 hx).1; rwa [hC.hl] at this
  classical
  obtain ⟨κ, hκ1, hκ2⟩ : ∃ κ : Nat → Nat, (∀ (i : Nat) x b, M[i]? = some x → (kidV x).ownBlock = some b → κ b = i + 5) ∧ ∀ b, κ b ≠ 0 → ∃ (i : Nat) (x : NodeD), M[i]? = some x ∧ (kidV x).ownBlock = some b := by
    refine ⟨fun b => if h : ∃ i : Nat, ∃ x, M[i]? = some x ∧ (kidV x).ownBlock = some b then h.choose + 5 else 0, fun i x b hx hb2 => ?_, fun b hne => ?_⟩
    · have hex : ∃ i : Nat, ∃ x, M[i]? = some x ∧ (kidV x).ownBlock = some b := ⟨i, x, hx, hb2⟩
      simp only [dif_pos hex]
      obtain ⟨y, hy, hby⟩ := hex.choose_spec
      by_cases e : hex.choose = i
      · rw [e]
      · exact absurd rfl (hKO.kk _ _ y x b b (il _ _ hy) (il _ _ hx) hy hx e hby hb2)
    · by_cases hex : ∃ i : Nat, ∃ x, M[i]? = some x ∧ (kidV x).ownBlock = some b
      · exact hex
      · exact absurd (dif_neg hex) hne
  refine ⟨g, fun b => if b = w1.heap.size then 1 else if b = g then 2 else κ b, rfl, ?_, fun k hk => ?_⟩
  · have hH := hr.below hb
    have hsz : (w1.alloc (.cells #[.slice (some ⟨g, 0, none⟩) n cap2, .int .i64 m, .slice none 0 0] 130)).heap.size = w1.heap.size + 1 := by simp
    refine ⟨hC.hl, hr.row.hcap, hr.row.hmax, fun i x j u hx hu => ?_, fun o => ?_, by rw [hsz]; omega, fun i x hx => ?_, fun i x b hx hb2 => ?_, fun x hx => (hH.ok x hx).attrs, fun x hx b off e hp => ?_, fun x hx => ?_, cell 0, cell 1, cell 2, fun o => row_free (heap_alloc_new w1 _) o, by simp, World.ownsRow_nil _ _ _ _, (fun b e => by cases e), (fun x hx => by cases hx), if_pos rfl, ?_, fun b hb2 => ?_⟩
    · rcases hH.row.cells with h0' | ⟨b, off, ha, _, hc⟩
      · omega
      · injection ha with ha
        injection ha with e1 e2
        subst e1 e2
        have := hc i x j u hx hu
        rwa [Nat.zero_add] at this
    · rw [hv] at hC
      exact (hb.frozen (p := ⟨g, o, none⟩) hgl.2).trans (own_free hC.own o)
    · exact own_below (hKO.own i x (il i x hx) hx) hb
    · obtain ⟨h1, h2, h3⟩ := kl i x b hx hb2
      rw [if_neg (by omega), if_neg h3]
      exact hκ1 i x b hx hb2
    · obtain ⟨i, hi⟩ := List.getElem?_of_mem hx
      have h1 := hKO.alt i x b off (il i x hi) hi e hp
      have h2 := (hN x hx).1 b off e
      have h3 : b ≠ g := fun e2 => (hC.away g (.inr (by rw [hv]; rfl)) x hx).1 b off e hp e2
      refine ⟨?_, hKO.al i x b off (il i x hi) hi e hp⟩
      rw [if_neg (by omega), if_neg h3]
      by_cases h4 : κ b = 0
      · exact h4
      · obtain ⟨j, y, hy, hby⟩ := hκ2 b h4
        exact absurd rfl (hKO.ak i j x y b off b (il i x hi) (il j y hy) hi hy e hp hby)
    · have o := hH.ok x hx
      exact ⟨o.name, o.is, o.data, o.kind, o.parent, o.host, o.under, o.doc, o.kids.inb⟩
    · rw [if_neg (by omega), if_pos rfl]
    · rw [hsz] at hb2
      rw [if_neg (by omega), if_neg (by omega)]
      by_cases h4 : κ b = 0
      · exact h4
      · obtain ⟨j, y, hy, hby⟩ := hκ2 b h4
        have := (kl j y b hy hby).2.1
        omega
  · show (if k = w1.heap.size then 1 else if k = g then 2 else κ k) = 0
    rw [if_neg (by omega), if_neg (by omega)]
    by_cases h4 : κ k = 0
    · exact h4
    · obtain ⟨j, y, hy, hby⟩ := hκ2 k h4
      have := (kl j y k hy hby).1
      omega
theorem Begun.upto {w w0 w' : World} {pw : Nat} {a2 : Option Addr} {len cap2 : Nat} {m : Int} {M : List NodeD} {F : List Core} (h : Begun w0 w' pw a2 len cap2 m M F) (hb : Below w.heap.size w w0) : Begun w w' pw a2 len cap2 m M F :=
  ⟨h.row, h.core, h.c0, h.c1, h.c2, h.lt, Nat.le_trans hb.size h.plo, hb.trans (h.below.mono hb.size), fun x hx => ⟨fun b off e => Nat.le_trans hb.size ((h.new x hx).1 b off e), fun b off e => Nat.le_trans hb.size ((h.new x hx).2 b off e)⟩, fun b off e => Nat.le_trans hb.size (h.rlo b off e), fun h0 => by
    obtain ⟨g, ρ, h1, h2, h3⟩ := h.wk h0
    exact ⟨g, ρ, h1, h2, fun k hk => h3 k (Nat.lt_of_lt_of_le hk hb.size)⟩⟩
theorem NodeRow.far {W : World} {a : Option Addr} {len cap q : Nat} {M : List NodeD} (h : NodeRow W a len cap M) (ha : ∀ b off, a = some ⟨b, off, none⟩ → b ≠ q) (hM : ∀ x ∈ M, NodeAway q x) (o : Nat) (u : Value) : NodeRow (W.setCell ⟨q, o, none⟩ u) a len cap M :=
  ⟨h.row.keep (by simp [World.setCell]) (fun b off he hp o' => World.cell?_setCell_other _ _ _ _ (fun e => by injection e with e _; exact ha b off he e.symm)), fun x hx => (h.ok x hx).setCell (hM x hx) u, h.hnil⟩
/-- The work, behind a store into a box that lay there before. -/
theorem Wk.stored1 {ρ : Nat → Nat} {W : World} {pw g cap len : Nat} {m : Int} {M : List NodeD} {v : Value} {N : List NoteD} (h : Wk ρ W pw g cap len m M v N) {b B : Nat} (hb : b < B) (hB : B ≤ W.heap.size) (h0 : ∀ k, k < B → ρ k = 0) (o : Nat) (u : Value) :
    Wk (upd ρ (some b) 4) (W.setCell ⟨b, o, none⟩ u) pw g cap len m M v N := by
  have hbg : b < g := by
    rcases Nat.lt_or_ge g B with h1 | h1
    · have := h0 g h1
      rw [h.grole] at this
      cases this
    · omega
  have hm := h.mark (b := b) (by omega) (h0 b hb) (fun x hx b' off he hp e => by have := (h.arole x hx b' off he hp).2; omega)
  have h4 : upd ρ (some b) 4 b = 4 := by unfold upd; rw [if_pos rfl]
  exact hm.other h4 o u
/-- What begins, behind a store into a box that lay there before. -/
theorem Begun.stored {w w0 w' : World} {pw b : Nat} {a2 : Option Addr} {len cap2 : Nat} {m : Int} {M : List NodeD} {F : List Core} (h : Begun w0 w' pw a2 len cap2 m M F) (hb : Below w.heap.size w w0) (h1 : w.heap.size ≤ b) (h2 : b < w0.heap.size) (o : Nat) (u : Value) : Begun w (w'.setCell ⟨b, o, none⟩ u) pw a2 len cap2 m M F := by
  have hp := h.plo
  have hs := h.below.size
  have cp : ∀ j, (w'.setCell ⟨b, o, none⟩ u).cell? ⟨pw, j, none⟩ = w'.cell? ⟨pw, j, none⟩ := fun j => World.cell?_setCell_other _ _ _ _ (fun e => by injection e with e _; omega)
  refine ⟨h.row.far (fun b' off e => by have := h.rlo b' off e; omega) (fun x hx => (h.new x hx).away h2) o u, h.core, (cp 0).trans h.c0, (cp 1).trans h.c1, (cp 2).trans h.c2, by simpa [World.setCell] using h.lt, Nat.le_trans hb.size hp, (hb.trans (h.below.mono hb.size)).setCell (p := ⟨b, o, none⟩) h1 u, fun x hx => ⟨fun b off e => Nat.le_trans hb.size ((h.new x hx).1 b off e), fun b off e => Nat.le_trans hb.size ((h.new x hx).2 b off e)⟩, fun b off e => Nat.le_trans hb.size (h.rlo b off e), fun h0 => ?_⟩
  obtain ⟨g, ρ, h3, h4, h5⟩ := h.wk h0
  refine ⟨g, _, h3, h4.stored1 h2 (by omega) h5 o u, fun k hk => ?_⟩
  unfold upd
  rw [if_neg (fun e => by injection e with e; omega)]
  exact h5 k (Nat.lt_of_lt_of_le hk hb.size)
/-- What begins, and the box that holds where. -/
structure Held (w w' : World) (pw wb : Nat) (a2 : Option Addr) (len cap2 : Nat) (m : Int) (M : List NodeD) (F : List Core) : Prop where
  row : NodeRow w' a2 len cap2 M
  core : coreL M = F
  c0 : w'.cell? ⟨pw, 0, none⟩ = some (.slice a2 len cap2)
  c1 : w'.cell? ⟨pw, 1, none⟩ = some (.int .i64 m)
  c2 : w'.cell? ⟨pw, 2, none⟩ = some (.slice none 0 0)
  lt : pw < w'.heap.size
  below : Below w.heap.size w w'
  new : ∀ x ∈ M, newLists w.heap.size x
  rlo : ∀ b off, a2 = some ⟨b, off, none⟩ → w.heap.size ≤ b
  wlt : wb < w'.heap.size
  wc : w'.cell? ⟨wb, 0, none⟩ = some (ptrV pw)
  wk : 0 < len → ∃ g ρ, a2 = some ⟨g, 0, none⟩ ∧ Wk ρ w' pw g cap2 len m M (.slice none 0 0) [] ∧ (∀ k, k < w.heap.size → ρ k = 0) ∧ ρ wb = 0
theorem Held.keep {w w' w2 : World} {pw wb : Nat} {a2 : Option Addr} {len cap2 : Nat} {m : Int} {M : List NodeD} {F : List Core} (h : Held w w' pw wb a2 len cap2 m M F) (hb : Below w'.heap.size w' w2) : Held w w2 pw wb a2 len cap2 m M F :=
  ⟨h.row.below hb, h.core, (hb.cell (p := ⟨pw, 0, none⟩) h.lt).trans h.c0, (hb.cell (p := ⟨pw, 1, none⟩) h.lt).trans h.c1, (hb.cell (p := ⟨pw, 2, none⟩) h.lt).trans h.c2, Nat.lt_of_lt_of_le h.lt hb.size, h.below.trans (hb.mono h.below.size), h.new, h.rlo, Nat.lt_of_lt_of_le h.wlt hb.size, (hb.cell (p := ⟨wb, 0, none⟩) h.wlt).trans h.wc, fun h0 => by
    obtain ⟨g, ρ, h1, h2, h3⟩ := h.wk h0
    exact ⟨g, ρ, h1, h2.keep hb, h3⟩⟩
theorem held_below (w1 : World) (pw : Nat) : Below w1.heap.size w1 (w1.alloc (wkB pw)) := below_box _ _
theorem Begun.held {w w1 : World} {pw : Nat} {a2 : Option Addr} {len cap2 : Nat} {m : Int} {M : List NodeD} {F : List Core} (h : Begun w w1 pw a2 len cap2 m M F) : Held w (w1.alloc (wkB pw)) pw w1.heap.size a2 len cap2 m M F := by
  have hb := held_below w1 pw
  exact ⟨h.row.below hb, h.core, (hb.cell (p := ⟨pw, 0, none⟩) h.lt).trans h.c0, (hb.cell (p := ⟨pw, 1, none⟩) h.lt).trans h.c1, (hb.cell (p := ⟨pw, 2, none⟩) h.lt).trans h.c2, Nat.lt_of_lt_of_le h.lt hb.size, h.below.trans (hb.mono h.below.size), h.new, h.rlo, by simp, cell_box, fun h0 => by
    obtain ⟨g, ρ, h1, h2, h3⟩ := h.wk h0
    exact ⟨g, ρ, h1, h2.keep hb, h3, h2.fresh _ (Nat.le_refl _)⟩⟩
set_option maxHeartbeats 4000000 in
set_option maxRecDepth 100000 in
theorem cbegin_any (a : Option Addr) (len cap : Nat) (m : Int) (L : List NodeD) (w : World) (h : NodeRow w a len cap L) (hs : smallF L) :
    Calls Tryz.prog 96 #[forV a len cap m] w fun e w' => ∃ pw a2 cap2 M, e = .returned (ptrV pw) ∧ Begun w w' pw a2 len cap2 m M (coreL L) := by
  have BX := Lib.hid (Box.start (m := m) h)
  have CF : Hid (∀ W, NodeRow W a len cap L → Calls Tryz.prog 115 #[forV a len cap m] W (CopyOwn W len (coreL L) m)) := Lib.hid (fun W h1 => cloneOwn_any a len cap m L W h1 hs)
  have z0 := BX.out.c0
  have z1 := BX.out.c1
  clear h hs
  go_enter Tryz.func96, Tryz.ntmps96
  go_wp2_with (go_at_call 115; (with_reducible refine (CF.out _ BX.out.row).mono ?_); rintro e w1 ⟨v, M, rfl, hC, hN, hK⟩; obtain ⟨a2, cap2, rfl, hB⟩ := begun_of (m := m) hC hN hK; have HB := Lib.hid hB; clear hC hN hK hB)
  go_ret
  exact ⟨_, a2, cap2, M, rfl, HB.out.upto BX.out.below⟩
set_option maxHeartbeats 4000000 in
set_option maxRecDepth 100000 in
theorem mbegin_any (a : Option Addr) (len cap : Nat) (m : Int) (L : List NodeD) (w : World) (h : NodeRow w a len cap L) (hs : smallF L) :
    Calls Tryz.prog 59 #[forV a len cap m] w fun e w' => ∃ pw a2 cap2 M, e = .returned (workV pw) ∧ Begun w w' pw a2 len cap2 m M (coreL L) := by
  have CF : Hid (∀ W, NodeRow W a len cap L → Calls Tryz.prog 96 #[forV a len cap m] W fun e w' => ∃ pw a2 cap2 M, e = .returned (ptrV pw) ∧ Begun W w' pw a2 len cap2 m M (coreL L)) := Lib.hid (fun W h1 => cbegin_any a len cap m L W h1 hs)
  obtain ⟨w0, hw0, BX, HB0, HZ⟩ : ∃ w0, (w.alloc (forB a len cap m)).alloc wkZ = w0 ∧ Hid (Box w w0 w.heap.size a len cap m L (coreL L)) ∧ Hid (Below w.heap.size w w0) ∧ Hid (w0.cell? ⟨w.heap.size + 1, 0, none⟩ = some (.pointer none) ∧ w0.frozen? ⟨w.heap.size + 1, 0, none⟩ = false ∧ w.heap.size + 1 < w0.heap.size) := by
    refine ⟨_, rfl, Lib.hid ((Box.start h).keep (below_box _ _)), Lib.hid ((below_box _ _).trans ((below_box _ _).mono (by simp))), Lib.hid ⟨?_, ?_, by simp⟩⟩
    · simp
    · simp
  have HW0 := Lib.hid hw0
  have z0 := BX.out.c0
  have z1 := BX.out.c1
  clear h hs hw0
  go_enter Tryz.func59, Tryz.ntmps59
  go_upto_region 1 with fail
  rw [HW0.out]
  go_wp2_with (go_at_call 96; (with_reducible refine (CF.out _ BX.out.row).mono ?_); rintro e w1 ⟨pw, a2, cap2, M, rfl, hB⟩; have HB := Lib.hid hB; have hs1 := hB.below.size; have x0 := (hB.below.cell (p := ⟨w.heap.size + 1, 0, none⟩) HZ.out.2.2).trans HZ.out.1; have f0 := (hB.below.frozen (p := ⟨w.heap.size + 1, 0, none⟩) HZ.out.2.2).trans HZ.out.2.1; clear hB)
  have q0 : (w1.setCell ⟨w.heap.size + 1, 0, none⟩ (ptrV pw)).cell? ⟨w.heap.size + 1, 0, none⟩ = some (ptrV pw) := World.cell?_setCell_same _ _ _ x0
  refine bodyPost_ret (v := workV pw) ?_ rfl ⟨pw, a2, cap2, M, rfl, HB.out.stored HB0.out (by omega) HZ.out.2.2 0 (ptrV pw)⟩
  simp [results, Tryz.results59, go_sem, q0]
set_option maxHeartbeats 8000000 in
set_option maxRecDepth 100000 in
theorem mend_any (w : World) (pw : Nat) (a2 va : Option Addr) (len cap vl vc : Nat) (m : Int) (err : Value) (no : Int) (h0 : w.cell? ⟨pw, 0, none⟩ = some (.slice a2 len cap)) (h1 : w.cell? ⟨pw, 1, none⟩ = some (.int .i64 m)) (h2 : w.cell? ⟨pw, 2, none⟩ = some (.slice va vl vc)) (hlt : pw < w.heap.size)
    (CW : ∀ W, Below w.heap.size w W → Calls Tryz.prog 116 #[err] W fun e w' => e = .returned (.int .i64 no) ∧ Below W.heap.size W w') :
    Calls Tryz.prog 60 #[workV pw, err] w fun e w' => e = .returned (.tuple #[forV a2 len cap m, .slice va vl vc, .int .i64 no]) ∧ Below w.heap.size w w' := by
  obtain ⟨w0, hw0, BX, hb0, HZ⟩ : ∃ w0, (w.alloc (wkB pw)).alloc (.cells #[.slice none 0 0, .int .i64 0] 24) = w0 ∧ Hid (Box2 w0 (w.heap.size + 1) (.slice none 0 0) (.int .i64 0)) ∧ Below w.heap.size w w0 ∧ Hid (w0.cell? ⟨w.heap.size, 0, none⟩ = some (ptrV pw) ∧ w.heap.size < w0.heap.size) := by
    refine ⟨_, rfl, Lib.hid (Box2.newAt (by simp)), (below_box _ _).trans ((below_box _ _).mono (by simp)), Lib.hid ⟨((below_box (w.alloc (wkB pw)) (.cells #[.slice none 0 0, .int .i64 0] 24)).cell (p := ⟨w.heap.size, 0, none⟩) (by simp)).trans cell_box, by simp; omega⟩⟩
  have HB0 := Lib.hid hb0
  have HW0 := Lib.hid hw0
  have K : Hid (∀ W, Below w.heap.size w W → W.cell? ⟨pw, 0, none⟩ = some (.slice a2 len cap) ∧ W.cell? ⟨pw, 1, none⟩ = some (.int .i64 m) ∧ W.cell? ⟨pw, 2, none⟩ = some (.slice va vl vc)) := Lib.hid (fun W hb => ⟨(hb.cell (p := ⟨pw, 0, none⟩) hlt).trans h0, (hb.cell (p := ⟨pw, 1, none⟩) hlt).trans h1, (hb.cell (p := ⟨pw, 2, none⟩) hlt).trans h2⟩)
  have CW := Lib.hid CW
  clear hb0 hw0 h0 h1 h2
  go_enter Tryz.func60, Tryz.ntmps60
  go_upto_region 1 with fail
  rw [HW0.out]
  have p0 := (K.out w0 HB0.out).1
  have p1 := (K.out w0 HB0.out).2.1
  have p2 := (K.out w0 HB0.out).2.2
  have zw := HZ.out.1
  go_region_with (go_at_call 116; (refine (CW.out _ HB0.out.drew).mono ?_); rintro e w1 ⟨rfl, hb⟩; have hb := (Below.refl w0.heap.size w0).drew.trans hb; have HB1 := Lib.hid (HB0.out.trans (hb.mono HB0.out.size)); have BX1 := Lib.hid (BX.out.keep hb); have zw := (hb.cell (p := ⟨w.heap.size, 0, none⟩) HZ.out.2).trans HZ.out.1; have p0 := (K.out _ HB1.out).1; have p1 := (K.out _ HB1.out).2.1; have p2 := (K.out _ HB1.out).2.2; have d0 := BX1.out.c0; have d1 := BX1.out.c1; have f0 := BX1.out.f0; have f1 := BX1.out.f1; clear hb)
  all_goals go_wp2
  all_goals
    have hlt0 := BX1.out.lt
    have q0 : ((w1.setCell ⟨w.heap.size + 1, 0, none⟩ (.slice a2 len cap)).setCell ⟨w.heap.size + 1, 1, none⟩ (.int .i64 m)).cell? ⟨w.heap.size + 1, 0, none⟩ = some (.slice a2 len cap) := (World.cell?_setCell_other _ _ _ _ (fun e => by injection e with _ e; omega)).trans (World.cell?_setCell_same _ _ _ d0)
    have q1 : ((w1.setCell ⟨w.heap.size + 1, 0, none⟩ (.slice a2 len cap)).setCell ⟨w.heap.size + 1, 1, none⟩ (.int .i64 m)).cell? ⟨w.heap.size + 1, 1, none⟩ = some (.int .i64 m) := World.cell?_setCell_same _ _ _ ((World.cell?_setCell_other _ _ _ _ (fun e => by injection e with _ e; omega)).trans d1)
    refine bodyPost_ret (v := .tuple #[forV a2 len cap m, .slice va vl vc, .int .i64 no]) ?_ rfl ⟨rfl, (HB1.out.setCell (p := ⟨w.heap.size + 1, 0, none⟩) (by show w.heap.size ≤ w.heap.size + 1; omega) _).setCell (p := ⟨w.heap.size + 1, 1, none⟩) (by show w.heap.size ≤ w.heap.size + 1; omega) _⟩
    simp [results, Tryz.results60, go_sem, q0, q1]
end Go.Proofs.YtbgcpgpkhfbijaaGreatDoor
/- Package move: Insert. -/
namespace Go.Proofs.YtbgcpgpkhfbijaaGreatDoor
open Go.RowKit
/-- A row of notes. -/
structure NoteRow (w : World) (a : Option Addr) (len cap : Nat) (N : List NoteD) : Prop where
  row : SRow encO 9 w a len cap N
  ok : ∀ x ∈ N, NoteOk x
  hnil : a = none → cap = 0
theorem NoteRow.below {w w' : World} {a : Option Addr} {len cap : Nat} {N : List NoteD} (h : NoteRow w a len cap N) (hb : Below w.heap.size w w') : NoteRow w' a len cap N := ⟨h.row.below hb, h.ok, h.hnil⟩
theorem NoteRow.nil (w : World) : NoteRow w none 0 0 [] := ⟨SRow.nil, (fun x hx => by cases hx), fun _ => rfl⟩
/-- What a change hands back lies away from all that was there. -/
def MvNew (B : Nat) (a va : Option Addr) (M : List NodeD) : Prop := ∀ k, k < B → (∀ b off, a = some ⟨b, off, none⟩ → b ≠ k) ∧ (∀ x ∈ M, NodeAway k x) ∧ ∀ b off, va = some ⟨b, off, none⟩ → b ≠ k
theorem MvNew.mono {B C : Nat} {a va : Option Addr} {M : List NodeD} (h : MvNew B a va M) (hc : C ≤ B) : MvNew C a va M := fun k hk => h k (Nat.lt_of_lt_of_le hk hc)
/-- What a change hands back. -/
def MvPost (w : World) (m : Int) (R : List Core × List NoteD × Int) (e : Ending) (w' : World) : Prop :=
  ∃ a len cap M va vl vc, e = .returned (.tuple #[forV a len cap m, .slice va vl vc, .int .i64 R.2.2]) ∧ NodeRow w' a len cap M ∧ coreL M = R.1 ∧ smallF M ∧ NoteRow w' va vl vc R.2.1 ∧ Below w.heap.size w w' ∧ MvNew w.heap.size a va M
theorem small_core {L M : List NodeD} (h : coreL M = coreL L) (hs : smallF L) : smallF M := by
  have hl : M.length = L.length := by have := congrArg List.length h; rwa [coreL_len, coreL_len] at this
  refine ⟨by rw [hl]; exact hs.1, fun x hx => ?_⟩
  obtain ⟨i, hi⟩ := List.getElem?_of_mem hx
  have h1 := coreL_get hi
  rw [h] at h1
  have := List.mem_of_getElem? h1
  unfold coreL at this
  obtain ⟨y, hy, he⟩ := List.mem_map.1 this
  have := hs.2 y hy
  unfold smallN at this ⊢
  rw [← he]
  exact this
section
variable {ρ : Nat → Nat} {W : World} {pw g cap len : Nat} {m : Int} {M : List NodeD} {v : Value} {N : List NoteD}
theorem Wk.notes (h : Wk ρ W pw g cap len m M v N) : ∃ va vc, v = .slice va N.length vc ∧ NoteRow W va N.length vc N := by
  obtain ⟨a, c, he, hr, _⟩ := SRow.of_own (fun x _ => encO_len x) rfl h.nown
  refine ⟨a, c, he, hr, h.nok, fun e => ?_⟩
  subst e
  rcases h.nown.2 with ⟨hv, _⟩ | ⟨g', c', cur, hv, _⟩
  · rw [hv] at he
    injection he with _ _ h3
    exact h3.symm
  · rw [hv] at he
    injection he with h1
    cases h1
/-- The work's lists are new where no role was given before. -/
theorem Wk.news {B : Nat} {va : Option Addr} {vl vc : Nat} (h : Wk ρ W pw g cap len m M (.slice va vl vc) N) (h0 : ∀ k, k < B → ρ k = 0) : MvNew B (some ⟨g, 0, none⟩) va M := by
  refine fun k hk => ⟨fun b off e e2 => ?_, fun x hx => ⟨fun b off e hp e2 => ?_, fun b off e hp e2 => ?_⟩, fun b off e e2 => ?_⟩
  · injection e with e
    injection e with e3
    have h1 := h0 k hk
    rw [← e2, ← e3, h.grole] at h1
    cases h1
  · have h1 := (h.arole x hx b off e hp).2
    have h2 := h0 g (by omega)
    rw [h.grole] at h2
    cases h2
  · obtain ⟨i, hi⟩ := List.getElem?_of_mem hx
    have h1 := h.kown i x hi
    obtain ⟨g2, c2, h2⟩ := own_some h1 hp
    have h3 := h.krole i x g2 hi (by rw [h2]; rfl)
    injection h2 with h4 _ _
    rw [e] at h4
    injection h4 with h4
    injection h4 with h5
    have h6 := h0 k hk
    rw [← e2, h5, h3] at h6
    omega
  · rcases h.nown.2 with ⟨hv, _⟩ | ⟨g2, c2, cur, hv, _⟩
    · injection hv with h1
      rw [e] at h1
      cases h1
    · have h3 := h.nrole g2 (by rw [hv]; rfl)
      injection hv with h4 _ _
      rw [e] at h4
      injection h4 with h4
      injection h4 with h5
      have h6 := h0 k hk
      rw [← e2, h5, h3] at h6
      cases h6
end
theorem stored2 {W : World} {b : Nat} {x y : Value} (h : Box2 W b x y) (u v : Value) : ((W.setCell ⟨b, 0, none⟩ u).setCell ⟨b, 1, none⟩ v).cell? ⟨b, 0, none⟩ = some u ∧ ((W.setCell ⟨b, 0, none⟩ u).setCell ⟨b, 1, none⟩ v).cell? ⟨b, 1, none⟩ = some v :=
  ⟨(World.cell?_setCell_other _ _ _ _ (fun e => by injection e with _ e; omega)).trans (World.cell?_setCell_same _ _ _ h.c0), World.cell?_setCell_same _ _ _ ((World.cell?_setCell_other _ _ _ _ (fun e => by injection e with _ e; omega)).trans h.c1)⟩
/-- The work, behind stores into a box that lay there before. -/
theorem Wk.stored {ρ : Nat → Nat} {W : World} {pw g cap len : Nat} {m : Int} {M : List NodeD} {v : Value} {N : List NoteD} (h : Wk ρ W pw g cap len m M v N) {b B : Nat} (hb : b < B) (hB : B ≤ W.heap.size) (h0 : ∀ k, k < B → ρ k = 0) (o1 o2 : Nat) (u1 u2 : Value) :
    ∃ ρ', Wk ρ' ((W.setCell ⟨b, o1, none⟩ u1).setCell ⟨b, o2, none⟩ u2) pw g cap len m M v N := by
  have hbg : b < g := by
    rcases Nat.lt_or_ge g B with h1 | h1
    · have := h0 g h1
      rw [h.grole] at this
      cases this
    · omega
  have hm := h.mark (b := b) (by omega) (h0 b hb) (fun x hx b' off he hp e => by have := (h.arole x hx b' off he hp).2; omega)
  have h4 : upd ρ (some b) 4 b = 4 := by unfold upd; rw [if_pos rfl]
  exact ⟨_, (hm.other h4 o1 u1).other h4 o2 u2⟩
/-- Insert, as mathematics. -/
def insZ (m : Int) (F : List Core) (n p c : Int) : List Core × List NoteD × Int :=
  if mayZ m F n p c = 0 then ((putS (F, []) n.toNat p.toNat (beforeZ m F n p c)).1, (putS (F, []) n.toNat p.toNat (beforeZ m F n p c)).2, 0) else (F, [], mayZ m F n p c)
/-- The two boxes that each of the functions begins with. -/
structure Two (w W : World) (a : Option Addr) (len cap : Nat) (m : Int) (L : List NodeD) : Prop where
  bx : Box w W w.heap.size a len cap m L (coreL L)
  rb : Box2 W (w.heap.size + 1) (.slice none 0 0) (.int .i64 0)
theorem Two.start {w : World} {a : Option Addr} {len cap : Nat} {m : Int} {L : List NodeD} (h : NodeRow w a len cap L) : Two w ((w.alloc (forB a len cap m)).alloc zeroFB) a len cap m L :=
  ⟨(Box.start h).keep (below_box _ _), Box2.newAt (by simp)⟩
theorem Two.keep {w W W2 : World} {a : Option Addr} {len cap : Nat} {m : Int} {L : List NodeD} (h : Two w W a len cap m L) (hb : Below W.heap.size W W2) : Two w W2 a len cap m L := ⟨h.bx.keep hb, h.rb.keep hb⟩
/-- What ends without anything done. -/
theorem mrefused_any {w0 w1 : World} {pw wb : Nat} {a2 : Option Addr} {len cap2 : Nat} {m : Int} {M : List NodeD} {F : List Core} (h : Held w0 w1 pw wb a2 len cap2 m M F) (hg : ErrVar w1) (s : ByteArray) (no : Int) :
    Calls Tryz.prog 60 #[workV pw, refusedV s no] w1 fun e w' => e = .returned (.tuple #[forV a2 len cap2 m, .slice none 0 0, .int .i64 no]) ∧ Below w1.heap.size w1 w' :=
  mend_any w1 pw a2 none len cap2 0 0 m _ no h.c0 h.c1 h.c2 h.lt (fun W hb => mwhy_any s no W (hg.keep hb))
/-- What ends without a fault. -/
theorem mended_any {w1 : World} {ρ : Nat → Nat} {pw g cap len : Nat} {m : Int} {M : List NodeD} {va : Option Addr} {vc : Nat} {N : List NoteD} (h : Wk ρ w1 pw g cap len m M (.slice va N.length vc) N) :
    Calls Tryz.prog 60 #[workV pw, .nilIface] w1 fun e w' => e = .returned (.tuple #[forV (some ⟨g, 0, none⟩) len cap m, .slice va N.length vc, .int .i64 0]) ∧ Below w1.heap.size w1 w' :=
  mend_any w1 pw (some ⟨g, 0, none⟩) va len cap N.length vc m _ 0 h.c0 h.c1 h.c2 h.plt (fun W _ => mwhyNil_any W)
set_option maxHeartbeats 8000000 in
set_option maxRecDepth 100000 in
theorem minsert_any (a : Option Addr) (len cap : Nat) (m : Int) (L : List NodeD) (n p c : Int) (w : World) (h : NodeRow w a len cap L) (hm : In64 m) (hn : In64 n) (hp : In64 p) (hc : In64 c) (hs : smallF L) (hg : ErrVar w) :
    Calls Tryz.prog 15 #[forV a len cap m, .int .i64 n, .int .i64 p, .int .i64 c] w (MvPost w m (insZ m (coreL L) n p c)) := by
  have HCL : Hid ((coreL L).length = len) := Lib.hid (by rw [coreL_len, h.hlen])
  have HS := Lib.hid hs
  have HM := Lib.hid hm
  have HC64 := Lib.hid hc
  have CB : Hid (∀ W, NodeRow W a len cap L → Calls Tryz.prog 59 #[forV a len cap m] W fun e w' => ∃ pw a2 cap2 M, e = .returned (workV pw) ∧ Begun W w' pw a2 len cap2 m M (coreL L)) := Lib.hid (fun W h1 => mbegin_any a len cap m L W h1 hs)
  obtain ⟨E, hE⟩ : ∃ E, mayZ m (coreL L) n p c = E := ⟨_, rfl⟩
  have CM : Hid (∀ W, NodeRow W a len cap L → Calls Tryz.prog 36 #[forV a len cap m, .int .i64 n, .int .i64 p, .int .i64 c] W fun e w' => e = .returned (.int .i64 E) ∧ Below W.heap.size W w') := Lib.hid (fun W h1 => by
    rw [← hE]
    exact vmay_any a len cap m L n p c W h1 hm hn hp hc hs)
  obtain ⟨w0, hw0, TW, HB0⟩ : ∃ w0, (w.alloc (forB a len cap m)).alloc zeroFB = w0 ∧ Hid (Two w w0 a len cap m L) ∧ Hid (Below w.heap.size w w0) := ⟨_, rfl, Lib.hid (Two.start h), Lib.hid ((below_box _ _).trans ((below_box _ _).mono (by simp)))⟩
  have HG := Lib.hid (hg.keep HB0.out)
  have HW0 := Lib.hid hw0
  have z0 := TW.out.bx.c0
  have z1 := TW.out.bx.c1
  have HE := Lib.hid hE
  clear h hs hm hn hp hc hg hw0
  by_cases h0 : E = 0
  · have e1 : (E != 0) = false := by rw [h0]; rfl
    have PO : mayZ m (coreL L) n p c = 0 := by rw [HE.out]; exact h0
    obtain ⟨hk, _⟩ := may_ok PO
    obtain ⟨hr, ⟨N0, rfl, hN⟩, ⟨P0, rfl, hP⟩, hcc⟩ := vknows_nat hk
    rw [HCL.out] at hN hP
    have HPO := Lib.hid PO
    have HQ : Hid (insZ m (coreL L) N0 P0 c = ((putS (coreL L, []) N0 P0 (beforeZ m (coreL L) N0 P0 c)).1, (putS (coreL L, []) N0 P0 (beforeZ m (coreL L) N0 P0 c)).2, 0)) := Lib.hid (by
      unfold insZ
      rw [if_pos HPO.out]
      simp only [Int.toNat_natCast])
    clear hk hr h0 PO hcc
    go_enter Tryz.func15, Tryz.ntmps15
    go_upto_region 1 with fail
    rw [HW0.out]
    go_upto_region 2 with (go_at_call 59; (with_reducible refine (CB.out _ TW.out.bx.row).mono ?_); rintro e w1 ⟨pw, a2, cap2, M, rfl, hB⟩; have BG := Lib.hid hB; have TW1 := Lib.hid (TW.out.keep hB.below); have z0 := TW1.out.bx.c0; have z1 := TW1.out.bx.c1; clear hB)
    (
      have HD0 := Lib.hid BG.out.held
      have HBW := Lib.hid (held_below w1 pw)
      obtain ⟨wh, hwh⟩ : ∃ wh, w1.alloc (wkB pw) = wh := ⟨_, rfl⟩
      rw [hwh] at HD0 HBW ⊢
      have TW1 := Lib.hid (TW1.out.keep HBW.out)
      clear BG z0 z1 hwh
      have BG := HD0
      clear HD0
      have z0 := TW1.out.bx.c0
      have z1 := TW1.out.bx.c1
      have zw := BG.out.wc)
    go_wp2_with (first
      | (go_at_call 36; (with_reducible refine (CM.out _ TW1.out.bx.row).mono ?_); rintro e w2 ⟨rfl, hb⟩; have BG := Lib.hid (BG.out.keep hb); have zw := BG.out.wc; clear hb)
      | (go_at_call 62; obtain ⟨g, ρ, rfl, hwk, hρ, hwb⟩ := BG.out.wk (by omega); have HBC := Lib.hid BG.out.core; (refine (mput_any _ hwk HM.out (small_core HBC.out HS.out) N0 P0 c HC64.out hN hP (by rw [HBC.out]; exact HPO.out) (by simp)).mono ?_); rintro e w3 ⟨rfl, ρ3, M3, v3, N3, hW3, hT3, hA3, hE3, hS3, hR3⟩; obtain ⟨va, vc, rfl, hNR⟩ := hW3.notes; have W3 := Lib.hid hW3; have NR := Lib.hid hNR; have E3 := Lib.hid hE3; have S3 := Lib.hid hS3; have HB3 := Lib.hid (BG.out.below.trans (hT3.below BG.out.below.size hρ)); have A3 : Hid (∀ k, k < w0.heap.size → ρ3 k = 0) := (Lib.hid (fun k hk => (hA3 k (Nat.lt_of_lt_of_le hk BG.out.below.size)).trans (hρ k hk))); have zw := (hT3.cell BG.out.wlt hwb).trans BG.out.wc; clear hW3 hT3 hA3 hE3 hS3 hR3 hNR hwk hρ hwb)
      | (go_at_call 60; (refine (mended_any W3.out).mono ?_); rintro e w4 ⟨rfl, hb⟩; have HB4 := Lib.hid (HB3.out.trans (hb.mono HB3.out.size)); have HB34 := Lib.hid hb; have TW4 := Lib.hid (TW.out.keep HB4.out); have d0 := TW4.out.rb.c0; have d1 := TW4.out.rb.c1; have f0 := TW4.out.rb.f0; have f1 := TW4.out.rb.f1; clear hb))
    obtain ⟨q0, q1⟩ := stored2 TW4.out.rb (.slice (some ⟨g, 0, none⟩) len cap2) (.int .i64 m)
    obtain ⟨ρ5, W5⟩ := (W3.out.keep (by exact HB34.out)).stored (b := w.heap.size + 1) (B := w0.heap.size) TW.out.rb.lt HB4.out.size A3.out 0 1 (.slice (some ⟨g, 0, none⟩) len cap2) (.int .i64 m)
    obtain ⟨va', vc', hv', NR5⟩ := W5.notes
    injection hv' with e2 e3 e4
    subst e2 e4
    refine bodyPost_ret (v := .tuple #[forV (some ⟨g, 0, none⟩) len cap2 m, .slice va N3.length vc, .int .i64 0]) ?_ rfl ⟨some ⟨g, 0, none⟩, len, cap2, M3, va, N3.length, vc, by rw [HQ.out], W5.row, by rw [HQ.out, ← HBC.out, ← E3.out], S3.out, by rw [HQ.out, ← HBC.out, ← E3.out]; exact NR5, ?_, (W3.out.news A3.out).mono HB0.out.size⟩
    · simp [results, Tryz.results15, go_sem, q0, q1]
    · exact ((HB0.out.trans (HB4.out.mono HB0.out.size)).setCell (p := ⟨w.heap.size + 1, 0, none⟩) (by show w.heap.size ≤ w.heap.size + 1; omega) _).setCell (p := ⟨w.heap.size + 1, 1, none⟩) (by show w.heap.size ≤ w.heap.size + 1; omega) _
  · have e1 : (E != 0) = true := bne_iff_ne.2 h0
    have HQ : Hid (insZ m (coreL L) n p c = (coreL L, [], E)) := Lib.hid (by
      unfold insZ
      rw [if_neg (by rw [HE.out]; exact h0), HE.out])
    clear h0
    go_enter Tryz.func15, Tryz.ntmps15
    go_upto_region 1 with fail
    rw [HW0.out]
    go_upto_region 2 with (go_at_call 59; (with_reducible refine (CB.out _ TW.out.bx.row).mono ?_); rintro e w1 ⟨pw, a2, cap2, M, rfl, hB⟩; have BG := Lib.hid hB; have TW1 := Lib.hid (TW.out.keep hB.below); have z0 := TW1.out.bx.c0; have z1 := TW1.out.bx.c1; clear hB)
    (
      have HD0 := Lib.hid BG.out.held
      have HBW := Lib.hid (held_below w1 pw)
      obtain ⟨wh, hwh⟩ : ∃ wh, w1.alloc (wkB pw) = wh := ⟨_, rfl⟩
      rw [hwh] at HD0 HBW ⊢
      have TW1 := Lib.hid (TW1.out.keep HBW.out)
      clear BG z0 z1 hwh
      have BG := HD0
      clear HD0
      have z0 := TW1.out.bx.c0
      have z1 := TW1.out.bx.c1
      have zw := BG.out.wc)
    go_upto_region 4 with (go_at_call 36; (with_reducible refine (CM.out _ TW1.out.bx.row).mono ?_); rintro e w2 ⟨rfl, hb⟩; have BG := Lib.hid (BG.out.keep hb); have zw := BG.out.wc; clear hb)
    (
      have BD := Lib.hid (BG.out.keep ((Below.refl _ _).drew))
      have zw := BG.out.wc
      go_region_with (first | (go_at_call 61; (refine (mrefuse_any _ _ _).mono ?_); rintro e w' ⟨rfl, rfl⟩) | (go_at_call 60; (refine (mrefused_any BD.out (HG.out.keep BD.out.below) _ _).mono ?_); rintro e w4 ⟨rfl, hb⟩; have BG4 := Lib.hid (BD.out.keep hb); have TW4 := Lib.hid (TW.out.keep BG4.out.below); have d0 := TW4.out.rb.c0; have d1 := TW4.out.rb.c1; have f0 := TW4.out.rb.f0; have f1 := TW4.out.rb.f1; clear hb))
      all_goals go_wp2)
    all_goals (
                obtain ⟨q0, q1⟩ := stored2 TW4.out.rb (.slice a2 len cap2) (.int .i64 m)
                have hlt0 := TW.out.rb.lt
                have R5 := (BG4.out.row.far (q := w.heap.size + 1) (fun b off e => by have := BG4.out.rlo b off e; omega) (fun x hx => (BG4.out.new x hx).away hlt0) 0 (.slice a2 len cap2)).far (q := w.heap.size + 1) (fun b off e => by have := BG4.out.rlo b off e; omega) (fun x hx => (BG4.out.new x hx).away hlt0) 1 (.int .i64 m)
                have HB5 := ((HB0.out.trans (BG4.out.below.mono HB0.out.size)).setCell (p := ⟨w.heap.size + 1, 0, none⟩) (by show w.heap.size ≤ w.heap.size + 1; omega) (.slice a2 len cap2)).setCell (p := ⟨w.heap.size + 1, 1, none⟩) (by show w.heap.size ≤ w.heap.size + 1; omega) (.int .i64 m)
                refine bodyPost_ret (v := .tuple #[forV a2 len cap2 m, .slice none 0 0, .int .i64 E]) ?_ rfl ⟨a2, len, cap2, M, none, 0, 0, by rw [HQ.out], R5, by rw [HQ.out, BG4.out.core], small_core BG4.out.core HS.out, by rw [HQ.out]; exact NoteRow.nil _, HB5, fun k hk => ⟨fun b off e e2 => (by have := BG4.out.rlo b off e; have := HB0.out.size; omega), fun x hx => (BG4.out.new x hx).away (Nat.lt_of_lt_of_le hk HB0.out.size), fun b off e => (by cases e)⟩⟩)
    all_goals simp [results, Tryz.results15, go_sem, q0, q1]
end Go.Proofs.YtbgcpgpkhfbijaaGreatDoor
/- Package move: knows, Remove. -/
namespace Go.Proofs.YtbgcpgpkhfbijaaGreatDoor
open Go.RowKit
theorem rootZ_iff {m : Int} {F : List Core} {n : Int} : (rootZ m F n != -1) = thereF m F n := by
  unfold rootZ
  cases thereF m F n with
  | false => rfl
  | true =>
    rw [if_pos rfl]
    exact bne_iff_ne.2 (by omega)
set_option maxHeartbeats 4000000 in
theorem mknows_any (a : Option Addr) (len cap : Nat) (m : Int) (L : List NodeD) (n : Int) (w : World) (h : NodeRow w a len cap L) (hm : In64 m) (hn : In64 n) (hs : smallF L) :
    Calls Tryz.prog 63 #[forV a len cap m, .int .i64 n] w fun e w' => e = .returned (.bool (thereF m (coreL L) n)) ∧ Below w.heap.size w w' := by
  have BX := Lib.hid (Box.start (m := m) h)
  have CR : Hid (∀ W, NodeRow W a len cap L → Calls Tryz.prog 117 #[forV a len cap m, .int .i64 n] W fun e w' => e = .returned (.int .i64 (rootZ m (coreL L) n)) ∧ Below W.heap.size W w') := Lib.hid (fun W h1 => rootFn_any a len cap m L n W h1 hm hn hs)
  have HR := Lib.hid (rootZ_iff (m := m) (F := coreL L) (n := n))
  have z0 := BX.out.c0
  have z1 := BX.out.c1
  obtain ⟨r, hr⟩ : ∃ r, rootZ m (coreL L) n = r := ⟨_, rfl⟩
  rw [hr] at CR HR
  clear h hm hn hs hr
  go_enter Tryz.func63, Tryz.ntmps63
  go_wp2_with (go_at_call 117; (with_reducible refine (CR.out _ BX.out.row).mono ?_); rintro e w1 ⟨rfl, hb⟩; have BX := Lib.hid (BX.out.keep hb); clear hb)
  go_ret
  exact ⟨ret_bool HR.out, BX.out.below⟩
/-- Remove, as mathematics. -/
def remZ (m : Int) (F : List Core) (n : Int) : List Core × List NoteD × Int :=
  if thereF m F n then (if parentK F n = -1 then (F, [], 6) else ((outS (F, []) n.toNat).1, (outS (F, []) n.toNat).2, 0)) else (F, [], 1)
set_option maxHeartbeats 8000000 in
set_option maxRecDepth 100000 in
theorem mremove_any (a : Option Addr) (len cap : Nat) (m : Int) (L : List NodeD) (n : Int) (w : World) (h : NodeRow w a len cap L) (hm : In64 m) (hn : In64 n) (hs : smallF L) (hg : ErrVar w) :
    Calls Tryz.prog 16 #[forV a len cap m, .int .i64 n] w (MvPost w m (remZ m (coreL L) n)) := by
  have HCL : Hid ((coreL L).length = len) := Lib.hid (by rw [coreL_len, h.hlen])
  have hlen := h.len64
  have HS := Lib.hid hs
  have CB : Hid (∀ W, NodeRow W a len cap L → Calls Tryz.prog 59 #[forV a len cap m] W fun e w' => ∃ pw a2 cap2 M, e = .returned (workV pw) ∧ Begun W w' pw a2 len cap2 m M (coreL L)) := Lib.hid (fun W h1 => mbegin_any a len cap m L W h1 hs)
  obtain ⟨q, hq⟩ : ∃ q, thereF m (coreL L) n = q := ⟨_, rfl⟩
  have CM : Hid (∀ W, NodeRow W a len cap L → Calls Tryz.prog 63 #[forV a len cap m, .int .i64 n] W fun e w' => e = .returned (.bool q) ∧ Below W.heap.size W w') := Lib.hid (fun W h1 => by
    rw [← hq]
    exact mknows_any a len cap m L n W h1 hm hn hs)
  obtain ⟨w0, hw0, TW, HB0⟩ : ∃ w0, (w.alloc (forB a len cap m)).alloc zeroFB = w0 ∧ Hid (Two w w0 a len cap m L) ∧ Hid (Below w.heap.size w w0) := ⟨_, rfl, Lib.hid (Two.start h), Lib.hid ((below_box _ _).trans ((below_box _ _).mono (by simp)))⟩
  have HG := Lib.hid (hg.keep HB0.out)
  have HW0 := Lib.hid hw0
  have z0 := TW.out.bx.c0
  have z1 := TW.out.bx.c1
  have HH := Lib.hid h
  clear h hs hm hn hg hw0
  cases q with
  | false =>
    obtain ⟨E, hE⟩ : ∃ E : Int, E = 1 := ⟨_, rfl⟩
    have HQ : Hid (remZ m (coreL L) n = (coreL L, [], E)) := Lib.hid (by
      unfold remZ
      rw [hq, hE]
      rfl)
    clear hq
    go_enter Tryz.func16, Tryz.ntmps16
    go_upto_region 1 with fail
    rw [HW0.out]
    go_upto_region 2 with (go_at_call 59; (with_reducible refine (CB.out _ TW.out.bx.row).mono ?_); rintro e w1 ⟨pw, a2, cap2, M, rfl, hB⟩; have BG := Lib.hid hB; have TW1 := Lib.hid (TW.out.keep hB.below); have z0 := TW1.out.bx.c0; have z1 := TW1.out.bx.c1; clear hB)
    (
      have HD0 := Lib.hid BG.out.held
      have HBW := Lib.hid (held_below w1 pw)
      obtain ⟨wh, hwh⟩ : ∃ wh, w1.alloc (wkB pw) = wh := ⟨_, rfl⟩
      rw [hwh] at HD0 HBW ⊢
      have TW1 := Lib.hid (TW1.out.keep HBW.out)
      clear BG z0 z1 hwh
      have BG := HD0
      clear HD0
      have z0 := TW1.out.bx.c0
      have z1 := TW1.out.bx.c1
      have zw := BG.out.wc)
    go_upto_region 3 with (first
      | (go_at_call 63; (with_reducible refine (CM.out _ TW1.out.bx.row).mono ?_); rintro e w2 ⟨rfl, hb⟩; have BG := Lib.hid (BG.out.keep hb); have zw := BG.out.wc; have TW1 := Lib.hid (TW1.out.keep hb); have z0 := TW1.out.bx.c0; have z1 := TW1.out.bx.c1; clear hb))
    (
      have BD := Lib.hid (BG.out.keep ((Below.refl _ _).drew))
      have zw := BG.out.wc
      go_region_with (first | (go_at_call 61; (refine (mrefuse_any _ _ _).mono ?_); rintro e w' ⟨rfl, rfl⟩) | (go_at_call 60; (refine (mrefused_any BD.out (HG.out.keep BD.out.below) _ _).mono ?_); rintro e w4 ⟨rfl, hb⟩; have BG4 := Lib.hid (BD.out.keep hb); have TW4 := Lib.hid (TW.out.keep BG4.out.below); have d0 := TW4.out.rb.c0; have d1 := TW4.out.rb.c1; have f0 := TW4.out.rb.f0; have f1 := TW4.out.rb.f1; clear hb))
      all_goals go_wp2)
    all_goals (
                obtain ⟨q0, q1⟩ := stored2 TW4.out.rb (.slice a2 len cap2) (.int .i64 m)
                have hlt0 := TW.out.rb.lt
                have R5 := (BG4.out.row.far (q := w.heap.size + 1) (fun b off e => by have := BG4.out.rlo b off e; omega) (fun x hx => (BG4.out.new x hx).away hlt0) 0 (.slice a2 len cap2)).far (q := w.heap.size + 1) (fun b off e => by have := BG4.out.rlo b off e; omega) (fun x hx => (BG4.out.new x hx).away hlt0) 1 (.int .i64 m)
                have HB5 := ((HB0.out.trans (BG4.out.below.mono HB0.out.size)).setCell (p := ⟨w.heap.size + 1, 0, none⟩) (by show w.heap.size ≤ w.heap.size + 1; omega) (.slice a2 len cap2)).setCell (p := ⟨w.heap.size + 1, 1, none⟩) (by show w.heap.size ≤ w.heap.size + 1; omega) (.int .i64 m)
                refine bodyPost_ret (v := .tuple #[forV a2 len cap2 m, .slice none 0 0, .int .i64 E]) ?_ rfl ⟨a2, len, cap2, M, none, 0, 0, by rw [HQ.out], R5, by rw [HQ.out, BG4.out.core], small_core BG4.out.core HS.out, by rw [HQ.out]; exact NoteRow.nil _, HB5, fun k hk => ⟨fun b off e e2 => (by have := BG4.out.rlo b off e; have := HB0.out.size; omega), fun x hx => (BG4.out.new x hx).away (Nat.lt_of_lt_of_le hk HB0.out.size), fun b off e => (by cases e)⟩⟩)
    all_goals simp [results, Tryz.results16, go_sem, q0, q1, hE]
  | true =>
    obtain ⟨hr, k, rfl, hk⟩ := there_nat hq
    rw [HCL.out] at hk
    obtain ⟨b, off, x, hab, hb, hx, hat, -⟩ := HH.out.get hk
    subst hab
    have C5 := Lib.hid (stays hat.c5 hb)
    have HXP : Hid (parentK (coreL L) k = x.core.parent) := Lib.hid (parentK_at (coreL_get hx))
    have HRR := Lib.hid hr
    have HQ0 := Lib.hid hq
    clear hat hx hb hq hr
    by_cases hp : x.core.parent = -1
    · obtain ⟨E, hE⟩ : ∃ E : Int, E = 6 := ⟨_, rfl⟩
      have HQ : Hid (remZ m (coreL L) k = (coreL L, [], E)) := Lib.hid (by
        unfold remZ
        rw [HQ0.out, if_pos rfl, if_pos (by rw [HXP.out]; exact hp), hE])
      have e1 : (x.core.parent == -1) = true := beq_iff_eq.2 hp
      clear hp
      go_enter Tryz.func16, Tryz.ntmps16
      go_upto_region 1 with fail
      rw [HW0.out]
      go_upto_region 2 with (go_at_call 59; (with_reducible refine (CB.out _ TW.out.bx.row).mono ?_); rintro e w1 ⟨pw, a2, cap2, M, rfl, hB⟩; have BG := Lib.hid hB; have TW1 := Lib.hid (TW.out.keep hB.below); have z0 := TW1.out.bx.c0; have z1 := TW1.out.bx.c1; clear hB)
      (
        have HD0 := Lib.hid BG.out.held
        have HBW := Lib.hid (held_below w1 pw)
        obtain ⟨wh, hwh⟩ : ∃ wh, w1.alloc (wkB pw) = wh := ⟨_, rfl⟩
        rw [hwh] at HD0 HBW ⊢
        have TW1 := Lib.hid (TW1.out.keep HBW.out)
        clear BG z0 z1 hwh
        have BG := HD0
        clear HD0
        have z0 := TW1.out.bx.c0
        have z1 := TW1.out.bx.c1
        have zw := BG.out.wc)
      go_upto_region 5 with (first
        | (go_at_call 63; (with_reducible refine (CM.out _ TW1.out.bx.row).mono ?_); rintro e w2 ⟨rfl, hb⟩; have BG := Lib.hid (BG.out.keep hb); have zw := BG.out.wc; have TW1 := Lib.hid (TW1.out.keep hb); have z0 := TW1.out.bx.c0; have z1 := TW1.out.bx.c1; have c5 := C5.out _ (HB0.out.trans (BG.out.below.mono HB0.out.size)); clear hb))
      (
        have BD := Lib.hid (BG.out.keep ((Below.refl _ _).drew))
        have zw := BG.out.wc
        go_region_with (first | (go_at_call 61; (refine (mrefuse_any _ _ _).mono ?_); rintro e w' ⟨rfl, rfl⟩) | (go_at_call 60; (refine (mrefused_any BD.out (HG.out.keep BD.out.below) _ _).mono ?_); rintro e w4 ⟨rfl, hb⟩; have BG4 := Lib.hid (BD.out.keep hb); have TW4 := Lib.hid (TW.out.keep BG4.out.below); have d0 := TW4.out.rb.c0; have d1 := TW4.out.rb.c1; have f0 := TW4.out.rb.f0; have f1 := TW4.out.rb.f1; clear hb))
        all_goals go_wp2)
      all_goals (
                  obtain ⟨q0, q1⟩ := stored2 TW4.out.rb (.slice a2 len cap2) (.int .i64 m)
                  have hlt0 := TW.out.rb.lt
                  have R5 := (BG4.out.row.far (q := w.heap.size + 1) (fun b off e => by have := BG4.out.rlo b off e; omega) (fun x hx => (BG4.out.new x hx).away hlt0) 0 (.slice a2 len cap2)).far (q := w.heap.size + 1) (fun b off e => by have := BG4.out.rlo b off e; omega) (fun x hx => (BG4.out.new x hx).away hlt0) 1 (.int .i64 m)
                  have HB5 := ((HB0.out.trans (BG4.out.below.mono HB0.out.size)).setCell (p := ⟨w.heap.size + 1, 0, none⟩) (by show w.heap.size ≤ w.heap.size + 1; omega) (.slice a2 len cap2)).setCell (p := ⟨w.heap.size + 1, 1, none⟩) (by show w.heap.size ≤ w.heap.size + 1; omega) (.int .i64 m)
                  refine bodyPost_ret (v := .tuple #[forV a2 len cap2 m, .slice none 0 0, .int .i64 E]) ?_ rfl ⟨a2, len, cap2, M, none, 0, 0, by rw [HQ.out], R5, by rw [HQ.out, BG4.out.core], small_core BG4.out.core HS.out, by rw [HQ.out]; exact NoteRow.nil _, HB5, fun k hk => ⟨fun b off e e2 => (by have := BG4.out.rlo b off e; have := HB0.out.size; omega), fun x hx => (BG4.out.new x hx).away (Nat.lt_of_lt_of_le hk HB0.out.size), fun b off e => (by cases e)⟩⟩)
      all_goals simp [results, Tryz.results16, go_sem, q0, q1, hE]
    · have HQ : Hid (remZ m (coreL L) k = ((outS (coreL L, []) k).1, (outS (coreL L, []) k).2, 0)) := Lib.hid (by
        unfold remZ
        rw [HQ0.out, if_pos rfl, if_neg (by rw [HXP.out]; exact hp), Int.toNat_natCast])
      have e1 : (x.core.parent == -1) = false := beq_eq_false_iff_ne.2 hp
      have HP := Lib.hid hp
      clear hp
      go_enter Tryz.func16, Tryz.ntmps16
      go_upto_region 1 with fail
      rw [HW0.out]
      go_upto_region 2 with (go_at_call 59; (with_reducible refine (CB.out _ TW.out.bx.row).mono ?_); rintro e w1 ⟨pw, a2, cap2, M, rfl, hB⟩; have BG := Lib.hid hB; have TW1 := Lib.hid (TW.out.keep hB.below); have z0 := TW1.out.bx.c0; have z1 := TW1.out.bx.c1; clear hB)
      (
        have HD0 := Lib.hid BG.out.held
        have HBW := Lib.hid (held_below w1 pw)
        obtain ⟨wh, hwh⟩ : ∃ wh, w1.alloc (wkB pw) = wh := ⟨_, rfl⟩
        rw [hwh] at HD0 HBW ⊢
        have TW1 := Lib.hid (TW1.out.keep HBW.out)
        clear BG z0 z1 hwh
        have BG := HD0
        clear HD0
        have z0 := TW1.out.bx.c0
        have z1 := TW1.out.bx.c1
        have zw := BG.out.wc)
      go_wp2_with (first
        | (go_at_call 63; (with_reducible refine (CM.out _ TW1.out.bx.row).mono ?_); rintro e w2 ⟨rfl, hb⟩; have BG := Lib.hid (BG.out.keep hb); have zw := BG.out.wc; have TW1 := Lib.hid (TW1.out.keep hb); have z0 := TW1.out.bx.c0; have z1 := TW1.out.bx.c1; have c5 := C5.out _ (HB0.out.trans (BG.out.below.mono HB0.out.size)); clear hb)
        | (go_at_call 64; obtain ⟨g, ρ, rfl, hwk, hρ, hwb⟩ := BG.out.wk (by omega); have HBC := Lib.hid BG.out.core; (refine (mgoOut_any _ hwk (by rw [HBC.out]; exact HRR.out) (small_core HBC.out HS.out) k hk (by rw [HBC.out, HXP.out]; exact HP.out) (by simp)).mono ?_); rintro e w3 ⟨rfl, ρ3, M3, v3, N3, hW3, hT3, hA3, hE3, hS3, hR3⟩; obtain ⟨va, vc, rfl, hNR⟩ := hW3.notes; have W3 := Lib.hid hW3; have E3 := Lib.hid hE3; have S3 := Lib.hid hS3; have HB3 := Lib.hid (BG.out.below.trans (hT3.below BG.out.below.size hρ)); have A3 : Hid (∀ k, k < w0.heap.size → ρ3 k = 0) := (Lib.hid (fun k hk => (hA3 k (Nat.lt_of_lt_of_le hk BG.out.below.size)).trans (hρ k hk))); have zw := (hT3.cell BG.out.wlt hwb).trans BG.out.wc; clear hW3 hT3 hA3 hE3 hS3 hR3 hNR hwk hρ hwb)
        | (go_at_call 60; (refine (mended_any W3.out).mono ?_); rintro e w4 ⟨rfl, hb⟩; have HB4 := Lib.hid (HB3.out.trans (hb.mono HB3.out.size)); have HB34 := Lib.hid hb; have TW4 := Lib.hid (TW.out.keep HB4.out); have d0 := TW4.out.rb.c0; have d1 := TW4.out.rb.c1; have f0 := TW4.out.rb.f0; have f1 := TW4.out.rb.f1; clear hb))
      (
        obtain ⟨q0, q1⟩ := stored2 TW4.out.rb (.slice (some ⟨g, 0, none⟩) len cap2) (.int .i64 m)
        obtain ⟨ρ5, W5⟩ := (W3.out.keep HB34.out).stored (b := w.heap.size + 1) (B := w0.heap.size) TW.out.rb.lt HB4.out.size A3.out 0 1 (.slice (some ⟨g, 0, none⟩) len cap2) (.int .i64 m)
        obtain ⟨va', vc', hv', NR5⟩ := W5.notes
        injection hv' with e2 e3 e4
        subst e2 e4
        have HB5 := ((HB0.out.trans (HB4.out.mono HB0.out.size)).setCell (p := ⟨w.heap.size + 1, 0, none⟩) (by show w.heap.size ≤ w.heap.size + 1; omega) (.slice (some ⟨g, 0, none⟩) len cap2)).setCell (p := ⟨w.heap.size + 1, 1, none⟩) (by show w.heap.size ≤ w.heap.size + 1; omega) (.int .i64 m)
        refine bodyPost_ret (v := .tuple #[forV (some ⟨g, 0, none⟩) len cap2 m, .slice va N3.length vc, .int .i64 0]) ?_ rfl ⟨some ⟨g, 0, none⟩, len, cap2, M3, va, N3.length, vc, by rw [HQ.out], W5.row, by rw [HQ.out, ← HBC.out, ← E3.out], S3.out, by rw [HQ.out, ← HBC.out, ← E3.out]; exact NR5, HB5, (W3.out.news A3.out).mono HB0.out.size⟩)
      simp [results, Tryz.results16, go_sem, q0, q1]
end Go.Proofs.YtbgcpgpkhfbijaaGreatDoor
/- Package attr's Remove and Toggle. -/
namespace Go.Proofs.YtbgcpgpkhfbijaaGreatDoor
open Go.RowKit
/-- As RemPost, TogPost, and the list handed back lies in new memory. -/
def RemNew (w : World) (M : AL) (z : Bool) (e : Ending) (w' : World) : Prop := ∃ a len cap, e = .returned (.tuple #[.slice a len cap, .bool z]) ∧ AttrRow w' a len cap M ∧ Below w.heap.size w w' ∧ ∀ b off, a = some ⟨b, off, none⟩ → w.heap.size ≤ b
def TogNew (w : World) (M : AL) (t : Bool) (z : Int) (e : Ending) (w' : World) : Prop := ∃ a len cap, e = .returned (.tuple #[.slice a len cap, .bool t, .int .i64 z]) ∧ AttrRow w' a len cap M ∧ Below w.heap.size w w' ∧ ∀ b off, a = some ⟨b, off, none⟩ → w.heap.size ≤ b
theorem RemNew.post {w w' : World} {M : AL} {z : Bool} {e : Ending} (h : RemNew w M z e w') : RemPost w M z e w' := by
  obtain ⟨a, len, cap, h1, h2, h3, _⟩ := h
  exact ⟨a, len, cap, h1, h2, h3⟩
theorem TogNew.post {w w' : World} {M : AL} {t : Bool} {z : Int} {e : Ending} (h : TogNew w M t z e w') : TogPost w M t z e w' := by
  obtain ⟨a, len, cap, h1, h2, h3, _⟩ := h
  exact ⟨a, len, cap, h1, h2, h3⟩
theorem RemNew.mk {w w' : World} {M : AL} {z : Bool} {e : Ending} {v : Value} {n : Nat} (he : e = .returned (.tuple #[v, .bool z])) (hl : M.length = n) (h : w'.ownsRow w.heap.size 160 2 v n (M.flatMap encA)) (hs : ∀ x ∈ M, x.1.size ≤ maxLen ∧ x.2.size ≤ maxLen) (hb : Below w.heap.size w w') : RemNew w M z e w' := by
  obtain ⟨a, cap, rfl, h1, h2⟩ := AttrRow.of_own_new hl h hs
  exact ⟨a, n, cap, he, h1, hb, h2⟩
theorem TogNew.mk {w w' : World} {M : AL} {t : Bool} {z : Int} {e : Ending} {v : Value} {n : Nat} (he : e = .returned (.tuple #[v, .bool t, .int .i64 z])) (hl : M.length = n) (h : w'.ownsRow w.heap.size 160 2 v n (M.flatMap encA)) (hs : ∀ x ∈ M, x.1.size ≤ maxLen ∧ x.2.size ≤ maxLen) (hb : Below w.heap.size w w') : TogNew w M t z e w' := by
  obtain ⟨a, cap, rfl, h1, h2⟩ := AttrRow.of_own_new hl h hs
  exact ⟨a, n, cap, he, h1, hb, h2⟩
/-- Of a right list the name's attribute is the only one of that name. -/
theorem rem_erase {L : AL} {n : List UInt8} (h : hasA L n = true) : remA L n = L.eraseIdx (placeA L n) := by
  obtain ⟨hr, hn, hp⟩ := hasA_right h
  rw [remA_yes h]
  have hf := ((rightA_iff L).1 hr).2
  have hkey : ∀ (k : Nat) x, L[k]? = some x → (offQ n x = false ↔ k = placeA L n) := fun k x hx => by
    have h1 := hf k x hx
    rw [okAt_eq] at h1
    simp at h1
    unfold offQ keyIs placeA
    constructor
    · intro h2
      have h3 : x.1.toList = smallL n := by simpa using h2
      rw [← h3]
      exact h1.2.symm
    · intro h2
      obtain ⟨y, hy, hy1⟩ := place_key hp
      have : x = y := by
        unfold placeA at hy
        rw [h2, hy] at hx
        exact (Option.some.inj hx).symm
      rw [this, hy1, toList_ofL]
      simp
  generalize placeA L n = p at hp hkey
  clear hf hr hn h
  induction L generalizing p with
  | nil => simp at hp
  | cons y r ih =>
    cases p with
    | zero =>
      have h0 := (hkey 0 y rfl).2 rfl
      rw [List.filter_cons, if_neg (by rw [h0]; decide), List.eraseIdx_cons_zero]
      refine List.filter_eq_self.2 (fun x hx => ?_)
      obtain ⟨k, hk, he⟩ := List.mem_iff_getElem.1 hx
      have h1 := hkey (k + 1) x (by simp [List.getElem?_eq_getElem hk, he])
      by_cases h2 : offQ n x = true
      · exact h2
      · have := h1.1 (by simpa using h2)
        omega
    | succ p =>
      have h0 : offQ n y = true := by
        by_cases h2 : offQ n y = true
        · exact h2
        · have := (hkey 0 y rfl).1 (by simpa using h2)
          omega
      rw [List.filter_cons, if_pos h0, List.eraseIdx_cons_succ, ih p (by simpa using hp) (fun k x hx => by
        have := hkey (k + 1) x (by simpa using hx)
        exact this.trans ⟨fun h => by omega, fun h => by omega⟩)]
set_option maxHeartbeats 16000000 in
set_option maxRecDepth 100000 in
theorem attrrem_any (a : Option Addr) (len cap : Nat) (L : AL) (n : ByteArray) (w : World) (h : AttrRow w a len cap L) (hn : n.size ≤ maxLen) (hlen : L.length ≤ 1000) :
    Calls Tryz.prog 76 #[.slice a len cap, .string n] w (RemNew w (remA L n.toList) (hasA L n.toList)) := by
  have H := Lib.hid h
  have HL := Lib.hid h.hlen
  have hl40 : len ≤ 1000 := by rw [← h.hlen]; exact hlen
  have C1 := Lib.hid (find_any a len cap L n w h hn)
  have CC : Hid (∀ W, Below w.heap.size w W → Calls Tryz.prog 134 #[.slice a len cap] W fun e w' => ∃ v, e = .returned v ∧ w'.ownsRow w.heap.size 160 2 v len (L.flatMap encA) ∧ Below w.heap.size w w') := Lib.hid (fun W hb => clone_own a len cap L w W h (by omega) hb)
  by_cases hg : (rightA L && rightL n.toList) = true
  rotate_left
  · have hg : (rightA L && rightL n.toList) = false := by simpa using hg
    have HR : hasA L n.toList = false := by unfold hasA; rw [hg]; rfl
    have HM := Lib.hid (remA_no HR)
    have EE : Hid (¬ findE L n.toList = 0) := Lib.hid (by
      unfold findE
      revert hg
      cases rightA L <;> cases rightL n.toList <;> simp)
    rw [HR]
    obtain ⟨z, hz⟩ : ∃ z, findE L n.toList = z := ⟨_, rfl⟩
    have C2 := C1.out
    rw [hz] at C2
    have C3 := Lib.hid C2
    have z0 : ¬ z = 0 := by rw [← hz]; exact EE.out
    have z1 : (z == 0) = false := beq_eq_false_iff_ne.2 z0
    have z2 : (z != 0) = true := by unfold bne; rw [z1]; rfl
    clear h hn hg hlen C1 C2 z0 hz HR
    go_enter Tryz.func76, Tryz.ntmps76
    go_wp2_with (first
      | (go_at_call 132; refine C3.out.mono ?_; rintro e w' ⟨rfl, HB⟩)
      | (go_at_call 134; refine (CC.out _ HB).mono ?_; rintro e w' ⟨v2, rfl, hown, HB2⟩; have HO := Lib.hid hown; clear hown))
    go_ret2
    rw [HM.out]
    exact RemNew.mk rfl HL.out HO.out H.out.small HB2
  obtain ⟨hr, hnr⟩ : rightA L = true ∧ rightL n.toList = true := by simpa using hg
  obtain ⟨F1, F2, F3⟩ := find_ok hr hnr
  have C2 := C1.out
  rw [F1, F2, F3] at C2
  by_cases hp : placeA L n.toList < L.length
  · have HR : hasA L n.toList = true := by unfold hasA; rw [hr, hnr, decide_eq_true hp]; rfl
    have HM := Lib.hid (rem_erase HR)
    rw [HR]
    have hat := atL_place hp
    have hp' : placeA L n.toList < len := by rw [← h.hlen]; exact hp
    rw [hat] at C2
    have HLP : Hid ((L.eraseIdx (placeA L n.toList)).length = len - 1) := Lib.hid (by rw [List.length_eraseIdx, h.hlen, if_pos hp'])
    obtain ⟨p, hpp⟩ : ∃ p, placeA L n.toList = p := ⟨_, rfl⟩
    rw [hpp] at C2 hp' HM HLP
    have C3 := Lib.hid C2
    have z1 : ((p : Int) == -1) = false := beq_eq_false_iff_ne.2 (by omega)
    clear h hn hg hlen C1 C2 hr hnr F1 F2 F3 hp HR hat hpp
    go_enter Tryz.func76, Tryz.ntmps76
    go_wp2_with (first
      | (go_at_call 132; refine C3.out.mono ?_; rintro e w' ⟨rfl, HB⟩)
      | (go_at_call 134; refine (CC.out _ HB).mono ?_; rintro e w1 ⟨v2, rfl, hown, HB2⟩
         obtain ⟨g, cap1, rfl, hgb, hglt⟩ := World.ownsRow.form hown (by omega)
         have CD := Lib.hid (delete_any w1 w.heap.size g len cap1 L p hown HL.out H.out.small hp' hl40)
         clear hown)
      | (go_at_call 137; refine CD.out.mono ?_; rintro e w2 ⟨rfl, hrow, HB3⟩; have HROW := Lib.hid hrow; clear hrow))
    go_ret2
    rw [HM.out]
    exact ⟨_, _, _, rfl, HROW.out, HB2.trans HB3, fun b off hb => by injection hb with hb; injection hb with hb; omega⟩
  · have HR : hasA L n.toList = false := by unfold hasA; rw [decide_eq_false hp]; simp
    have HM := Lib.hid (remA_no HR)
    rw [HR]
    have hat := atL_noplace hp
    rw [hat] at C2
    have C3 := Lib.hid C2
    clear h hn hg hlen C1 C2 hr hnr F1 F2 F3 hp HR hat
    go_enter Tryz.func76, Tryz.ntmps76
    go_wp2_with (first
      | (go_at_call 132; refine C3.out.mono ?_; rintro e w' ⟨rfl, HB⟩)
      | (go_at_call 134; refine (CC.out _ HB).mono ?_; rintro e w' ⟨v2, rfl, hown, HB2⟩; have HO := Lib.hid hown; clear hown))
    go_ret2
    rw [HM.out]
    exact RemNew.mk rfl HL.out HO.out H.out.small HB2
end Go.Proofs.YtbgcpgpkhfbijaaGreatDoor
/- Package attr's Toggle. -/
namespace Go.Proofs.YtbgcpgpkhfbijaaGreatDoor
open Go.RowKit
theorem has_of {L : AL} {n : List UInt8} (hr : rightA L = true) (hn : rightL n = true) : hasA L n = decide (placeA L n < L.length) := by
  unfold hasA
  rw [hr, hn]
  rfl
set_option maxHeartbeats 16000000 in
set_option maxRecDepth 100000 in
theorem attrtog_any (a : Option Addr) (len cap : Nat) (L : AL) (n : ByteArray) (f : Int) (w : World) (h : AttrRow w a len cap L) (hn : n.size ≤ maxLen) (hlen : L.length ≤ 1000) :
    Calls Tryz.prog 77 #[.slice a len cap, .string n, .int .i64 f] w (TogNew w (togA L n.toList f) (togB L n.toList f) (togE L n.toList f)) := by
  have H := Lib.hid h
  have HN := Lib.hid hn
  have HLN := Lib.hid hlen
  have HL := Lib.hid h.hlen
  have hl40 : len ≤ 1000 := by rw [← h.hlen]; exact hlen
  have C1 := Lib.hid (find_any a len cap L n w h hn)
  have CC : Hid (∀ W, Below w.heap.size w W → Calls Tryz.prog 134 #[.slice a len cap] W fun e w' => ∃ v, e = .returned v ∧ w'.ownsRow w.heap.size 160 2 v len (L.flatMap encA) ∧ Below w.heap.size w w') := Lib.hid (fun W hb => clone_own a len cap L w W h (by omega) hb)
  by_cases hg : (rightA L && rightL n.toList) = true
  rotate_left
  · have hg : (rightA L && rightL n.toList) = false := by simpa using hg
    have EA : Hid (togA L n.toList f = L) := Lib.hid (by unfold togA; rw [hg]; rfl)
    have EB : Hid (togB L n.toList f = false) := Lib.hid (by unfold togB; rw [hg]; rfl)
    have EE : Hid (findE L n.toList = togE L n.toList f ∧ ¬ togE L n.toList f = 0) := Lib.hid (by
      unfold findE togE
      revert hg
      cases rightA L <;> cases rightL n.toList <;> simp)
    obtain ⟨z, hz⟩ : ∃ z, togE L n.toList f = z := ⟨_, rfl⟩
    have C2 := C1.out
    rw [EE.out.1, hz] at C2
    have C3 := Lib.hid C2
    have z0 : ¬ z = 0 := by rw [← hz]; exact EE.out.2
    have z1 : (z == 0) = false := beq_eq_false_iff_ne.2 z0
    have z2 : (z != 0) = true := by unfold bne; rw [z1]; rfl
    have HZ := Lib.hid hz
    clear h hn hg hlen C1 C2 z0 hz
    go_enter Tryz.func77, Tryz.ntmps77
    go_wp2_with (first
      | (go_at_call 132; refine C3.out.mono ?_; rintro e w' ⟨rfl, HB⟩)
      | (go_at_call 134; refine (CC.out _ HB).mono ?_; rintro e w' ⟨v2, rfl, hown, HB2⟩; have HO := Lib.hid hown; clear hown))
    go_ret3
    rw [EA.out, EB.out, HZ.out]
    exact TogNew.mk rfl HL.out HO.out H.out.small HB2
  obtain ⟨hr, hnr⟩ : rightA L = true ∧ rightL n.toList = true := by simpa using hg
  obtain ⟨F1, F2, F3⟩ := find_ok hr hnr
  have C2 := C1.out
  rw [F1, F2, F3] at C2
  by_cases hp : placeA L n.toList < L.length
  · have HR : hasA L n.toList = true := by rw [has_of hr hnr, decide_eq_true hp]
    have hat := atL_place hp
    have hp' : placeA L n.toList < len := by rw [← h.hlen]; exact hp
    rw [hat] at C2
    obtain ⟨p, hpp⟩ : ∃ p, placeA L n.toList = p := ⟨_, rfl⟩
    rw [hpp] at C2 hp'
    have C3 := Lib.hid C2
    have z1 : ((p : Int) == -1) = false := beq_eq_false_iff_ne.2 (by omega)
    have z2 : ((p : Int) != -1) = true := by unfold bne; rw [z1]; rfl
    by_cases hf : 0 < f
    · have EA : Hid (togA L n.toList f = L) := Lib.hid (by unfold togA; rw [hr, hnr, HR, if_pos hf]; rfl)
      have EB : Hid (togB L n.toList f = true) := Lib.hid (by unfold togB; rw [hr, hnr, HR, decide_eq_true hf]; rfl)
      have EE : Hid (togE L n.toList f = 0) := Lib.hid (by unfold togE; rw [hr, hnr, HR]; rfl)
      have y1 : decide (f ≤ 0) = false := decide_eq_false (by omega)
      clear h hn hg hlen C1 C2 hr hnr F1 F2 F3 hp HR hat hpp hf
      go_enter Tryz.func77, Tryz.ntmps77
      go_wp2_with (first
        | (go_at_call 132; refine C3.out.mono ?_; rintro e w' ⟨rfl, HB⟩)
        | (go_at_call 134; refine (CC.out _ HB).mono ?_; rintro e w' ⟨v2, rfl, hown, HB2⟩; have HO := Lib.hid hown; clear hown))
      go_ret3
      rw [EA.out, EB.out, EE.out]
      exact TogNew.mk rfl HL.out HO.out H.out.small HB2
    · have EA : Hid (togA L n.toList f = remA L n.toList) := Lib.hid (by unfold togA; rw [hr, hnr, HR, if_neg hf]; rfl)
      have EB : Hid (togB L n.toList f = false) := Lib.hid (by unfold togB; rw [hr, hnr, HR, decide_eq_false hf]; rfl)
      have EE : Hid (togE L n.toList f = 0) := Lib.hid (by unfold togE; rw [hr, hnr, HR]; rfl)
      have y1 : decide (f ≤ 0) = true := decide_eq_true (by omega)
      clear h hn hg hlen C1 C2 hr hnr F1 F2 F3 hp HR hat hpp hf
      go_enter Tryz.func77, Tryz.ntmps77
      go_wp2_with (first
        | (go_at_call 132; refine C3.out.mono ?_; rintro e w' ⟨rfl, HB⟩)
        | (go_at_call 76; refine (attrrem_any a len cap L n _ (H.out.below HB) HN.out HLN.out).mono ?_; rintro e w' ⟨a2, len2, cap2, rfl, hrow, hb, hnew⟩; have HROW := Lib.hid hrow; have HNEW := Lib.hid hnew; have HB2 := Lib.hid hb; clear hrow hnew hb))
      go_ret3
      rw [EA.out, EB.out, EE.out]
      exact ⟨_, _, _, rfl, HROW.out, HB.trans (HB2.out.mono HB.size), fun b off he => Nat.le_trans HB.size (HNEW.out b off he)⟩
  · have HR : hasA L n.toList = false := by rw [has_of hr hnr, decide_eq_false hp]
    have hat := atL_noplace hp
    rw [hat] at C2
    have C3 := Lib.hid C2
    by_cases hf : f < 0
    · have EA : Hid (togA L n.toList f = L) := Lib.hid (by unfold togA; rw [hr, hnr, HR, if_pos hf]; rfl)
      have EB : Hid (togB L n.toList f = false) := Lib.hid (by unfold togB; rw [hr, hnr, HR, if_pos hf]; rfl)
      have EE : Hid (togE L n.toList f = 0) := Lib.hid (by unfold togE; rw [hr, hnr, HR, if_pos hf]; rfl)
      have y1 : decide (0 ≤ f) = false := decide_eq_false (by omega)
      clear h hn hg hlen C1 C2 hr hnr F1 F2 F3 hp HR hat hf
      go_enter Tryz.func77, Tryz.ntmps77
      go_wp2_with (first
        | (go_at_call 132; refine C3.out.mono ?_; rintro e w' ⟨rfl, HB⟩)
        | (go_at_call 134; refine (CC.out _ HB).mono ?_; rintro e w' ⟨v2, rfl, hown, HB2⟩; have HO := Lib.hid hown; clear hown))
      go_ret3
      rw [EA.out, EB.out, EE.out]
      exact TogNew.mk rfl HL.out HO.out H.out.small HB2
    · have EA : Hid (togA L n.toList f = setA L n.toList (ofL [])) := Lib.hid (by unfold togA; rw [hr, hnr, HR, if_neg hf]; rfl)
      have EB : Hid (togB L n.toList f = (setE L n.toList (ofL []) == 0)) := Lib.hid (by unfold togB; rw [hr, hnr, HR, if_neg hf]; rfl)
      have EE : Hid (togE L n.toList f = setE L n.toList (ofL [])) := Lib.hid (by unfold togE; rw [hr, hnr, HR, if_neg hf]; rfl)
      have y1 : decide (0 ≤ f) = true := decide_eq_true (by omega)
      have HZ : Hid (ofL [] = ⟨#[]⟩) := Lib.hid rfl
      obtain ⟨z, hz⟩ : ∃ z, setE L n.toList (ofL []) = z := ⟨_, rfl⟩
      have C4 : Hid (∀ W, AttrRow W a len cap L → Calls Tryz.prog 73 #[.slice a len cap, .string n, .string ⟨#[]⟩] W (SetNew W (setA L n.toList (ofL [])) z)) := Lib.hid (fun W hW => by
        have := attrset_any a len cap L n ⟨#[]⟩ W hW HN.out (by decide) HLN.out
        rw [← HZ.out, hz] at this
        exact this)
      have HZ2 := Lib.hid hz
      clear h hn hg hlen C1 C2 hr hnr F1 F2 F3 hp HR hat hf hz
      go_enter Tryz.func77, Tryz.ntmps77
      go_wp2_with (first
        | (go_at_call 132; refine C3.out.mono ?_; rintro e w' ⟨rfl, HB⟩)
        | (go_at_call 73; refine (C4.out _ (H.out.below HB)).mono ?_; rintro e w' ⟨a2, len2, cap2, rfl, hrow, hb, hnew⟩; have HROW := Lib.hid hrow; have HNEW := Lib.hid hnew; have HB2 := Lib.hid hb; clear hrow hnew hb))
      go_ret3
      rw [EA.out, EB.out, EE.out, HZ2.out]
      exact ⟨_, _, _, rfl, HROW.out, HB.trans (HB2.out.mono HB.size), fun b off he => Nat.le_trans HB.size (HNEW.out b off he)⟩
end Go.Proofs.YtbgcpgpkhfbijaaGreatDoor
/- Package move: change, elemRefusal. -/
namespace Go.Proofs.YtbgcpgpkhfbijaaGreatDoor
open Go.RowKit
theorem step_wp2 {P : Program} {ops : Array Oper} {o : Oper} {a : Act} {w : World} {K : Act → World → Prop} {Q : Exit → Act → World → Prop} {E : Prop} (hg : o.guard = none) (h : Oper.wp P o a w K Q) : if Region.wanted o (yielded ops a.tmps) = true then Oper.wp P o a w K Q else E := by
  have hw : Region.wanted o (yielded ops a.tmps) = true := by simp [Region.wanted, hg]
  rw [if_pos hw]
  exact h
def cntK (F : List Core) (k : Int) (l : List Int) : Nat := l.countP (fun z => kindK F z == k)
/-- The note of a change. -/
def chgN (n : Int) (s : List UInt8) (old new : AL) : NoteD := ⟨4, n, 0, 0, ofL (smallL s), hasA old s, hasA new s, valA old s, valA new s⟩
theorem val_small {W : World} {a : Option Addr} {n c : Nat} {l : AL} (h : AttrRow W a n c l) (s : List UInt8) : (valA l s).size ≤ maxLen := by
  unfold valA
  split
  · next hh =>
    unfold hasA at hh
    rw [Bool.and_eq_true, decide_eq_true_eq] at hh
    rw [List.getElem?_eq_getElem hh.2]
    exact (h.small _ (List.getElem_mem hh.2)).2
  · rw [size_ofL]
    exact Nat.zero_le _
section
variable {ρ : Nat → Nat} {pw g cap len : Nat} {m : Int} {M : List NodeD} {v : Value} {N : List NoteD}
set_option maxHeartbeats 8000000 in
set_option maxRecDepth 100000 in
theorem mchange_any (w : World) (h : Wk ρ w pw g cap len m M v N) (n : Nat) (hn : n < len) (hl1k : len ≤ 1000) (x : NodeD) (hx : M[n]? = some x) (s : ByteArray) (hs : s.size ≤ maxLen) (al : Option Addr) (ln lc : Nat) (l : AL) (hl : AttrRow w al ln lc l) (har : ∀ b off, al = some ⟨b, off, none⟩ → 0 < ln → ρ b = 0 ∧ g < b) (hN : N.length ≤ 100000000) :
    Calls Tryz.prog 74 #[workV pw, .int .i64 n, .string s, .slice al ln lc] w (WkPost ρ w pw g cap len m fun M' N' => M' = M.set n (withA x al ln lc l) ∧ N' = N ++ [chgN n s.toList x.core.attrs l]) := by
  have hm := List.mem_of_getElem? hx
  have CG1 : Hid (∀ W, Below w.heap.size w W → Calls Tryz.prog 78 #[.slice x.aA x.aN x.aC, .string s] W fun e w' => e = .returned (.tuple #[.string (valA x.core.attrs s.toList), .bool (hasA x.core.attrs s.toList)]) ∧ Below W.heap.size W w') := Lib.hid (fun W hb => attrget_any _ _ _ _ s W ((h.aok x hm).below hb) hs)
  have CG2 : Hid (∀ W, Below w.heap.size w W → Calls Tryz.prog 78 #[.slice al ln lc, .string s] W fun e w' => e = .returned (.tuple #[.string (valA l s.toList), .bool (hasA l s.toList)]) ∧ Below W.heap.size W w') := Lib.hid (fun W hb => attrget_any _ _ _ _ s W (hl.below hb) hs)
  have CSM : Hid (∀ W, Calls Tryz.prog 135 #[.string s] W fun e w' => e = .returned (.string (ofL (smallL s.toList))) ∧ Below W.heap.size W w') := Lib.hid (fun W => small_any s W hs)
  obtain ⟨xq, hxq⟩ : ∃ xq, chgN n s.toList x.core.attrs l = xq := ⟨_, rfl⟩
  have OKQ : Hid (NoteOk xq) := Lib.hid (by
    rw [← hxq]
    refine ⟨⟨by show (-9223372036854775808 : Int) ≤ 4; decide, by show (4 : Int) ≤ _; decide⟩, in64_nat (by omega), mv0, mv0, ?_, val_small (h.aok x hm) _, val_small hl _⟩
    show (ofL (smallL s.toList)).size ≤ maxLen
    rw [size_ofL, smallL_length, tl_len]
    exact hs)
  have HV1 : Hid (valA x.core.attrs s.toList = xq.old) := Lib.hid (by rw [← hxq]; rfl)
  have HV2 : Hid (hasA x.core.attrs s.toList = xq.had) := Lib.hid (by rw [← hxq]; rfl)
  have HV3 : Hid (valA l s.toList = xq.new) := Lib.hid (by rw [← hxq]; rfl)
  have HV4 : Hid (hasA l s.toList = xq.has) := Lib.hid (by rw [← hxq]; rfl)
  have HV5 : Hid (ofL (smallL s.toList) = xq.name) := Lib.hid (by rw [← hxq]; rfl)
  have HVE : Hid (xq = ⟨4, (n : Int), 0, 0, xq.name, xq.had, xq.has, xq.old, xq.new⟩) := Lib.hid (by rw [← hxq]; rfl)
  rw [HV1.out, HV2.out] at CG1
  rw [HV3.out, HV4.out] at CG2
  rw [HV5.out] at CSM
  have HW := Lib.hid h
  have HX := Lib.hid hx
  have HLR := Lib.hid hl
  have HAR := Lib.hid har
  have HN := Lib.hid hN
  obtain ⟨w0, hw0, W0, HBX, HBZ⟩ : ∃ w0, w.alloc (wkB pw) = w0 ∧ Hid (Wk ρ w0 pw g cap len m M v N) ∧ Hid (Below w.heap.size w w0) ∧ Hid (w0.cell? ⟨w.heap.size, 0, none⟩ = some (ptrV pw) ∧ w.heap.size < w0.heap.size) := ⟨_, rfl, Lib.hid (h.keep (below_box _ _)), Lib.hid (below_box _ _), Lib.hid ⟨cell_box, by simp⟩⟩
  have HW0 := Lib.hid hw0
  have HRB : Hid (ρ w.heap.size = 0) := Lib.hid (h.fresh _ (Nat.le_refl _))
  have ZW : Hid (∀ W, Turn ρ w0 W → W.cell? ⟨w.heap.size, 0, none⟩ = some (ptrV pw)) := Lib.hid (fun W T => (T.cell HBZ.out.2 HRB.out).trans HBZ.out.1)
  have p0 := W0.out.c0
  have x4 := (W0.out.at_ hx).c4
  have zw := HBZ.out.1
  have hl64 : (len : Int) ≤ 9223372036854775807 := by omega
  obtain ⟨i0, hi0, hq0, hq1, hq2⟩ := info_parts note_info
  have hno : xq.old.size ≤ 9223372036854775807 := by have := OKQ.out.old; unfold maxLen at this; omega
  rw [hxq]
  clear h hx hl har hxq hm hw0 HV1 HV2 HV3 HV4 HV5
  go_enter Tryz.func74, Tryz.ntmps74
  go_upto_region 1 with fail
  rw [HW0.out]
  have HB0 := Lib.hid (Below.refl w0.heap.size w0)
  go_upto_region 3 with (go_at_call 78; (first | (with_reducible refine (CG1.out _ (HBX.out.trans (HB0.out.mono HBX.out.size))).mono ?_) | (with_reducible refine (CG2.out _ (HBX.out.trans (HB0.out.mono HBX.out.size))).mono ?_)); rintro e w1 ⟨rfl, hb⟩; have HB0 := Lib.hid (HB0.out.trans (hb.mono HB0.out.size)); clear hb)
  have W1 := Lib.hid (W0.out.keep HB0.out)
  have HBW := Lib.hid (HBX.out.trans (HB0.out.mono HBX.out.size))
  have zw := ZW.out _ (Turn.of_below HB0.out)
  have p0 := W1.out.c0
  have x4 := (W1.out.at_ HX.out).c4
  have f4 := W1.out.gfree (n * 10 + 4)
  go_upto_region 4 with fail
  have WB := Lib.hid (W1.out.setA HX.out (HLR.out.below HBW.out) HAR.out)
  have TB : Hid (Turn ρ w0 (w1.setCell ⟨g, n * 10 + 4, none⟩ (.slice al ln lc))) := Lib.hid ((Turn.of_below HB0.out).setCell (.inr (by rw [W1.out.grole]; decide)) _ _)
  obtain ⟨wb, hwb⟩ : ∃ wb, w1.setCell ⟨g, n * 10 + 4, none⟩ (.slice al ln lc) = wb := ⟨_, rfl⟩
  rw [hwb] at WB TB ⊢
  have OKR : Hid (NoteOk ⟨4, (n : Int), 0, 0, xq.name, xq.had, xq.has, xq.old, xq.new⟩) := Lib.hid (by rw [← HVE.out]; exact OKQ.out)
  clear hwb p0 x4 f4 zw
  have p2 := WB.out.c2
  have zw := ZW.out _ TB.out
  have ALB : Hid (∀ o : Obj, Below wb.heap.size wb (wb.alloc o).drew) := Lib.hid (fun o => ((Below.refl _ _).alloc (Nat.le_refl _) o).drew)
  go_region_law (first
    | (refine step_wp2 rfl ?_; (go_simp; go_at_call 135; (refine (CSM.out _).mono ?_); rintro e w5 ⟨rfl, hb⟩; have HB5 := Lib.hid ((Below.refl wb.heap.size wb).drew.trans hb); have W5 := Lib.hid (WB.out.keep HB5.out); have p2 := W5.out.c2; have zw := ZW.out _ (TB.out.keep HB5.out); have AL : Hid (∀ o : Obj, Below w5.heap.size w5 (w5.alloc o)) := (Lib.hid (fun o => (Below.refl _ _).alloc (Nat.le_refl _) o)); have p2a := fun o => (W5.out.keep (AL.out o)).c2; have zwa := fun o => ZW.out _ ((TB.out.keep HB5.out).keep (AL.out o)); clear hb))
    | (refine step_append_rows rfl (.tmp 49) (.tmp 58) 27 rfl 58 i0 _ 9 88 Tryz.underlying27 hi0 hq0 hq1 hq2 rfl (by decide) 0 v N.length N [⟨4, (n : Int), 0, 0, xq.name, xq.had, xq.has, xq.old, xq.new⟩] rfl (own_below W5.out.nown (AL.out _)) _ 1 1 rfl (note_one w5 ⟨4, (n : Int), 0, 0, xq.name, xq.had, xq.has, xq.old, xq.new⟩) (fun x _ => encO_one x) (by have := HN.out; unfold maxLen; omega) (by have := HN.out; omega) (Nat.zero_le _) (fun h => by cases h) ?_; intro v6 w6 hown6 hg6 hat6; obtain ⟨g6, cap6, rfl⟩ := own_some hown6 (Nat.succ_pos _); have WA := Lib.hid (W5.out.keep (AL.out (noteB ⟨4, (n : Int), 0, 0, xq.name, xq.had, xq.has, xq.old, xq.new⟩))); have HO6 := Lib.hid hown6; have HG6 := Lib.hid hg6; have HT6 := Lib.hid hat6; have c2 := (World.cell?_of_block (a := ⟨pw, 2, none⟩) (hg6.block pw WA.out.plt (fun e => by have h1 := WA.out.nrole pw e.symm; have h2 := WA.out.prole; omega))).trans WA.out.c2; have f2 := (World.frozen?_of_block (a := ⟨pw, 2, none⟩) (hg6.block pw WA.out.plt (fun e => by have h1 := WA.out.nrole pw e.symm; have h2 := WA.out.prole; omega))).trans (WA.out.pfree 2); have zw6 := ZW.out _ (((TB.out.keep HB5.out).keep (AL.out (noteB ⟨4, (n : Int), 0, 0, xq.name, xq.had, xq.has, xq.old, xq.new⟩))).grown hg6 (fun b e => .inr (by rw [WA.out.nrole b e]; decide))); clear hown6 hg6 hat6))
  all_goals go_wp2
  all_goals
    have hb : ∀ b, Value.ownBlock (.slice (some ⟨g6, 0, none⟩) (N.length + 1) cap6) = some b → v.ownBlock = some b ∨ (w5.alloc (noteB ⟨4, (n : Int), 0, 0, xq.name, xq.had, xq.has, xq.old, xq.new⟩)).heap.size ≤ b := fun b e => by
      rcases HT6.out with h1 | h1
      · exact .inl (h1.symm.trans e)
      · have h2 : some (w5.alloc (noteB ⟨4, (n : Int), 0, 0, xq.name, xq.had, xq.has, xq.old, xq.new⟩)).heap.size = some b := h1.symm.trans e
        injection h2 with h2
        exact .inr (by omega)
    have W9 := WA.out.note OKR.out HG6.out HO6.out hb
    have hs5 : wb.heap.size ≤ (w5.alloc (noteB ⟨4, (n : Int), 0, 0, xq.name, xq.had, xq.has, xq.old, xq.new⟩)).heap.size := Nat.le_trans HB5.out.size (AL.out _).size
    have hsw : w.heap.size ≤ wb.heap.size := Nat.le_trans HBX.out.size TB.out.size
    refine bodyPost_ret (v := .tuple #[]) (by simp [results, Tryz.results74]) rfl ⟨rfl, _, _, _, _, W9, ?_, upd_old (fun b e => (hb b e).imp (WA.out.nrole b) (fun h => Nat.le_trans (Nat.le_trans hsw hs5) h)), rfl, by rw [HVE.out]⟩
    exact (chain_turn (ρk := ρ) (Turn.of_below (ρ := ρ) HBX.out) (fun _ _ => rfl) ((((TB.out.keep HB5.out).keep (AL.out _)).grown HG6.out (fun b e => .inr (by rw [WA.out.nrole b e]; decide))).setCell (.inr (by rw [WA.out.prole]; decide)) _ _) (fun _ _ => rfl)).1
end
end Go.Proofs.YtbgcpgpkhfbijaaGreatDoor
/- Package move: elemRefusal, Set. -/
namespace Go.Proofs.YtbgcpgpkhfbijaaGreatDoor
open Go.RowKit
/-- Why a node has no attributes. -/
def elemE (m : Int) (F : List Core) (n : Int) : Int := if thereF m F n then (if kindK F n = 1 then 0 else 5) else 1
set_option maxHeartbeats 8000000 in
set_option maxRecDepth 100000 in
theorem melem_any (a : Option Addr) (len cap : Nat) (m : Int) (L : List NodeD) (n : Int) (w : World) (h : NodeRow w a len cap L) (hm : In64 m) (hn : In64 n) (hs : smallF L) :
    Calls Tryz.prog 72 #[forV a len cap m, .int .i64 n] w fun e w' => e = .returned (.int .i64 (elemE m (coreL L) n)) ∧ Below w.heap.size w w' := by
  have HCL : Hid ((coreL L).length = len) := Lib.hid (by rw [coreL_len, h.hlen])
  have hlen := h.len64
  have BX := Lib.hid (Box.start (m := m) h)
  obtain ⟨q, hq⟩ : ∃ q, thereF m (coreL L) n = q := ⟨_, rfl⟩
  have CM : Hid (∀ W, NodeRow W a len cap L → Calls Tryz.prog 63 #[forV a len cap m, .int .i64 n] W fun e w' => e = .returned (.bool q) ∧ Below W.heap.size W w') := Lib.hid (fun W h1 => by
    rw [← hq]
    exact mknows_any a len cap m L n W h1 hm hn hs)
  have z0 := BX.out.c0
  have z1 := BX.out.c1
  have HH := Lib.hid h
  clear h hm hn hs
  cases q with
  | false =>
    have HR : Hid (elemE m (coreL L) n = 1) := Lib.hid (by unfold elemE; rw [hq]; rfl)
    clear hq
    go_enter Tryz.func72, Tryz.ntmps72
    go_wp2_with (go_at_call 63; (with_reducible refine (CM.out _ BX.out.row).mono ?_); rintro e w1 ⟨rfl, hb⟩; have BX := Lib.hid (BX.out.keep hb); have z0 := BX.out.c0; have z1 := BX.out.c1; clear hb)
    go_ret
    exact ⟨ret_int HR.out.symm, BX.out.below⟩
  | true =>
    have HQ := Lib.hid hq
    obtain ⟨hr, k, rfl, hk⟩ := there_nat hq
    rw [HCL.out] at hk
    obtain ⟨b, off, x, hab, hb, hx, hat, -⟩ := HH.out.get hk
    subst hab
    have C0 := Lib.hid (stays hat.c0 hb)
    have HK : Hid (elemE m (coreL L) k = if x.core.kind = 1 then 0 else 5) := Lib.hid (by unfold elemE; rw [HQ.out, if_pos rfl, kindK_at (coreL_get hx)])
    clear hat hx hb hq hr
    by_cases h1 : x.core.kind = 1
    · have e1 : (x.core.kind != 1) = false := by rw [h1]; rfl
      have HR : Hid (elemE m (coreL L) k = 0) := Lib.hid (by rw [HK.out, if_pos h1])
      clear h1
      go_enter Tryz.func72, Tryz.ntmps72
      go_wp2_with (go_at_call 63; (with_reducible refine (CM.out _ BX.out.row).mono ?_); rintro e w1 ⟨rfl, hb⟩; have BX := Lib.hid (BX.out.keep hb); have z0 := BX.out.c0; have z1 := BX.out.c1; have c0 := C0.out _ BX.out.below; clear hb)
      go_ret
      exact ⟨ret_int HR.out.symm, BX.out.below⟩
    · have e1 : (x.core.kind != 1) = true := bne_iff_ne.2 h1
      have HR : Hid (elemE m (coreL L) k = 5) := Lib.hid (by rw [HK.out, if_neg h1])
      clear h1
      go_enter Tryz.func72, Tryz.ntmps72
      go_wp2_with (go_at_call 63; (with_reducible refine (CM.out _ BX.out.row).mono ?_); rintro e w1 ⟨rfl, hb⟩; have BX := Lib.hid (BX.out.keep hb); have z0 := BX.out.c0; have z1 := BX.out.c1; have c0 := C0.out _ BX.out.below; clear hb)
      go_ret
      exact ⟨ret_int HR.out.symm, BX.out.below⟩
def attrsK (F : List Core) (n : Int) : AL := match getC F n with | some x => x.attrs | none => []
theorem attrsK_at {F : List Core} {n : Nat} {x : Core} (hx : F[n]? = some x) : attrsK F (n : Int) = x.attrs := by unfold attrsK; rw [getC_nat, hx]
def withAC (c : Core) (l : AL) : Core := ⟨c.kind, c.name, c.is, c.data, l, c.parent, c.kids, c.host, c.under, c.doc⟩
/-- An element with other attributes. -/
def chgF (F : List Core) (n : Nat) (l : AL) : List Core := match F[n]? with | some c => F.set n (withAC c l) | none => F
theorem core_setA {M : List NodeD} {n : Nat} {x : NodeD} (hx : M[n]? = some x) (a : Option Addr) (ln lc : Nat) (l : AL) : coreL (M.set n (withA x a ln lc l)) = chgF (coreL M) n l := by
  unfold chgF
  rw [coreL_get hx, core_set]
  rfl
theorem small_setA {M : List NodeD} {n : Nat} {x : NodeD} (hs : smallF M) (hx : M[n]? = some x) (a : Option Addr) (ln lc : Nat) (l : AL) (hl : l.length ≤ 1000) : smallF (M.set n (withA x a ln lc l)) := by
  refine ⟨by rw [List.length_set]; exact hs.1, fun z hz => ?_⟩
  have h1 := hs.2 x (List.mem_of_getElem? hx)
  rcases List.mem_or_eq_of_mem_set hz with hz | rfl
  · exact hs.2 z hz
  · exact ⟨h1.1, hl, h1.2.2⟩
/-- A change of an element's attributes. -/
def chgZ (F : List Core) (n : Int) (s : List UInt8) (l : AL) : List Core × List NoteD × Int := (chgF F n.toNat l, [chgN n s (attrsK F n) l], 0)
/-- Set, as mathematics. -/
def setZ (m : Int) (F : List Core) (n : Int) (s : List UInt8) (v : ByteArray) : List Core × List NoteD × Int :=
  if elemE m F n = 0 then (if setE (attrsK F n) s v = 0 then chgZ F n s (setA (attrsK F n) s v) else (F, [], setE (attrsK F n) s v)) else (F, [], elemE m F n)
theorem elemE_ok {m : Int} {F : List Core} {n : Int} (h : elemE m F n = 0) : thereF m F n = true ∧ kindK F n = 1 := by
  unfold elemE at h
  split at h
  · next h1 =>
    split at h
    · next h2 => exact ⟨h1, h2⟩
    · cases h
  · cases h
theorem setA_len {L : AL} {s : List UInt8} {v : ByteArray} (h : L.length ≤ 1000) : (setA L s v).length ≤ 1000 := by
  unfold setA
  split
  · next h1 =>
    unfold setE at h1
    split at h1
    · next h2 =>
      have := ((rightA_iff L).1 h2).1
      unfold setL
      split
      · rw [List.length_set]; exact h
      · rw [List.length_append]
        show L.length + 1 ≤ 1000
        omega
    · cases h1
  · exact h
theorem remA_len {L : AL} {s : List UInt8} (h : L.length ≤ 1000) : (remA L s).length ≤ 1000 := by
  unfold remA
  split
  · exact Nat.le_trans (List.length_filter_le _ _) h
  · exact h
theorem togA_len {L : AL} {s : List UInt8} {f : Int} (h : L.length ≤ 1000) : (togA L s f).length ≤ 1000 := by
  unfold togA
  split
  · split
    · split
      · exact h
      · exact remA_len h
    · split
      · exact h
      · exact setA_len h
  · exact h
/-- What an attribute's function finds in an element's place. -/
structure ElemIn (w : World) (a : Option Addr) (len cap : Nat) (L : List NodeD) (k : Nat) (b off : Nat) (x : NodeD) : Prop where
  ha : a = some ⟨b, off, none⟩
  hb : b < w.heap.size
  hx : L[k]? = some x
  c4 : w.cell? ⟨b, off + k * 10 + 4, none⟩ = some (.slice x.aA x.aN x.aC)
  row : AttrRow w x.aA x.aN x.aC x.core.attrs
  short : x.core.attrs.length ≤ 1000
  is : x.core.attrs = attrsK (coreL L) k
theorem elem_in {w : World} {a : Option Addr} {len cap : Nat} {m : Int} {L : List NodeD} {n : Int} (h : NodeRow w a len cap L) (hs : smallF L) (he : elemE m (coreL L) n = 0) : ∃ k : Nat, n = k ∧ k < len ∧ ∃ b off x, ElemIn w a len cap L k b off x := by
  obtain ⟨k, rfl, hk⟩ := (there_nat (elemE_ok he).1).2
  rw [coreL_len, h.hlen] at hk
  obtain ⟨b, off, x, hab, hb, hx, hat, -⟩ := h.get hk
  have hm := List.mem_of_getElem? hx
  exact ⟨k, rfl, hk, b, off, x, hab, hb, hx, hat.c4, (h.ok x hm).attrs, (hs.2 x hm).2.1, (attrsK_at (coreL_get hx)).symm⟩
/-- A change's note and forest, from the work behind it. -/
theorem chg_done {L M : List NodeD} {k : Nat} {y : NodeD} {s : List UInt8} {l : AL} {al : Option Addr} {ln lc : Nat} (hc : coreL M = coreL L) (hy : M[k]? = some y) :
    coreL (M.set k (withA y al ln lc l)) = (chgZ (coreL L) k s l).1 ∧ [] ++ [chgN k s y.core.attrs l] = (chgZ (coreL L) k s l).2.1 := by
  unfold chgZ
  refine ⟨?_, ?_⟩
  · show _ = chgF (coreL L) ((k : Int)).toNat l
    rw [core_setA hy, hc, Int.toNat_natCast]
  · have h1 := attrsK_at (coreL_get hy)
    rw [hc] at h1
    show [chgN (k : Int) s y.core.attrs l] = [chgN (k : Int) s (attrsK (coreL L) k) l]
    rw [h1]
end Go.Proofs.YtbgcpgpkhfbijaaGreatDoor
