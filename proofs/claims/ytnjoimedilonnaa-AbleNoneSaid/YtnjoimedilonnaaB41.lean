/- Texts joined in build order: WorkBegin. -/
import Derived.Test.YtnjoimedilonnaaB30
import Derived.Test.YtnjoimedilonnaaB31
namespace Go.Proofs.Ytnjoimedilonnaa
open Go.RowKit
theorem own_zero {w : World} {base : Nat} {e : TypeId} {size n : Nat} {v : Value} {xs : List Value} (h : w.ownsRow base e size v n xs) : w.ownsRow 0 e size v n xs := ⟨h.1, h.2.imp id (fun ⟨g, cap, cur, h1, _, h3⟩ => ⟨g, cap, cur, h1, Nat.zero_le _, h3⟩)⟩
structure Begun (w w' : World) (pw : Nat) (a2 : Option Addr) (len cap2 : Nat) (m : Int) (M : List NodeD) (F : List Core) : Prop where
  row : NodeRow w' a2 len cap2 M
  core : coreL M = F
  c0 : w'.cell? ⟨pw, 0, none⟩ = some (.slice a2 len cap2)
  c1 : w'.cell? ⟨pw, 1, none⟩ = some (.int .i64 m)
  c2 : w'.cell? ⟨pw, 2, none⟩ = some (.slice none 0 0)
  lt : pw < w'.heap.size
  plo : w.heap.size ≤ pw
  below : Below w.heap.size w w'
  new : ∀ x ∈ M, newLists w.heap.size x
  rlo : ∀ b off, a2 = some ⟨b, off, none⟩ → w.heap.size ≤ b
  wk : 0 < len → ∃ g ρ, a2 = some ⟨g, 0, none⟩ ∧ Wk ρ w' pw g cap2 len m M (.slice none 0 0) [] ∧ ∀ k, k < w.heap.size → ρ k = 0
theorem begun_of {w w1 : World} {n : Nat} {v : Value} {M : List NodeD} {F : List Core} {m : Int} (hC : Copy w.heap.size w w1 v n M F) (hN : ∀ x ∈ M, newLists w.heap.size x) (hK : ∀ g, v.ownBlock = some g → KidsOwn w.heap.size w1 g n M) :
    ∃ a2 cap2, v = .slice a2 n cap2 ∧ Begun w (w1.alloc (.cells #[.slice a2 n cap2, .int .i64 m, .slice none 0 0] 82)) w1.heap.size a2 n cap2 m M F := by
  obtain ⟨a2, cap2, hv, hr, hlo⟩ := hC.row
  have hb : Below w1.heap.size w1 (w1.alloc (.cells #[.slice a2 n cap2, .int .i64 m, .slice none 0 0] 82)) := below_box _ _
  have cell : ∀ j, (w1.alloc (.cells #[.slice a2 n cap2, .int .i64 m, .slice none 0 0] 82)).cell? ⟨w1.heap.size, j, none⟩ = (#[.slice a2 n cap2, .int .i64 m, .slice none 0 0] : Array Value)[j]? := fun j => cell_of_row _ w1.heap.size j _ 82 (0, 0) (heap_alloc_new w1 _)
  have hs := hC.below.size
  refine ⟨a2, cap2, hv, hr.below hb, hC.core, cell 0, cell 1, cell 2, by simp, hC.below.size, hC.below.trans (hb.mono hs), hN, fun b off e => (hlo b off e).1, fun h0 => ?_⟩
  obtain ⟨g, cap3, hg⟩ := own_some hC.own h0
  rw [hv] at hg
  injection hg with h1 h2 h3
  subst h1; subst h3
  have hKO := hK g (by rw [hv]; rfl)
  have hgl : w.heap.size ≤ g ∧ g < w1.heap.size := by
    have := hC.own.lt g (by rw [hv]; rfl)
    exact this
  have kl : ∀ (i : Nat) x b, M[i]? = some x → (kidV x).ownBlock = some b → w.heap.size ≤ b ∧ b < w1.heap.size ∧ b ≠ g := fun i x b hx hb2 => by
    have hi : i < n := by have := (List.getElem?_eq_some_iff.1 hx).1; rwa [hC.hl] at this
    exact ⟨(hKO.ne i x b hi hx hb2).2, own_block_lt (hKO.own i x hi hx) hb2, (hKO.ne i x b hi hx hb2).1⟩
  have il : ∀ (i : Nat) x, M[i]? = some x → i < n := fun i x hx => by have := (List.getElem?_eq_some_iff.1 hx).1; rwa [hC.hl] at this
  classical
  obtain ⟨κ, hκ1, hκ2⟩ : ∃ κ : Nat → Nat, (∀ (i : Nat) x b, M[i]? = some x → (kidV x).ownBlock = some b → κ b = i + 6) ∧ ∀ b, κ b ≠ 0 → ∃ (i : Nat) (x : NodeD), M[i]? = some x ∧ (kidV x).ownBlock = some b := by
    refine ⟨fun b => if h : ∃ i : Nat, ∃ x, M[i]? = some x ∧ (kidV x).ownBlock = some b then h.choose + 6 else 0, fun i x b hx hb2 => ?_, fun b hne => ?_⟩
    · have hex : ∃ i : Nat, ∃ x, M[i]? = some x ∧ (kidV x).ownBlock = some b := ⟨i, x, hx, hb2⟩
      simp only [dif_pos hex]
      obtain ⟨y, hy, hby⟩ := hex.choose_spec
      by_cases e : hex.choose = i
      · rw [e]
      · exact absurd rfl (hKO.kk _ _ y x b b (il _ _ hy) (il _ _ hx) hy hx e hby hb2)
    · by_cases hex : ∃ i : Nat, ∃ x, M[i]? = some x ∧ (kidV x).ownBlock = some b
      · exact hex
      · exact absurd (dif_neg hex) hne
  refine ⟨g, fun b => if b = w1.heap.size then 1 else if b = g then 2 else κ b, rfl, ?_, fun k hk => ?_⟩
  · have hH := hr.below hb
    have hsz : (w1.alloc (.cells #[.slice (some ⟨g, 0, none⟩) n cap2, .int .i64 m, .slice none 0 0] 82)).heap.size = w1.heap.size + 1 := by simp
    refine ⟨hC.hl, hr.row.hcap, hr.row.hmax, fun i x j u hx hu => ?_, fun o => ?_, by rw [hsz]; omega, fun i x hx => ?_, fun i x b hx hb2 => ?_, fun x hx => (hH.ok x hx).attrs, fun x hx b off e hp => ?_, fun x hx => ?_, cell 0, cell 1, cell 2, fun o => row_free (heap_alloc_new w1 _) o, by simp, World.ownsRow_nil _ _ _ _, (fun b e => by cases e), (fun x hx => by cases hx), if_pos rfl, ?_, fun b hb2 => ?_, ?_⟩
    · rcases hH.row.cells with h0' | ⟨b, off, ha, _, hc⟩
      · omega
      · injection ha with ha
        injection ha with e1 e2
        subst e1 e2
        have := hc i x j u hx hu
        rwa [Nat.zero_add] at this
    · rw [hv] at hC
      exact (hb.frozen (p := ⟨g, o, none⟩) hgl.2).trans (own_free hC.own o)
    · exact own_below (hKO.own i x (il i x hx) hx) hb
    · obtain ⟨h1, h2, h3⟩ := kl i x b hx hb2
      rw [if_neg (by omega), if_neg h3]
      exact hκ1 i x b hx hb2
    · obtain ⟨i, hi⟩ := List.getElem?_of_mem hx
      have h1 := hKO.alt i x b off (il i x hi) hi e hp
      have h2 := (hN x hx).1 b off e
      have h3 : b ≠ g := fun e2 => (hC.away g (.inr (by rw [hv]; rfl)) x hx).1 b off e hp e2
      refine ⟨?_, g, by show (if g = w1.heap.size then 1 else if g = g then 2 else κ g) ≠ 0; rw [if_neg (by omega), if_pos rfl]; decide, hKO.al i x b off (il i x hi) hi e hp⟩
      rw [if_neg (by omega), if_neg h3]
      by_cases h4 : κ b = 0
      · exact h4
      · obtain ⟨j, y, hy, hby⟩ := hκ2 b h4
        exact absurd rfl (hKO.ak i j x y b off b (il i x hi) (il j y hy) hi hy e hp hby)
    · have o := hH.ok x hx
      exact ⟨o.name, o.is, o.data, o.kind, o.parent, o.host, o.under, o.doc, o.kids.inb⟩
    · rw [if_neg (by omega), if_pos rfl]
    · rw [hsz] at hb2
      rw [if_neg (by omega), if_neg (by omega)]
      by_cases h4 : κ b = 0
      · exact h4
      · obtain ⟨j, y, hy, hby⟩ := hκ2 b h4
        have := (kl j y b hy hby).2.1
        omega
    · rw [hv] at hC
      exact own_zero (own_below hC.own hb)
  · show (if k = w1.heap.size then 1 else if k = g then 2 else κ k) = 0
    rw [if_neg (by omega), if_neg (by omega)]
    by_cases h4 : κ k = 0
    · exact h4
    · obtain ⟨j, y, hy, hby⟩ := hκ2 k h4
      have := (kl j y k hy hby).1
      omega
theorem Begun.upto {w w0 w' : World} {pw : Nat} {a2 : Option Addr} {len cap2 : Nat} {m : Int} {M : List NodeD} {F : List Core} (h : Begun w0 w' pw a2 len cap2 m M F) (hb : Below w.heap.size w w0) : Begun w w' pw a2 len cap2 m M F :=
  ⟨h.row, h.core, h.c0, h.c1, h.c2, h.lt, Nat.le_trans hb.size h.plo, hb.trans (h.below.mono hb.size), fun x hx => ⟨fun b off e => Nat.le_trans hb.size ((h.new x hx).1 b off e), fun b off e => Nat.le_trans hb.size ((h.new x hx).2 b off e)⟩, fun b off e => Nat.le_trans hb.size (h.rlo b off e), fun h0 => by
    obtain ⟨g, ρ, h1, h2, h3⟩ := h.wk h0
    exact ⟨g, ρ, h1, h2, fun k hk => h3 k (Nat.lt_of_lt_of_le hk hb.size)⟩⟩
theorem NodeRow.far {W : World} {a : Option Addr} {len cap q : Nat} {M : List NodeD} (h : NodeRow W a len cap M) (ha : ∀ b off, a = some ⟨b, off, none⟩ → b ≠ q) (hM : ∀ x ∈ M, NodeAway q x) (o : Nat) (u : Value) : NodeRow (W.setCell ⟨q, o, none⟩ u) a len cap M :=
  ⟨h.row.keep (by simp [World.setCell]) (fun b off he hp o' => World.cell?_setCell_other _ _ _ _ (fun e => by injection e with e _; exact ha b off he e.symm)), fun x hx => (h.ok x hx).setCell (hM x hx) u, h.hnil⟩
theorem Wk.stored1 {ρ : Nat → Nat} {W : World} {pw g cap len : Nat} {m : Int} {M : List NodeD} {v : Value} {N : List NoteD} (h : Wk ρ W pw g cap len m M v N) {b B : Nat} (hb : b < B) (hB : B ≤ W.heap.size) (h0 : ∀ k, k < B → ρ k = 0) (o : Nat) (u : Value) :
    Wk (upd ρ (some b) 4) (W.setCell ⟨b, o, none⟩ u) pw g cap len m M v N := by
  have hbg : b < g := by
    rcases Nat.lt_or_ge g B with h1 | h1
    · have := h0 g h1
      rw [h.grole] at this
      cases this
    · omega
  have hm := h.mark (b := b) (by omega) (h0 b hb) (fun x hx b' off he hp e => by
    obtain ⟨g0, h1, h2⟩ := (h.arole x hx b' off he hp).2
    have : ¬ g0 < B := fun h4 => h1 (h0 g0 h4)
    omega)
  have h4 : upd ρ (some b) 4 b = 4 := by unfold upd; rw [if_pos rfl]
  exact hm.other h4 o u
set_option maxHeartbeats 4000000 in
set_option maxRecDepth 100000 in
theorem cbegin_any (a : Option Addr) (len cap : Nat) (m : Int) (L : List NodeD) (w : World) (h : NodeRow w a len cap L) (hs : smallF L) :
    Calls Try.prog 47 #[forV a len cap m] w fun e w' => ∃ pw a2 cap2 M, e = .returned (ptrV pw) ∧ Begun w w' pw a2 len cap2 m M (coreL L) := by
  have BX := Lib.hid (Box.start (m := m) h)
  have CF : Hid (∀ W, NodeRow W a len cap L → Calls Try.prog 37 #[forV a len cap m] W (CopyOwn W len (coreL L) m)) := Lib.hid (fun W h1 => cloneOwn_any a len cap m L W h1 hs)
  have z0 := BX.out.c0
  have z1 := BX.out.c1
  clear h hs
  go_enter Try.func47, Try.ntmps47
  go_wp2_with (go_at_call 37; (with_reducible refine (CF.out _ BX.out.row).mono ?_); rintro e w1 ⟨v, M, rfl, hC, hN, hK⟩; obtain ⟨a2, cap2, rfl, hB⟩ := begun_of (m := m) hC hN hK; have HB := Lib.hid hB; clear hC hN hK hB)
  go_ret
  exact ⟨_, a2, cap2, M, rfl, HB.out.upto BX.out.below⟩
end Go.Proofs.Ytnjoimedilonnaa
