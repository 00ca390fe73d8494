/- For instarlaw09's DeskTells: six rows of numbers in one block, truths in a block, what is done opened. -/
import Derived.Test.YtapfhgimeohmgaaDeskAwake9
import Derived.Test.YtapfhgimeohmgaaDeskOpen
namespace Go.Proofs.Ytapfhgimeohmgaa
open Go.RowKit
/-- Six rows of numbers, each of the call's own, their slices in the block g. -/
structure Want (base : Nat) (W : World) (g : Nat) (T : Nat → List Int) : Prop where
  lt : g < W.heap.size
  row : ∀ k, k < 6 → ∃ v, W.cell? ⟨g, k, none⟩ = some v ∧ W.ownsRow base 3 1 v (T k).length ((T k).flatMap encZ) ∧ ∀ b, v.ownBlock = some b → b ≠ g
  ne : ∀ i j v u b, i < 6 → j < 6 → i ≠ j → W.cell? ⟨g, i, none⟩ = some v → W.cell? ⟨g, j, none⟩ = some u → v.ownBlock = some b → u.ownBlock ≠ some b
  free : ∀ j, W.frozen? ⟨g, j, none⟩ = false
/-- A block that is none of the rows'. -/
def Want.Off (W : World) (g b : Nat) : Prop := ∀ k v, k < 6 → W.cell? ⟨g, k, none⟩ = some v → v.ownBlock ≠ some b
section
variable {base g : Nat} {W V : World} {T : Nat → List Int}
theorem Want.keep (h : Want base W g T) (hb : Below W.heap.size W V) : Want base V g T := by
  have hc : ∀ k, V.cell? ⟨g, k, none⟩ = W.cell? ⟨g, k, none⟩ := fun k => hb.cell (p := ⟨g, k, none⟩) h.lt
  refine ⟨Nat.lt_of_lt_of_le h.lt hb.size, fun k hk => ?_, fun i j v u b hi hj hne hv hu => ?_, fun j => (World.frozen?_of_block (a := ⟨g, j, none⟩) (hb.block g h.lt)).trans (h.free j)⟩
  · obtain ⟨v, h1, h2, h3⟩ := h.row k hk
    exact ⟨v, (hc k).trans h1, own_below h2 hb, h3⟩
  · rw [hc] at hv hu
    exact h.ne i j v u b hi hj hne hv hu
theorem Want.offKeep (h : Want base W g T) {b : Nat} (ho : Want.Off W g b) (hb : Below W.heap.size W V) : Want.Off V g b := fun k v hk hv => by
  rw [hb.cell (p := ⟨g, k, none⟩) h.lt] at hv
  exact ho k v hk hv
/-- A block that is new is none of the rows'. -/
theorem Want.offNew (h : Want base W g T) {b : Nat} (hb : W.heap.size ≤ b) : Want.Off W g b := fun k v hk hv e => by
  obtain ⟨u, h1, h2, _⟩ := h.row k hk
  rw [h1] at hv
  obtain rfl := Option.some.inj hv
  have := (h2.lt b e).2
  omega
/-- A store into a block that is none of the rows', and not theirs. -/
theorem Want.far (h : Want base W g T) {b o : Nat} (hg : b ≠ g) (ho : Want.Off W g b) (u : Value) : Want base (W.setCell ⟨b, o, none⟩ u) g T := by
  have hc : ∀ k, (W.setCell ⟨b, o, none⟩ u).cell? ⟨g, k, none⟩ = W.cell? ⟨g, k, none⟩ := fun k => World.cell?_setCell_other _ _ _ _ (fun e => hg (by injection e))
  refine ⟨by simp only [World.setCell, Array.size_modify]; exact h.lt, fun k hk => ?_, fun i j v u' c hi hj hne hv hu => ?_, fun j => by rw [World.frozen?_setCell]; exact h.free j⟩
  · obtain ⟨v, h1, h2, h3⟩ := h.row k hk
    exact ⟨v, (hc k).trans h1, own_eq9 h2 (fun c hc2 => Below.heap_setCell _ _ _ c (fun e => ho k v hk h1 (by rw [hc2, e]))), h3⟩
  · rw [hc] at hv hu
    exact h.ne i j v u' c hi hj hne hv hu
theorem Want.farOff {b o c : Nat} {u : Value} (hg : b ≠ g) (ho : Want.Off W g c) : Want.Off (W.setCell ⟨b, o, none⟩ u) g c := fun k v hk hv => by
  rw [World.cell?_setCell_other _ _ _ _ (fun e => hg (by injection e))] at hv
  exact ho k v hk hv
/-- A row is written: what was appended to it, or nil. -/
theorem Want.put (h : Want base W g T) {k : Nat} (hk : k < 6) {v : Value} (hv : W.cell? ⟨g, k, none⟩ = some v) {row : Option Nat} (hg : W.grownBy V row) (hrow : row = none ∨ row = v.ownBlock) {v' : Value} {t : List Int} (ho : V.ownsRow base 3 1 v' t.length (t.flatMap encZ)) (hat : ∀ b, v'.ownBlock = some b → v.ownBlock = some b ∨ W.heap.size ≤ b) :
    Want base (V.setCell ⟨g, k, none⟩ v') g (fun j => if j = k then t else T j) := by
  obtain ⟨v0, h1, h2, h3⟩ := h.row k hk
  rw [h1] at hv
  obtain rfl := Option.some.inj hv
  have hgr : some g ≠ row := fun e => by
    rcases hrow with hr | hr
    · rw [hr] at e; cases e
    · rw [hr] at e
      exact h3 g e.symm rfl
  have hgb := hg.block g h.lt hgr
  have hvg : ∀ b, v'.ownBlock = some b → b ≠ g := fun b hb => by
    rcases hat b hb with h4 | h4
    · exact h3 b h4
    · have := h.lt; omega
  have hself : (V.setCell ⟨g, k, none⟩ v').cell? ⟨g, k, none⟩ = some v' := World.cell?_setCell_same _ _ _ ((World.cell?_of_block (a := ⟨g, k, none⟩) hgb).trans h1)
  have hother : ∀ j, j ≠ k → (V.setCell ⟨g, k, none⟩ v').cell? ⟨g, j, none⟩ = W.cell? ⟨g, j, none⟩ := fun j hj => (World.cell?_setCell_other _ _ _ _ (fun e => hj (by injection e with _ e; exact e.symm))).trans (World.cell?_of_block (a := ⟨g, j, none⟩) hgb)
  refine ⟨by simp only [World.setCell, Array.size_modify]; exact Nat.lt_of_lt_of_le h.lt hg.size, fun j hj => ?_, fun i j u1 u2 b hi hj hne h5 h6 h7 => ?_, fun j => by rw [World.frozen?_setCell]; exact (World.frozen?_of_block (a := ⟨g, j, none⟩) hgb).trans (h.free j)⟩
  · by_cases e : j = k
    · subst e
      rw [if_pos rfl]
      exact ⟨v', hself, own_eq9 ho (fun b hb => Below.heap_setCell _ _ _ b (hvg b hb)), hvg⟩
    · rw [if_neg e]
      obtain ⟨u, h4, h5, h6⟩ := h.row j hj
      refine ⟨u, (hother j e).trans h4, own_eq9 h5 (fun b hb => (Below.heap_setCell _ _ _ b (h6 b hb)).trans (hg.block b (h5.lt b hb).2 (fun e2 => ?_))), h6⟩
      rcases hrow with hr | hr
      · rw [hr] at e2; cases e2
      · rw [hr] at e2
        exact h.ne j k u v0 b hj hk e h4 h1 hb e2.symm
  · by_cases e : i = k
    · subst e
      rw [hself] at h5
      obtain rfl := Option.some.inj h5
      have e3 : j ≠ i := fun e => hne e.symm
      rw [hother j e3] at h6
      rcases hat b h7 with h8 | h8
      · exact h.ne i j v0 u2 b hi hj hne h1 h6 h8
      · intro e4
        obtain ⟨u, h9, h10, _⟩ := h.row j hj
        rw [h9] at h6
        obtain rfl := Option.some.inj h6
        have := (h10.lt b e4).2
        omega
    · rw [hother i e] at h5
      by_cases e2 : j = k
      · subst e2
        rw [hself] at h6
        obtain rfl := Option.some.inj h6
        intro e4
        rcases hat b e4 with h8 | h8
        · exact h.ne i j u1 v0 b hi hj hne h5 h1 h7 h8
        · obtain ⟨u, h9, h10, _⟩ := h.row i hi
          rw [h9] at h5
          obtain rfl := Option.some.inj h5
          have := (h10.lt b h7).2
          omega
      · rw [hother j e2] at h6
        exact h.ne i j u1 u2 b hi hj hne h5 h6 h7
/-- Which blocks are none of the rows' then. -/
theorem Want.putOff (h : Want base W g T) {k : Nat} (hk : k < 6) {v : Value} (hv : W.cell? ⟨g, k, none⟩ = some v) {row : Option Nat} (hg : W.grownBy V row) (hrow : row = none ∨ row = v.ownBlock) {v' : Value} (hat : ∀ b, v'.ownBlock = some b → v.ownBlock = some b ∨ W.heap.size ≤ b) {c : Nat} (ho : Want.Off W g c) (hc : c < W.heap.size) : Want.Off (V.setCell ⟨g, k, none⟩ v') g c := fun j u hj hu e => by
  obtain ⟨v0, h1, h2, h3⟩ := h.row k hk
  rw [h1] at hv
  obtain rfl := Option.some.inj hv
  have hgr : some g ≠ row := fun e => by
    rcases hrow with hr | hr
    · rw [hr] at e; cases e
    · rw [hr] at e
      exact h3 g e.symm rfl
  have hgb := hg.block g h.lt hgr
  by_cases ej : j = k
  · subst ej
    rw [World.cell?_setCell_same _ _ _ ((World.cell?_of_block (a := ⟨g, j, none⟩) hgb).trans h1)] at hu
    obtain rfl := Option.some.inj hu
    rcases hat c e with h8 | h8
    · exact ho j v0 hj h1 h8
    · omega
  · rw [World.cell?_setCell_other _ _ _ _ (fun e => ej (by injection e with _ e; exact e.symm)), World.cell?_of_block (a := ⟨g, j, none⟩) hgb] at hu
    exact ho j u hj hu e
end
/-- Truths, a cell each, in the block g. -/
structure Truths (W : World) (g n : Nat) (f : Nat → Bool) : Prop where
  lt : g < W.heap.size
  cell : ∀ k, k < n → W.cell? ⟨g, k, none⟩ = some (.bool (f k))
  free : ∀ j, W.frozen? ⟨g, j, none⟩ = false
section
variable {W V : World} {g n : Nat} {f : Nat → Bool}
theorem Truths.same (h : Truths W g n f) (hs : V.heap[g]? = W.heap[g]?) (hz : W.heap.size ≤ V.heap.size) : Truths V g n f :=
  ⟨Nat.lt_of_lt_of_le h.lt hz, fun k hk => (World.cell?_of_block (a := ⟨g, k, none⟩) hs).trans (h.cell k hk), fun j => (World.frozen?_of_block (a := ⟨g, j, none⟩) hs).trans (h.free j)⟩
theorem Truths.keep (h : Truths W g n f) (hb : Below W.heap.size W V) : Truths V g n f := h.same (hb.block g h.lt) hb.size
theorem Truths.set (h : Truths W g n f) {k : Nat} (hk : k < n) : Truths (W.setCell ⟨g, k, none⟩ (.bool true)) g n (fun j => if j = k then true else f j) := by
  refine ⟨by simp only [World.setCell, Array.size_modify]; exact h.lt, fun j hj => ?_, fun j => by rw [World.frozen?_setCell]; exact h.free j⟩
  by_cases e : j = k
  · subst e
    rw [if_pos rfl]
    exact World.cell?_setCell_same _ _ _ (h.cell j hj)
  · rw [if_neg e]
    exact (World.cell?_setCell_other _ _ _ _ (fun e2 => e (by injection e2 with _ e2; exact e2.symm))).trans (h.cell j hj)
theorem Truths.far (h : Truths W g n f) {b o : Nat} (hg : b ≠ g) (u : Value) : Truths (W.setCell ⟨b, o, none⟩ u) g n f :=
  h.same (Below.heap_setCell _ _ _ g (fun e => hg e.symm)) (by simp [World.setCell])
end
/-- Something that is done: its kind, its name, its class. -/
structure DoD where
  kind : Int
  name : Int
  cls : Int
def encDo (x : DoD) : List Value := [.int .u8 x.kind, .int .u8 x.name, .int .u8 x.cls]
def okDo (x : DoD) : Prop := (0 ≤ x.kind ∧ x.kind ≤ 255) ∧ (0 ≤ x.name ∧ x.name ≤ 255) ∧ (0 ≤ x.cls ∧ x.cls ≤ 255)
end Go.Proofs.Ytapfhgimeohmgaa
