/- Texts joined in build order: DeskWant DeskTellsAt. -/
import Derived.Test.YtioeagadhnnajaaA32
import Derived.Test.YtioeagadhnnajaaA18
/- For instarlaw09's DeskTells: six rows of numbers in one block, truths in a block, what is done opened. -/
namespace Go.Proofs.Ytioeagadhnnajaa
open Go.RowKit
/-- Six rows of numbers, each of the call's own, their slices in the block g. -/
structure Want (base : Nat) (W : World) (g : Nat) (T : Nat → List Int) : Prop where
  lt : g < W.heap.size
  row : ∀ k, k < 6 → ∃ v, W.cell? ⟨g, k, none⟩ = some v ∧ W.ownsRow base 3 1 v (T k).length ((T k).flatMap encZ) ∧ ∀ b, v.ownBlock = some b → b ≠ g
  ne : ∀ i j v u b, i < 6 → j < 6 → i ≠ j → W.cell? ⟨g, i, none⟩ = some v → W.cell? ⟨g, j, none⟩ = some u → v.ownBlock = some b → u.ownBlock ≠ some b
  free : ∀ j, W.frozen? ⟨g, j, none⟩ = false
/-- A block that is none of the rows'. -/
def Want.Off (W : World) (g b : Nat) : Prop := ∀ k v, k < 6 → W.cell? ⟨g, k, none⟩ = some v → v.ownBlock ≠ some b
section
variable {base g : Nat} {W V : World} {T : Nat → List Int}
theorem Want.keep (h : Want base W g T) (hb : Below W.heap.size W V) : Want base V g T := by
  have hc : ∀ k, V.cell? ⟨g, k, none⟩ = W.cell? ⟨g, k, none⟩ := fun k => hb.cell (p := ⟨g, k, none⟩) h.lt
  refine ⟨Nat.lt_of_lt_of_le h.lt hb.size, fun k hk => ?_, fun i j v u b hi hj hne hv hu => ?_, fun j => (World.frozen?_of_block (a := ⟨g, j, none⟩) (hb.block g h.lt)).trans (h.free j)⟩
  · obtain ⟨v, h1, h2, h3⟩ := h.row k hk
    exact ⟨v, (hc k).trans h1, own_below h2 hb, h3⟩
  · rw [hc] at hv hu
    exact h.ne i j v u b hi hj hne hv hu
theorem Want.offKeep (h : Want base W g T) {b : Nat} (ho : Want.Off W g b) (hb : Below W.heap.size W V) : Want.Off V g b := fun k v hk hv => by
  rw [hb.cell (p := ⟨g, k, none⟩) h.lt] at hv
  exact ho k v hk hv
/-- A block that is new is none of the rows'. -/
theorem Want.offNew (h : Want base W g T) {b : Nat} (hb : W.heap.size ≤ b) : Want.Off W g b := fun k v hk hv e => by
  obtain ⟨u, h1, h2, _⟩ := h.row k hk
  rw [h1] at hv
  obtain rfl := Option.some.inj hv
  have := (h2.lt b e).2
  omega
/-- A store into a block that is none of the rows', and not theirs. -/
theorem Want.far (h : Want base W g T) {b o : Nat} (hg : b ≠ g) (ho : Want.Off W g b) (u : Value) : Want base (W.setCell ⟨b, o, none⟩ u) g T := by
  have hc : ∀ k, (W.setCell ⟨b, o, none⟩ u).cell? ⟨g, k, none⟩ = W.cell? ⟨g, k, none⟩ := fun k => World.cell?_setCell_other _ _ _ _ (fun e => hg (by injection e))
  refine ⟨by simp only [World.setCell, Array.size_modify]; exact h.lt, fun k hk => ?_, fun i j v u' c hi hj hne hv hu => ?_, fun j => by rw [World.frozen?_setCell]; exact h.free j⟩
  · obtain ⟨v, h1, h2, h3⟩ := h.row k hk
    exact ⟨v, (hc k).trans h1, own_eq9 h2 (fun c hc2 => Below.heap_setCell _ _ _ c (fun e => ho k v hk h1 (by rw [hc2, e]))), h3⟩
  · rw [hc] at hv hu
    exact h.ne i j v u' c hi hj hne hv hu
theorem Want.farOff {b o c : Nat} {u : Value} (hg : b ≠ g) (ho : Want.Off W g c) : Want.Off (W.setCell ⟨b, o, none⟩ u) g c := fun k v hk hv => by
  rw [World.cell?_setCell_other _ _ _ _ (fun e => hg (by injection e))] at hv
  exact ho k v hk hv
/-- A row is written: what was appended to it, or nil. -/
theorem Want.put (h : Want base W g T) {k : Nat} (hk : k < 6) {v : Value} (hv : W.cell? ⟨g, k, none⟩ = some v) {row : Option Nat} (hg : W.grownBy V row) (hrow : row = none ∨ row = v.ownBlock) {v' : Value} {t : List Int} (ho : V.ownsRow base 3 1 v' t.length (t.flatMap encZ)) (hat : ∀ b, v'.ownBlock = some b → v.ownBlock = some b ∨ W.heap.size ≤ b) :
    Want base (V.setCell ⟨g, k, none⟩ v') g (fun j => if j = k then t else T j) := by
  obtain ⟨v0, h1, h2, h3⟩ := h.row k hk
  rw [h1] at hv
  obtain rfl := Option.some.inj hv
  have hgr : some g ≠ row := fun e => by
    rcases hrow with hr | hr
    · rw [hr] at e; cases e
    · rw [hr] at e
      exact h3 g e.symm rfl
  have hgb := hg.block g h.lt hgr
  have hvg : ∀ b, v'.ownBlock = some b → b ≠ g := fun b hb => by
    rcases hat b hb with h4 | h4
    · exact h3 b h4
    · have := h.lt; omega
  have hself : (V.setCell ⟨g, k, none⟩ v').cell? ⟨g, k, none⟩ = some v' := World.cell?_setCell_same _ _ _ ((World.cell?_of_block (a := ⟨g, k, none⟩) hgb).trans h1)
  have hother : ∀ j, j ≠ k → (V.setCell ⟨g, k, none⟩ v').cell? ⟨g, j, none⟩ = W.cell? ⟨g, j, none⟩ := fun j hj => (World.cell?_setCell_other _ _ _ _ (fun e => hj (by injection e with _ e; exact e.symm))).trans (World.cell?_of_block (a := ⟨g, j, none⟩) hgb)
  refine ⟨by simp only [World.setCell, Array.size_modify]; exact Nat.lt_of_lt_of_le h.lt hg.size, fun j hj => ?_, fun i j u1 u2 b hi hj hne h5 h6 h7 => ?_, fun j => by rw [World.frozen?_setCell]; exact (World.frozen?_of_block (a := ⟨g, j, none⟩) hgb).trans (h.free j)⟩
  · by_cases e : j = k
    · subst e
      rw [if_pos rfl]
      exact ⟨v', hself, own_eq9 ho (fun b hb => Below.heap_setCell _ _ _ b (hvg b hb)), hvg⟩
    · rw [if_neg e]
      obtain ⟨u, h4, h5, h6⟩ := h.row j hj
      refine ⟨u, (hother j e).trans h4, own_eq9 h5 (fun b hb => (Below.heap_setCell _ _ _ b (h6 b hb)).trans (hg.block b (h5.lt b hb).2 (fun e2 => ?_))), h6⟩
      rcases hrow with hr | hr
      · rw [hr] at e2; cases e2
      · rw [hr] at e2
        exact h.ne j k u v0 b hj hk e h4 h1 hb e2.symm
  · by_cases e : i = k
    · subst e
      rw [hself] at h5
      obtain rfl := Option.some.inj h5
      have e3 : j ≠ i := fun e => hne e.symm
      rw [hother j e3] at h6
      rcases hat b h7 with h8 | h8
      · exact h.ne i j v0 u2 b hi hj hne h1 h6 h8
      · intro e4
        obtain ⟨u, h9, h10, _⟩ := h.row j hj
        rw [h9] at h6
        obtain rfl := Option.some.inj h6
        have := (h10.lt b e4).2
        omega
    · rw [hother i e] at h5
      by_cases e2 : j = k
      · subst e2
        rw [hself] at h6
        obtain rfl := Option.some.inj h6
        intro e4
        rcases hat b e4 with h8 | h8
        · exact h.ne i j u1 v0 b hi hj hne h5 h1 h7 h8
        · obtain ⟨u, h9, h10, _⟩ := h.row i hi
          rw [h9] at h5
          obtain rfl := Option.some.inj h5
          have := (h10.lt b h7).2
          omega
      · rw [hother j e2] at h6
        exact h.ne i j u1 u2 b hi hj hne h5 h6 h7
/-- Which blocks are none of the rows' then. -/
theorem Want.putOff (h : Want base W g T) {k : Nat} (hk : k < 6) {v : Value} (hv : W.cell? ⟨g, k, none⟩ = some v) {row : Option Nat} (hg : W.grownBy V row) (hrow : row = none ∨ row = v.ownBlock) {v' : Value} (hat : ∀ b, v'.ownBlock = some b → v.ownBlock = some b ∨ W.heap.size ≤ b) {c : Nat} (ho : Want.Off W g c) (hc : c < W.heap.size) : Want.Off (V.setCell ⟨g, k, none⟩ v') g c := fun j u hj hu e => by
  obtain ⟨v0, h1, h2, h3⟩ := h.row k hk
  rw [h1] at hv
  obtain rfl := Option.some.inj hv
  have hgr : some g ≠ row := fun e => by
    rcases hrow with hr | hr
    · rw [hr] at e; cases e
    · rw [hr] at e
      exact h3 g e.symm rfl
  have hgb := hg.block g h.lt hgr
  by_cases ej : j = k
  · subst ej
    rw [World.cell?_setCell_same _ _ _ ((World.cell?_of_block (a := ⟨g, j, none⟩) hgb).trans h1)] at hu
    obtain rfl := Option.some.inj hu
    rcases hat c e with h8 | h8
    · exact ho j v0 hj h1 h8
    · omega
  · rw [World.cell?_setCell_other _ _ _ _ (fun e => ej (by injection e with _ e; exact e.symm)), World.cell?_of_block (a := ⟨g, j, none⟩) hgb] at hu
    exact ho j u hj hu e
end
/-- Truths, a cell each, in the block g. -/
structure Truths (W : World) (g n : Nat) (f : Nat → Bool) : Prop where
  lt : g < W.heap.size
  cell : ∀ k, k < n → W.cell? ⟨g, k, none⟩ = some (.bool (f k))
  free : ∀ j, W.frozen? ⟨g, j, none⟩ = false
section
variable {W V : World} {g n : Nat} {f : Nat → Bool}
theorem Truths.same (h : Truths W g n f) (hs : V.heap[g]? = W.heap[g]?) (hz : W.heap.size ≤ V.heap.size) : Truths V g n f :=
  ⟨Nat.lt_of_lt_of_le h.lt hz, fun k hk => (World.cell?_of_block (a := ⟨g, k, none⟩) hs).trans (h.cell k hk), fun j => (World.frozen?_of_block (a := ⟨g, j, none⟩) hs).trans (h.free j)⟩
theorem Truths.keep (h : Truths W g n f) (hb : Below W.heap.size W V) : Truths V g n f := h.same (hb.block g h.lt) hb.size
theorem Truths.set (h : Truths W g n f) {k : Nat} (hk : k < n) : Truths (W.setCell ⟨g, k, none⟩ (.bool true)) g n (fun j => if j = k then true else f j) := by
  refine ⟨by simp only [World.setCell, Array.size_modify]; exact h.lt, fun j hj => ?_, fun j => by rw [World.frozen?_setCell]; exact h.free j⟩
  by_cases e : j = k
  · subst e
    rw [if_pos rfl]
    exact World.cell?_setCell_same _ _ _ (h.cell j hj)
  · rw [if_neg e]
    exact (World.cell?_setCell_other _ _ _ _ (fun e2 => e (by injection e2 with _ e2; exact e2.symm))).trans (h.cell j hj)
theorem Truths.far (h : Truths W g n f) {b o : Nat} (hg : b ≠ g) (u : Value) : Truths (W.setCell ⟨b, o, none⟩ u) g n f :=
  h.same (Below.heap_setCell _ _ _ g (fun e => hg e.symm)) (by simp [World.setCell])
end
/-- Something that is done: its kind, its name, its class. -/
structure DoD where
  kind : Int
  name : Int
  cls : Int
def encDo (x : DoD) : List Value := [.int .u8 x.kind, .int .u8 x.name, .int .u8 x.cls]
def okDo (x : DoD) : Prop := (0 ≤ x.kind ∧ x.kind ≤ 255) ∧ (0 ≤ x.name ∧ x.name ≤ 255) ∧ (0 ≤ x.cls ∧ x.cls ≤ 255)
end Go.Proofs.Ytioeagadhnnajaa
/- For instarlaw09's DeskTells: what its memory holds at the head of a round; what is done opened. -/
namespace Go.Proofs.Ytioeagadhnnajaa
open Go.RowKit Go.Deep Go.ChangeShapes Go.WideShapes
theorem DefRow.same2 {w W : World} {a : Option Addr} {len cap : Nat} {L : List DefD} (h : DefRow w a len cap L) (hs : ∀ b off, a = some ⟨b, off, none⟩ → 0 < len → W.heap[b]? = w.heap[b]?) (hz : w.heap.size ≤ W.heap.size) : DefRow W a len cap L :=
  ⟨h.row.keep hz (fun b off e hp o => World.cell?_of_block (a := ⟨b, o, none⟩) (hs b off e hp)), h.ok, h.hnil⟩
theorem WaitRow.same2 {w W : World} {a : Option Addr} {len cap : Nat} {L : List WaitD} (h : WaitRow w a len cap L) (hs : ∀ b off, a = some ⟨b, off, none⟩ → 0 < len → W.heap[b]? = w.heap[b]?) (hz : w.heap.size ≤ W.heap.size) : WaitRow W a len cap L :=
  ⟨h.row.keep hz (fun b off e hp o => World.cell?_of_block (a := ⟨b, o, none⟩) (hs b off e hp)), h.ok, h.hnil⟩
theorem DefRow.block_lt {w : World} {b off len cap : Nat} {L : List DefD} (h : DefRow w (some ⟨b, off, none⟩) len cap L) (hp : 0 < len) : b < w.heap.size := by
  obtain ⟨b', off', x, e, hlt, _⟩ := h.get hp
  injection e with e
  injection e with e1 _
  omega
theorem WaitRow.block_lt {w : World} {b off len cap : Nat} {L : List WaitD} (h : WaitRow w (some ⟨b, off, none⟩) len cap L) (hp : 0 < len) : b < w.heap.size := by
  obtain ⟨b', off', x, e, hlt, _⟩ := h.get hp
  injection e with e
  injection e with e1 _
  omega
structure DoRow (W : World) (a : Option Addr) (len cap : Nat) (L : List DoD) : Prop where
  row : SRow encDo 3 W a len cap L
  ok : ∀ x ∈ L, okDo x
theorem DoRow.below {W V : World} {a : Option Addr} {len cap : Nat} {L : List DoD} (h : DoRow W a len cap L) (hb : Below W.heap.size W V) : DoRow V a len cap L := ⟨h.row.below hb, h.ok⟩
theorem DoRow.get {W : World} {a : Option Addr} {len cap : Nat} {L : List DoD} (h : DoRow W a len cap L) {k : Nat} (hk : k < len) :
    ∃ b off x, a = some ⟨b, off, none⟩ ∧ b < W.heap.size ∧ L[k]? = some x ∧ W.cell? ⟨b, off + k * 3, none⟩ = some (.int .u8 x.kind) ∧ W.cell? ⟨b, off + k * 3 + 1, none⟩ = some (.int .u8 x.name) ∧ W.cell? ⟨b, off + k * 3 + 2, none⟩ = some (.int .u8 x.cls) ∧ okDo x := by
  obtain ⟨b, off, x, ha, hlt, hg, _, hc⟩ := h.row.get hk
  exact ⟨b, off, x, ha, hlt, hg, hc 0 _ rfl, hc 1 _ rfl, hc 2 _ rfl, h.ok _ (List.mem_of_getElem? hg)⟩
/-- What the law's memory holds: the desk, what is wanted, what is defined, what is used. -/
structure TellsAt (w W : World) (g : Nat) (da : Option Addr) (dl dc : Nat) (wa : Option Addr) (wl wc : Nat) (D : DeskD) (T : Nat → List Int) (df us : Nat → Bool) : Prop where
  k : KBox w W g da dl dc wa wl wc D
  t : Want w.heap.size W (g + 1) T
  f : Truths W (g + 2) 6 df
  u : Truths W (g + 3) 12 us
  offD : ∀ b off, da = some ⟨b, off, none⟩ → 0 < dl → Want.Off W (g + 1) b ∧ b < W.heap.size ∧ b ≠ g ∧ b ≠ g + 1 ∧ b ≠ g + 2 ∧ b ≠ g + 3
  offT : ∀ b off, wa = some ⟨b, off, none⟩ → 0 < wl → Want.Off W (g + 1) b ∧ b < W.heap.size ∧ b ≠ g ∧ b ≠ g + 1 ∧ b ≠ g + 2 ∧ b ≠ g + 3
  o3 : Want.Off W (g + 1) g
  o5 : Want.Off W (g + 1) (g + 2)
  o6 : Want.Off W (g + 1) (g + 3)
section
variable {w W V : World} {g : Nat} {da wa da' wa' : Option Addr} {dl dc wl wc dl' dc' wl' wc' : Nat} {D E : DeskD} {T : Nat → List Int} {df us : Nat → Bool}
theorem TellsAt.keep (h : TellsAt w W g da dl dc wa wl wc D T df us) (hb : Below W.heap.size W V) : TellsAt w V g da dl dc wa wl wc D T df us :=
  ⟨h.k.keep hb, h.t.keep hb, h.f.keep hb, h.u.keep hb, fun b off e hp => ⟨h.t.offKeep (h.offD b off e hp).1 hb, Nat.lt_of_lt_of_le (h.offD b off e hp).2.1 hb.size, (h.offD b off e hp).2.2⟩, fun b off e hp => ⟨h.t.offKeep (h.offT b off e hp).1 hb, Nat.lt_of_lt_of_le (h.offT b off e hp).2.1 hb.size, (h.offT b off e hp).2.2⟩, h.t.offKeep h.o3 hb, h.t.offKeep h.o5 hb, h.t.offKeep h.o6 hb⟩
theorem Want.far4 {base : Nat} {g g4 : Nat} {a b c d : Value} (h : Want base W g4 T) (hg : g ≠ g4) (ho : Want.Off W g4 g) : Want base (put4 W g a b c d) g4 T := by
  have h1 := h.far (o := 0) hg ho a
  have o1 := Want.farOff (W := W) (b := g) (o := 0) (u := a) hg ho
  have h2 := h1.far (o := 1) hg o1 b
  have o2 := Want.farOff (b := g) (o := 1) (u := b) hg o1
  have h3 := h2.far (o := 2) hg o2 c
  have o3 := Want.farOff (b := g) (o := 2) (u := c) hg o2
  exact h3.far (o := 3) hg o3 d
theorem Want.farOff4 {g g4 x : Nat} {a b c d : Value} (hg : g ≠ g4) (ho : Want.Off W g4 x) : Want.Off (put4 W g a b c d) g4 x :=
  Want.farOff hg (Want.farOff hg (Want.farOff hg (Want.farOff hg ho)))
/-- Another desk is taken over. -/
theorem TellsAt.take (h : TellsAt w W g da dl dc wa wl wc D T df us) (hd : DefRow W da' dl' dc' E.defs) (ht : WaitRow W wa' wl' wc' E.waits)
    (oD : ∀ b off, da' = some ⟨b, off, none⟩ → 0 < dl' → Want.Off W (g + 1) b ∧ b < W.heap.size ∧ b ≠ g ∧ b ≠ g + 1 ∧ b ≠ g + 2 ∧ b ≠ g + 3) (oT : ∀ b off, wa' = some ⟨b, off, none⟩ → 0 < wl' → Want.Off W (g + 1) b ∧ b < W.heap.size ∧ b ≠ g ∧ b ≠ g + 1 ∧ b ≠ g + 2 ∧ b ≠ g + 3) :
    TellsAt w (put4 W g (.slice da' dl' dc') (.slice wa' wl' wc') (.int .i64 E.next) (.bool E.busy)) g da' dl' dc' wa' wl' wc' E T df us := by
  have n1 : g ≠ g + 1 := by omega
  have hz : W.heap.size ≤ (put4 W g (.slice da' dl' dc') (.slice wa' wl' wc') (.int .i64 E.next) (.bool E.busy)).heap.size := by rw [put4_size]; exact Nat.le_refl _
  refine ⟨⟨(((h.k.bx.set0 _).set1 _).set2 _).set3 _, hd.same2 (fun b off e hp => put4_same (oD b off e hp).2.2.1) hz, ht.same2 (fun b off e hp => put4_same (oT b off e hp).2.2.1) hz, h.k.low, put4_below h.k.below h.k.low⟩, h.t.far4 n1 h.o3, h.f.same (put4_same (by omega)) hz, h.u.same (put4_same (by omega)) hz, fun b off e hp => ⟨Want.farOff4 n1 (oD b off e hp).1, by rw [put4_size]; exact (oD b off e hp).2.1, (oD b off e hp).2.2⟩, fun b off e hp => ⟨Want.farOff4 n1 (oT b off e hp).1, by rw [put4_size]; exact (oT b off e hp).2.1, (oT b off e hp).2.2⟩, Want.farOff4 n1 h.o3, Want.farOff4 n1 h.o5, Want.farOff4 n1 h.o6⟩
/-- A row of what is wanted is written. -/
theorem TellsAt.want (h : TellsAt w W g da dl dc wa wl wc D T df us) {k : Nat} (hk : k < 6) {v : Value} (hv : W.cell? ⟨g + 1, k, none⟩ = some v) {row : Option Nat} (hg : W.grownBy V row) (hrow : row = none ∨ row = v.ownBlock) {v' : Value} {t : List Int} (ho : V.ownsRow w.heap.size 3 1 v' t.length (t.flatMap encZ)) (hat : ∀ b, v'.ownBlock = some b → v.ownBlock = some b ∨ W.heap.size ≤ b) :
    TellsAt w (V.setCell ⟨g + 1, k, none⟩ v') g da dl dc wa wl wc D (fun j => if j = k then t else T j) df us := by
  have base : ∀ b, row = some b → w.heap.size ≤ b := fun b e => by
    rcases hrow with hr | hr
    · rw [hr] at e; cases e
    · obtain ⟨v0, h1, h2, _⟩ := h.t.row k hk
      rw [h1] at hv
      obtain rfl := Option.some.inj hv
      exact (h2.lt b (by rw [← hr, e])).1
  have offr : ∀ b, Want.Off W (g + 1) b → some b ≠ row := fun b hb e => by
    rcases hrow with hr | hr
    · rw [hr] at e; cases e
    · rw [hr] at e
      exact hb k v hk hv e.symm
  have same : ∀ b, b < W.heap.size → Want.Off W (g + 1) b → b ≠ g + 1 → (V.setCell ⟨g + 1, k, none⟩ v').heap[b]? = W.heap[b]? := fun b hb hof hne => (Below.heap_setCell _ _ _ b hne).trans (hg.block b hb (offr b hof))
  have hz : W.heap.size ≤ (V.setCell ⟨g + 1, k, none⟩ v').heap.size := by simp only [World.setCell, Array.size_modify]; exact hg.size
  have hl := h.k.bx.lt
  have po := fun {c : Nat} (ho : Want.Off W (g + 1) c) (hc : c < W.heap.size) => h.t.putOff hk hv hg hrow hat ho hc
  refine ⟨⟨h.k.bx.same (same g hl h.o3 (by omega)) hz, h.k.d.same2 (fun b off e hp => same b (h.offD b off e hp).2.1 (h.offD b off e hp).1 (h.offD b off e hp).2.2.2.1) hz, h.k.t.same2 (fun b off e hp => same b (h.offT b off e hp).2.1 (h.offT b off e hp).1 (h.offT b off e hp).2.2.2.1) hz, h.k.low, (h.k.below.grown hg h.k.below.size base).setCell (by have := h.k.low; show _ ≤ g + 1; omega) _⟩, h.t.put hk hv hg hrow ho hat, h.f.same (same _ h.f.lt h.o5 (by omega)) hz, h.u.same (same _ h.u.lt h.o6 (by omega)) hz, fun b off e hp => ⟨po (h.offD b off e hp).1 (h.offD b off e hp).2.1, Nat.lt_of_lt_of_le (h.offD b off e hp).2.1 hz, (h.offD b off e hp).2.2⟩, fun b off e hp => ⟨po (h.offT b off e hp).1 (h.offT b off e hp).2.1, Nat.lt_of_lt_of_le (h.offT b off e hp).2.1 hz, (h.offT b off e hp).2.2⟩, po h.o3 hl, po h.o5 h.f.lt, po h.o6 h.u.lt⟩
/-- A name is defined, a class is used. -/
theorem TellsAt.mark (h : TellsAt w W g da dl dc wa wl wc D T df us) {k c : Nat} (hk : k < 6) (hc : c < 12) :
    TellsAt w ((W.setCell ⟨g + 2, k, none⟩ (.bool true)).setCell ⟨g + 3, c, none⟩ (.bool true)) g da dl dc wa wl wc D T (fun j => if j = k then true else df j) (fun j => if j = c then true else us j) := by
  have same : ∀ b, b ≠ g + 2 → b ≠ g + 3 → ((W.setCell ⟨g + 2, k, none⟩ (.bool true)).setCell ⟨g + 3, c, none⟩ (.bool true)).heap[b]? = W.heap[b]? := fun b h1 h2 => (Below.heap_setCell _ _ _ b h2).trans (Below.heap_setCell _ _ _ b h1)
  have hsz : ((W.setCell ⟨g + 2, k, none⟩ (.bool true)).setCell ⟨g + 3, c, none⟩ (.bool true)).heap.size = W.heap.size := by simp [World.setCell]
  have hz : W.heap.size ≤ ((W.setCell ⟨g + 2, k, none⟩ (.bool true)).setCell ⟨g + 3, c, none⟩ (.bool true)).heap.size := by omega
  have n1 : g + 2 ≠ g + 1 := by omega
  have n2 : g + 3 ≠ g + 1 := by omega
  have off : ∀ {x : Nat}, Want.Off W (g + 1) x → Want.Off ((W.setCell ⟨g + 2, k, none⟩ (.bool true)).setCell ⟨g + 3, c, none⟩ (.bool true)) (g + 1) x := fun ho => Want.farOff n2 (Want.farOff n1 ho)
  refine ⟨⟨h.k.bx.same (same g (by omega) (by omega)) hz, h.k.d.same2 (fun b off e hp => same b (h.offD b off e hp).2.2.2.2.1 (h.offD b off e hp).2.2.2.2.2) hz, h.k.t.same2 (fun b off e hp => same b (h.offT b off e hp).2.2.2.2.1 (h.offT b off e hp).2.2.2.2.2) hz, h.k.low, (h.k.below.setCell (by have := h.k.low; show _ ≤ g + 2; omega) _).setCell (by have := h.k.low; show _ ≤ g + 3; omega) _⟩, (h.t.far n1 h.o5 _).far n2 (Want.farOff n1 h.o6) _, (h.f.set hk).far (by omega) _, (h.u.far (b := g + 2) (o := k) (by omega) _).set hc, fun b off' e hp => ⟨off (h.offD b off' e hp).1, by rw [hsz]; exact (h.offD b off' e hp).2.1, (h.offD b off' e hp).2.2⟩, fun b off' e hp => ⟨off (h.offT b off' e hp).1, by rw [hsz]; exact (h.offT b off' e hp).2.1, (h.offT b off' e hp).2.2⟩, off h.o3, off h.o5, off h.o6⟩
end
end Go.Proofs.Ytioeagadhnnajaa
