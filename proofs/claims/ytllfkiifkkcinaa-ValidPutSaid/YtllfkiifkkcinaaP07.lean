/- Texts joined in build order: ForestMakeFn ForestNew ForestIter OrderKit ForestOrderMath. -/
import Derived.Test.YtllfkiifkkcinaaP06
import Derived.RangeFuncNested
import Derived.RangeFuncBound
import Derived.RangeFuncCalls
import Derived.RangeFuncLeaves
import Derived.RangeFuncBox
import Derived.Shelf.Abstract
import Derived.Shelf.RegionOpen
import Derived.WalkKit
import Derived.OwnWalkIn
import Derived.TacticsInMore
import Derived.LoopNIn
import Derived.LoopIn
import Derived.Test.YtllfkiifkkcinaaP02
/- Package forest's Make. -/
namespace Go.Proofs.Ytllfkiifkkcinaa
open Go.RowKit
attribute [local go_sem ↓] Go.wp_at_zero Go.wp_at_succ
theorem NodeRow.drew {w : World} {a : Option Addr} {len cap : Nat} {L : List NodeD} (h : NodeRow w a len cap L) : NodeRow w.drew a len cap L := h.below (Below.refl _ _).drew
theorem Copy.undrew {lo : Nat} {w W : World} {v : Value} {n : Nat} {M : List NodeD} {F : List Core} (h : Copy lo w.drew W v n M F) : Copy lo w W v n M F := ⟨h.own, h.hl, h.core, h.ok, h.away, (Below.refl _ _).drew.trans h.below⟩
abbrev zeroFB : Obj := .cells #[.slice none 0 0, .int .i64 0] 24
/-- A box of two cells that may be written. -/
structure Box2 (W : World) (g : Nat) (u v : Value) : Prop where
  lt : g < W.heap.size
  c0 : W.cell? ⟨g, 0, none⟩ = some u
  c1 : W.cell? ⟨g, 1, none⟩ = some v
  f0 : W.frozen? ⟨g, 0, none⟩ = false
  f1 : W.frozen? ⟨g, 1, none⟩ = false
theorem Box2.keep {W W2 : World} {g : Nat} {u v : Value} (h : Box2 W g u v) (hb : Below W.heap.size W W2) : Box2 W2 g u v :=
  ⟨Nat.lt_of_lt_of_le h.lt hb.size, (hb.cell (p := ⟨g, 0, none⟩) h.lt).trans h.c0, (hb.cell (p := ⟨g, 1, none⟩) h.lt).trans h.c1, (hb.frozen (p := ⟨g, 0, none⟩) h.lt).trans h.f0, (hb.frozen (p := ⟨g, 1, none⟩) h.lt).trans h.f1⟩
theorem Box2.new (W : World) (u v : Value) (t : TypeId) : Box2 (W.alloc (.cells #[u, v] t)) W.heap.size u v :=
  ⟨by simp, cell_of_row _ _ 0 _ t (0, 0) (heap_alloc_new W _), cell_of_row _ _ 1 _ t (0, 0) (heap_alloc_new W _), row_free (heap_alloc_new W (.cells #[u, v] t)) 0, row_free (heap_alloc_new W (.cells #[u, v] t)) 1⟩
/-- Behind an append onto another row. -/
theorem Box2.grown {W W2 : World} {g : Nat} {u v : Value} {row : Option Nat} (h : Box2 W g u v) (hg : W.grownBy W2 row) (hne : some g ≠ row) : Box2 W2 g u v := by
  have e := hg.block g h.lt hne
  exact ⟨Nat.lt_of_lt_of_le h.lt hg.size, (World.cell?_of_block (a := ⟨g, 0, none⟩) e).trans h.c0, (World.cell?_of_block (a := ⟨g, 1, none⟩) e).trans h.c1, (World.frozen?_of_block (a := ⟨g, 0, none⟩) e).trans h.f0, (World.frozen?_of_block (a := ⟨g, 1, none⟩) e).trans h.f1⟩
/-- The three boxes that Make begins with. -/
structure MakeSt (w W : World) (a : Option Addr) (len cap : Nat) (m : Int) (L : List NodeD) (x : NodeD) : Prop where
  box : Box w W w.heap.size a len cap m L (coreL L)
  node : NBox w W (w.heap.size + 1) x
  res : Box2 W (w.heap.size + 2) (.slice none 0 0) (.int .i64 0)
theorem MakeSt.keep {w W W2 : World} {a : Option Addr} {len cap : Nat} {m : Int} {L : List NodeD} {x : NodeD} (h : MakeSt w W a len cap m L x) (hb : Below W.heap.size W W2) : MakeSt w W2 a len cap m L x := ⟨h.box.keep hb, h.node.keep hb, h.res.keep hb⟩
theorem MakeSt.start {w : World} {a : Option Addr} {len cap : Nat} {m : Int} {L : List NodeD} {x : NodeD} (h : NodeRow w a len cap L) (hx : NodeOk w x) : MakeSt w (((w.alloc (forB a len cap m)).alloc (nodB x)).alloc zeroFB) a len cap m L x := by
  refine ⟨((Box.start h).keep (below_box _ _)).keep (below_box _ _), (NBox.next hx).keep (below_box _ _), ?_⟩
  have := Box2.new ((w.alloc (forB a len cap m)).alloc (nodB x)) (.slice none 0 0) (.int .i64 0) 24
  rwa [show ((w.alloc (forB a len cap m)).alloc (nodB x)).heap.size = w.heap.size + 2 by simp] at this
/-- A store into a box that lies away from the copy. -/
theorem own_boxCell {w : World} {base : Nat} {e : TypeId} {size n g o : Nat} {v : Value} {xs : List Value} (h : w.ownsRow base e size v n xs) (hne : v.ownBlock ≠ some g) (u : Value) : (w.setCell ⟨g, o, none⟩ u).ownsRow base e size v n xs := by
  refine ⟨h.1, ?_⟩
  rcases h.2 with h0 | ⟨g', cap, cur, hv, hb, hg', h3⟩
  · exact .inl h0
  · refine .inr ⟨g', cap, cur, hv, hb, (Below.heap_setCell _ _ _ g' (fun e => hne ?_)).trans hg', h3⟩
    have e2 : g' = g := e
    rw [hv, ← e2]
    rfl
theorem Copy.boxCell {lo : Nat} {w W : World} {v : Value} {n : Nat} {M : List NodeD} {F : List Core} (h : Copy lo w W v n M F) {g o : Nat} (hne : v.ownBlock ≠ some g) (haw : ∀ x ∈ M, NodeAway g x) (hb : ∀ u, Below w.heap.size w (W.setCell ⟨g, o, none⟩ u)) (u : Value) : Copy lo w (W.setCell ⟨g, o, none⟩ u) v n M F :=
  ⟨own_boxCell h.own hne u, h.hl, h.core, fun x hx => (h.ok x hx).setCell (haw x hx) u, h.away, hb u⟩
/-- Behind the first line: the copy, in its box. -/
structure MakeCp (w w0 W : World) (len : Nat) (m : Int) (F : List Core) (q : Nat) (v : Value) (M : List NodeD) : Prop where
  copy : Copy w0.heap.size w0 W v len M F
  g : Box2 W q v (.int .i64 m)
  low : w0.heap.size ≤ q
  ne : v.ownBlock ≠ some q
  aq : ∀ y ∈ M, NodeAway q y
  ar : ∀ y ∈ M, NodeAway (w.heap.size + 2) y
theorem MakeCp.keep {w w0 W W2 : World} {len : Nat} {m : Int} {F : List Core} {q : Nat} {v : Value} {M : List NodeD} (h : MakeCp w w0 W len m F q v M) (hb : Below W.heap.size W W2) : MakeCp w w0 W2 len m F q v M :=
  ⟨h.copy.keep hb, h.g.keep hb, h.low, h.ne, h.aq, h.ar⟩
theorem Box2.set {W : World} {g : Nat} {u v : Value} (h : Box2 W g u v) (u2 v2 : Value) : Box2 ((W.setCell ⟨g, 0, none⟩ u2).setCell ⟨g, 1, none⟩ v2) g u2 v2 := by
  have e1 : (W.setCell ⟨g, 0, none⟩ u2).cell? ⟨g, 1, none⟩ = some v := by rw [World.cell?_setCell_other _ _ _ _ (fun e => by injection e with _ e; exact absurd e (by decide))]; exact h.c1
  refine ⟨by simpa [World.setCell] using h.lt, ?_, World.cell?_setCell_same _ _ _ e1, by rw [World.frozen?_setCell, World.frozen?_setCell]; exact h.f0, by rw [World.frozen?_setCell, World.frozen?_setCell]; exact h.f1⟩
  rw [World.cell?_setCell_other _ _ _ _ (fun e => by injection e with _ e; exact absurd e (by decide))]
  exact World.cell?_setCell_same _ _ _ h.c0
theorem own_not {w : World} {base : Nat} {e : TypeId} {size n g : Nat} {v : Value} {xs : List Value} (h : w.ownsRow base e size v n xs) (hg : g < base) : v.ownBlock ≠ some g := fun e => by
  have := (h.lt g e).1
  omega
theorem own_notNew {w : World} {base : Nat} {e : TypeId} {size n : Nat} {v : Value} {xs : List Value} (h : w.ownsRow base e size v n xs) : v.ownBlock ≠ some w.heap.size := fun e => by
  have := (h.lt _ e).2
  omega
theorem MakeCp.wayA {w w0 w1 : World} {len : Nat} {m : Int} {F : List Core} {v : Value} {M : List NodeD} (hsz : w.heap.size + 3 = w0.heap.size)
    (CP : Copy (w0.alloc zeroFB).heap.size (w0.alloc zeroFB) w1 v len M F) (NL : ∀ x ∈ M, newLists (w0.alloc zeroFB).drew.heap.size x) (GB : Box2 w1 w0.heap.size (.slice none 0 0) (.int .i64 0)) :
    MakeCp w w0 ((w1.setCell ⟨w0.heap.size, 0, none⟩ v).setCell ⟨w0.heap.size, 1, none⟩ (.int .i64 m)) len m F w0.heap.size v M := by
  have hs : (w0.alloc zeroFB).drew.heap.size = w0.heap.size + 1 := by simp
  have hs2 : (w0.alloc zeroFB).heap.size = w0.heap.size + 1 := by simp
  have hne : v.ownBlock ≠ some w0.heap.size := own_not CP.own (by rw [hs2]; omega)
  have haq : ∀ y ∈ M, NodeAway w0.heap.size y := fun y hy => (NL y hy).away (by rw [hs]; omega)
  have hb : Below w0.heap.size w0 w1 := (below_box w0 _).trans (CP.below.mono (by rw [hs2]; omega))
  refine ⟨⟨own_base (own_boxCell (own_boxCell CP.own hne _) hne _) (by rw [hs2]; omega), CP.hl, CP.core, fun x hx => ((CP.ok x hx).setCell (haq x hx) _).setCell (haq x hx) _, fun g hg => ?_, (hb.setCell (p := ⟨w0.heap.size, 0, none⟩) (Nat.le_refl _) _).setCell (p := ⟨w0.heap.size, 1, none⟩) (Nat.le_refl _) _⟩, GB.set _ _, Nat.le_refl _, hne, haq, fun y hy => (NL y hy).away (by rw [hs]; omega)⟩
  rcases hg with hg | hg
  · omega
  · exact CP.away g (.inr hg)
theorem MakeCp.wayB {w w0 w1 : World} {len : Nat} {m : Int} {F : List Core} {v : Value} {M : List NodeD} (hsz : w.heap.size + 3 = w0.heap.size)
    (CP : Copy w0.heap.size w0 w1 v len M F) (NL : ∀ x ∈ M, newLists w0.drew.heap.size x) :
    MakeCp w w0 (w1.alloc (.cells #[v, .int .i64 m] 24)) len m F w1.heap.size v M := by
  have hs : w0.drew.heap.size = w0.heap.size := rfl
  exact ⟨CP.keep (below_box _ _), Box2.new _ _ _ _, CP.below.size, own_notNew CP.own, fun y hy => (CP.ok y hy).away (Nat.le_refl _), fun y hy => (NL y hy).away (by rw [hs]; omega)⟩
/-- The copy is answered: two stores into the result's box. -/
theorem MakeCp.finish {w w0 W : World} {len : Nat} {m : Int} {F : List Core} {q : Nat} {v : Value} {M : List NodeD} (h : MakeCp w w0 W len m F q v M) (hsz : w.heap.size + 3 = w0.heap.size) (hb : Below w.heap.size w w0) (u1 u2 : Value) :
    ∃ a cap, v = .slice a len cap ∧ NodeRow ((W.setCell ⟨w.heap.size + 2, 0, none⟩ u1).setCell ⟨w.heap.size + 2, 1, none⟩ u2) a len cap M ∧ coreL M = F ∧ Below w.heap.size w ((W.setCell ⟨w.heap.size + 2, 0, none⟩ u1).setCell ⟨w.heap.size + 2, 1, none⟩ u2) := by
  have hne : v.ownBlock ≠ some (w.heap.size + 2) := own_not h.copy.own (by omega)
  have c2 : Copy w.heap.size w ((W.setCell ⟨w.heap.size + 2, 0, none⟩ u1).setCell ⟨w.heap.size + 2, 1, none⟩ u2) v len M F :=
    ⟨own_base (own_boxCell (own_boxCell h.copy.own hne _) hne _) hb.size, h.copy.hl, h.copy.core, fun x hx => ((h.copy.ok x hx).setCell (h.ar x hx) _).setCell (h.ar x hx) _, fun g hg => by
      rcases hg with hg | hg
      · omega
      · exact h.copy.away g (.inr hg), ((hb.trans (h.copy.below.mono hb.size)).setCell (p := ⟨w.heap.size + 2, 0, none⟩) (by show w.heap.size ≤ w.heap.size + 2; omega) _).setCell (p := ⟨w.heap.size + 2, 1, none⟩) (by show w.heap.size ≤ w.heap.size + 2; omega) _⟩
  obtain ⟨a, cap, hv, hr, _⟩ := c2.row
  exact ⟨a, cap, hv, hr, h.copy.core, c2.below⟩
theorem SRow.grown {α : Type} {enc : α → List Value} {size : Nat} {w w' : World} {a : Option Addr} {len cap : Nat} {L : List α} {row : Option Nat} (h : SRow enc size w a len cap L) (hg : w.grownBy w' row) (hne : ∀ b off, a = some ⟨b, off, none⟩ → 0 < len → some b ≠ row) : SRow enc size w' a len cap L :=
  h.keep hg.size (fun b off ha hp o => by
    rcases h.cells with h0 | ⟨b', off', ha', hlt, _⟩
    · omega
    · rw [ha] at ha'
      injection ha' with ha'
      injection ha' with e1
      subst e1
      exact World.cell?_of_block (a := ⟨b, o, none⟩) (hg.block b hlt (hne b off ha hp)))
theorem NodeOk.grown {w w' : World} {x : NodeD} {row : Option Nat} (h : NodeOk w x) (hg : w.grownBy w' row) (ha : ∀ g, row = some g → NodeAway g x) : NodeOk w' x :=
  ⟨⟨h.attrs.row.grown hg (fun b off he hp e => (ha b e.symm).1 b off he hp rfl), h.attrs.small, h.attrs.hnil⟩, ⟨h.kids.row.grown hg (fun b off he hp e => (ha b e.symm).2 b off he hp rfl), h.kids.inb, h.kids.hnil⟩, h.name, h.is, h.data, h.kind, h.parent, h.host, h.under, h.doc⟩
/-- Behind the append: the copy as it was. -/
theorem MakeCp.grown {w w0 W W2 : World} {len : Nat} {m : Int} {F : List Core} {q : Nat} {v : Value} {M : List NodeD} (h : MakeCp w w0 W len m F q v M) (hg : W.grownBy W2 v.ownBlock) (ho : W2.ownsRow w0.heap.size 28 10 v len (M.flatMap encN)) : MakeCp w w0 W2 len m F q v M :=
  ⟨⟨ho, h.copy.hl, h.copy.core, fun x hx => (h.copy.ok x hx).grown hg (fun g e => h.copy.away g (.inr e) x hx), h.copy.away, h.copy.below.grown hg h.copy.below.size (fun k e => (h.copy.own.lt k e).1)⟩, h.g.grown hg (fun e => h.ne e.symm), h.low, h.ne, h.aq, h.ar⟩
/-- The row with a node more. -/
structure NewRow (w w0 W : World) (len : Nat) (q g cap : Nat) (M : List NodeD) (y : NodeD) : Prop where
  own : W.ownsRow w0.heap.size 28 10 (.slice (some ⟨g, 0, none⟩) (len + 1) cap) (len + 1) ((M ++ [y]).flatMap encN)
  hl : M.length = len
  ok : ∀ z ∈ M ++ [y], NodeOk W z
  nq : g ≠ q
  aq : ∀ z ∈ M ++ [y], NodeAway q z
  ar : ∀ z ∈ M ++ [y], NodeAway (w.heap.size + 2) z
theorem NewRow.keep {w w0 W W2 : World} {len q g cap : Nat} {M : List NodeD} {y : NodeD} (h : NewRow w w0 W len q g cap M y) (hb : Below W.heap.size W W2) : NewRow w w0 W2 len q g cap M y :=
  ⟨own_below h.own hb, h.hl, fun z hz => (h.ok z hz).below hb, h.nq, h.aq, h.ar⟩
theorem NewRow.row {w w0 W : World} {len q g cap : Nat} {M : List NodeD} {y : NodeD} (h : NewRow w w0 W len q g cap M y) : NodeRow W (some ⟨g, 0, none⟩) (len + 1) cap (M ++ [y]) := by
  obtain ⟨a, cap', he, hr, _⟩ := SRow.of_own (L := M ++ [y]) (fun x _ => encN_len x) (by rw [List.length_append, h.hl]; rfl) h.own
  injection he with h1 h2 h3
  subst h1; subst h3
  exact ⟨hr, h.ok, fun h => by cases h⟩
theorem NewRow.new {w w0 W W2 : World} {len : Nat} {m : Int} {F : List Core} {q g cap : Nat} {v : Value} {M : List NodeD} {y : NodeD} (h : MakeCp w w0 W len m F q v M) (hy : NodeOk W y) {B : Nat} (hya : ∀ b off, y.aA = some ⟨b, off, none⟩ → B ≤ b) (hyk : y.kA = none) (hqB : q < B) (hvB : ∀ k, v.ownBlock = some k → k < B) (hsz : w.heap.size + 3 = w0.heap.size)
    (ho : W2.ownsRow w0.heap.size 28 10 (.slice (some ⟨g, 0, none⟩) (len + 1) cap) (len + 1) (M.flatMap encN ++ encN y)) (hg : W.grownBy W2 v.ownBlock) (hat : v.ownBlock = some g ∨ g = W.heap.size) : NewRow w w0 W2 len q g cap M y := by
  have away : ∀ k, k < B → NodeAway k y := fun k hk => ⟨fun b off hb _ e => by have := hya b off hb; omega, fun b off hb => by rw [hyk] at hb; cases hb⟩
  have hlow := h.low
  refine ⟨by simpa using ho, h.copy.hl, fun z hz => ?_, ?_, fun z hz => ?_, fun z hz => ?_⟩
  · rcases List.mem_append.1 hz with hz | hz
    · exact (h.copy.ok z hz).grown hg (fun k e => h.copy.away k (.inr e) z hz)
    · obtain rfl : z = y := by simpa using hz
      exact hy.grown hg (fun k e => away k (hvB k e))
  · rcases hat with hat | hat
    · intro e
      exact h.ne (by rw [hat, e])
    · have := h.g.lt
      omega
  · rcases List.mem_append.1 hz with hz | hz
    · exact h.aq z hz
    · obtain rfl : z = y := by simpa using hz
      exact away q hqB
  · rcases List.mem_append.1 hz with hz | hz
    · exact h.ar z hz
    · obtain rfl : z = y := by simpa using hz
      exact away _ (by omega)
theorem NewRow.finish {w w0 W : World} {len q g cap : Nat} {M : List NodeD} {y : NodeD} (h : NewRow w w0 W len q g cap M y) (hsz : w.heap.size + 3 = w0.heap.size) (hq : w0.heap.size ≤ q) (hb : Below w.heap.size w w0) (hb2 : Below w0.heap.size w0 W) (u0 u1 u2 : Value) :
    NodeRow (((W.setCell ⟨q, 0, none⟩ u0).setCell ⟨w.heap.size + 2, 0, none⟩ u1).setCell ⟨w.heap.size + 2, 1, none⟩ u2) (some ⟨g, 0, none⟩) (len + 1) cap (M ++ [y]) ∧ Below w.heap.size w (((W.setCell ⟨q, 0, none⟩ u0).setCell ⟨w.heap.size + 2, 0, none⟩ u1).setCell ⟨w.heap.size + 2, 1, none⟩ u2) := by
  have n1 : (Value.slice (some ⟨g, 0, none⟩) (len + 1) cap).ownBlock ≠ some q := fun e => h.nq (by injection e)
  have n2 : (Value.slice (some ⟨g, 0, none⟩) (len + 1) cap).ownBlock ≠ some (w.heap.size + 2) := own_not h.own (by omega)
  have c2 : NewRow w w0 (((W.setCell ⟨q, 0, none⟩ u0).setCell ⟨w.heap.size + 2, 0, none⟩ u1).setCell ⟨w.heap.size + 2, 1, none⟩ u2) len q g cap M y :=
    ⟨own_boxCell (own_boxCell (own_boxCell h.own n1 _) n2 _) n2 _, h.hl, fun z hz => (((h.ok z hz).setCell (h.aq z hz) _).setCell (h.ar z hz) _).setCell (h.ar z hz) _, h.nq, h.aq, h.ar⟩
  exact ⟨c2.row, (((hb.trans (hb2.mono hb.size)).setCell (p := ⟨q, 0, none⟩) (by show w.heap.size ≤ q; omega) _).setCell (p := ⟨w.heap.size + 2, 0, none⟩) (by show w.heap.size ≤ w.heap.size + 2; omega) _).setCell (p := ⟨w.heap.size + 2, 1, none⟩) (by show w.heap.size ≤ w.heap.size + 2; omega) _⟩
theorem fit_bare (F : List Core) (x : Core) : fitsB (F ++ [bareC F x]) (F.length : Int) (bareC F x) = (x.kind != 4 && nodeOk (F ++ [bareC F x]) F.length (bareC F x)) := by
  have hk : (bareC F x).kids = [] := rfl
  have hkind : (bareC F x).kind = x.kind := rfl
  by_cases k4 : x.kind = 4
  · have e1 : (x.kind != 4) = false := by rw [k4]; rfl
    rw [e1, Bool.false_and]
    cases hq : fitsB (F ++ [bareC F x]) (F.length : Int) (bareC F x) with
    | false => rfl
    | true =>
      have h5 := (fitsB_iff.1 hq).2.2.2.2
      unfold shadowB at h5
      rw [hkind, if_pos k4, Bool.and_eq_true] at h5
      have : getC (F ++ [bareC F x]) (bareC F x).host = none := getC_not (.inl (show (-1 : Int) < 0 by decide))
      unfold hostB at h5
      rw [this] at h5
      cases h5.1
  · have e1 : (x.kind != 4) = true := bne_iff_ne.2 k4
    rw [e1, Bool.true_and, Bool.eq_iff_iff, fitsB_iff, nodeOk_iff]
    have hs : ∀ G i, shadowB G i (bareC F x) = true := fun G i => by
      unfold shadowB
      rw [hkind, if_neg k4]
      by_cases k1 : x.kind = 1
      · rw [if_pos k1]; rfl
      · rw [if_neg k1]; rfl
    have kidsB' : ∀ k ∈ (bareC F x).kids, kidB (F ++ [bareC F x]) (F.length : Int) (bareC F x).doc k = true := fun k h => by rw [hk] at h; cases h
    have hp : parOk (F ++ [bareC F x]) F.length (bareC F x) = true := rfl
    constructor
    · rintro ⟨h1, h2, h3, h4, h5⟩
      have hkk := fields_kind h1
      exact ⟨by rw [doc_eq hkk]; exact h2, hp, (fun k h => by rw [hk] at h; cases h), by rw [shape_eq kidsB']; exact h4, by rw [shadow_eq]; exact h5, by rw [fields_eq hkk]; exact h1⟩
    · rintro ⟨h1, h2, h3, h4, h5, h6⟩
      have hkk : 0 ≤ (bareC F x).kind ∧ (bareC F x).kind ≤ 4 := by
        unfold docOk at h1
        simp only [Bool.and_eq_true, decide_eq_true_eq] at h1
        exact ⟨h1.1.1.1, h1.1.1.2⟩
      exact ⟨by rw [← fields_eq hkk]; exact h6, by rw [← doc_eq hkk]; exact h1, kidsB', by rw [← shape_eq kidsB']; exact h4, hs _ _⟩
set_option maxHeartbeats 16000000 in
set_option maxRecDepth 100000 in
theorem makeFn_any (a : Option Addr) (len cap : Nat) (m : Int) (L : List NodeD) (x : NodeD) (w : World) (h : NodeRow w a len cap L) (hx : NodeOk w x) (hm : In64 m) (hs : smallF L) (hsx : smallX x) :
    Calls Try.prog 18 #[forV a len cap m, nodVal x] w (ForPost w (makeL m (coreL L) x.core) m [.int .i64 (makeN m (coreL L) x.core), .int .i64 (makeE m (coreL L) x.core)]) := by
  have HL := Lib.hid h.hlen
  have HCL : Hid ((coreL L).length = len) := Lib.hid (by rw [coreL_len, HL.out])
  have hlen : len ≤ 1000 := by rw [← h.hlen]; exact hs.1
  obtain ⟨w0, hw0, hsz, ST⟩ : ∃ w0, ((w.alloc (forB a len cap m)).alloc (nodB x)).alloc zeroFB = w0 ∧ w.heap.size + 3 = w0.heap.size ∧ MakeSt w w0 a len cap m L x := ⟨_, rfl, by simp, MakeSt.start h hx⟩
  have ST := Lib.hid ST
  have ST0 := ST
  have HW := Lib.hid hw0
  have HSZ := Lib.hid hsz
  have HM := Lib.hid hm
  have HS := Lib.hid hs
  have HSX := Lib.hid hsx
  have CC : Hid (∀ W, NodeRow W a len cap L → Calls Try.prog 58 #[forV a len cap m] W (CopyPost W len (coreL L) m)) := Lib.hid (fun W h => cloneF_any a len cap m L W h HS.out)
  have HXD : Hid (x.core.data.size ≤ 9223372036854775807) := Lib.hid (by have := hx.data; unfold maxLen at this; omega)
  clear h hx hm hs hsx hw0 hsz
  have z0 := ST.out.box.c0
  have z1 := ST.out.box.c1
  cases hr : rightF m (coreL L) with
  | false =>
    have CR : Hid (∀ W, NodeRow W a len cap L → Calls Try.prog 19 #[forV a len cap m] W fun e w' => e = .returned (.bool false) ∧ Below W.heap.size W w') := Lib.hid (fun W h => by
      rw [← hr]
      exact rightF_any a len cap m L W h HM.out HS.out)
    have HE : Hid (makeE m (coreL L) x.core = 1) := Lib.hid (by unfold makeE; rw [hr]; rfl)
    have HN : Hid (makeL m (coreL L) x.core = coreL L ∧ makeN m (coreL L) x.core = -1) := Lib.hid (make_not (by rw [HE.out]; decide))
    clear hr
    rw [HE.out, HN.out.1, HN.out.2]
    go_enter Try.func18, Try.ntmps18
    go_wp2
    rw [HW.out]
    have hne1 : w0.heap.size ≠ w.heap.size := by have := HSZ.out; omega
    have hne2 : w.heap.size ≠ w0.heap.size := by have := HSZ.out; omega
    go_region_held3 (fun w' => w'.cell? ⟨w.heap.size, 0, none⟩ = some (.slice a len cap) ∧ w'.cell? ⟨w.heap.size, 1, none⟩ = some (.int .i64 m)) (go_keep)
      (first | (go_at_call 58; (first | refine (CC.out _ ST.out.box.row.drew).mono ?_ | refine (CC.out _ (ST.out.keep (below_box _ _)).box.row.drew).mono ?_); intro e w1 hp; obtain ⟨v, M, rfl, hcp, hnl⟩ := hp; obtain ⟨a2, cap2, rfl, -, -⟩ := hcp.row; have CP := Lib.hid (Copy.undrew hcp); have NL := Lib.hid hnl; (first | have ST := Lib.hid (ST.out.keep ((Below.refl _ _).drew.trans hcp.below)) | have ST := Lib.hid ((ST.out.keep (below_box _ _)).keep ((Below.refl _ _).drew.trans hcp.below))); have z0 := ST.out.box.c0; have z1 := ST.out.box.c1; have hne3 : w1.heap.size ≠ w.heap.size := Nat.ne_of_gt ST.out.box.lt; have hne4 : w.heap.size ≠ w1.heap.size := Nat.ne_of_lt ST.out.box.lt; (first | (have GB := Lib.hid ((Box2.new w0 (.slice none 0 0) (.int .i64 0) 24).keep ((Below.refl _ _).drew.trans hcp.below)); have q0 := GB.out.c0; have q1 := GB.out.c1; have r0 := GB.out.f0; have r1 := GB.out.f1) | skip); clear hcp hnl))
    all_goals
      (first | have MC := Lib.hid (MakeCp.wayA (m := m) HSZ.out CP.out NL.out GB.out) | have MC := Lib.hid (MakeCp.wayB (m := m) HSZ.out CP.out NL.out))
      clear CP NL ST z0 z1
      have d0 := MC.out.g.c0
      have d1 := MC.out.g.c1
      go_wp2_with (go_at_call 19; refine (CR.out _ (ST0.out.keep MC.out.copy.below).box.row).mono ?_; rintro e w2 ⟨rfl, hb⟩; have MC := Lib.hid (MC.out.keep hb); have d0 := MC.out.g.c0; have d1 := MC.out.g.c1; have ST := Lib.hid (ST0.out.keep MC.out.copy.below); have e0 := ST.out.res.c0; have e1 := ST.out.res.c1; have g0 := ST.out.res.f0; have g1 := ST.out.res.f1; clear hb)
      obtain ⟨a3, cap3, hv3, hr3, hc3, hb3⟩ := MC.out.finish HSZ.out ST0.out.box.below (.slice a2 len cap2) (.int .i64 m)
      injection hv3 with h1 h2 h3
      subst h1 h3
      refine bodyPost_ret (v := .tuple #[forV a2 len cap2 m, .int .i64 (-1), .int .i64 1]) ?_ rfl ⟨a2, len, cap2, M, rfl, hr3, hc3, hb3⟩
      simp [results, Try.results18, go_sem, e0, e1]
  | true =>
    have CR : Hid (∀ W, NodeRow W a len cap L → Calls Try.prog 19 #[forV a len cap m] W fun e w' => e = .returned (.bool true) ∧ Below W.heap.size W w') := Lib.hid (fun W h => by
      rw [← hr]
      exact rightF_any a len cap m L W h HM.out HS.out)
    have hrm := right_most hr
    rw [HCL.out] at hrm
    have HB : Hid (bareC (coreL L) x.core = aloneC x.core len) := Lib.hid (by unfold bareC aloneC; rw [HCL.out])
    have HE : Hid (makeE m (coreL L) x.core = if fitsB (coreL L ++ [bareC (coreL L) x.core]) (len : Int) (bareC (coreL L) x.core) then (if m ≤ (len : Int) then 8 else 0) else 1) := Lib.hid (by
      have := fit_bare (coreL L) x.core
      rw [HCL.out] at this
      unfold makeE
      rw [hr, Bool.true_and, HCL.out, this])
    clear hr
    obtain ⟨E, hE⟩ : ∃ E, makeE m (coreL L) x.core = E := ⟨_, rfl⟩
    have HEE := Lib.hid hE
    clear hE
    obtain ⟨i0, hi0, hz0, hz1, hz2⟩ := info_parts node_info
    have CA : Hid (∀ W, NodeOk W x → Calls Try.prog 57 #[nodVal x, .int .i64 len] W (AlonePost W x.core len)) := Lib.hid (fun W h => alone_any x len W h ⟨by omega, by omega⟩ HSX.out.1)
    go_enter Try.func18, Try.ntmps18
    go_wp2
    rw [HW.out]
    have hne1 : w0.heap.size ≠ w.heap.size := by have := HSZ.out; omega
    have hne2 : w.heap.size ≠ w0.heap.size := by have := HSZ.out; omega
    go_region_held3 (fun w' => w'.cell? ⟨w.heap.size, 0, none⟩ = some (.slice a len cap) ∧ w'.cell? ⟨w.heap.size, 1, none⟩ = some (.int .i64 m)) (go_keep)
      (first | (go_at_call 58; (first | refine (CC.out _ ST.out.box.row.drew).mono ?_ | refine (CC.out _ (ST.out.keep (below_box _ _)).box.row.drew).mono ?_); intro e w1 hp; obtain ⟨v, M, rfl, hcp, hnl⟩ := hp; obtain ⟨a2, cap2, rfl, -, -⟩ := hcp.row; have CP := Lib.hid (Copy.undrew hcp); have NL := Lib.hid hnl; (first | have ST := Lib.hid (ST.out.keep ((Below.refl _ _).drew.trans hcp.below)) | have ST := Lib.hid ((ST.out.keep (below_box _ _)).keep ((Below.refl _ _).drew.trans hcp.below))); have z0 := ST.out.box.c0; have z1 := ST.out.box.c1; have hne3 : w1.heap.size ≠ w.heap.size := Nat.ne_of_gt ST.out.box.lt; have hne4 : w.heap.size ≠ w1.heap.size := Nat.ne_of_lt ST.out.box.lt; (first | (have GB := Lib.hid ((Box2.new w0 (.slice none 0 0) (.int .i64 0) 24).keep ((Below.refl _ _).drew.trans hcp.below)); have q0 := GB.out.c0; have q1 := GB.out.c1; have r0 := GB.out.f0; have r1 := GB.out.f1) | skip); clear hcp hnl))
    · have MC := Lib.hid (MakeCp.wayB (m := m) HSZ.out CP.out NL.out)
      have HNQ : Hid (w1.heap.size ≠ w.heap.size + 2) := Lib.hid (by have h1 := MC.out.low; have h2 := HSZ.out; omega)
      (
        clear CP NL ST z0 z1
        have d0 := MC.out.g.c0
        have d1 := MC.out.g.c1
        go_wp2_with (go_at_call 19; refine (CR.out _ (ST0.out.keep MC.out.copy.below).box.row).mono ?_; rintro e w2 ⟨rfl, hb⟩; have MC := Lib.hid (MC.out.keep hb); have d0 := MC.out.g.c0; have d1 := MC.out.g.c1; have ST := Lib.hid (ST0.out.keep MC.out.copy.below); clear hb)
        obtain ⟨-, x0, x1, x2, x3, x4, x5, x6, x7, x8, x9, -⟩ := ST.out.node
        have hxd : x.core.data.size ≤ 9223372036854775807 := HXD.out
        go_region_held3 (fun w' => w'.cell? ⟨w1.heap.size, 0, none⟩ = some (.slice a2 len cap2) ∧ w'.cell? ⟨w.heap.size + 1, 0, none⟩ = some (.int .i64 x.core.kind) ∧ w'.cell? ⟨w.heap.size + 1, 1, none⟩ = some (.string x.core.name) ∧ w'.cell? ⟨w.heap.size + 1, 2, none⟩ = some (.string x.core.is) ∧ w'.cell? ⟨w.heap.size + 1, 3, none⟩ = some (.string x.core.data) ∧ w'.cell? ⟨w.heap.size + 1, 4, none⟩ = some (.slice x.aA x.aN x.aC) ∧ w'.cell? ⟨w.heap.size + 1, 5, none⟩ = some (.int .i64 x.core.parent) ∧ w'.cell? ⟨w.heap.size + 1, 6, none⟩ = some (.slice x.kA x.kN x.kC) ∧ w'.cell? ⟨w.heap.size + 1, 7, none⟩ = some (.int .i64 x.core.host) ∧ w'.cell? ⟨w.heap.size + 1, 8, none⟩ = some (.int .i64 x.core.under) ∧ w'.cell? ⟨w.heap.size + 1, 9, none⟩ = some (.int .i64 x.core.doc)) (go_keep)
          (first
            | (go_at_call 57; refine (CA.out _ (ST.out.node.ok.below (Below.refl _ _).drew)).mono ?_; intro e w3 hp; obtain ⟨y, rfl, hyc, hyo, hb, hya, hyk⟩ := hp; have hb := (Below.refl _ _).drew.trans hb; have HY := Lib.hid hyo; have HYC := Lib.hid hyc; have HYA := Lib.hid hya; have HYK := Lib.hid hyk; have HQ := Lib.hid (show (w1.heap.size : Nat) < w2.heap.size from MC.out.g.lt); have HV := Lib.hid (fun k e => (MC.out.copy.own.lt k e).2); have MC := Lib.hid (MC.out.keep hb); have d0 := MC.out.g.c0; have d1 := MC.out.g.c1; have ST := Lib.hid (ST.out.keep hb); obtain ⟨-, x0, x1, x2, x3, x4, x5, x6, x7, x8, x9, -⟩ := ST.out.node; have MC1 := Lib.hid (MC.out.keep (below_box w3 (nodB y))); have HY1 := Lib.hid (HY.out.below (below_box w3 (nodB y))); have NW := Lib.hid (World.news_of_block (heap_alloc_new w3 (nodB y))); clear hb hyo hyc hya hyk)
            | (refine step_append_keep (by rfl) _ _ _ (by rfl) w0.heap.size 28 i0 _ 10 136 Try.underlying22 hi0 hz0 hz1 hz2 (by rfl) (by decide) _ len (M.flatMap encN) (by rfl) MC1.out.copy.own ⟨w3.heap.size, 0, none⟩ 1 1 (encN y) (by rfl) (by rfl) NW.out (encN_one y) (by decide) (by unfold maxLen; omega) (by omega) MC1.out.copy.below.size ?_; intro g cap w4 hown1 hold hgrow hat hlt; have NR := Lib.hid (NewRow.new MC1.out HY1.out HYA.out HYK.out HQ.out HV.out HSZ.out hown1 hgrow hat); have MC := Lib.hid (MC1.out.grown hgrow hold); have ST := Lib.hid (ST0.out.keep MC.out.copy.below); have d0 := MC.out.g.c0; have d1 := MC.out.g.c1; obtain ⟨-, x0, x1, x2, x3, x4, x5, x6, x7, x8, x9, -⟩ := ST.out.node; clear hown1 hold hgrow hat hlt))
        clear x0 x1 x2 x3 x4 x5 x6 x7 x8 x9
        have HCM : Hid (coreL (M ++ [y]) = coreL L ++ [bareC (coreL L) x.core]) := Lib.hid (by
          unfold coreL
          rw [List.map_append]
          have h1 := MC.out.copy.core
          unfold coreL at h1
          rw [h1, List.map_cons, List.map_nil, HYC.out, ← HB.out]
          rfl)
        have CF : Hid (∀ W, NodeRow W (some ⟨g, 0, none⟩) (len + 1) cap (M ++ [y]) → Calls Try.prog 59 #[.slice (some ⟨g, 0, none⟩) (len + 1) cap, .int .i64 len] W fun e w' => e = .returned (.bool (fitsB (coreL L ++ [bareC (coreL L) x.core]) (len : Int) (bareC (coreL L) x.core))) ∧ Below W.heap.size W w') := Lib.hid (fun W h => by
          have hg : (M ++ [y])[len]? = some y := by rw [← NR.out.hl, List.getElem?_append_right (Nat.le_refl _), Nat.sub_self]; rfl
          have := fits_any (some ⟨g, 0, none⟩) (len + 1) cap (M ++ [y]) len y W h hg
          rw [HCM.out, HYC.out, ← HB.out] at this
          exact this)
        cases hB : fitsB (coreL L ++ [bareC (coreL L) x.core]) (len : Int) (bareC (coreL L) x.core) with
        | false =>
          rw [hB] at CF
          have HE1 : Hid (makeE m (coreL L) x.core = 1) := Lib.hid (by rw [HE.out, hB]; rfl)
          have HNN := Lib.hid (make_not (m := m) (F := coreL L) (x := x.core) (by rw [HE1.out]; decide))
          clear hB
          go_wp2_with (go_at_call 59; refine (CF.out _ NR.out.row).mono ?_; rintro e w5 ⟨rfl, hb⟩; have MC := Lib.hid (MC.out.keep hb); have NR := Lib.hid (NR.out.keep hb); have d0 := MC.out.g.c0; have d1 := MC.out.g.c1; have u0 := MC.out.g.f0; have ST := Lib.hid (ST0.out.keep MC.out.copy.below); have e0 := ST.out.res.c0; have e1 := ST.out.res.c1; have g0 := ST.out.res.f0; have g1 := ST.out.res.f1; have z1 := ST.out.box.c1; clear hb)
          rw [HE1.out, HNN.out.1, HNN.out.2]
          (
            obtain ⟨a3, cap3, hv3, hr3, hc3, hb3⟩ := MC.out.finish HSZ.out ST0.out.box.below (.slice a2 len cap2) (.int .i64 m)
            injection hv3 with h1 h2 h3
            subst h1 h3
            refine bodyPost_ret (v := .tuple #[forV a2 len cap2 m, .int .i64 (-1), .int .i64 1]) ?_ rfl ⟨a2, len, cap2, M, rfl, hr3, hc3, hb3⟩
            simp [results, Try.results18, go_sem, e0, e1])
        | true =>
          rw [hB] at CF
          by_cases hml : m ≤ (len : Int)
          · have HE1 : Hid (makeE m (coreL L) x.core = 8) := Lib.hid (by rw [HE.out, hB, if_pos rfl, if_pos hml])
            have HNN := Lib.hid (make_not (m := m) (F := coreL L) (x := x.core) (by rw [HE1.out]; decide))
            have hq1 : ((len : Int) == m) = true := beq_iff_eq.2 (by omega)
            clear hB
            go_wp2_with (go_at_call 59; refine (CF.out _ NR.out.row).mono ?_; rintro e w5 ⟨rfl, hb⟩; have MC := Lib.hid (MC.out.keep hb); have NR := Lib.hid (NR.out.keep hb); have d0 := MC.out.g.c0; have d1 := MC.out.g.c1; have u0 := MC.out.g.f0; have ST := Lib.hid (ST0.out.keep MC.out.copy.below); have e0 := ST.out.res.c0; have e1 := ST.out.res.c1; have g0 := ST.out.res.f0; have g1 := ST.out.res.f1; have z1 := ST.out.box.c1; clear hb)
            rw [HE1.out, HNN.out.1, HNN.out.2]
            (
              obtain ⟨a3, cap3, hv3, hr3, hc3, hb3⟩ := MC.out.finish HSZ.out ST0.out.box.below (.slice a2 len cap2) (.int .i64 m)
              injection hv3 with h1 h2 h3
              subst h1 h3
              refine bodyPost_ret (v := .tuple #[forV a2 len cap2 m, .int .i64 (-1), .int .i64 8]) ?_ rfl ⟨a2, len, cap2, M, rfl, hr3, hc3, hb3⟩
              simp [results, Try.results18, go_sem, e0, e1])
          · have HE1 : Hid (makeE m (coreL L) x.core = 0) := Lib.hid (by rw [HE.out, hB, if_pos rfl, if_neg hml])
            have HNN : Hid (makeL m (coreL L) x.core = coreL (M ++ [y]) ∧ makeN m (coreL L) x.core = len) := Lib.hid (by
              unfold makeL makeN
              rw [if_pos HE1.out, if_pos HE1.out, HCM.out, HCL.out]
              exact ⟨rfl, rfl⟩)
            have hq1 : ((len : Int) == m) = false := beq_eq_false_iff_ne.2 (by omega)
            clear hB
            have hnq1 := HNQ.out
            have hnq2 := HNQ.out.symm
            go_wp2_with (go_at_call 59; refine (CF.out _ NR.out.row).mono ?_; rintro e w5 ⟨rfl, hb⟩; have MC := Lib.hid (MC.out.keep hb); have NR := Lib.hid (NR.out.keep hb); have d0 := MC.out.g.c0; have d1 := MC.out.g.c1; have u0 := MC.out.g.f0; have ST := Lib.hid (ST0.out.keep MC.out.copy.below); have e0 := ST.out.res.c0; have e1 := ST.out.res.c1; have g0 := ST.out.res.f0; have g1 := ST.out.res.f1; have z1 := ST.out.box.c1; clear hb)
            rw [HE1.out, HNN.out.1, HNN.out.2]
            obtain ⟨hr3, hb3⟩ := NR.out.finish HSZ.out MC.out.low ST0.out.box.below MC.out.copy.below (.slice (some ⟨g, 0, none⟩) (len + 1) cap) (.slice (some ⟨g, 0, none⟩) (len + 1) cap) (.int .i64 m)
            have hfp : ForPost w (coreL (M ++ [y])) m [.int .i64 (len : Int), .int .i64 0] (.returned (.tuple #[forV (some ⟨g, 0, none⟩) (len + 1) cap m, .int .i64 (len : Int), .int .i64 0])) _ := ⟨_, _, cap, M ++ [y], rfl, hr3, rfl, hb3⟩
            refine bodyPost_ret (v := .tuple #[forV (some ⟨g, 0, none⟩) (len + 1) cap m, .int .i64 (len : Int), .int .i64 0]) ?_ rfl hfp
            simp [results, Try.results18, go_sem, e0, e1])
    · have MC := Lib.hid (MakeCp.wayA (m := m) HSZ.out CP.out NL.out GB.out)
      have HNQ : Hid (w0.heap.size ≠ w.heap.size + 2) := Lib.hid (by have h1 := MC.out.low; have h2 := HSZ.out; omega)
      (
        clear CP NL ST z0 z1
        have d0 := MC.out.g.c0
        have d1 := MC.out.g.c1
        go_wp2_with (go_at_call 19; refine (CR.out _ (ST0.out.keep MC.out.copy.below).box.row).mono ?_; rintro e w2 ⟨rfl, hb⟩; have MC := Lib.hid (MC.out.keep hb); have d0 := MC.out.g.c0; have d1 := MC.out.g.c1; have ST := Lib.hid (ST0.out.keep MC.out.copy.below); clear hb)
        obtain ⟨-, x0, x1, x2, x3, x4, x5, x6, x7, x8, x9, -⟩ := ST.out.node
        have hxd : x.core.data.size ≤ 9223372036854775807 := HXD.out
        go_region_held3 (fun w' => w'.cell? ⟨w0.heap.size, 0, none⟩ = some (.slice a2 len cap2) ∧ w'.cell? ⟨w.heap.size + 1, 0, none⟩ = some (.int .i64 x.core.kind) ∧ w'.cell? ⟨w.heap.size + 1, 1, none⟩ = some (.string x.core.name) ∧ w'.cell? ⟨w.heap.size + 1, 2, none⟩ = some (.string x.core.is) ∧ w'.cell? ⟨w.heap.size + 1, 3, none⟩ = some (.string x.core.data) ∧ w'.cell? ⟨w.heap.size + 1, 4, none⟩ = some (.slice x.aA x.aN x.aC) ∧ w'.cell? ⟨w.heap.size + 1, 5, none⟩ = some (.int .i64 x.core.parent) ∧ w'.cell? ⟨w.heap.size + 1, 6, none⟩ = some (.slice x.kA x.kN x.kC) ∧ w'.cell? ⟨w.heap.size + 1, 7, none⟩ = some (.int .i64 x.core.host) ∧ w'.cell? ⟨w.heap.size + 1, 8, none⟩ = some (.int .i64 x.core.under) ∧ w'.cell? ⟨w.heap.size + 1, 9, none⟩ = some (.int .i64 x.core.doc)) (go_keep)
          (first
            | (go_at_call 57; refine (CA.out _ (ST.out.node.ok.below (Below.refl _ _).drew)).mono ?_; intro e w3 hp; obtain ⟨y, rfl, hyc, hyo, hb, hya, hyk⟩ := hp; have hb := (Below.refl _ _).drew.trans hb; have HY := Lib.hid hyo; have HYC := Lib.hid hyc; have HYA := Lib.hid hya; have HYK := Lib.hid hyk; have HQ := Lib.hid (show (w0.heap.size : Nat) < w2.heap.size from MC.out.g.lt); have HV := Lib.hid (fun k e => (MC.out.copy.own.lt k e).2); have MC := Lib.hid (MC.out.keep hb); have d0 := MC.out.g.c0; have d1 := MC.out.g.c1; have ST := Lib.hid (ST.out.keep hb); obtain ⟨-, x0, x1, x2, x3, x4, x5, x6, x7, x8, x9, -⟩ := ST.out.node; have MC1 := Lib.hid (MC.out.keep (below_box w3 (nodB y))); have HY1 := Lib.hid (HY.out.below (below_box w3 (nodB y))); have NW := Lib.hid (World.news_of_block (heap_alloc_new w3 (nodB y))); clear hb hyo hyc hya hyk)
            | (refine step_append_keep (by rfl) _ _ _ (by rfl) w0.heap.size 28 i0 _ 10 136 Try.underlying22 hi0 hz0 hz1 hz2 (by rfl) (by decide) _ len (M.flatMap encN) (by rfl) MC1.out.copy.own ⟨w3.heap.size, 0, none⟩ 1 1 (encN y) (by rfl) (by rfl) NW.out (encN_one y) (by decide) (by unfold maxLen; omega) (by omega) MC1.out.copy.below.size ?_; intro g cap w4 hown1 hold hgrow hat hlt; have NR := Lib.hid (NewRow.new MC1.out HY1.out HYA.out HYK.out HQ.out HV.out HSZ.out hown1 hgrow hat); have MC := Lib.hid (MC1.out.grown hgrow hold); have ST := Lib.hid (ST0.out.keep MC.out.copy.below); have d0 := MC.out.g.c0; have d1 := MC.out.g.c1; obtain ⟨-, x0, x1, x2, x3, x4, x5, x6, x7, x8, x9, -⟩ := ST.out.node; clear hown1 hold hgrow hat hlt))
        clear x0 x1 x2 x3 x4 x5 x6 x7 x8 x9
        have HCM : Hid (coreL (M ++ [y]) = coreL L ++ [bareC (coreL L) x.core]) := Lib.hid (by
          unfold coreL
          rw [List.map_append]
          have h1 := MC.out.copy.core
          unfold coreL at h1
          rw [h1, List.map_cons, List.map_nil, HYC.out, ← HB.out]
          rfl)
        have CF : Hid (∀ W, NodeRow W (some ⟨g, 0, none⟩) (len + 1) cap (M ++ [y]) → Calls Try.prog 59 #[.slice (some ⟨g, 0, none⟩) (len + 1) cap, .int .i64 len] W fun e w' => e = .returned (.bool (fitsB (coreL L ++ [bareC (coreL L) x.core]) (len : Int) (bareC (coreL L) x.core))) ∧ Below W.heap.size W w') := Lib.hid (fun W h => by
          have hg : (M ++ [y])[len]? = some y := by rw [← NR.out.hl, List.getElem?_append_right (Nat.le_refl _), Nat.sub_self]; rfl
          have := fits_any (some ⟨g, 0, none⟩) (len + 1) cap (M ++ [y]) len y W h hg
          rw [HCM.out, HYC.out, ← HB.out] at this
          exact this)
        cases hB : fitsB (coreL L ++ [bareC (coreL L) x.core]) (len : Int) (bareC (coreL L) x.core) with
        | false =>
          rw [hB] at CF
          have HE1 : Hid (makeE m (coreL L) x.core = 1) := Lib.hid (by rw [HE.out, hB]; rfl)
          have HNN := Lib.hid (make_not (m := m) (F := coreL L) (x := x.core) (by rw [HE1.out]; decide))
          clear hB
          go_wp2_with (go_at_call 59; refine (CF.out _ NR.out.row).mono ?_; rintro e w5 ⟨rfl, hb⟩; have MC := Lib.hid (MC.out.keep hb); have NR := Lib.hid (NR.out.keep hb); have d0 := MC.out.g.c0; have d1 := MC.out.g.c1; have u0 := MC.out.g.f0; have ST := Lib.hid (ST0.out.keep MC.out.copy.below); have e0 := ST.out.res.c0; have e1 := ST.out.res.c1; have g0 := ST.out.res.f0; have g1 := ST.out.res.f1; have z1 := ST.out.box.c1; clear hb)
          rw [HE1.out, HNN.out.1, HNN.out.2]
          (
            obtain ⟨a3, cap3, hv3, hr3, hc3, hb3⟩ := MC.out.finish HSZ.out ST0.out.box.below (.slice a2 len cap2) (.int .i64 m)
            injection hv3 with h1 h2 h3
            subst h1 h3
            refine bodyPost_ret (v := .tuple #[forV a2 len cap2 m, .int .i64 (-1), .int .i64 1]) ?_ rfl ⟨a2, len, cap2, M, rfl, hr3, hc3, hb3⟩
            simp [results, Try.results18, go_sem, e0, e1])
        | true =>
          rw [hB] at CF
          by_cases hml : m ≤ (len : Int)
          · have HE1 : Hid (makeE m (coreL L) x.core = 8) := Lib.hid (by rw [HE.out, hB, if_pos rfl, if_pos hml])
            have HNN := Lib.hid (make_not (m := m) (F := coreL L) (x := x.core) (by rw [HE1.out]; decide))
            have hq1 : ((len : Int) == m) = true := beq_iff_eq.2 (by omega)
            clear hB
            go_wp2_with (go_at_call 59; refine (CF.out _ NR.out.row).mono ?_; rintro e w5 ⟨rfl, hb⟩; have MC := Lib.hid (MC.out.keep hb); have NR := Lib.hid (NR.out.keep hb); have d0 := MC.out.g.c0; have d1 := MC.out.g.c1; have u0 := MC.out.g.f0; have ST := Lib.hid (ST0.out.keep MC.out.copy.below); have e0 := ST.out.res.c0; have e1 := ST.out.res.c1; have g0 := ST.out.res.f0; have g1 := ST.out.res.f1; have z1 := ST.out.box.c1; clear hb)
            rw [HE1.out, HNN.out.1, HNN.out.2]
            (
              obtain ⟨a3, cap3, hv3, hr3, hc3, hb3⟩ := MC.out.finish HSZ.out ST0.out.box.below (.slice a2 len cap2) (.int .i64 m)
              injection hv3 with h1 h2 h3
              subst h1 h3
              refine bodyPost_ret (v := .tuple #[forV a2 len cap2 m, .int .i64 (-1), .int .i64 8]) ?_ rfl ⟨a2, len, cap2, M, rfl, hr3, hc3, hb3⟩
              simp [results, Try.results18, go_sem, e0, e1])
          · have HE1 : Hid (makeE m (coreL L) x.core = 0) := Lib.hid (by rw [HE.out, hB, if_pos rfl, if_neg hml])
            have HNN : Hid (makeL m (coreL L) x.core = coreL (M ++ [y]) ∧ makeN m (coreL L) x.core = len) := Lib.hid (by
              unfold makeL makeN
              rw [if_pos HE1.out, if_pos HE1.out, HCM.out, HCL.out]
              exact ⟨rfl, rfl⟩)
            have hq1 : ((len : Int) == m) = false := beq_eq_false_iff_ne.2 (by omega)
            clear hB
            have hnq1 := HNQ.out
            have hnq2 := HNQ.out.symm
            go_wp2_with (go_at_call 59; refine (CF.out _ NR.out.row).mono ?_; rintro e w5 ⟨rfl, hb⟩; have MC := Lib.hid (MC.out.keep hb); have NR := Lib.hid (NR.out.keep hb); have d0 := MC.out.g.c0; have d1 := MC.out.g.c1; have u0 := MC.out.g.f0; have ST := Lib.hid (ST0.out.keep MC.out.copy.below); have e0 := ST.out.res.c0; have e1 := ST.out.res.c1; have g0 := ST.out.res.f0; have g1 := ST.out.res.f1; have z1 := ST.out.box.c1; clear hb)
            rw [HE1.out, HNN.out.1, HNN.out.2]
            obtain ⟨hr3, hb3⟩ := NR.out.finish HSZ.out MC.out.low ST0.out.box.below MC.out.copy.below (.slice (some ⟨g, 0, none⟩) (len + 1) cap) (.slice (some ⟨g, 0, none⟩) (len + 1) cap) (.int .i64 m)
            have hfp : ForPost w (coreL (M ++ [y])) m [.int .i64 (len : Int), .int .i64 0] (.returned (.tuple #[forV (some ⟨g, 0, none⟩) (len + 1) cap m, .int .i64 (len : Int), .int .i64 0])) _ := ⟨_, _, cap, M ++ [y], rfl, hr3, rfl, hb3⟩
            refine bodyPost_ret (v := .tuple #[forV (some ⟨g, 0, none⟩) (len + 1) cap m, .int .i64 (len : Int), .int .i64 0]) ?_ rfl hfp
            simp [results, Try.results18, go_sem, e0, e1])
end Go.Proofs.Ytllfkiifkkcinaa
/- Package forest's New. -/
namespace Go.Proofs.Ytllfkiifkkcinaa
open Go.RowKit
def zeroD : NodeD := ⟨⟨0, ⟨#[]⟩, ⟨#[]⟩, ⟨#[]⟩, [], 0, [], 0, 0, 0⟩, none, 0, 0, none, 0, 0⟩
theorem zeroD_ok (w : World) : NodeOk w zeroD := by
  refine ⟨⟨SRow.nil, (fun z hz => by cases hz), fun _ => rfl⟩, ⟨SRow.nil, (fun z hz => by cases hz), fun _ => rfl⟩, ?_, ?_, ?_, ?_, ?_, ?_, ?_, ?_⟩
  · show 0 ≤ maxLen; decide
  · show 0 ≤ maxLen; decide
  · show 0 ≤ maxLen; decide
  all_goals exact ⟨by show (_ : Int) ≤ 0; decide, by show (0 : Int) ≤ _; decide⟩
theorem right_doc (m : Int) : rightF m [docC] = newOk m := by
  have h : ([docC].zipIdx.all (fun p => nodeOk [docC] p.2 p.1) && (List.range [docC].length).all (fun i => endsZ (nextUp [docC]) ([docC].length + 1) (i : Int)) && headDoc [docC]) = true := by decide +kernel
  simp only [Bool.and_eq_true] at h
  unfold rightF newOk
  rw [h.1.1, h.1.2, h.2, Bool.eq_iff_iff]
  simp
  omega
theorem doc_small {y : NodeD} (h : y.core = docC) : smallF [y] := by
  refine ⟨by simp, fun x hx => ?_⟩
  obtain rfl : x = y := by simpa using hx
  unfold smallN
  rw [h]
  exact ⟨by decide, by decide, by decide⟩
/-- A row of nodes, behind a store into another block. -/
theorem NodeRow.boxCell {w : World} {b o g len cap : Nat} {L : List NodeD} (h : NodeRow w (some ⟨b, o, none⟩) len cap L) (hne : b ≠ g) (ha : ∀ x ∈ L, NodeAway g x) (o2 : Nat) (u : Value) : NodeRow (w.setCell ⟨g, o2, none⟩ u) (some ⟨b, o, none⟩) len cap L :=
  ⟨h.row.keep (by simp [World.setCell]) (fun b' off e _ o' => World.cell?_setCell_other _ _ _ _ (fun e2 => hne (by injection e with e; injection e with e; injection e2 with e2; omega))), fun x hx => (h.ok x hx).setCell (ha x hx) u, h.hnil⟩
set_option maxHeartbeats 8000000 in
set_option maxRecDepth 100000 in
theorem newFn_any (most : Int) (w : World) (hm : In64 most) : Calls Try.prog 17 #[.int .i64 most] w (ForPost w (newL most) (newM most) [.int .i64 (newE most)]) := by
  have HM := Lib.hid hm
  have CA : Hid (∀ W, Calls Try.prog 57 #[nodVal zeroD, .int .i64 0] W (AlonePost W zeroD.core 0)) := Lib.hid (fun W => alone_any zeroD 0 W (zeroD_ok W) ⟨by decide, by decide⟩ (by decide))
  have B0 := Lib.hid (Box2.new w (.slice none 0 0) (.int .i64 0) 24)
  clear hm
  go_enter Try.func17, Try.ntmps17
  go_wp2_with (go_at_call 57; refine (CA.out _).mono ?_; intro e w1 hp; obtain ⟨y, rfl, hyc, hyo, hb, hya, hyk⟩ := hp; have HY := Lib.hid hyo; have HYC := Lib.hid hyc; have HB := Lib.hid hb; have HYA := Lib.hid hya; have HYK := Lib.hid hyk; have B1 := Lib.hid (B0.out.keep hb); clear hyo hyc hb hya hyk)
  obtain ⟨W, hW, RW, BR, BG, BW⟩ : ∃ W, (w1.alloc (nodB y)).alloc (.cells #[.slice (some ⟨w1.heap.size, 0, none⟩) 1 1, .int .i64 most] 24) = W ∧ NodeRow W (some ⟨w1.heap.size, 0, none⟩) 1 1 [y] ∧ Box2 W w.heap.size (.slice none 0 0) (.int .i64 0) ∧ Box2 W (w1.heap.size + 1) (.slice (some ⟨w1.heap.size, 0, none⟩) 1 1) (.int .i64 most) ∧ Below w.heap.size w W := by
    have h1 : NodeRow (w1.alloc (nodB y)) (some ⟨w1.heap.size, 0, none⟩) 1 1 [y] := ⟨own_one w1 28 y (encN y).toArray (by simp) rfl, (fun z hz => by
      obtain rfl : z = y := by simpa using hz
      exact HY.out.below (below_box _ _)), fun h => by cases h⟩
    have hs : (w1.alloc (nodB y)).heap.size = w1.heap.size + 1 := by simp
    have h2 := Box2.new (w1.alloc (nodB y)) (.slice (some ⟨w1.heap.size, 0, none⟩) 1 1) (.int .i64 most) 24
    rw [hs] at h2
    exact ⟨_, rfl, h1.below (below_box _ _), (B1.out.keep (below_box _ _)).keep (below_box _ _), h2, ((below_box w _).trans ((HB.out.mono (by simp)).trans (((below_box w1 _).trans ((below_box _ _).mono (by simp))).mono (by have := HB.out.size; simp at this; omega))))⟩
  rw [hW]
  have RW := Lib.hid RW
  have BR := Lib.hid BR
  have BG := Lib.hid BG
  have BW := Lib.hid BW
  have CR : Hid (Calls Try.prog 19 #[forV (some ⟨w1.heap.size, 0, none⟩) 1 1 most] W fun e w' => e = .returned (.bool (newOk most)) ∧ Below W.heap.size W w') := Lib.hid (by
    have hc : coreL [y] = [docC] := by unfold coreL; rw [List.map_cons, List.map_nil, HYC.out]; rfl
    have := rightF_any (some ⟨w1.heap.size, 0, none⟩) 1 1 most [y] W RW.out HM.out (doc_small (by rw [HYC.out]; rfl))
    rwa [hc, right_doc] at this)
  clear hW
  cases hn : newOk most with
  | false =>
    rw [hn] at CR
    have HN : Hid (newL most = [] ∧ newM most = 0 ∧ newE most = 1) := Lib.hid (by unfold newL newM newE; rw [hn]; exact ⟨rfl, rfl, rfl⟩)
    clear hn
    go_wp2_with (refine CR.out.mono ?_; rintro e w2 ⟨rfl, hb⟩; have BR := Lib.hid (BR.out.keep hb); have BG := Lib.hid (BG.out.keep hb); have BW := Lib.hid (BW.out.trans (hb.mono BW.out.size)); have e0 := BR.out.c0; have e1 := BR.out.c1; have g0 := BR.out.f0; have g1 := BR.out.f1; clear hb)
    rw [HN.out.1, HN.out.2.1, HN.out.2.2]
    refine bodyPost_ret (v := .tuple #[forV none 0 0 0, .int .i64 1]) ?_ rfl ⟨none, 0, 0, [], rfl, ⟨SRow.nil, (fun x hx => by cases hx), fun _ => rfl⟩, rfl, (BW.out.setCell (p := ⟨w.heap.size, 0, none⟩) (Nat.le_refl _) _).setCell (p := ⟨w.heap.size, 1, none⟩) (Nat.le_refl _) _⟩
    simp [results, Try.results17, go_sem, e0, e1]
  | true =>
    rw [hn] at CR
    have HN : Hid (newL most = [docC] ∧ newM most = most ∧ newE most = 0) := Lib.hid (by unfold newL newM newE; rw [hn]; exact ⟨rfl, rfl, rfl⟩)
    have HNE : Hid (w1.heap.size ≠ w.heap.size) := Lib.hid (by have := HB.out.size; simp at this; omega)
    have HAW : Hid (∀ x ∈ [y], NodeAway w.heap.size x) := Lib.hid (fun x hx => by
      obtain rfl : x = y := by simpa using hx
      refine ⟨fun b off hb _ e => ?_, fun b off hb => by rw [HYK.out] at hb; cases hb⟩
      have := HYA.out b off hb
      simp at this
      omega)
    clear hn
    go_wp2_with (refine CR.out.mono ?_; rintro e w2 ⟨rfl, hb⟩; have BR := Lib.hid (BR.out.keep hb); have BG := Lib.hid (BG.out.keep hb); have BW := Lib.hid (BW.out.trans (hb.mono BW.out.size)); have RW := Lib.hid (RW.out.below hb); have d0 := BG.out.c0; have d1 := BG.out.c1; have e0 := BR.out.c0; have e1 := BR.out.c1; have g0 := BR.out.f0; have g1 := BR.out.f1; clear hb)
    rw [HN.out.1, HN.out.2.1, HN.out.2.2]
    refine bodyPost_ret (v := .tuple #[forV (some ⟨w1.heap.size, 0, none⟩) 1 1 most, .int .i64 0]) ?_ rfl ⟨_, 1, 1, [y], rfl, (RW.out.boxCell HNE.out HAW.out 0 _).boxCell HNE.out HAW.out 1 _, by unfold coreL; rw [List.map_cons, List.map_nil, HYC.out]; rfl, (BW.out.setCell (p := ⟨w.heap.size, 0, none⟩) (Nat.le_refl _) _).setCell (p := ⟨w.heap.size, 1, none⟩) (Nat.le_refl _) _⟩
    simp [results, Try.results17, go_sem, e0, e1]
end Go.Proofs.Ytllfkiifkkcinaa
/- slices.Backward over numbers: what it hands back, and how that goes through the slice. -/
namespace Go.Proofs.Ytllfkiifkkcinaa
open Go.RowKit Go.Shelf
attribute [local go_sem] Oper.semAt_some
set_option maxHeartbeats 2000000 in
theorem backward_any (a : Option Addr) (len cap : Nat) (w : World) :
    Calls Try.prog 66 #[.slice a len cap] w fun e w' => e = .returned (.func (.func 89) #[] #[.pointer (some ⟨w.heap.size, 0, none⟩)]) ∧ w' = w.alloc (.cells #[.slice a len cap] 26) := by
  go_enter Try.func66, Try.ntmps66
  go_wp2
  go_ret
  exact ⟨rfl, rfl⟩
/-- What comes, so many rounds being over: the last ones, with their places. -/
def backF (K : List Int) (j : Nat) : Int × Int := ((K.length : Int) - 1 - j, K[K.length - 1 - j]?.getD 0)
def backTo (K : List Int) (k : Nat) : List (Int × Int) := (List.range k).map (backF K)
theorem backTo_succ (K : List Int) (k : Nat) : backTo K (k + 1) = backTo K k ++ [backF K k] := by simp [backTo, List.range_succ]
theorem backTo_length (K : List Int) (k : Nat) : (backTo K k).length = k := by simp [backTo]
/-- What a round must keep: the slice's box, and what lay before. -/
def KpB (Bs n₀ : Nat) (W W' : World) : Prop := W'.heap[Bs]? = W.heap[Bs]? ∧ Below n₀ W W'
abbrev encP (x : Int × Int) : Array Value := #[.int .i64 x.1, .int .i64 x.2]
set_option maxRecDepth 100000 in
set_option maxHeartbeats 4000000 in
theorem back1_in (F : Fence) (n : Nat) (hf : F.fn 89) (hro : F.round = none) (hn : 1 ≤ n) (l Bs n₀ : Nat) (a : Option Addr) (len cap : Nat) (K : List Int) (J Jx : List (Int × Int) → World → Prop)
    (hY : ∀ pre x W, J pre W → pre.length < len → YieldAt F (n - 1) Try.prog l (encP x) W fun e W' =>
      (e = .returned (.bool true) ∧ J (pre ++ [x]) W' ∧ KpB Bs n₀ W W') ∨ (e = .returned (.bool false) ∧ Jx (pre ++ [x]) W'))
    (W : World) (hBs : W.cell? ⟨Bs, 0, none⟩ = some (.slice a len cap)) (hK : IntRow W a len cap K) (hlow : ∀ b off, a = some ⟨b, off, none⟩ → 0 < len → b < n₀) (h0 : J [] W) :
    CallsIn F n Try.prog 89 #[.func (.yield l) #[] #[], .pointer (some ⟨Bs, 0, none⟩)] W fun e W' => (∃ v, e = .returned v) ∧
      ((∃ ys, ys = backTo K len ∧ J ys W') ∨ (∃ pre, pre.length ≤ len ∧ Jx pre W')) := by
  have hl := hK.len64
  have HL := Lib.hid hK.hlen
  have HK := Lib.hid hK
  clear hK
  refine callsIn_of_wp Try.func89 rfl hf ?_ hro
  simp only [Try.ntmps89, List.size_toArray, List.length_cons, List.length_nil, Nat.reduceAdd, Nat.reduceSub, Array.replicate_succ, Array.replicate_zero, List.push_toArray, List.append_toArray, List.nil_append, List.cons_append]
  gi_wp2
  gi_loopw [3] (fun i wr => ∃ k : Nat, k ≤ len ∧ i = .int .i64 ((len : Int) - 1 - k) ∧ J (backTo K k) wr ∧ KpB Bs n₀ W wr) (fun i _ => (intOf i + 1).toNat)
  case atStart => exact ⟨0, Nat.zero_le _, by simp, h0, rfl, Below.refl _ _⟩
  case round =>
    obtain ⟨k, hk, rfl, hJs, hkp⟩ := hrel
    have hB2 : wr.cell? ⟨Bs, 0, none⟩ = some (.slice a len cap) := (World.cell?_of_block (a := ⟨Bs, 0, none⟩) hkp.1).trans hBs
    by_cases hlt : k < len
    · obtain ⟨j, hj⟩ : ∃ j : Nat, (len : Int) - 1 - k = j := ⟨len - 1 - k, by omega⟩
      obtain ⟨b, off, z, rfl, hb, hz, hcz, hin⟩ := HK.out.get (k := j) (by omega)
      have hcz2 : wr.cell? ⟨b, off + j, none⟩ = some (.int .i64 z) := (hkp.2.cell (p := ⟨b, off + j, none⟩) (hlow b off rfl (by omega))).trans hcz
      have hfk : backF K k = ((j : Int), z) := by
        unfold backF
        rw [HL.out, hj, show len - 1 - k = j by omega, hz]
        rfl
      obtain ⟨fn, tmps, assign, body, hy, hR⟩ := hY _ ((j : Int), z) wr hJs (by rw [backTo_length]; exact hlt)
      try dsimp only at hy
      rw [hj]
      have hj64 : j ≤ 9223372036854775807 := by omega
      clear hz hcz hin
      gi_wp2
      refine hR.mono ?_
      rintro e W3 (⟨rfl, hJ3, hk3⟩ | ⟨rfl, hJx3⟩)
      · gi_wp2
        go_roundw
        case rel => exact ⟨k + 1, by omega, by congr 1; omega, by rw [backTo_succ, hfk]; exact hJ3, hk3.1.trans hkp.1, hkp.2.trans hk3.2⟩
        case measure => simp [intOf]
      · gi_wp2
        refine bodyPost_ret (results_none rfl _ _ _) rfl ?_
        exact ⟨⟨_, rfl⟩, .inr ⟨_, by rw [List.length_append, backTo_length]; simp; omega, hJx3⟩⟩
    · have hkk : k = len := by omega
      subst hkk
      have e1 : (k : Int) - 1 - k = -1 := by omega
      rw [e1]
      gi_wp2
      go_end0
      exact ⟨⟨_, rfl⟩, .inl ⟨_, rfl, hJs⟩⟩
theorem back_stops (F : Fence) (n : Nat) (hf : F.fn 89) (hro : F.round = none) (hn : 1 ≤ n) (Bs n₀ : Nat) (a : Option Addr) (len cap : Nat) (K : List Int) (w : World) (hBs : Bs < w.heap.size) 
    (hc : w.cell? ⟨Bs, 0, none⟩ = some (.slice a len cap)) (hK : IntRow w a len cap K) (hlow : ∀ b off, a = some ⟨b, off, none⟩ → 0 < len → b < n₀) :
    SeqStopsK F n Try.prog 89 #[.pointer (some ⟨Bs, 0, none⟩)] encP (KpB Bs n₀) (fun ys => ys = backTo K len) (fun pre => pre.length ≤ len) len w := fun l J Jx W hW _ _ hY h0 =>
  back1_in F n hf hro hn l Bs n₀ a len cap K J Jx hY W ((hW.cell (p := ⟨Bs, 0, none⟩) hBs).trans hc) (hK.below hW) hlow h0
end Go.Proofs.Ytllfkiifkkcinaa
/- What a plain loop owes whose body holds a range over a function: marks; the two slices in hand. -/
namespace Go.Proofs.Ytllfkiifkkcinaa
open Go.RowKit Go.Shelf
/-- Within a fence: append, the old slice reading as before. -/
theorem wpListIn_append_keep {F : Fence} {n : Nat} {P : Program} (w : World) {ops : Array Oper} {rest : List Oper} {o : Oper} {a : Act} {Q : Exit → Act → World → Prop}
    (hg : o.guard = none) (s x : Operand) (t : TypeId) (hop : o.op = Op.call { callee := Callee.builtin Builtin.append, args := #[s, x], argTypes := #[t, t] })
    (base : Nat) (e : TypeId) (i : TypeInfo) (z : Value) (size bytes : Nat) (h1 : P.underlying t = some (.slice e)) (h2 : P.info? e = some i) (h3 : i.zero = some z) (h4 : i.size = size) (h5 : i.bytes = bytes) (h6 : z.cells.size = size) (h7 : 0 < size)
    (v : Value) (k : Nat) (xs : List Value) (hs : a.eval s = v) (hown : w.ownsRow base e size v k xs) (ad : Addr) (m c : Nat) (news : List Value) (hx : a.eval x = .slice (some ad) m c) (hn : news.length = m * size)
    (hc : ∀ j u, news[j]? = some u → w.cell? (ad.add j) = some u) (h1c : ∀ u ∈ news, u.oneCell' = true) (hm : 0 < m) (b1 : k + m ≤ maxLen) (b2 : (k + m) * bytes ≤ 140737488355328) (b3 : base ≤ w.heap.size)
    (hK : ∀ g cap w', w'.ownsRow base e size (.slice (some ⟨g, 0, none⟩) (k + m) cap) (k + m) (xs ++ news) → w'.ownsRow base e size v k xs → w.grownBy w' v.ownBlock → (v.ownBlock = some g ∨ g = w.heap.size) → g < w'.heap.size → wpListIn F n P ops Q rest (a.put o.dst (.slice (some ⟨g, 0, none⟩) (k + m) cap)) w') :
    wpListIn F n P ops Q (o :: rest) a w := by
  refine wpListIn_plain hg fun K hK' => ?_
  obtain ⟨g, cap, w', hrun, r1, r2, r3, r4, r5⟩ := run_append_keep (P := P) w t o.type base e i z size bytes h1 h2 h3 h4 h5 h6 h7 v k xs hown ad m c news hn hc h1c hm b1 b2 b3
  unfold Oper.wpIn
  refine ⟨?_, ?_⟩
  · simp [Oper.about, hop, resolve, Target.leads, Sem.run_pure]
  · rw [Oper.semAt_plain F _ _ (by rw [hop]; intro c hc'; cases hc')]
    simp [execOp, hop, resolve, invoke, builtin, hs, hx, hrun, Result.andThen]
    exact hK' _ _ (hK g cap w' r1 r2 r3 r4 r5)
abbrev markD (D : Nat) : Deferred := { target := .collected D, args := #[] }
/-- The marks of the loops that are over. -/
structure Marks (B : Nat) (ds : List Nat) (W : World) : Prop where
  nd : ds.Nodup
  at_ : ∀ D ∈ ds, B ≤ D ∧ W.heap[D]? = some (.deferred (some []))
theorem Marks.kept {B : Nat} {ds : List Nat} {W W2 : World} {row : Option Nat} (h : Marks B ds W) (hg : W.grownBy W2 row) (hne : ∀ r, row = some r → (∃ c e f, W.heap[r]? = some (.cells c e f)) ∨ r ∉ ds) : Marks B ds W2 := by
  refine ⟨h.nd, fun D hD => ⟨(h.at_ D hD).1, (hg.block D (Array.getElem?_eq_some_iff.1 (h.at_ D hD).2).1 (fun e => ?_)).trans (h.at_ D hD).2⟩⟩
  rcases hne D e.symm with ⟨c, t, f, hc⟩ | hn
  · rw [(h.at_ D hD).2] at hc
    cases hc
  · exact hn hD
theorem leaves_marks {F : Fence} {n : Nat} {P : Program} {fn : Func} {tmps : Array Value} {R : Ending → World → Prop} (B : Nat) (Φ : World → Prop)
    (stab : ∀ W D, Φ W → B ≤ D → W.heap[D]? = some (.deferred (some [])) → Φ (W.putObj D (.deferred none))) (fin : ∀ W, Φ W → LeavesIn F n P fn tmps R [] .returning W) :
    ∀ (ds : List Nat) (W : World), Marks B ds W → Φ W → LeavesInM F n P fn tmps R (ds.map markD) .returning W
  | [], W, _, h => fin W h
  | D :: ds, W, hm, h => by
    have hD := hm.at_ D (by simp)
    have hnd := List.nodup_cons.1 hm.nd
    refine ⟨by simp, .inl ⟨D, _, rfl, run_takeDeferred hD.2, ?_⟩⟩
    refine leaves_marks B Φ stab fin ds _ ⟨hnd.2, fun E hE => ⟨(hm.at_ E (by simp [hE])).1, ?_⟩⟩ (stab W D h hD.1 hD.2)
    have hne : E ≠ D := fun e => hnd.1 (by rw [← e]; exact hE)
    rw [World.putObj_heap_other hne]
    exact (hm.at_ E (by simp [hE])).2
/-- Shorter by the last element. -/
theorem own_prefix {w : World} {base : Nat} {e : TypeId} {size g k cap : Nat} {xs ys : List Value} (h : w.ownsRow base e size (.slice (some ⟨g, 0, none⟩) (k + 1) cap) (k + 1) (xs ++ ys)) (hl : xs.length = k * size) : w.ownsRow base e size (.slice (some ⟨g, 0, none⟩) k cap) k xs := by
  refine ⟨hl, ?_⟩
  rcases h.2 with ⟨hv, _⟩ | ⟨g', cap', cur, hv, hb, hg, h1, h2, h3, h4⟩
  · cases hv
  · injection hv with e1 e2 e3
    subst e3
    refine .inr ⟨g', cap, cur, by rw [e1], hb, hg, by omega, h2, h3, ?_⟩
    have := congrArg (List.take (k * size)) h4
    rw [List.take_take, Nat.min_eq_left (Nat.mul_le_mul_right _ (by omega)), ← hl, List.take_left] at this
    rw [← hl]
    exact this
/-- What the loop has in hand, beside the marks: the order so far, and the pile. -/
structure Hand (w1 W : World) (B Bp g cp : Nat) (vo : Value) (out P : List Int) : Prop where
  below : Below B w1 W
  pile : Boxed W Bp 26 (.slice (some ⟨g, 0, none⟩) P.length cp)
  low : B ≤ Bp
  prow : W.ownsRow B 3 1 (.slice (some ⟨g, 0, none⟩) P.length cp) P.length (P.map encI)
  orow : W.ownsRow B 3 1 vo out.length (out.map encI)
  apart : vo.ownBlock ≠ some g
/-- A turn of a block that is none of these. -/
theorem Hand.kept {w1 W W2 : World} {B Bp g cp : Nat} {vo : Value} {out P : List Int} {row : Option Nat} (h : Hand w1 W B Bp g cp vo out P) (hg : W.grownBy W2 row) (hB : ∀ r, row = some r → B ≤ r) (h1 : some Bp ≠ row) (h2 : some g ≠ row) (h3 : vo.ownBlock = none ∨ vo.ownBlock ≠ row) (hsz : B ≤ W.heap.size) : Hand w1 W2 B Bp g cp vo out P :=
  ⟨h.below.grown hg hsz (fun k e => hB k e), h.pile.kept hg h1, h.low, h.prow.kept hg (.inr h2), h.orow.kept hg h3, h.apart⟩
theorem Hand.size {w1 W : World} {B Bp g cp : Nat} {vo : Value} {out P : List Int} (h : Hand w1 W B Bp g cp vo out P) : B ≤ W.heap.size := by
  have h1 := h.low
  have h2 := h.pile.lt
  omega
theorem own_cells {w : World} {base : Nat} {e : TypeId} {size n : Nat} {v : Value} {xs : List Value} (h : w.ownsRow base e size v n xs) : ∀ r, v.ownBlock = some r → ∃ c t f, w.heap[r]? = some (.cells c t f) := fun r hr => by
  rcases h.2 with ⟨rfl, _⟩ | ⟨g, cap, cur, rfl, _, hg, _⟩
  · cases hr
  · injection hr with hr
    have e : g = r := hr
    subst e
    exact ⟨_, _, _, hg⟩
theorem Hand.alloc {w1 W : World} {B Bp g cp : Nat} {vo : Value} {out P : List Int} (h : Hand w1 W B Bp g cp vo out P) (o : Obj) : Hand w1 (W.alloc o) B Bp g cp vo out P :=
  h.kept (World.grownBy_alloc W o none) (fun r e => by cases e) (by simp) (by simp) (by
    cases hv : vo.ownBlock with
    | none => exact .inl rfl
    | some k => exact .inr (by simp)) h.size
/-- A turn of a block that is no cells. -/
theorem Hand.other {w1 W W2 : World} {B Bp g cp : Nat} {vo : Value} {out P : List Int} {row : Option Nat} (h : Hand w1 W B Bp g cp vo out P) (hg : W.grownBy W2 row) (hr : ∀ r, row = some r → B ≤ r ∧ ∃ o : Obj, W.heap[r]? = some o ∧ o.isCells = false) : Hand w1 W2 B Bp g cp vo out P := by
  have no : ∀ k, (∃ c t f, W.heap[k]? = some (.cells c t f)) → some k ≠ row := fun k ⟨c, t, f, hc⟩ e => by
    obtain ⟨_, o, ho, hoc⟩ := hr k e.symm
    rw [hc] at ho
    injection ho with ho
    rw [← ho] at hoc
    cases hoc
  refine h.kept hg (fun r e => (hr r e).1) (no Bp ⟨_, _, _, h.pile⟩) (no g (own_cells h.prow g rfl)) ?_ h.size
  cases hv : vo.ownBlock with
  | none => exact .inl rfl
  | some k => exact .inr (no k (own_cells h.orow k hv))
/-- The last one is taken off the pile. -/
theorem Hand.pop {w1 W : World} {B Bp g cp : Nat} {vo : Value} {out Q : List Int} {z : Int} (h : Hand w1 W B Bp g cp vo out (Q ++ [z])) : Hand w1 (W.setCell ⟨Bp, 0, none⟩ (.slice (some ⟨g, 0, none⟩) Q.length cp)) B Bp g cp vo out Q := by
  have hp := h.prow
  rw [List.length_append, List.map_append] at hp
  have hp2 := own_prefix hp (by simp)
  have hne : some Bp ≠ some g := h.pile.not_row (by decide) h.prow
  have hno := h.pile.not_row (by decide) h.orow
  refine ⟨h.below.setCell (p := ⟨Bp, 0, none⟩) h.low _, h.pile.set _, h.low, hp2.kept (grownBy_setCell' W Bp _) (.inr (fun e => hne e.symm)), h.orow.kept (grownBy_setCell' W Bp _) (.inr (fun e => hno e.symm)), h.apart⟩
/-- Behind an append to the order. -/
theorem Hand.more {w1 W W2 : World} {B Bp g cp g2 cap : Nat} {vo : Value} {out P : List Int} {z : Int} {tmp : Obj} (h : Hand w1 W B Bp g cp vo out P)
    (ho : W2.ownsRow B 3 1 (.slice (some ⟨g2, 0, none⟩) (out.length + 1) cap) (out.length + 1) (out.map encI ++ [encI z])) (hg : (W.alloc tmp).grownBy W2 vo.ownBlock) (hat : vo.ownBlock = some g2 ∨ g2 = (W.alloc tmp).heap.size) : Hand w1 W2 B Bp g cp (.slice (some ⟨g2, 0, none⟩) (out.length + 1) cap) (out ++ [z]) P := by
  have h1 := h.alloc tmp
  have hno := h1.pile.not_row (by decide) h1.orow
  refine ⟨h1.below.grown hg h1.size (fun k e => (h1.orow.lt k e).1), h1.pile.kept hg hno, h1.low, h1.prow.kept hg (.inr (fun e => h1.apart e.symm)), by simpa using ho, fun e => ?_⟩
  have e2 : g2 = g := by injection e
  rcases hat with hat | hat
  · exact h.apart (by rw [hat, e2])
  · have := (h1.prow.lt g rfl).2
    omega
/-- Behind an append to the pile, and its store. -/
theorem Hand.push {w1 W W2 : World} {B Bp g cp g2 cap : Nat} {vo : Value} {out P : List Int} {z : Int} {tmp : Obj} (h : Hand w1 W B Bp g cp vo out P)
    (ho : W2.ownsRow B 3 1 (.slice (some ⟨g2, 0, none⟩) (P.length + 1) cap) (P.length + 1) (P.map encI ++ [encI z])) (hg : (W.alloc tmp).grownBy W2 (Value.ownBlock (.slice (some ⟨g, 0, none⟩) P.length cp))) (hat : Value.ownBlock (.slice (some ⟨g, 0, none⟩) P.length cp) = some g2 ∨ g2 = (W.alloc tmp).heap.size) :
    Boxed W2 Bp 26 (.slice (some ⟨g, 0, none⟩) P.length cp) ∧ Hand w1 (W2.setCell ⟨Bp, 0, none⟩ (.slice (some ⟨g2, 0, none⟩) (P.length + 1) cap)) B Bp g2 cap vo out (P ++ [z]) := by
  have h1 := h.alloc tmp
  have hno := h1.pile.not_row (by decide) h1.prow
  have hb := h1.pile.kept hg hno
  have hb2 := hb.not_row (by decide) ho
  have hor := h1.orow.kept hg (.inr h1.apart)
  have hno2 := hb.not_row (by decide) hor
  have e1 : (P ++ [z]).length = P.length + 1 := by simp
  refine ⟨hb, (h1.below.grown hg h1.size (fun k e => (h1.prow.lt k e).1)).setCell (p := ⟨Bp, 0, none⟩) h.low _, by rw [e1]; exact hb.set _, h.low, ?_, hor.kept (grownBy_setCell' W2 Bp _) (.inr (fun e => hno2 e.symm)), fun e => ?_⟩
  · rw [e1, List.map_append]
    exact ho.kept (grownBy_setCell' W2 Bp _) (.inr (fun e => hb2 e.symm))
  · rcases hat with hat | hat
    · have e2 : g = g2 := by injection hat
      exact h.apart (by rw [e, e2])
    · have := (h1.orow.lt g2 e).2
      omega
/-- The next round's own variable. -/
theorem Hand.next {w1 W : World} {B Bp g cp : Nat} {vo : Value} {out P : List Int} (h : Hand w1 W B Bp g cp vo out P) : Hand w1 (W.alloc (.cells #[.slice (some ⟨g, 0, none⟩) P.length cp] 26)) B W.heap.size g cp vo out P := by
  have h1 := h.alloc (.cells #[.slice (some ⟨g, 0, none⟩) P.length cp] 26)
  exact ⟨h1.below, Boxed.new _ _ _, h.size, h1.prow, h1.orow, h1.apart⟩
end Go.Proofs.Ytllfkiifkkcinaa
/- What the law ForestOrder asks, over data: facts of forests that are right. Plain mathematics, no program. -/
namespace Go.Proofs.Ytllfkiifkkcinaa
open Go.RowKit
theorem hasZ_nodup : ∀ {L : List Int} {n : Int}, L.Nodup → hasZ L n = if n ∈ L then 1 else 0
  | [], n, _ => rfl
  | z :: l, n, h => by
    have h2 := List.nodup_cons.1 h
    have ih := hasZ_nodup (n := n) h2.2
    unfold hasZ at ih ⊢
    rw [List.countP_cons, ih]
    by_cases e : z = n
    · subst e
      rw [if_neg h2.1, if_pos (by simp), if_pos (List.mem_cons_self ..)]
    · rw [if_neg (show ¬ ((z == n) = true) from fun g => e (beq_iff_eq.1 g))]
      by_cases hm : n ∈ l
      · rw [if_pos hm, if_pos (List.mem_cons_of_mem _ hm)]
      · rw [if_neg hm, if_neg (fun g => by rcases List.mem_cons.1 g with g | g; exact e g.symm; exact hm g)]
theorem findZ_at {L : List Int} {n : Int} {j : Nat} (h : L.Nodup) (hj : L[j]? = some n) : findZ L n = (j : Int) := by
  obtain ⟨k, hk, hg⟩ := find_at (List.mem_of_getElem? hj)
  obtain ⟨h1, e1⟩ := List.getElem?_eq_some_iff.1 hg
  obtain ⟨h2, e2⟩ := List.getElem?_eq_some_iff.1 hj
  have := (List.getElem_inj h).1 (e1.trans e2.symm)
  rw [hk, this]
/-- What is asked of an order, and of two nodes. -/
structure OrderFacts (m : Int) (F : List Core) (x y : Nat) (l : List Int) : Prop where
  pos : l[0]? = some (x : Int)
  len : l.length ≤ F.length
  num : ∀ (i : Nat) z, l[i]? = some z → ∃ n : Nat, z = (n : Int) ∧ n < F.length
  many : ∀ n : Nat, n < F.length → hasZ l (n : Int) = if holdsZ m F x n then 1 else 0
  step : ∀ (i : Nat) (n : Nat) c, 1 ≤ i → l[i]? = some (n : Int) → F[n]? = some c → ∃ (j p : Nat), j < i ∧ p < F.length ∧ c.parent = (p : Int) ∧ findZ l p = (j : Int) ∧ ∀ (k q : Nat), j < k → k < i → l[k]? = some (q : Int) → holdsZ m F p q = true ∧ holdsZ m F n q = false
  one : rootZ m F x = rootZ m F y → x ≠ y → aheadZ m F x y = !aheadZ m F y x
  apart : rootZ m F x ≠ rootZ m F y → aheadZ m F x y = false ∧ aheadZ m F y x = false
  self : x = y → aheadZ m F x y = false ∧ aheadZ m F y x = false
  held : holdsZ m F x y = true → x ≠ y → aheadZ m F x y = true
theorem ordZ_eq {m : Int} {F : List Core} (h : rightF m F = true) {a : Nat} (ha : a < F.length) : ordZ m F (a : Int) = (ordF F a).map Int.ofNat := by
  unfold ordZ
  rw [thereF_of h ha]
  rfl
theorem aheadZ_eq {m : Int} {F : List Core} (h : rightF m F = true) {a b : Nat} (ha : a < F.length) (hb : b < F.length) : aheadZ m F (a : Int) (b : Int) = aheadF F a b := by
  unfold aheadZ
  rw [thereF_of h ha, thereF_of h hb]
  rfl
theorem nodup_sub : ∀ (n : Nat) (l : List Nat), l.Nodup → (∀ x ∈ l, x < n) → l.length ≤ n
  | 0, l, _, hs => by
    cases l with
    | nil => exact Nat.le_refl _
    | cons a r => exact absurd (hs a (List.mem_cons_self ..)) (by omega)
  | n + 1, l, h, hs => by
    have ih := nodup_sub n (l.erase n) (h.erase n) (fun x hx => by
      have := (List.Nodup.mem_erase_iff h).1 hx
      have := hs x this.2
      omega)
    by_cases hm : n ∈ l
    · rw [List.length_erase_of_mem hm] at ih
      omega
    · rw [List.erase_of_not_mem hm] at ih
      omega
theorem order_facts {m : Int} {F : List Core} (h : rightF m F = true) {x y : Nat} (hx : x < F.length) (hy : y < F.length) : OrderFacts m F x y (ordZ m F x) := by
  have T := tree_of_right h
  have hN : (ordF F x).Nodup := T.ord_nodup _ _ hx (by omega)
  have hlt : ∀ z ∈ ordF F x, z < F.length := T.ord_lt _ _ hx
  have inj : ∀ {a b : Nat}, Int.ofNat a = Int.ofNat b → a = b := fun e => Int.ofNat.inj e
  have hNZ : ((ordF F x).map Int.ofNat).Nodup := List.Pairwise.map Int.ofNat (fun a b hab e => hab (Int.ofNat.inj e)) hN
  have get : ∀ {i : Nat} {z : Int}, ((ordF F x).map Int.ofNat)[i]? = some z → ∃ n : Nat, z = (n : Int) ∧ (ordF F x)[i]? = some n := fun {i z} e => by
    rw [List.getElem?_map] at e
    cases hg : (ordF F x)[i]? with
    | none => rw [hg] at e; cases e
    | some n => rw [hg] at e; exact ⟨n, (Option.some.inj e).symm, rfl⟩
  rw [ordZ_eq h hx]
  refine ⟨?_, ?_, fun i z e => ?_, fun n hn => ?_, fun i n c hi e hc => ?_, fun hr hne => ?_, fun hr => ?_, fun e => ?_, fun h1 hne => ?_⟩
  · obtain ⟨r, hr⟩ := ordN_head (kids := kidsF F) (F.length + 1) x
    unfold ordF
    rw [hr]
    rfl
  · rw [List.length_map]
    exact nodup_sub _ _ hN hlt
  · obtain ⟨n, rfl, hg⟩ := get e
    exact ⟨n, rfl, hlt n (List.mem_of_getElem? hg)⟩
  · rw [hasZ_nodup hNZ]
    have e1 : ((n : Int) ∈ (ordF F x).map Int.ofNat) ↔ n ∈ ordF F x := by
      constructor
      · intro hm
        obtain ⟨k, hk, e⟩ := List.mem_map.1 hm
        rwa [Int.ofNat.inj e] at hk
      · intro hm
        exact List.mem_map.2 ⟨n, hm, rfl⟩
    have e2 : holdsZ m F x n = decide (n ∈ ordF F x) := by
      unfold holdsZ
      rw [thereF_of h hx, thereF_of h hn]
      rfl
    rw [e2]
    by_cases hm : n ∈ ordF F x
    · rw [if_pos (e1.2 hm), decide_eq_true hm, if_pos rfl]
    · rw [if_neg (fun g => hm (e1.1 g)), decide_eq_false hm, if_neg (by decide)]
  · obtain ⟨n', e', hg⟩ := get e
    obtain rfl : n = n' := Int.ofNat.inj e'
    obtain ⟨j, p, hj, hp, hjp, hk⟩ := T.ord_between _ x hx (show F.length + 1 ≤ rankF F x + (F.length + 1) by omega) i n hi hg
    have hn : n < F.length := hlt n (List.mem_of_getElem? hg)
    have hpl : p < F.length := hlt p (List.mem_of_getElem? hjp)
    have hpar : c.parent = (p : Int) := by
      have hp' := hp
      unfold parF at hp'
      rw [hc] at hp'
      dsimp only at hp'
      by_cases he : c.parent = -1
      · rw [if_pos he] at hp'; cases hp'
      · obtain ⟨p2, pc, k2, hp2, _⟩ := (holds_facts (y := n) (z := n) h hn hn hn hc).child he
        rw [if_neg he, hp2] at hp'
        injection hp' with hp'
        have e3 : p2 = p := by simpa using hp'
        rw [hp2, e3]
    refine ⟨j, p, hj, hpl, hpar, findZ_at hNZ (by rw [List.getElem?_map]; rw [show (ordF F x)[j]? = some p from hjp]; rfl), fun k q hjk hki hq => ?_⟩
    obtain ⟨q', e', hgq⟩ := get hq
    obtain rfl : q = q' := Int.ofNat.inj e'
    have hql : q < F.length := hlt q (List.mem_of_getElem? hgq)
    obtain ⟨g1, g2⟩ := hk k q hjk hki hgq
    refine ⟨(holdsZ_iff h hpl hql).2 g1, ?_⟩
    cases hh : holdsZ m F n q with
    | false => rfl
    | true => exact absurd ((holdsZ_iff h hn hql).1 hh) g2
  · rw [rootZ_eq h hx, rootZ_eq h hy] at hr
    have hr : rootF F x = rootF F y := Int.ofNat.inj hr
    rw [aheadZ_eq h hx hy, aheadZ_eq h hy hx]
    have := T.ahead_one (f := F.length + 1) (g := F.length + 1) hx hy (Nat.le_refl _) hr hne
    unfold aheadF
    rw [← hr, decide_eq_true rfl, Bool.true_and, Bool.true_and]
    have key : ∀ a b : Nat, a ≠ b → decide (a < b) = !decide (b < a) := fun a b hab => by
      by_cases h1 : a < b
      · rw [decide_eq_true h1, decide_eq_false (by omega)]; rfl
      · rw [decide_eq_false h1, decide_eq_true (by omega)]; rfl
    exact key _ _ this
  · rw [rootZ_eq h hx, rootZ_eq h hy] at hr
    have hr : rootF F x ≠ rootF F y := fun e => hr (by rw [e])
    rw [aheadZ_eq h hx hy, aheadZ_eq h hy hx]
    unfold aheadF
    rw [decide_eq_false hr, decide_eq_false (show ¬ rootF F y = rootF F x from fun e => hr e.symm)]
    exact ⟨rfl, rfl⟩
  · subst e
    rw [aheadZ_eq h hx hx]
    unfold aheadF
    rw [decide_eq_false (Nat.lt_irrefl _), Bool.and_false]
    exact ⟨rfl, rfl⟩
  · have g := (holdsZ_iff h hx hy).1 h1
    rw [aheadZ_eq h hx hy]
    unfold aheadF rootF ordF
    rw [decide_eq_true (T.root_held hy (Nat.le_refl _) g), decide_eq_true (T.held_ahead hy (Nat.le_refl _) (Nat.le_refl _) g hne)]
    rfl
end Go.Proofs.Ytllfkiifkkcinaa
