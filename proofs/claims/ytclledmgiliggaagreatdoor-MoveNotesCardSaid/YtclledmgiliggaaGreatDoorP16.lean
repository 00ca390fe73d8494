/- Texts joined in build order: ForestMakeFn. -/
import Derived.Test.YtclledmgiliggaaGreatDoorP15
import Derived.Test.YtclledmgiliggaaGreatDoorP03
namespace Go.Proofs.YtclledmgiliggaaGreatDoor
open Go.RowKit
attribute [local go_sem ↓] Go.wp_at_zero Go.wp_at_succ
theorem NodeRow.drew {w : World} {a : Option Addr} {len cap : Nat} {L : List NodeD} (h : NodeRow w a len cap L) : NodeRow w.drew a len cap L := h.below (Below.refl _ _).drew
theorem Copy.undrew {lo : Nat} {w W : World} {v : Value} {n : Nat} {M : List NodeD} {F : List Core} (h : Copy lo w.drew W v n M F) : Copy lo w W v n M F := ⟨h.own, h.hl, h.core, h.ok, h.away, (Below.refl _ _).drew.trans h.below⟩
abbrev zeroFB : Obj := .cells #[.slice none 0 0, .int .i64 0] 24
structure Box2 (W : World) (g : Nat) (u v : Value) : Prop where
  lt : g < W.heap.size
  c0 : W.cell? ⟨g, 0, none⟩ = some u
  c1 : W.cell? ⟨g, 1, none⟩ = some v
  f0 : W.frozen? ⟨g, 0, none⟩ = false
  f1 : W.frozen? ⟨g, 1, none⟩ = false
theorem Box2.keep {W W2 : World} {g : Nat} {u v : Value} (h : Box2 W g u v) (hb : Below W.heap.size W W2) : Box2 W2 g u v :=
  ⟨Nat.lt_of_lt_of_le h.lt hb.size, (hb.cell (p := ⟨g, 0, none⟩) h.lt).trans h.c0, (hb.cell (p := ⟨g, 1, none⟩) h.lt).trans h.c1, (hb.frozen (p := ⟨g, 0, none⟩) h.lt).trans h.f0, (hb.frozen (p := ⟨g, 1, none⟩) h.lt).trans h.f1⟩
theorem Box2.new (W : World) (u v : Value) (t : TypeId) : Box2 (W.alloc (.cells #[u, v] t)) W.heap.size u v :=
  ⟨by simp, cell_of_row _ _ 0 _ t (0, 0) (heap_alloc_new W _), cell_of_row _ _ 1 _ t (0, 0) (heap_alloc_new W _), row_free (heap_alloc_new W (.cells #[u, v] t)) 0, row_free (heap_alloc_new W (.cells #[u, v] t)) 1⟩
theorem Box2.grown {W W2 : World} {g : Nat} {u v : Value} {row : Option Nat} (h : Box2 W g u v) (hg : W.grownBy W2 row) (hne : some g ≠ row) : Box2 W2 g u v := by
  have e := hg.block g h.lt hne
  exact ⟨Nat.lt_of_lt_of_le h.lt hg.size, (World.cell?_of_block (a := ⟨g, 0, none⟩) e).trans h.c0, (World.cell?_of_block (a := ⟨g, 1, none⟩) e).trans h.c1, (World.frozen?_of_block (a := ⟨g, 0, none⟩) e).trans h.f0, (World.frozen?_of_block (a := ⟨g, 1, none⟩) e).trans h.f1⟩
structure MakeSt (w W : World) (a : Option Addr) (len cap : Nat) (m : Int) (L : List NodeD) (x : NodeD) : Prop where
  box : Box w W w.heap.size a len cap m L (coreL L)
  node : NBox w W (w.heap.size + 1) x
  res : Box2 W (w.heap.size + 2) (.slice none 0 0) (.int .i64 0)
theorem MakeSt.keep {w W W2 : World} {a : Option Addr} {len cap : Nat} {m : Int} {L : List NodeD} {x : NodeD} (h : MakeSt w W a len cap m L x) (hb : Below W.heap.size W W2) : MakeSt w W2 a len cap m L x := ⟨h.box.keep hb, h.node.keep hb, h.res.keep hb⟩
theorem MakeSt.start {w : World} {a : Option Addr} {len cap : Nat} {m : Int} {L : List NodeD} {x : NodeD} (h : NodeRow w a len cap L) (hx : NodeOk w x) : MakeSt w (((w.alloc (forB a len cap m)).alloc (nodB x)).alloc zeroFB) a len cap m L x := by
  refine ⟨((Box.start h).keep (below_box _ _)).keep (below_box _ _), (NBox.next hx).keep (below_box _ _), ?_⟩
  have := Box2.new ((w.alloc (forB a len cap m)).alloc (nodB x)) (.slice none 0 0) (.int .i64 0) 24
  rwa [show ((w.alloc (forB a len cap m)).alloc (nodB x)).heap.size = w.heap.size + 2 by simp] at this
theorem own_boxCell {w : World} {base : Nat} {e : TypeId} {size n g o : Nat} {v : Value} {xs : List Value} (h : w.ownsRow base e size v n xs) (hne : v.ownBlock ≠ some g) (u : Value) : (w.setCell ⟨g, o, none⟩ u).ownsRow base e size v n xs := by
  refine ⟨h.1, ?_⟩
  rcases h.2 with h0 | ⟨g', cap, cur, hv, hb, hg', h3⟩
  · exact .inl h0
  · refine .inr ⟨g', cap, cur, hv, hb, (Below.heap_setCell _ _ _ g' (fun e => hne ?_)).trans hg', h3⟩
    have e2 : g' = g := e
    rw [hv, ← e2]
    rfl
theorem Copy.boxCell {lo : Nat} {w W : World} {v : Value} {n : Nat} {M : List NodeD} {F : List Core} (h : Copy lo w W v n M F) {g o : Nat} (hne : v.ownBlock ≠ some g) (haw : ∀ x ∈ M, NodeAway g x) (hb : ∀ u, Below w.heap.size w (W.setCell ⟨g, o, none⟩ u)) (u : Value) : Copy lo w (W.setCell ⟨g, o, none⟩ u) v n M F :=
  ⟨own_boxCell h.own hne u, h.hl, h.core, fun x hx => (h.ok x hx).setCell (haw x hx) u, h.away, hb u⟩
structure MakeCp (w w0 W : World) (len : Nat) (m : Int) (F : List Core) (q : Nat) (v : Value) (M : List NodeD) : Prop where
  copy : Copy w0.heap.size w0 W v len M F
  g : Box2 W q v (.int .i64 m)
  low : w0.heap.size ≤ q
  ne : v.ownBlock ≠ some q
  aq : ∀ y ∈ M, NodeAway q y
  ar : ∀ y ∈ M, NodeAway (w.heap.size + 2) y
theorem MakeCp.keep {w w0 W W2 : World} {len : Nat} {m : Int} {F : List Core} {q : Nat} {v : Value} {M : List NodeD} (h : MakeCp w w0 W len m F q v M) (hb : Below W.heap.size W W2) : MakeCp w w0 W2 len m F q v M :=
  ⟨h.copy.keep hb, h.g.keep hb, h.low, h.ne, h.aq, h.ar⟩
theorem Box2.set {W : World} {g : Nat} {u v : Value} (h : Box2 W g u v) (u2 v2 : Value) : Box2 ((W.setCell ⟨g, 0, none⟩ u2).setCell ⟨g, 1, none⟩ v2) g u2 v2 := by
  have e1 : (W.setCell ⟨g, 0, none⟩ u2).cell? ⟨g, 1, none⟩ = some v := by rw [World.cell?_setCell_other _ _ _ _ (fun e => by injection e with _ e; exact absurd e (by decide))]; exact h.c1
  refine ⟨by simpa [World.setCell] using h.lt, ?_, World.cell?_setCell_same _ _ _ e1, by rw [World.frozen?_setCell, World.frozen?_setCell]; exact h.f0, by rw [World.frozen?_setCell, World.frozen?_setCell]; exact h.f1⟩
  rw [World.cell?_setCell_other _ _ _ _ (fun e => by injection e with _ e; exact absurd e (by decide))]
  exact World.cell?_setCell_same _ _ _ h.c0
theorem own_not {w : World} {base : Nat} {e : TypeId} {size n g : Nat} {v : Value} {xs : List Value} (h : w.ownsRow base e size v n xs) (hg : g < base) : v.ownBlock ≠ some g := fun e => by
  have := (h.lt g e).1
  omega
theorem own_notNew {w : World} {base : Nat} {e : TypeId} {size n : Nat} {v : Value} {xs : List Value} (h : w.ownsRow base e size v n xs) : v.ownBlock ≠ some w.heap.size := fun e => by
  have := (h.lt _ e).2
  omega
theorem MakeCp.wayA {w w0 w1 : World} {len : Nat} {m : Int} {F : List Core} {v : Value} {M : List NodeD} (hsz : w.heap.size + 3 = w0.heap.size)
    (CP : Copy (w0.alloc zeroFB).heap.size (w0.alloc zeroFB) w1 v len M F) (NL : ∀ x ∈ M, newLists (w0.alloc zeroFB).drew.heap.size x) (GB : Box2 w1 w0.heap.size (.slice none 0 0) (.int .i64 0)) :
    MakeCp w w0 ((w1.setCell ⟨w0.heap.size, 0, none⟩ v).setCell ⟨w0.heap.size, 1, none⟩ (.int .i64 m)) len m F w0.heap.size v M := by
  have hs : (w0.alloc zeroFB).drew.heap.size = w0.heap.size + 1 := by simp
  have hs2 : (w0.alloc zeroFB).heap.size = w0.heap.size + 1 := by simp
  have hne : v.ownBlock ≠ some w0.heap.size := own_not CP.own (by rw [hs2]; omega)
  have haq : ∀ y ∈ M, NodeAway w0.heap.size y := fun y hy => (NL y hy).away (by rw [hs]; omega)
  have hb : Below w0.heap.size w0 w1 := (below_box w0 _).trans (CP.below.mono (by rw [hs2]; omega))
  refine ⟨⟨own_base (own_boxCell (own_boxCell CP.own hne _) hne _) (by rw [hs2]; omega), CP.hl, CP.core, fun x hx => ((CP.ok x hx).setCell (haq x hx) _).setCell (haq x hx) _, fun g hg => ?_, (hb.setCell (p := ⟨w0.heap.size, 0, none⟩) (Nat.le_refl _) _).setCell (p := ⟨w0.heap.size, 1, none⟩) (Nat.le_refl _) _⟩, GB.set _ _, Nat.le_refl _, hne, haq, fun y hy => (NL y hy).away (by rw [hs]; omega)⟩
  rcases hg with hg | hg
  · omega
  · exact CP.away g (.inr hg)
theorem MakeCp.wayB {w w0 w1 : World} {len : Nat} {m : Int} {F : List Core} {v : Value} {M : List NodeD} (hsz : w.heap.size + 3 = w0.heap.size)
    (CP : Copy w0.heap.size w0 w1 v len M F) (NL : ∀ x ∈ M, newLists w0.drew.heap.size x) :
    MakeCp w w0 (w1.alloc (.cells #[v, .int .i64 m] 24)) len m F w1.heap.size v M := by
  have hs : w0.drew.heap.size = w0.heap.size := rfl
  exact ⟨CP.keep (below_box _ _), Box2.new _ _ _ _, CP.below.size, own_notNew CP.own, fun y hy => (CP.ok y hy).away (Nat.le_refl _), fun y hy => (NL y hy).away (by rw [hs]; omega)⟩
theorem MakeCp.finish {w w0 W : World} {len : Nat} {m : Int} {F : List Core} {q : Nat} {v : Value} {M : List NodeD} (h : MakeCp w w0 W len m F q v M) (hsz : w.heap.size + 3 = w0.heap.size) (hb : Below w.heap.size w w0) (u1 u2 : Value) :
    ∃ a cap, v = .slice a len cap ∧ NodeRow ((W.setCell ⟨w.heap.size + 2, 0, none⟩ u1).setCell ⟨w.heap.size + 2, 1, none⟩ u2) a len cap M ∧ coreL M = F ∧ Below w.heap.size w ((W.setCell ⟨w.heap.size + 2, 0, none⟩ u1).setCell ⟨w.heap.size + 2, 1, none⟩ u2) := by
  have hne : v.ownBlock ≠ some (w.heap.size + 2) := own_not h.copy.own (by omega)
  have c2 : Copy w.heap.size w ((W.setCell ⟨w.heap.size + 2, 0, none⟩ u1).setCell ⟨w.heap.size + 2, 1, none⟩ u2) v len M F :=
    ⟨own_base (own_boxCell (own_boxCell h.copy.own hne _) hne _) hb.size, h.copy.hl, h.copy.core, fun x hx => ((h.copy.ok x hx).setCell (h.ar x hx) _).setCell (h.ar x hx) _, fun g hg => by
      rcases hg with hg | hg
      · omega
      · exact h.copy.away g (.inr hg), ((hb.trans (h.copy.below.mono hb.size)).setCell (p := ⟨w.heap.size + 2, 0, none⟩) (by show w.heap.size ≤ w.heap.size + 2; omega) _).setCell (p := ⟨w.heap.size + 2, 1, none⟩) (by show w.heap.size ≤ w.heap.size + 2; omega) _⟩
  obtain ⟨a, cap, hv, hr, _⟩ := c2.row
  exact ⟨a, cap, hv, hr, h.copy.core, c2.below⟩
theorem SRow.grown {α : Type} {enc : α → List Value} {size : Nat} {w w' : World} {a : Option Addr} {len cap : Nat} {L : List α} {row : Option Nat} (h : SRow enc size w a len cap L) (hg : w.grownBy w' row) (hne : ∀ b off, a = some ⟨b, off, none⟩ → 0 < len → some b ≠ row) : SRow enc size w' a len cap L :=
  h.keep hg.size (fun b off ha hp o => by
    rcases h.cells with h0 | ⟨b', off', ha', hlt, _⟩
    · omega
    · rw [ha] at ha'
      injection ha' with ha'
      injection ha' with e1
      subst e1
      exact World.cell?_of_block (a := ⟨b, o, none⟩) (hg.block b hlt (hne b off ha hp)))
theorem NodeOk.grown {w w' : World} {x : NodeD} {row : Option Nat} (h : NodeOk w x) (hg : w.grownBy w' row) (ha : ∀ g, row = some g → NodeAway g x) : NodeOk w' x :=
  ⟨⟨h.attrs.row.grown hg (fun b off he hp e => (ha b e.symm).1 b off he hp rfl), h.attrs.small, h.attrs.hnil⟩, ⟨h.kids.row.grown hg (fun b off he hp e => (ha b e.symm).2 b off he hp rfl), h.kids.inb, h.kids.hnil⟩, h.name, h.is, h.data, h.kind, h.parent, h.host, h.under, h.doc⟩
theorem MakeCp.grown {w w0 W W2 : World} {len : Nat} {m : Int} {F : List Core} {q : Nat} {v : Value} {M : List NodeD} (h : MakeCp w w0 W len m F q v M) (hg : W.grownBy W2 v.ownBlock) (ho : W2.ownsRow w0.heap.size 46 10 v len (M.flatMap encN)) : MakeCp w w0 W2 len m F q v M :=
  ⟨⟨ho, h.copy.hl, h.copy.core, fun x hx => (h.copy.ok x hx).grown hg (fun g e => h.copy.away g (.inr e) x hx), h.copy.away, h.copy.below.grown hg h.copy.below.size (fun k e => (h.copy.own.lt k e).1)⟩, h.g.grown hg (fun e => h.ne e.symm), h.low, h.ne, h.aq, h.ar⟩
structure NewRow (w w0 W : World) (len : Nat) (q g cap : Nat) (M : List NodeD) (y : NodeD) : Prop where
  own : W.ownsRow w0.heap.size 46 10 (.slice (some ⟨g, 0, none⟩) (len + 1) cap) (len + 1) ((M ++ [y]).flatMap encN)
  hl : M.length = len
  ok : ∀ z ∈ M ++ [y], NodeOk W z
  nq : g ≠ q
  aq : ∀ z ∈ M ++ [y], NodeAway q z
  ar : ∀ z ∈ M ++ [y], NodeAway (w.heap.size + 2) z
theorem NewRow.keep {w w0 W W2 : World} {len q g cap : Nat} {M : List NodeD} {y : NodeD} (h : NewRow w w0 W len q g cap M y) (hb : Below W.heap.size W W2) : NewRow w w0 W2 len q g cap M y :=
  ⟨own_below h.own hb, h.hl, fun z hz => (h.ok z hz).below hb, h.nq, h.aq, h.ar⟩
theorem NewRow.row {w w0 W : World} {len q g cap : Nat} {M : List NodeD} {y : NodeD} (h : NewRow w w0 W len q g cap M y) : NodeRow W (some ⟨g, 0, none⟩) (len + 1) cap (M ++ [y]) := by
  obtain ⟨a, cap', he, hr, _⟩ := SRow.of_own (L := M ++ [y]) (fun x _ => encN_len x) (by rw [List.length_append, h.hl]; rfl) h.own
  injection he with h1 h2 h3
  subst h1; subst h3
  exact ⟨hr, h.ok, fun h => by cases h⟩
theorem NewRow.new {w w0 W W2 : World} {len : Nat} {m : Int} {F : List Core} {q g cap : Nat} {v : Value} {M : List NodeD} {y : NodeD} (h : MakeCp w w0 W len m F q v M) (hy : NodeOk W y) {B : Nat} (hya : ∀ b off, y.aA = some ⟨b, off, none⟩ → B ≤ b) (hyk : y.kA = none) (hqB : q < B) (hvB : ∀ k, v.ownBlock = some k → k < B) (hsz : w.heap.size + 3 = w0.heap.size)
    (ho : W2.ownsRow w0.heap.size 46 10 (.slice (some ⟨g, 0, none⟩) (len + 1) cap) (len + 1) (M.flatMap encN ++ encN y)) (hg : W.grownBy W2 v.ownBlock) (hat : v.ownBlock = some g ∨ g = W.heap.size) : NewRow w w0 W2 len q g cap M y := by
  have away : ∀ k, k < B → NodeAway k y := fun k hk => ⟨fun b off hb _ e => by have := hya b off hb; omega, fun b off hb => by rw [hyk] at hb; cases hb⟩
  have hlow := h.low
  refine ⟨by simpa using ho, h.copy.hl, fun z hz => ?_, ?_, fun z hz => ?_, fun z hz => ?_⟩
  · rcases List.mem_append.1 hz with hz | hz
    · exact (h.copy.ok z hz).grown hg (fun k e => h.copy.away k (.inr e) z hz)
    · obtain rfl : z = y := by simpa using hz
      exact hy.grown hg (fun k e => away k (hvB k e))
  · rcases hat with hat | hat
    · intro e
      exact h.ne (by rw [hat, e])
    · have := h.g.lt
      omega
  · rcases List.mem_append.1 hz with hz | hz
    · exact h.aq z hz
    · obtain rfl : z = y := by simpa using hz
      exact away q hqB
  · rcases List.mem_append.1 hz with hz | hz
    · exact h.ar z hz
    · obtain rfl : z = y := by simpa using hz
      exact away _ (by omega)
theorem NewRow.finish {w w0 W : World} {len q g cap : Nat} {M : List NodeD} {y : NodeD} (h : NewRow w w0 W len q g cap M y) (hsz : w.heap.size + 3 = w0.heap.size) (hq : w0.heap.size ≤ q) (hb : Below w.heap.size w w0) (hb2 : Below w0.heap.size w0 W) (u0 u1 u2 : Value) :
    NodeRow (((W.setCell ⟨q, 0, none⟩ u0).setCell ⟨w.heap.size + 2, 0, none⟩ u1).setCell ⟨w.heap.size + 2, 1, none⟩ u2) (some ⟨g, 0, none⟩) (len + 1) cap (M ++ [y]) ∧ Below w.heap.size w (((W.setCell ⟨q, 0, none⟩ u0).setCell ⟨w.heap.size + 2, 0, none⟩ u1).setCell ⟨w.heap.size + 2, 1, none⟩ u2) := by
  have n1 : (Value.slice (some ⟨g, 0, none⟩) (len + 1) cap).ownBlock ≠ some q := fun e => h.nq (by injection e)
  have n2 : (Value.slice (some ⟨g, 0, none⟩) (len + 1) cap).ownBlock ≠ some (w.heap.size + 2) := own_not h.own (by omega)
  have c2 : NewRow w w0 (((W.setCell ⟨q, 0, none⟩ u0).setCell ⟨w.heap.size + 2, 0, none⟩ u1).setCell ⟨w.heap.size + 2, 1, none⟩ u2) len q g cap M y :=
    ⟨own_boxCell (own_boxCell (own_boxCell h.own n1 _) n2 _) n2 _, h.hl, fun z hz => (((h.ok z hz).setCell (h.aq z hz) _).setCell (h.ar z hz) _).setCell (h.ar z hz) _, h.nq, h.aq, h.ar⟩
  exact ⟨c2.row, (((hb.trans (hb2.mono hb.size)).setCell (p := ⟨q, 0, none⟩) (by show w.heap.size ≤ q; omega) _).setCell (p := ⟨w.heap.size + 2, 0, none⟩) (by show w.heap.size ≤ w.heap.size + 2; omega) _).setCell (p := ⟨w.heap.size + 2, 1, none⟩) (by show w.heap.size ≤ w.heap.size + 2; omega) _⟩
theorem fit_bare (F : List Core) (x : Core) : fitsB (F ++ [bareC F x]) (F.length : Int) (bareC F x) = (x.kind != 4 && nodeOk (F ++ [bareC F x]) F.length (bareC F x)) := by
  have hk : (bareC F x).kids = [] := rfl
  have hkind : (bareC F x).kind = x.kind := rfl
  by_cases k4 : x.kind = 4
  · have e1 : (x.kind != 4) = false := by rw [k4]; rfl
    rw [e1, Bool.false_and]
    cases hq : fitsB (F ++ [bareC F x]) (F.length : Int) (bareC F x) with
    | false => rfl
    | true =>
      have h5 := (fitsB_iff.1 hq).2.2.2.2
      unfold shadowB at h5
      rw [hkind, if_pos k4, Bool.and_eq_true] at h5
      have : getC (F ++ [bareC F x]) (bareC F x).host = none := getC_not (.inl (show (-1 : Int) < 0 by decide))
      unfold hostB at h5
      rw [this] at h5
      cases h5.1
  · have e1 : (x.kind != 4) = true := bne_iff_ne.2 k4
    rw [e1, Bool.true_and, Bool.eq_iff_iff, fitsB_iff, nodeOk_iff]
    have hs : ∀ G i, shadowB G i (bareC F x) = true := fun G i => by
      unfold shadowB
      rw [hkind, if_neg k4]
      by_cases k1 : x.kind = 1
      · rw [if_pos k1]; rfl
      · rw [if_neg k1]; rfl
    have kidsB' : ∀ k ∈ (bareC F x).kids, kidB (F ++ [bareC F x]) (F.length : Int) (bareC F x).doc k = true := fun k h => by rw [hk] at h; cases h
    have hp : parOk (F ++ [bareC F x]) F.length (bareC F x) = true := rfl
    constructor
    · rintro ⟨h1, h2, h3, h4, h5⟩
      have hkk := fields_kind h1
      exact ⟨by rw [doc_eq hkk]; exact h2, hp, (fun k h => by rw [hk] at h; cases h), by rw [shape_eq kidsB']; exact h4, by rw [shadow_eq]; exact h5, by rw [fields_eq hkk]; exact h1⟩
    · rintro ⟨h1, h2, h3, h4, h5, h6⟩
      have hkk : 0 ≤ (bareC F x).kind ∧ (bareC F x).kind ≤ 4 := by
        unfold docOk at h1
        simp only [Bool.and_eq_true, decide_eq_true_eq] at h1
        exact ⟨h1.1.1.1, h1.1.1.2⟩
      exact ⟨by rw [← fields_eq hkk]; exact h6, by rw [← doc_eq hkk]; exact h1, kidsB', by rw [← shape_eq kidsB']; exact h4, hs _ _⟩
set_option maxHeartbeats 16000000 in
set_option maxRecDepth 100000 in
theorem makeFn_any (a : Option Addr) (len cap : Nat) (m : Int) (L : List NodeD) (x : NodeD) (w : World) (h : NodeRow w a len cap L) (hx : NodeOk w x) (hm : In64 m) (hs : smallF L) (hsx : smallX x) :
    Calls Tryz.prog 45 #[forV a len cap m, nodVal x] w (ForPost w (makeL m (coreL L) x.core) m [.int .i64 (makeN m (coreL L) x.core), .int .i64 (makeE m (coreL L) x.core)]) := by
  have HL := Lib.hid h.hlen
  have HCL : Hid ((coreL L).length = len) := Lib.hid (by rw [coreL_len, HL.out])
  have hlen : len ≤ 1000 := by rw [← h.hlen]; exact hs.1
  obtain ⟨w0, hw0, hsz, ST⟩ : ∃ w0, ((w.alloc (forB a len cap m)).alloc (nodB x)).alloc zeroFB = w0 ∧ w.heap.size + 3 = w0.heap.size ∧ MakeSt w w0 a len cap m L x := ⟨_, rfl, by simp, MakeSt.start h hx⟩
  have ST := Lib.hid ST
  have ST0 := ST
  have HW := Lib.hid hw0
  have HSZ := Lib.hid hsz
  have HM := Lib.hid hm
  have HS := Lib.hid hs
  have HSX := Lib.hid hsx
  have CC : Hid (∀ W, NodeRow W a len cap L → Calls Tryz.prog 90 #[forV a len cap m] W (CopyPost W len (coreL L) m)) := Lib.hid (fun W h => cloneF_any a len cap m L W h HS.out)
  have HXD : Hid (x.core.data.size ≤ 9223372036854775807) := Lib.hid (by have := hx.data; unfold maxLen at this; omega)
  clear h hx hm hs hsx hw0 hsz
  have z0 := ST.out.box.c0
  have z1 := ST.out.box.c1
  cases hr : rightF m (coreL L) with
  | false =>
    have CR : Hid (∀ W, NodeRow W a len cap L → Calls Tryz.prog 20 #[forV a len cap m] W fun e w' => e = .returned (.bool false) ∧ Below W.heap.size W w') := Lib.hid (fun W h => by
      rw [← hr]
      exact rightF_any a len cap m L W h HM.out HS.out)
    have HE : Hid (makeE m (coreL L) x.core = 1) := Lib.hid (by unfold makeE; rw [hr]; rfl)
    have HN : Hid (makeL m (coreL L) x.core = coreL L ∧ makeN m (coreL L) x.core = -1) := Lib.hid (make_not (by rw [HE.out]; decide))
    clear hr
    rw [HE.out, HN.out.1, HN.out.2]
    go_enter Tryz.func45, Tryz.ntmps45
    go_wp2
    rw [HW.out]
    have hne1 : w0.heap.size ≠ w.heap.size := by have := HSZ.out; omega
    have hne2 : w.heap.size ≠ w0.heap.size := by have := HSZ.out; omega
    go_region_held3 (fun w' => w'.cell? ⟨w.heap.size, 0, none⟩ = some (.slice a len cap) ∧ w'.cell? ⟨w.heap.size, 1, none⟩ = some (.int .i64 m)) (go_keep)
      (first | (go_at_call 90; (first | refine (CC.out _ ST.out.box.row.drew).mono ?_ | refine (CC.out _ (ST.out.keep (below_box _ _)).box.row.drew).mono ?_); intro e w1 hp; obtain ⟨v, M, rfl, hcp, hnl⟩ := hp; obtain ⟨a2, cap2, rfl, -, -⟩ := hcp.row; have CP := Lib.hid (Copy.undrew hcp); have NL := Lib.hid hnl; (first | have ST := Lib.hid (ST.out.keep ((Below.refl _ _).drew.trans hcp.below)) | have ST := Lib.hid ((ST.out.keep (below_box _ _)).keep ((Below.refl _ _).drew.trans hcp.below))); have z0 := ST.out.box.c0; have z1 := ST.out.box.c1; have hne3 : w1.heap.size ≠ w.heap.size := Nat.ne_of_gt ST.out.box.lt; have hne4 : w.heap.size ≠ w1.heap.size := Nat.ne_of_lt ST.out.box.lt; (first | (have GB := Lib.hid ((Box2.new w0 (.slice none 0 0) (.int .i64 0) 24).keep ((Below.refl _ _).drew.trans hcp.below)); have q0 := GB.out.c0; have q1 := GB.out.c1; have r0 := GB.out.f0; have r1 := GB.out.f1) | skip); clear hcp hnl))
    all_goals
      (first | have MC := Lib.hid (MakeCp.wayA (m := m) HSZ.out CP.out NL.out GB.out) | have MC := Lib.hid (MakeCp.wayB (m := m) HSZ.out CP.out NL.out))
      clear CP NL ST z0 z1
      have d0 := MC.out.g.c0
      have d1 := MC.out.g.c1
      go_wp2_with (go_at_call 20; refine (CR.out _ (ST0.out.keep MC.out.copy.below).box.row).mono ?_; rintro e w2 ⟨rfl, hb⟩; have MC := Lib.hid (MC.out.keep hb); have d0 := MC.out.g.c0; have d1 := MC.out.g.c1; have ST := Lib.hid (ST0.out.keep MC.out.copy.below); have e0 := ST.out.res.c0; have e1 := ST.out.res.c1; have g0 := ST.out.res.f0; have g1 := ST.out.res.f1; clear hb)
      obtain ⟨a3, cap3, hv3, hr3, hc3, hb3⟩ := MC.out.finish HSZ.out ST0.out.box.below (.slice a2 len cap2) (.int .i64 m)
      injection hv3 with h1 h2 h3
      subst h1 h3
      refine bodyPost_ret (v := .tuple #[forV a2 len cap2 m, .int .i64 (-1), .int .i64 1]) ?_ rfl ⟨a2, len, cap2, M, rfl, hr3, hc3, hb3⟩
      simp [results, Tryz.results45, go_sem, e0, e1]
  | true =>
    have CR : Hid (∀ W, NodeRow W a len cap L → Calls Tryz.prog 20 #[forV a len cap m] W fun e w' => e = .returned (.bool true) ∧ Below W.heap.size W w') := Lib.hid (fun W h => by
      rw [← hr]
      exact rightF_any a len cap m L W h HM.out HS.out)
    have hrm := right_most hr
    rw [HCL.out] at hrm
    have HB : Hid (bareC (coreL L) x.core = aloneC x.core len) := Lib.hid (by unfold bareC aloneC; rw [HCL.out])
    have HE : Hid (makeE m (coreL L) x.core = if fitsB (coreL L ++ [bareC (coreL L) x.core]) (len : Int) (bareC (coreL L) x.core) then (if m ≤ (len : Int) then 8 else 0) else 1) := Lib.hid (by
      have := fit_bare (coreL L) x.core
      rw [HCL.out] at this
      unfold makeE
      rw [hr, Bool.true_and, HCL.out, this])
    clear hr
    obtain ⟨E, hE⟩ : ∃ E, makeE m (coreL L) x.core = E := ⟨_, rfl⟩
    have HEE := Lib.hid hE
    clear hE
    obtain ⟨i0, hi0, hz0, hz1, hz2⟩ := info_parts node_info
    have CA : Hid (∀ W, NodeOk W x → Calls Tryz.prog 89 #[nodVal x, .int .i64 len] W (AlonePost W x.core len)) := Lib.hid (fun W h => alone_any x len W h ⟨by omega, by omega⟩ HSX.out.1)
    go_enter Tryz.func45, Tryz.ntmps45
    go_wp2
    rw [HW.out]
    have hne1 : w0.heap.size ≠ w.heap.size := by have := HSZ.out; omega
    have hne2 : w.heap.size ≠ w0.heap.size := by have := HSZ.out; omega
    go_region_held3 (fun w' => w'.cell? ⟨w.heap.size, 0, none⟩ = some (.slice a len cap) ∧ w'.cell? ⟨w.heap.size, 1, none⟩ = some (.int .i64 m)) (go_keep)
      (first | (go_at_call 90; (first | refine (CC.out _ ST.out.box.row.drew).mono ?_ | refine (CC.out _ (ST.out.keep (below_box _ _)).box.row.drew).mono ?_); intro e w1 hp; obtain ⟨v, M, rfl, hcp, hnl⟩ := hp; obtain ⟨a2, cap2, rfl, -, -⟩ := hcp.row; have CP := Lib.hid (Copy.undrew hcp); have NL := Lib.hid hnl; (first | have ST := Lib.hid (ST.out.keep ((Below.refl _ _).drew.trans hcp.below)) | have ST := Lib.hid ((ST.out.keep (below_box _ _)).keep ((Below.refl _ _).drew.trans hcp.below))); have z0 := ST.out.box.c0; have z1 := ST.out.box.c1; have hne3 : w1.heap.size ≠ w.heap.size := Nat.ne_of_gt ST.out.box.lt; have hne4 : w.heap.size ≠ w1.heap.size := Nat.ne_of_lt ST.out.box.lt; (first | (have GB := Lib.hid ((Box2.new w0 (.slice none 0 0) (.int .i64 0) 24).keep ((Below.refl _ _).drew.trans hcp.below)); have q0 := GB.out.c0; have q1 := GB.out.c1; have r0 := GB.out.f0; have r1 := GB.out.f1) | skip); clear hcp hnl))
    · have MC := Lib.hid (MakeCp.wayB (m := m) HSZ.out CP.out NL.out)
      have HNQ : Hid (w1.heap.size ≠ w.heap.size + 2) := Lib.hid (by have h1 := MC.out.low; have h2 := HSZ.out; omega)
      (
        clear CP NL ST z0 z1
        have d0 := MC.out.g.c0
        have d1 := MC.out.g.c1
        go_wp2_with (go_at_call 20; refine (CR.out _ (ST0.out.keep MC.out.copy.below).box.row).mono ?_; rintro e w2 ⟨rfl, hb⟩; have MC := Lib.hid (MC.out.keep hb); have d0 := MC.out.g.c0; have d1 := MC.out.g.c1; have ST := Lib.hid (ST0.out.keep MC.out.copy.below); clear hb)
        obtain ⟨-, x0, x1, x2, x3, x4, x5, x6, x7, x8, x9, -⟩ := ST.out.node
        have hxd : x.core.data.size ≤ 9223372036854775807 := HXD.out
        go_region_held3 (fun w' => w'.cell? ⟨w1.heap.size, 0, none⟩ = some (.slice a2 len cap2) ∧ w'.cell? ⟨w.heap.size + 1, 0, none⟩ = some (.int .i64 x.core.kind) ∧ w'.cell? ⟨w.heap.size + 1, 1, none⟩ = some (.string x.core.name) ∧ w'.cell? ⟨w.heap.size + 1, 2, none⟩ = some (.string x.core.is) ∧ w'.cell? ⟨w.heap.size + 1, 3, none⟩ = some (.string x.core.data) ∧ w'.cell? ⟨w.heap.size + 1, 4, none⟩ = some (.slice x.aA x.aN x.aC) ∧ w'.cell? ⟨w.heap.size + 1, 5, none⟩ = some (.int .i64 x.core.parent) ∧ w'.cell? ⟨w.heap.size + 1, 6, none⟩ = some (.slice x.kA x.kN x.kC) ∧ w'.cell? ⟨w.heap.size + 1, 7, none⟩ = some (.int .i64 x.core.host) ∧ w'.cell? ⟨w.heap.size + 1, 8, none⟩ = some (.int .i64 x.core.under) ∧ w'.cell? ⟨w.heap.size + 1, 9, none⟩ = some (.int .i64 x.core.doc)) (go_keep)
          (first
            | (go_at_call 89; refine (CA.out _ (ST.out.node.ok.below (Below.refl _ _).drew)).mono ?_; intro e w3 hp; obtain ⟨y, rfl, hyc, hyo, hb, hya, hyk⟩ := hp; have hb := (Below.refl _ _).drew.trans hb; have HY := Lib.hid hyo; have HYC := Lib.hid hyc; have HYA := Lib.hid hya; have HYK := Lib.hid hyk; have HQ := Lib.hid (show (w1.heap.size : Nat) < w2.heap.size from MC.out.g.lt); have HV := Lib.hid (fun k e => (MC.out.copy.own.lt k e).2); have MC := Lib.hid (MC.out.keep hb); have d0 := MC.out.g.c0; have d1 := MC.out.g.c1; have ST := Lib.hid (ST.out.keep hb); obtain ⟨-, x0, x1, x2, x3, x4, x5, x6, x7, x8, x9, -⟩ := ST.out.node; have MC1 := Lib.hid (MC.out.keep (below_box w3 (nodB y))); have HY1 := Lib.hid (HY.out.below (below_box w3 (nodB y))); have NW := Lib.hid (World.news_of_block (heap_alloc_new w3 (nodB y))); clear hb hyo hyc hya hyk)
            | (refine step_append_keep (by rfl) _ _ _ (by rfl) w0.heap.size 46 i0 _ 10 136 Tryz.underlying22 hi0 hz0 hz1 hz2 (by rfl) (by decide) _ len (M.flatMap encN) (by rfl) MC1.out.copy.own ⟨w3.heap.size, 0, none⟩ 1 1 (encN y) (by rfl) (by rfl) NW.out (encN_one y) (by decide) (by unfold maxLen; omega) (by omega) MC1.out.copy.below.size ?_; intro g cap w4 hown1 hold hgrow hat hlt; have NR := Lib.hid (NewRow.new MC1.out HY1.out HYA.out HYK.out HQ.out HV.out HSZ.out hown1 hgrow hat); have MC := Lib.hid (MC1.out.grown hgrow hold); have ST := Lib.hid (ST0.out.keep MC.out.copy.below); have d0 := MC.out.g.c0; have d1 := MC.out.g.c1; obtain ⟨-, x0, x1, x2, x3, x4, x5, x6, x7, x8, x9, -⟩ := ST.out.node; clear hown1 hold hgrow hat hlt))
        clear x0 x1 x2 x3 x4 x5 x6 x7 x8 x9
        have HCM : Hid (coreL (M ++ [y]) = coreL L ++ [bareC (coreL L) x.core]) := Lib.hid (by
          unfold coreL
          rw [List.map_append]
          have h1 := MC.out.copy.core
          unfold coreL at h1
          rw [h1, List.map_cons, List.map_nil, HYC.out, ← HB.out]
          rfl)
        have CF : Hid (∀ W, NodeRow W (some ⟨g, 0, none⟩) (len + 1) cap (M ++ [y]) → Calls Tryz.prog 61 #[.slice (some ⟨g, 0, none⟩) (len + 1) cap, .int .i64 len] W fun e w' => e = .returned (.bool (fitsB (coreL L ++ [bareC (coreL L) x.core]) (len : Int) (bareC (coreL L) x.core))) ∧ Below W.heap.size W w') := Lib.hid (fun W h => by
          have hg : (M ++ [y])[len]? = some y := by rw [← NR.out.hl, List.getElem?_append_right (Nat.le_refl _), Nat.sub_self]; rfl
          have := fits_any (some ⟨g, 0, none⟩) (len + 1) cap (M ++ [y]) len y W h hg
          rw [HCM.out, HYC.out, ← HB.out] at this
          exact this)
        cases hB : fitsB (coreL L ++ [bareC (coreL L) x.core]) (len : Int) (bareC (coreL L) x.core) with
        | false =>
          rw [hB] at CF
          have HE1 : Hid (makeE m (coreL L) x.core = 1) := Lib.hid (by rw [HE.out, hB]; rfl)
          have HNN := Lib.hid (make_not (m := m) (F := coreL L) (x := x.core) (by rw [HE1.out]; decide))
          clear hB
          go_wp2_with (go_at_call 61; refine (CF.out _ NR.out.row).mono ?_; rintro e w5 ⟨rfl, hb⟩; have MC := Lib.hid (MC.out.keep hb); have NR := Lib.hid (NR.out.keep hb); have d0 := MC.out.g.c0; have d1 := MC.out.g.c1; have u0 := MC.out.g.f0; have ST := Lib.hid (ST0.out.keep MC.out.copy.below); have e0 := ST.out.res.c0; have e1 := ST.out.res.c1; have g0 := ST.out.res.f0; have g1 := ST.out.res.f1; have z1 := ST.out.box.c1; clear hb)
          rw [HE1.out, HNN.out.1, HNN.out.2]
          (
            obtain ⟨a3, cap3, hv3, hr3, hc3, hb3⟩ := MC.out.finish HSZ.out ST0.out.box.below (.slice a2 len cap2) (.int .i64 m)
            injection hv3 with h1 h2 h3
            subst h1 h3
            refine bodyPost_ret (v := .tuple #[forV a2 len cap2 m, .int .i64 (-1), .int .i64 1]) ?_ rfl ⟨a2, len, cap2, M, rfl, hr3, hc3, hb3⟩
            simp [results, Tryz.results45, go_sem, e0, e1])
        | true =>
          rw [hB] at CF
          by_cases hml : m ≤ (len : Int)
          · have HE1 : Hid (makeE m (coreL L) x.core = 8) := Lib.hid (by rw [HE.out, hB, if_pos rfl, if_pos hml])
            have HNN := Lib.hid (make_not (m := m) (F := coreL L) (x := x.core) (by rw [HE1.out]; decide))
            have hq1 : ((len : Int) == m) = true := beq_iff_eq.2 (by omega)
            clear hB
            go_wp2_with (go_at_call 61; refine (CF.out _ NR.out.row).mono ?_; rintro e w5 ⟨rfl, hb⟩; have MC := Lib.hid (MC.out.keep hb); have NR := Lib.hid (NR.out.keep hb); have d0 := MC.out.g.c0; have d1 := MC.out.g.c1; have u0 := MC.out.g.f0; have ST := Lib.hid (ST0.out.keep MC.out.copy.below); have e0 := ST.out.res.c0; have e1 := ST.out.res.c1; have g0 := ST.out.res.f0; have g1 := ST.out.res.f1; have z1 := ST.out.box.c1; clear hb)
            rw [HE1.out, HNN.out.1, HNN.out.2]
            (
              obtain ⟨a3, cap3, hv3, hr3, hc3, hb3⟩ := MC.out.finish HSZ.out ST0.out.box.below (.slice a2 len cap2) (.int .i64 m)
              injection hv3 with h1 h2 h3
              subst h1 h3
              refine bodyPost_ret (v := .tuple #[forV a2 len cap2 m, .int .i64 (-1), .int .i64 8]) ?_ rfl ⟨a2, len, cap2, M, rfl, hr3, hc3, hb3⟩
              simp [results, Tryz.results45, go_sem, e0, e1])
          · have HE1 : Hid (makeE m (coreL L) x.core = 0) := Lib.hid (by rw [HE.out, hB, if_pos rfl, if_neg hml])
            have HNN : Hid (makeL m (coreL L) x.core = coreL (M ++ [y]) ∧ makeN m (coreL L) x.core = len) := Lib.hid (by
              unfold makeL makeN
              rw [if_pos HE1.out, if_pos HE1.out, HCM.out, HCL.out]
              exact ⟨rfl, rfl⟩)
            have hq1 : ((len : Int) == m) = false := beq_eq_false_iff_ne.2 (by omega)
            clear hB
            have hnq1 := HNQ.out
            have hnq2 := HNQ.out.symm
            go_wp2_with (go_at_call 61; refine (CF.out _ NR.out.row).mono ?_; rintro e w5 ⟨rfl, hb⟩; have MC := Lib.hid (MC.out.keep hb); have NR := Lib.hid (NR.out.keep hb); have d0 := MC.out.g.c0; have d1 := MC.out.g.c1; have u0 := MC.out.g.f0; have ST := Lib.hid (ST0.out.keep MC.out.copy.below); have e0 := ST.out.res.c0; have e1 := ST.out.res.c1; have g0 := ST.out.res.f0; have g1 := ST.out.res.f1; have z1 := ST.out.box.c1; clear hb)
            rw [HE1.out, HNN.out.1, HNN.out.2]
            obtain ⟨hr3, hb3⟩ := NR.out.finish HSZ.out MC.out.low ST0.out.box.below MC.out.copy.below (.slice (some ⟨g, 0, none⟩) (len + 1) cap) (.slice (some ⟨g, 0, none⟩) (len + 1) cap) (.int .i64 m)
            have hfp : ForPost w (coreL (M ++ [y])) m [.int .i64 (len : Int), .int .i64 0] (.returned (.tuple #[forV (some ⟨g, 0, none⟩) (len + 1) cap m, .int .i64 (len : Int), .int .i64 0])) _ := ⟨_, _, cap, M ++ [y], rfl, hr3, rfl, hb3⟩
            refine bodyPost_ret (v := .tuple #[forV (some ⟨g, 0, none⟩) (len + 1) cap m, .int .i64 (len : Int), .int .i64 0]) ?_ rfl hfp
            simp [results, Tryz.results45, go_sem, e0, e1])
    · have MC := Lib.hid (MakeCp.wayA (m := m) HSZ.out CP.out NL.out GB.out)
      have HNQ : Hid (w0.heap.size ≠ w.heap.size + 2) := Lib.hid (by have h1 := MC.out.low; have h2 := HSZ.out; omega)
      (
        clear CP NL ST z0 z1
        have d0 := MC.out.g.c0
        have d1 := MC.out.g.c1
        go_wp2_with (go_at_call 20; refine (CR.out _ (ST0.out.keep MC.out.copy.below).box.row).mono ?_; rintro e w2 ⟨rfl, hb⟩; have MC := Lib.hid (MC.out.keep hb); have d0 := MC.out.g.c0; have d1 := MC.out.g.c1; have ST := Lib.hid (ST0.out.keep MC.out.copy.below); clear hb)
        obtain ⟨-, x0, x1, x2, x3, x4, x5, x6, x7, x8, x9, -⟩ := ST.out.node
        have hxd : x.core.data.size ≤ 9223372036854775807 := HXD.out
        go_region_held3 (fun w' => w'.cell? ⟨w0.heap.size, 0, none⟩ = some (.slice a2 len cap2) ∧ w'.cell? ⟨w.heap.size + 1, 0, none⟩ = some (.int .i64 x.core.kind) ∧ w'.cell? ⟨w.heap.size + 1, 1, none⟩ = some (.string x.core.name) ∧ w'.cell? ⟨w.heap.size + 1, 2, none⟩ = some (.string x.core.is) ∧ w'.cell? ⟨w.heap.size + 1, 3, none⟩ = some (.string x.core.data) ∧ w'.cell? ⟨w.heap.size + 1, 4, none⟩ = some (.slice x.aA x.aN x.aC) ∧ w'.cell? ⟨w.heap.size + 1, 5, none⟩ = some (.int .i64 x.core.parent) ∧ w'.cell? ⟨w.heap.size + 1, 6, none⟩ = some (.slice x.kA x.kN x.kC) ∧ w'.cell? ⟨w.heap.size + 1, 7, none⟩ = some (.int .i64 x.core.host) ∧ w'.cell? ⟨w.heap.size + 1, 8, none⟩ = some (.int .i64 x.core.under) ∧ w'.cell? ⟨w.heap.size + 1, 9, none⟩ = some (.int .i64 x.core.doc)) (go_keep)
          (first
            | (go_at_call 89; refine (CA.out _ (ST.out.node.ok.below (Below.refl _ _).drew)).mono ?_; intro e w3 hp; obtain ⟨y, rfl, hyc, hyo, hb, hya, hyk⟩ := hp; have hb := (Below.refl _ _).drew.trans hb; have HY := Lib.hid hyo; have HYC := Lib.hid hyc; have HYA := Lib.hid hya; have HYK := Lib.hid hyk; have HQ := Lib.hid (show (w0.heap.size : Nat) < w2.heap.size from MC.out.g.lt); have HV := Lib.hid (fun k e => (MC.out.copy.own.lt k e).2); have MC := Lib.hid (MC.out.keep hb); have d0 := MC.out.g.c0; have d1 := MC.out.g.c1; have ST := Lib.hid (ST.out.keep hb); obtain ⟨-, x0, x1, x2, x3, x4, x5, x6, x7, x8, x9, -⟩ := ST.out.node; have MC1 := Lib.hid (MC.out.keep (below_box w3 (nodB y))); have HY1 := Lib.hid (HY.out.below (below_box w3 (nodB y))); have NW := Lib.hid (World.news_of_block (heap_alloc_new w3 (nodB y))); clear hb hyo hyc hya hyk)
            | (refine step_append_keep (by rfl) _ _ _ (by rfl) w0.heap.size 46 i0 _ 10 136 Tryz.underlying22 hi0 hz0 hz1 hz2 (by rfl) (by decide) _ len (M.flatMap encN) (by rfl) MC1.out.copy.own ⟨w3.heap.size, 0, none⟩ 1 1 (encN y) (by rfl) (by rfl) NW.out (encN_one y) (by decide) (by unfold maxLen; omega) (by omega) MC1.out.copy.below.size ?_; intro g cap w4 hown1 hold hgrow hat hlt; have NR := Lib.hid (NewRow.new MC1.out HY1.out HYA.out HYK.out HQ.out HV.out HSZ.out hown1 hgrow hat); have MC := Lib.hid (MC1.out.grown hgrow hold); have ST := Lib.hid (ST0.out.keep MC.out.copy.below); have d0 := MC.out.g.c0; have d1 := MC.out.g.c1; obtain ⟨-, x0, x1, x2, x3, x4, x5, x6, x7, x8, x9, -⟩ := ST.out.node; clear hown1 hold hgrow hat hlt))
        clear x0 x1 x2 x3 x4 x5 x6 x7 x8 x9
        have HCM : Hid (coreL (M ++ [y]) = coreL L ++ [bareC (coreL L) x.core]) := Lib.hid (by
          unfold coreL
          rw [List.map_append]
          have h1 := MC.out.copy.core
          unfold coreL at h1
          rw [h1, List.map_cons, List.map_nil, HYC.out, ← HB.out]
          rfl)
        have CF : Hid (∀ W, NodeRow W (some ⟨g, 0, none⟩) (len + 1) cap (M ++ [y]) → Calls Tryz.prog 61 #[.slice (some ⟨g, 0, none⟩) (len + 1) cap, .int .i64 len] W fun e w' => e = .returned (.bool (fitsB (coreL L ++ [bareC (coreL L) x.core]) (len : Int) (bareC (coreL L) x.core))) ∧ Below W.heap.size W w') := Lib.hid (fun W h => by
          have hg : (M ++ [y])[len]? = some y := by rw [← NR.out.hl, List.getElem?_append_right (Nat.le_refl _), Nat.sub_self]; rfl
          have := fits_any (some ⟨g, 0, none⟩) (len + 1) cap (M ++ [y]) len y W h hg
          rw [HCM.out, HYC.out, ← HB.out] at this
          exact this)
        cases hB : fitsB (coreL L ++ [bareC (coreL L) x.core]) (len : Int) (bareC (coreL L) x.core) with
        | false =>
          rw [hB] at CF
          have HE1 : Hid (makeE m (coreL L) x.core = 1) := Lib.hid (by rw [HE.out, hB]; rfl)
          have HNN := Lib.hid (make_not (m := m) (F := coreL L) (x := x.core) (by rw [HE1.out]; decide))
          clear hB
          go_wp2_with (go_at_call 61; refine (CF.out _ NR.out.row).mono ?_; rintro e w5 ⟨rfl, hb⟩; have MC := Lib.hid (MC.out.keep hb); have NR := Lib.hid (NR.out.keep hb); have d0 := MC.out.g.c0; have d1 := MC.out.g.c1; have u0 := MC.out.g.f0; have ST := Lib.hid (ST0.out.keep MC.out.copy.below); have e0 := ST.out.res.c0; have e1 := ST.out.res.c1; have g0 := ST.out.res.f0; have g1 := ST.out.res.f1; have z1 := ST.out.box.c1; clear hb)
          rw [HE1.out, HNN.out.1, HNN.out.2]
          (
            obtain ⟨a3, cap3, hv3, hr3, hc3, hb3⟩ := MC.out.finish HSZ.out ST0.out.box.below (.slice a2 len cap2) (.int .i64 m)
            injection hv3 with h1 h2 h3
            subst h1 h3
            refine bodyPost_ret (v := .tuple #[forV a2 len cap2 m, .int .i64 (-1), .int .i64 1]) ?_ rfl ⟨a2, len, cap2, M, rfl, hr3, hc3, hb3⟩
            simp [results, Tryz.results45, go_sem, e0, e1])
        | true =>
          rw [hB] at CF
          by_cases hml : m ≤ (len : Int)
          · have HE1 : Hid (makeE m (coreL L) x.core = 8) := Lib.hid (by rw [HE.out, hB, if_pos rfl, if_pos hml])
            have HNN := Lib.hid (make_not (m := m) (F := coreL L) (x := x.core) (by rw [HE1.out]; decide))
            have hq1 : ((len : Int) == m) = true := beq_iff_eq.2 (by omega)
            clear hB
            go_wp2_with (go_at_call 61; refine (CF.out _ NR.out.row).mono ?_; rintro e w5 ⟨rfl, hb⟩; have MC := Lib.hid (MC.out.keep hb); have NR := Lib.hid (NR.out.keep hb); have d0 := MC.out.g.c0; have d1 := MC.out.g.c1; have u0 := MC.out.g.f0; have ST := Lib.hid (ST0.out.keep MC.out.copy.below); have e0 := ST.out.res.c0; have e1 := ST.out.res.c1; have g0 := ST.out.res.f0; have g1 := ST.out.res.f1; have z1 := ST.out.box.c1; clear hb)
            rw [HE1.out, HNN.out.1, HNN.out.2]
            (
              obtain ⟨a3, cap3, hv3, hr3, hc3, hb3⟩ := MC.out.finish HSZ.out ST0.out.box.below (.slice a2 len cap2) (.int .i64 m)
              injection hv3 with h1 h2 h3
              subst h1 h3
              refine bodyPost_ret (v := .tuple #[forV a2 len cap2 m, .int .i64 (-1), .int .i64 8]) ?_ rfl ⟨a2, len, cap2, M, rfl, hr3, hc3, hb3⟩
              simp [results, Tryz.results45, go_sem, e0, e1])
          · have HE1 : Hid (makeE m (coreL L) x.core = 0) := Lib.hid (by rw [HE.out, hB, if_pos rfl, if_neg hml])
            have HNN : Hid (makeL m (coreL L) x.core = coreL (M ++ [y]) ∧ makeN m (coreL L) x.core = len) := Lib.hid (by
              unfold makeL makeN
              rw [if_pos HE1.out, if_pos HE1.out, HCM.out, HCL.out]
              exact ⟨rfl, rfl⟩)
            have hq1 : ((len : Int) == m) = false := beq_eq_false_iff_ne.2 (by omega)
            clear hB
            have hnq1 := HNQ.out
            have hnq2 := HNQ.out.symm
            go_wp2_with (go_at_call 61; refine (CF.out _ NR.out.row).mono ?_; rintro e w5 ⟨rfl, hb⟩; have MC := Lib.hid (MC.out.keep hb); have NR := Lib.hid (NR.out.keep hb); have d0 := MC.out.g.c0; have d1 := MC.out.g.c1; have u0 := MC.out.g.f0; have ST := Lib.hid (ST0.out.keep MC.out.copy.below); have e0 := ST.out.res.c0; have e1 := ST.out.res.c1; have g0 := ST.out.res.f0; have g1 := ST.out.res.f1; have z1 := ST.out.box.c1; clear hb)
            rw [HE1.out, HNN.out.1, HNN.out.2]
            obtain ⟨hr3, hb3⟩ := NR.out.finish HSZ.out MC.out.low ST0.out.box.below MC.out.copy.below (.slice (some ⟨g, 0, none⟩) (len + 1) cap) (.slice (some ⟨g, 0, none⟩) (len + 1) cap) (.int .i64 m)
            have hfp : ForPost w (coreL (M ++ [y])) m [.int .i64 (len : Int), .int .i64 0] (.returned (.tuple #[forV (some ⟨g, 0, none⟩) (len + 1) cap m, .int .i64 (len : Int), .int .i64 0])) _ := ⟨_, _, cap, M ++ [y], rfl, hr3, rfl, hb3⟩
            refine bodyPost_ret (v := .tuple #[forV (some ⟨g, 0, none⟩) (len + 1) cap m, .int .i64 (len : Int), .int .i64 0]) ?_ rfl hfp
            simp [results, Tryz.results45, go_sem, e0, e1])
end Go.Proofs.YtclledmgiliggaaGreatDoor
