/- Texts joined in build order: ForestCopy ForestMakeFn ForestNew ForestIter OrderKit. -/
import Derived.Test.YtnjoimedilonnaaGreatC22
import Derived.Test.YtnjoimedilonnaaGreatC23
import Derived.RangeFuncNested
import Derived.RangeFuncBound
import Derived.RangeFuncCalls
import Derived.RangeFuncLeaves
import Derived.RangeFuncBox
import Derived.Shelf.Abstract
import Derived.Shelf.RegionOpen
import Derived.WalkKit
import Derived.OwnWalkIn
import Derived.TacticsInMore
import Derived.LoopNIn
import Derived.LoopIn
namespace Go.Proofs.YtnjoimedilonnaaGreat
open Go.RowKit
attribute [local go_sem ↓] Go.wp_at_zero Go.wp_at_succ
theorem own_setCell {w : World} {base : Nat} {e : TypeId} {size g n cap : Nat} {xs : List Value} (h : w.ownsRow base e size (.slice (some ⟨g, 0, none⟩) n cap) n xs) {j : Nat} (hj : j < n * size) (u : Value) :
    (w.setCell ⟨g, j, none⟩ u).ownsRow base e size (.slice (some ⟨g, 0, none⟩) n cap) n (xs.set j u) := by
  refine ⟨by rw [List.length_set]; exact h.1, ?_⟩
  rcases h.2 with ⟨hv, _⟩ | ⟨g', cap', cur, hv, hb, hg, h1, h2, h3, h4⟩
  · cases hv
  · injection hv with hv1 hv2 hv3
    injection hv1 with hv1
    injection hv1 with hv1
    subst hv1
    subst hv3
    obtain ⟨hlt, hk⟩ := Array.getElem?_eq_some_iff.1 hg
    have hjc : j < cur.size := by
      rw [h3]
      exact Nat.lt_of_lt_of_le hj (Nat.mul_le_mul_right _ h1)
    refine .inr ⟨g, cap, cur.set j u hjc, rfl, hb, ?_, h1, h2, by rw [Array.size_set]; exact h3, ?_⟩
    · show (w.heap.modify g _)[g]? = _
      rw [Array.getElem?_eq_getElem (by rw [Array.size_modify]; exact hlt), Array.getElem_modify_self, hk]
      simp [Array.setIfInBounds, hjc]
    · rw [Array.toList_set, List.take_set, h4]
theorem flat_set {α : Type} {enc : α → List Value} {size : Nat} : ∀ {L : List α}, (∀ x ∈ L, (enc x).length = size) → ∀ {i j : Nat} {y : α} {u : Value} {x : α}, L[i]? = some x → (enc y) = (enc x).set j u → j < size → (L.flatMap enc).set (i * size + j) u = (L.set i y).flatMap enc
  | [], _, _, _, _, _, _, hx, _, _ => by simp at hx
  | a :: r, h, 0, j, y, u, x, hx, he, hj => by
    simp at hx
    subst hx
    have hl := h a (by simp)
    rw [List.flatMap_cons, Nat.zero_mul, Nat.zero_add, List.set_append_left _ _ (by omega), List.set_cons_zero, List.flatMap_cons, he]
  | a :: r, h, i + 1, j, y, u, x, hx, he, hj => by
    have hl := h a (by simp)
    have ih := flat_set (L := r) (fun z hz => h z (by simp [hz])) (i := i) (j := j) (y := y) (u := u) (x := x) (by simpa using hx) he hj
    have e1 : (i + 1) * size + j - (enc a).length = i * size + j := by rw [hl, Nat.add_mul]; omega
    rw [List.flatMap_cons, List.set_append_right _ _ (by rw [hl, Nat.add_mul]; omega), List.set_cons_succ, List.flatMap_cons, ← ih, e1]
structure Copy (lo : Nat) (w W : World) (v : Value) (n : Nat) (M : List NodeD) (F : List Core) : Prop where
  own : W.ownsRow w.heap.size 37 10 v n (M.flatMap encN)
  hl : M.length = n
  core : coreL M = F
  ok : ∀ x ∈ M, NodeOk W x
  away : ∀ g, (lo ≤ g ∧ g < w.heap.size) ∨ v.ownBlock = some g → ∀ x ∈ M, NodeAway g x
  below : Below w.heap.size w W
theorem Copy.keep {lo : Nat} {w W W2 : World} {v : Value} {n : Nat} {M : List NodeD} {F : List Core} (h : Copy lo w W v n M F) (hb : Below W.heap.size W W2) : Copy lo w W2 v n M F :=
  ⟨own_below h.own hb, h.hl, h.core, fun x hx => (h.ok x hx).below hb, h.away, h.below.trans (hb.mono h.below.size)⟩
theorem Copy.row {lo : Nat} {w W : World} {v : Value} {n : Nat} {M : List NodeD} {F : List Core} (h : Copy lo w W v n M F) : ∃ a cap, v = .slice a n cap ∧ NodeRow W a n cap M ∧ ∀ b off, a = some ⟨b, off, none⟩ → w.heap.size ≤ b ∧ off = 0 := by
  rcases h.own.2 with ⟨rfl, h0⟩ | ⟨g, cap, cur, rfl, hb, _⟩
  · have hM : M = [] := List.eq_nil_of_length_eq_zero (by rw [h.hl, h0])
    subst hM
    subst h0
    exact ⟨none, 0, rfl, ⟨SRow.nil, (fun x hx => by cases hx), fun _ => rfl⟩, fun b off h => by cases h⟩
  · obtain ⟨a, cap', he, hr, hl⟩ := SRow.of_own (fun x _ => encN_len x) h.hl h.own
    injection he with h1 h2 h3
    subst h1; subst h3
    exact ⟨_, _, rfl, ⟨hr, h.ok, fun h => by cases h⟩, fun b off h => by injection h with h; injection h with h1 h2; exact ⟨by omega, h2.symm⟩⟩
theorem Copy.set {lo : Nat} {w W : World} {g n cap : Nat} {M : List NodeD} {F : List Core} (h : Copy lo w W (.slice (some ⟨g, 0, none⟩) n cap) n M F) (hg : w.heap.size ≤ g) {k : Nat} {x : NodeD} (hk : M[k]? = some x) {aA kA : Option Addr} {aC kC : Nat}
    (ha : AttrRow W aA x.core.attrs.length aC x.core.attrs) (hkk : IntRow W kA x.core.kids.length kC x.core.kids) (hw : ∀ g', (lo ≤ g' ∧ g' < w.heap.size) ∨ g' = g → NodeAway g' ⟨x.core, aA, x.core.attrs.length, aC, kA, x.core.kids.length, kC⟩) :
    Copy lo w ((W.setCell ⟨g, k * 10 + 4, none⟩ (.slice aA x.core.attrs.length aC)).setCell ⟨g, k * 10 + 6, none⟩ (.slice kA x.core.kids.length kC)) (.slice (some ⟨g, 0, none⟩) n cap) n (M.set k ⟨x.core, aA, x.core.attrs.length, aC, kA, x.core.kids.length, kC⟩) F := by
  obtain ⟨hl, he⟩ := List.getElem?_eq_some_iff.1 hk
  have hxm := List.mem_of_getElem? hk
  have hox := h.ok x hxm
  have hkn : k < n := by have := h.hl; omega
  have o1 := own_setCell h.own (j := k * 10 + 4) (by omega) (.slice aA x.core.attrs.length aC)
  rw [flat_set (L := M) (fun z _ => encN_len z) (i := k) (j := 4) (y := ⟨x.core, aA, x.core.attrs.length, aC, x.kA, x.kN, x.kC⟩) hk rfl (by omega)] at o1
  have o2 := own_setCell o1 (j := k * 10 + 6) (by omega) (.slice kA x.core.kids.length kC)
  rw [flat_set (L := M.set k ⟨x.core, aA, x.core.attrs.length, aC, x.kA, x.kN, x.kC⟩) (fun z _ => encN_len z) (i := k) (j := 6) (y := ⟨x.core, aA, x.core.attrs.length, aC, kA, x.core.kids.length, kC⟩) (u := .slice kA x.core.kids.length kC) (x := ⟨x.core, aA, x.core.attrs.length, aC, x.kA, x.kN, x.kC⟩) (List.getElem?_set_self hl) rfl (by omega), List.set_set] at o2
  refine ⟨o2, by rw [List.length_set]; exact h.hl, ?_, fun y hy => ?_, fun g' hg' y hy => ?_, (h.below.setCell (p := ⟨g, k * 10 + 4, none⟩) hg _).setCell (p := ⟨g, k * 10 + 6, none⟩) hg _⟩
  · rw [← h.core]
    unfold coreL
    rw [List.map_set]
    have : (M.map (·.core))[k]? = some x.core := by rw [List.getElem?_map, hk]; rfl
    obtain ⟨hl2, he2⟩ := List.getElem?_eq_some_iff.1 this
    show (M.map (·.core)).set k x.core = _
    rw [← he2, List.set_getElem_self]
  · have haw := h.away g (.inr rfl)
    have hw := hw g (.inr rfl)
    rcases List.mem_or_eq_of_mem_set hy with hy | rfl
    · exact ((h.ok y hy).setCell (haw y hy) _).setCell (haw y hy) _
    · have hq : NodeOk W ⟨x.core, aA, x.core.attrs.length, aC, kA, x.core.kids.length, kC⟩ := ⟨ha, hkk, hox.name, hox.is, hox.data, hox.kind, hox.parent, hox.host, hox.under, hox.doc⟩
      exact (hq.setCell hw _).setCell hw _
  · rcases List.mem_or_eq_of_mem_set hy with hy | rfl
    · exact h.away g' hg' y hy
    · refine hw g' ?_
      rcases hg' with h | h
      · exact .inl h
      · injection h with h
        exact .inr h.symm
theorem own_otherCell {w : World} {base : Nat} {e : TypeId} {size n g o : Nat} {v : Value} {xs : List Value} (h : w.ownsRow base e size v n xs) (hg : g < base) (u : Value) : (w.setCell ⟨g, o, none⟩ u).ownsRow base e size v n xs := by
  refine ⟨h.1, ?_⟩
  rcases h.2 with h0 | ⟨g', cap, cur, hv, hb, hg', h3⟩
  · exact .inl h0
  · exact .inr ⟨g', cap, cur, hv, hb, (Below.heap_setCell _ _ _ g' (by show g' ≠ g; omega)).trans hg', h3⟩
theorem own_base {w : World} {b1 b2 : Nat} {e : TypeId} {size n : Nat} {v : Value} {xs : List Value} (h : w.ownsRow b2 e size v n xs) (hb : b1 ≤ b2) : w.ownsRow b1 e size v n xs := by
  refine ⟨h.1, ?_⟩
  rcases h.2 with h | ⟨g, cap, cur, h1, h2, h3⟩
  · exact .inl h
  · exact .inr ⟨g, cap, cur, h1, Nat.le_trans hb h2, h3⟩
theorem Copy.finish {w w0 W : World} {v : Value} {n : Nat} {M : List NodeD} {F : List Core} (h : Copy w.heap.size w0 W v n M F) (hb : Below w.heap.size w w0) {g : Nat} (h1 : w.heap.size ≤ g) (h2 : g < w0.heap.size) (o1 o2 : Nat) (u1 u2 : Value) :
    Copy w.heap.size w ((W.setCell ⟨g, o1, none⟩ u1).setCell ⟨g, o2, none⟩ u2) v n M F := by
  refine ⟨own_base (own_otherCell (own_otherCell h.own h2 u1) h2 u2) hb.size, h.hl, h.core, fun x hx => ?_, fun g' hg' => ?_, ((hb.trans (h.below.mono hb.size)).setCell (p := ⟨g, o1, none⟩) h1 u1).setCell (p := ⟨g, o2, none⟩) h1 u2⟩
  · have ha := h.away g (.inl ⟨h1, h2⟩) x hx
    exact ((h.ok x hx).setCell ha u1).setCell ha u2
  · rcases hg' with hg' | hg'
    · omega
    · exact h.away g' (.inr hg')
def newLists (B : Nat) (x : NodeD) : Prop := (∀ b off, x.aA = some ⟨b, off, none⟩ → B ≤ b) ∧ (∀ b off, x.kA = some ⟨b, off, none⟩ → B ≤ b)
theorem newLists.away {B g : Nat} {x : NodeD} (h : newLists B x) (hg : g < B) : NodeAway g x := ⟨fun b off ha _ e => by have := h.1 b off ha; omega, fun b off ha _ e => by have := h.2 b off ha; omega⟩
theorem own_free {w : World} {base : Nat} {e : TypeId} {size g n cap : Nat} {xs : List Value} (h : w.ownsRow base e size (.slice (some ⟨g, 0, none⟩) n cap) n xs) (j : Nat) : w.frozen? ⟨g, j, none⟩ = false := by
  rcases h.2 with ⟨hv, _⟩ | ⟨g', cap', cur, hv, hb, hg, _⟩
  · cases hv
  · injection hv with hv1
    injection hv1 with hv1
    injection hv1 with hv1
    subst hv1
    exact row_free hg j
theorem Copy.start {w w0 W : World} {v : Value} {n : Nat} {L : List NodeD} (hl : L.length = n) (hok : ∀ x ∈ L, NodeOk w x) (hb : Below w.heap.size w w0) (hb2 : Below w0.heap.size w0 W) (h : W.ownsRow w0.heap.size 37 10 v L.length (L.flatMap encN)) : Copy w.heap.size w0 W v n L (coreL L) := by
  refine ⟨hl ▸ h, hl, rfl, fun x hx => ((hok x hx).below hb).below hb2, fun g hg x hx => ?_, hb2⟩
  rcases hg with hg | hg
  · exact (hok x hx).away hg.1
  rcases h.2 with ⟨rfl, _⟩ | ⟨g', cap, cur, rfl, hlo, _⟩
  · cases hg
  · injection hg with hg
    have hg2 : g' = g := hg
    subst hg2
    exact (hok x hx).away (Nat.le_trans hb.size hlo)
structure CopyIn (lo : Nat) (w W : World) (g n cap k : Nat) (M : List NodeD) (F : List Core) (b : Nat) (x : NodeD) : Prop where
  copy : Copy lo w W (.slice (some ⟨g, 0, none⟩) n cap) n M F
  low : w.heap.size ≤ g
  hx : M[k]? = some x
  lt : b < W.heap.size
  c4 : W.cell? ⟨b, 4, none⟩ = some (.slice x.aA x.aN x.aC)
  c6 : W.cell? ⟨b, 6, none⟩ = some (.slice x.kA x.kN x.kC)
theorem CopyIn.keep {lo : Nat} {w W W2 : World} {g n cap k : Nat} {M : List NodeD} {F : List Core} {b : Nat} {x : NodeD} (h : CopyIn lo w W g n cap k M F b x) (hb : Below W.heap.size W W2) : CopyIn lo w W2 g n cap k M F b x :=
  ⟨h.copy.keep hb, h.low, h.hx, Nat.lt_of_lt_of_le h.lt hb.size, (hb.cell (p := ⟨b, 4, none⟩) h.lt).trans h.c4, (hb.cell (p := ⟨b, 6, none⟩) h.lt).trans h.c6⟩
theorem CopyIn.ok {lo : Nat} {w W : World} {g n cap k : Nat} {M : List NodeD} {F : List Core} {b : Nat} {x : NodeD} (h : CopyIn lo w W g n cap k M F b x) : NodeOk W x := h.copy.ok x (List.mem_of_getElem? h.hx)
theorem CopyIn.at {lo : Nat} {w W : World} {g n cap k : Nat} {M : List NodeD} {F : List Core} {b : Nat} {x : NodeD} (h : CopyIn lo w W g n cap k M F b x) : NodeAt W g (k * 10) x := by
  obtain ⟨a, cap', he, hr, _⟩ := h.copy.row
  injection he with e1 e2 e3
  subst e1
  have hk : k < n := by
    have := (List.getElem?_eq_some_iff.1 h.hx).1
    rw [h.copy.hl] at this
    exact this
  obtain ⟨b', off, y, hab, _, hy, hat, _⟩ := hr.get hk
  injection hab with hab
  injection hab with e1 e2
  subst e1 e2
  obtain rfl : x = y := Option.some.inj (h.hx.symm.trans hy)
  rwa [Nat.zero_add] at hat
structure ForBox (w W : World) (g a : Nat) (m : Int) : Prop where
  lt : g < W.heap.size
  c0 : W.cell? ⟨g, 0, none⟩ = some (.slice none 0 0)
  c1 : W.cell? ⟨g, 1, none⟩ = some (.int .i64 0)
  f0 : W.frozen? ⟨g, 0, none⟩ = false
  f1 : W.frozen? ⟨g, 1, none⟩ = false
  d1 : W.cell? ⟨a, 1, none⟩ = some (.int .i64 m)
theorem ForBox.keep {w W W2 : World} {g a : Nat} {m : Int} (h : ForBox w W g a m) (ha : a < W.heap.size) (hb : Below W.heap.size W W2) : ForBox w W2 g a m :=
  ⟨Nat.lt_of_lt_of_le h.lt hb.size, (hb.cell (p := ⟨g, 0, none⟩) h.lt).trans h.c0, (hb.cell (p := ⟨g, 1, none⟩) h.lt).trans h.c1, (hb.frozen (p := ⟨g, 0, none⟩) h.lt).trans h.f0, (hb.frozen (p := ⟨g, 1, none⟩) h.lt).trans h.f1, (hb.cell (p := ⟨a, 1, none⟩) ha).trans h.d1⟩
end Go.Proofs.YtnjoimedilonnaaGreat
namespace Go.Proofs.YtnjoimedilonnaaGreat
open Go.RowKit
attribute [local go_sem ↓] Go.wp_at_zero Go.wp_at_succ
theorem NodeRow.drew {w : World} {a : Option Addr} {len cap : Nat} {L : List NodeD} (h : NodeRow w a len cap L) : NodeRow w.drew a len cap L := h.below (Below.refl _ _).drew
abbrev zeroFB : Obj := .cells #[.slice none 0 0, .int .i64 0] 24
structure Box2 (W : World) (g : Nat) (u v : Value) : Prop where
  lt : g < W.heap.size
  c0 : W.cell? ⟨g, 0, none⟩ = some u
  c1 : W.cell? ⟨g, 1, none⟩ = some v
  f0 : W.frozen? ⟨g, 0, none⟩ = false
  f1 : W.frozen? ⟨g, 1, none⟩ = false
theorem Box2.keep {W W2 : World} {g : Nat} {u v : Value} (h : Box2 W g u v) (hb : Below W.heap.size W W2) : Box2 W2 g u v :=
  ⟨Nat.lt_of_lt_of_le h.lt hb.size, (hb.cell (p := ⟨g, 0, none⟩) h.lt).trans h.c0, (hb.cell (p := ⟨g, 1, none⟩) h.lt).trans h.c1, (hb.frozen (p := ⟨g, 0, none⟩) h.lt).trans h.f0, (hb.frozen (p := ⟨g, 1, none⟩) h.lt).trans h.f1⟩
theorem Box2.new (W : World) (u v : Value) (t : TypeId) : Box2 (W.alloc (.cells #[u, v] t)) W.heap.size u v :=
  ⟨by simp, cell_of_row _ _ 0 _ t (0, 0) (heap_alloc_new W _), cell_of_row _ _ 1 _ t (0, 0) (heap_alloc_new W _), row_free (heap_alloc_new W (.cells #[u, v] t)) 0, row_free (heap_alloc_new W (.cells #[u, v] t)) 1⟩
theorem Box2.grown {W W2 : World} {g : Nat} {u v : Value} {row : Option Nat} (h : Box2 W g u v) (hg : W.grownBy W2 row) (hne : some g ≠ row) : Box2 W2 g u v := by
  have e := hg.block g h.lt hne
  exact ⟨Nat.lt_of_lt_of_le h.lt hg.size, (World.cell?_of_block (a := ⟨g, 0, none⟩) e).trans h.c0, (World.cell?_of_block (a := ⟨g, 1, none⟩) e).trans h.c1, (World.frozen?_of_block (a := ⟨g, 0, none⟩) e).trans h.f0, (World.frozen?_of_block (a := ⟨g, 1, none⟩) e).trans h.f1⟩
structure MakeSt (w W : World) (a : Option Addr) (len cap : Nat) (m : Int) (L : List NodeD) (x : NodeD) : Prop where
  box : Box w W w.heap.size a len cap m L (coreL L)
  node : NBox w W (w.heap.size + 1) x
  res : Box2 W (w.heap.size + 2) (.slice none 0 0) (.int .i64 0)
theorem MakeSt.keep {w W W2 : World} {a : Option Addr} {len cap : Nat} {m : Int} {L : List NodeD} {x : NodeD} (h : MakeSt w W a len cap m L x) (hb : Below W.heap.size W W2) : MakeSt w W2 a len cap m L x := ⟨h.box.keep hb, h.node.keep hb, h.res.keep hb⟩
theorem MakeSt.start {w : World} {a : Option Addr} {len cap : Nat} {m : Int} {L : List NodeD} {x : NodeD} (h : NodeRow w a len cap L) (hx : NodeOk w x) : MakeSt w (((w.alloc (forB a len cap m)).alloc (nodB x)).alloc zeroFB) a len cap m L x := by
  refine ⟨((Box.start h).keep (below_box _ _)).keep (below_box _ _), (NBox.next hx).keep (below_box _ _), ?_⟩
  have := Box2.new ((w.alloc (forB a len cap m)).alloc (nodB x)) (.slice none 0 0) (.int .i64 0) 24
  rwa [show ((w.alloc (forB a len cap m)).alloc (nodB x)).heap.size = w.heap.size + 2 by simp] at this
theorem own_boxCell {w : World} {base : Nat} {e : TypeId} {size n g o : Nat} {v : Value} {xs : List Value} (h : w.ownsRow base e size v n xs) (hne : v.ownBlock ≠ some g) (u : Value) : (w.setCell ⟨g, o, none⟩ u).ownsRow base e size v n xs := by
  refine ⟨h.1, ?_⟩
  rcases h.2 with h0 | ⟨g', cap, cur, hv, hb, hg', h3⟩
  · exact .inl h0
  · refine .inr ⟨g', cap, cur, hv, hb, (Below.heap_setCell _ _ _ g' (fun e => hne ?_)).trans hg', h3⟩
    have e2 : g' = g := e
    rw [hv, ← e2]
    rfl
theorem Copy.boxCell {lo : Nat} {w W : World} {v : Value} {n : Nat} {M : List NodeD} {F : List Core} (h : Copy lo w W v n M F) {g o : Nat} (hne : v.ownBlock ≠ some g) (haw : ∀ x ∈ M, NodeAway g x) (hb : ∀ u, Below w.heap.size w (W.setCell ⟨g, o, none⟩ u)) (u : Value) : Copy lo w (W.setCell ⟨g, o, none⟩ u) v n M F :=
  ⟨own_boxCell h.own hne u, h.hl, h.core, fun x hx => (h.ok x hx).setCell (haw x hx) u, h.away, hb u⟩
structure MakeCp (w w0 W : World) (len : Nat) (m : Int) (F : List Core) (q : Nat) (v : Value) (M : List NodeD) : Prop where
  copy : Copy w0.heap.size w0 W v len M F
  g : Box2 W q v (.int .i64 m)
  low : w0.heap.size ≤ q
  ne : v.ownBlock ≠ some q
  aq : ∀ y ∈ M, NodeAway q y
  ar : ∀ y ∈ M, NodeAway (w.heap.size + 2) y
theorem MakeCp.keep {w w0 W W2 : World} {len : Nat} {m : Int} {F : List Core} {q : Nat} {v : Value} {M : List NodeD} (h : MakeCp w w0 W len m F q v M) (hb : Below W.heap.size W W2) : MakeCp w w0 W2 len m F q v M :=
  ⟨h.copy.keep hb, h.g.keep hb, h.low, h.ne, h.aq, h.ar⟩
theorem Box2.set {W : World} {g : Nat} {u v : Value} (h : Box2 W g u v) (u2 v2 : Value) : Box2 ((W.setCell ⟨g, 0, none⟩ u2).setCell ⟨g, 1, none⟩ v2) g u2 v2 := by
  have e1 : (W.setCell ⟨g, 0, none⟩ u2).cell? ⟨g, 1, none⟩ = some v := by rw [World.cell?_setCell_other _ _ _ _ (fun e => by injection e with _ e; exact absurd e (by decide))]; exact h.c1
  refine ⟨by simpa [World.setCell] using h.lt, ?_, World.cell?_setCell_same _ _ _ e1, by rw [World.frozen?_setCell, World.frozen?_setCell]; exact h.f0, by rw [World.frozen?_setCell, World.frozen?_setCell]; exact h.f1⟩
  rw [World.cell?_setCell_other _ _ _ _ (fun e => by injection e with _ e; exact absurd e (by decide))]
  exact World.cell?_setCell_same _ _ _ h.c0
theorem own_not {w : World} {base : Nat} {e : TypeId} {size n g : Nat} {v : Value} {xs : List Value} (h : w.ownsRow base e size v n xs) (hg : g < base) : v.ownBlock ≠ some g := fun e => by
  have := (h.lt g e).1
  omega
theorem MakeCp.finish {w w0 W : World} {len : Nat} {m : Int} {F : List Core} {q : Nat} {v : Value} {M : List NodeD} (h : MakeCp w w0 W len m F q v M) (hsz : w.heap.size + 3 = w0.heap.size) (hb : Below w.heap.size w w0) (u1 u2 : Value) :
    ∃ a cap, v = .slice a len cap ∧ NodeRow ((W.setCell ⟨w.heap.size + 2, 0, none⟩ u1).setCell ⟨w.heap.size + 2, 1, none⟩ u2) a len cap M ∧ coreL M = F ∧ Below w.heap.size w ((W.setCell ⟨w.heap.size + 2, 0, none⟩ u1).setCell ⟨w.heap.size + 2, 1, none⟩ u2) := by
  have hne : v.ownBlock ≠ some (w.heap.size + 2) := own_not h.copy.own (by omega)
  have c2 : Copy w.heap.size w ((W.setCell ⟨w.heap.size + 2, 0, none⟩ u1).setCell ⟨w.heap.size + 2, 1, none⟩ u2) v len M F :=
    ⟨own_base (own_boxCell (own_boxCell h.copy.own hne _) hne _) hb.size, h.copy.hl, h.copy.core, fun x hx => ((h.copy.ok x hx).setCell (h.ar x hx) _).setCell (h.ar x hx) _, fun g hg => by
      rcases hg with hg | hg
      · omega
      · exact h.copy.away g (.inr hg), ((hb.trans (h.copy.below.mono hb.size)).setCell (p := ⟨w.heap.size + 2, 0, none⟩) (by show w.heap.size ≤ w.heap.size + 2; omega) _).setCell (p := ⟨w.heap.size + 2, 1, none⟩) (by show w.heap.size ≤ w.heap.size + 2; omega) _⟩
  obtain ⟨a, cap, hv, hr, _⟩ := c2.row
  exact ⟨a, cap, hv, hr, h.copy.core, c2.below⟩
theorem SRow.grown {α : Type} {enc : α → List Value} {size : Nat} {w w' : World} {a : Option Addr} {len cap : Nat} {L : List α} {row : Option Nat} (h : SRow enc size w a len cap L) (hg : w.grownBy w' row) (hne : ∀ b off, a = some ⟨b, off, none⟩ → 0 < len → some b ≠ row) : SRow enc size w' a len cap L :=
  h.keep hg.size (fun b off ha hp o => by
    rcases h.cells with h0 | ⟨b', off', ha', hlt, _⟩
    · omega
    · rw [ha] at ha'
      injection ha' with ha'
      injection ha' with e1
      subst e1
      exact World.cell?_of_block (a := ⟨b, o, none⟩) (hg.block b hlt (hne b off ha hp)))
theorem NodeOk.grown {w w' : World} {x : NodeD} {row : Option Nat} (h : NodeOk w x) (hg : w.grownBy w' row) (ha : ∀ g, row = some g → NodeAway g x) : NodeOk w' x :=
  ⟨⟨h.attrs.row.grown hg (fun b off he hp e => (ha b e.symm).1 b off he hp rfl), h.attrs.small, h.attrs.hnil⟩, ⟨h.kids.row.grown hg (fun b off he hp e => (ha b e.symm).2 b off he hp rfl), h.kids.inb, h.kids.hnil⟩, h.name, h.is, h.data, h.kind, h.parent, h.host, h.under, h.doc⟩
theorem MakeCp.grown {w w0 W W2 : World} {len : Nat} {m : Int} {F : List Core} {q : Nat} {v : Value} {M : List NodeD} (h : MakeCp w w0 W len m F q v M) (hg : W.grownBy W2 v.ownBlock) (ho : W2.ownsRow w0.heap.size 37 10 v len (M.flatMap encN)) : MakeCp w w0 W2 len m F q v M :=
  ⟨⟨ho, h.copy.hl, h.copy.core, fun x hx => (h.copy.ok x hx).grown hg (fun g e => h.copy.away g (.inr e) x hx), h.copy.away, h.copy.below.grown hg h.copy.below.size (fun k e => (h.copy.own.lt k e).1)⟩, h.g.grown hg (fun e => h.ne e.symm), h.low, h.ne, h.aq, h.ar⟩
structure NewRow (w w0 W : World) (len : Nat) (q g cap : Nat) (M : List NodeD) (y : NodeD) : Prop where
  own : W.ownsRow w0.heap.size 37 10 (.slice (some ⟨g, 0, none⟩) (len + 1) cap) (len + 1) ((M ++ [y]).flatMap encN)
  hl : M.length = len
  ok : ∀ z ∈ M ++ [y], NodeOk W z
  nq : g ≠ q
  aq : ∀ z ∈ M ++ [y], NodeAway q z
  ar : ∀ z ∈ M ++ [y], NodeAway (w.heap.size + 2) z
theorem NewRow.keep {w w0 W W2 : World} {len q g cap : Nat} {M : List NodeD} {y : NodeD} (h : NewRow w w0 W len q g cap M y) (hb : Below W.heap.size W W2) : NewRow w w0 W2 len q g cap M y :=
  ⟨own_below h.own hb, h.hl, fun z hz => (h.ok z hz).below hb, h.nq, h.aq, h.ar⟩
theorem NewRow.row {w w0 W : World} {len q g cap : Nat} {M : List NodeD} {y : NodeD} (h : NewRow w w0 W len q g cap M y) : NodeRow W (some ⟨g, 0, none⟩) (len + 1) cap (M ++ [y]) := by
  obtain ⟨a, cap', he, hr, _⟩ := SRow.of_own (L := M ++ [y]) (fun x _ => encN_len x) (by rw [List.length_append, h.hl]; rfl) h.own
  injection he with h1 h2 h3
  subst h1; subst h3
  exact ⟨hr, h.ok, fun h => by cases h⟩
theorem NewRow.new {w w0 W W2 : World} {len : Nat} {m : Int} {F : List Core} {q g cap : Nat} {v : Value} {M : List NodeD} {y : NodeD} (h : MakeCp w w0 W len m F q v M) (hy : NodeOk W y) {B : Nat} (hya : ∀ b off, y.aA = some ⟨b, off, none⟩ → B ≤ b) (hyk : y.kA = none) (hqB : q < B) (hvB : ∀ k, v.ownBlock = some k → k < B) (hsz : w.heap.size + 3 = w0.heap.size)
    (ho : W2.ownsRow w0.heap.size 37 10 (.slice (some ⟨g, 0, none⟩) (len + 1) cap) (len + 1) (M.flatMap encN ++ encN y)) (hg : W.grownBy W2 v.ownBlock) (hat : v.ownBlock = some g ∨ g = W.heap.size) : NewRow w w0 W2 len q g cap M y := by
  have away : ∀ k, k < B → NodeAway k y := fun k hk => ⟨fun b off hb _ e => by have := hya b off hb; omega, fun b off hb => by rw [hyk] at hb; cases hb⟩
  have hlow := h.low
  refine ⟨by simpa using ho, h.copy.hl, fun z hz => ?_, ?_, fun z hz => ?_, fun z hz => ?_⟩
  · rcases List.mem_append.1 hz with hz | hz
    · exact (h.copy.ok z hz).grown hg (fun k e => h.copy.away k (.inr e) z hz)
    · obtain rfl : z = y := by simpa using hz
      exact hy.grown hg (fun k e => away k (hvB k e))
  · rcases hat with hat | hat
    · intro e
      exact h.ne (by rw [hat, e])
    · have := h.g.lt
      omega
  · rcases List.mem_append.1 hz with hz | hz
    · exact h.aq z hz
    · obtain rfl : z = y := by simpa using hz
      exact away q hqB
  · rcases List.mem_append.1 hz with hz | hz
    · exact h.ar z hz
    · obtain rfl : z = y := by simpa using hz
      exact away _ (by omega)
theorem NewRow.finish {w w0 W : World} {len q g cap : Nat} {M : List NodeD} {y : NodeD} (h : NewRow w w0 W len q g cap M y) (hsz : w.heap.size + 3 = w0.heap.size) (hq : w0.heap.size ≤ q) (hb : Below w.heap.size w w0) (hb2 : Below w0.heap.size w0 W) (u0 u1 u2 : Value) :
    NodeRow (((W.setCell ⟨q, 0, none⟩ u0).setCell ⟨w.heap.size + 2, 0, none⟩ u1).setCell ⟨w.heap.size + 2, 1, none⟩ u2) (some ⟨g, 0, none⟩) (len + 1) cap (M ++ [y]) ∧ Below w.heap.size w (((W.setCell ⟨q, 0, none⟩ u0).setCell ⟨w.heap.size + 2, 0, none⟩ u1).setCell ⟨w.heap.size + 2, 1, none⟩ u2) := by
  have n1 : (Value.slice (some ⟨g, 0, none⟩) (len + 1) cap).ownBlock ≠ some q := fun e => h.nq (by injection e)
  have n2 : (Value.slice (some ⟨g, 0, none⟩) (len + 1) cap).ownBlock ≠ some (w.heap.size + 2) := own_not h.own (by omega)
  have c2 : NewRow w w0 (((W.setCell ⟨q, 0, none⟩ u0).setCell ⟨w.heap.size + 2, 0, none⟩ u1).setCell ⟨w.heap.size + 2, 1, none⟩ u2) len q g cap M y :=
    ⟨own_boxCell (own_boxCell (own_boxCell h.own n1 _) n2 _) n2 _, h.hl, fun z hz => (((h.ok z hz).setCell (h.aq z hz) _).setCell (h.ar z hz) _).setCell (h.ar z hz) _, h.nq, h.aq, h.ar⟩
  exact ⟨c2.row, (((hb.trans (hb2.mono hb.size)).setCell (p := ⟨q, 0, none⟩) (by show w.heap.size ≤ q; omega) _).setCell (p := ⟨w.heap.size + 2, 0, none⟩) (by show w.heap.size ≤ w.heap.size + 2; omega) _).setCell (p := ⟨w.heap.size + 2, 1, none⟩) (by show w.heap.size ≤ w.heap.size + 2; omega) _⟩
end Go.Proofs.YtnjoimedilonnaaGreat
namespace Go.Proofs.YtnjoimedilonnaaGreat
open Go.RowKit
def zeroD : NodeD := ⟨⟨0, ⟨#[]⟩, ⟨#[]⟩, ⟨#[]⟩, [], 0, [], 0, 0, 0⟩, none, 0, 0, none, 0, 0⟩
theorem zeroD_ok (w : World) : NodeOk w zeroD := by
  refine ⟨⟨SRow.nil, (fun z hz => by cases hz), fun _ => rfl⟩, ⟨SRow.nil, (fun z hz => by cases hz), fun _ => rfl⟩, ?_, ?_, ?_, ?_, ?_, ?_, ?_, ?_⟩
  · show 0 ≤ maxLen; decide
  · show 0 ≤ maxLen; decide
  · show 0 ≤ maxLen; decide
  all_goals exact ⟨by show (_ : Int) ≤ 0; decide, by show (0 : Int) ≤ _; decide⟩
theorem right_doc (m : Int) : rightF m [docC] = newOk m := by
  have h : ([docC].zipIdx.all (fun p => nodeOk [docC] p.2 p.1) && (List.range [docC].length).all (fun i => endsZ (nextUp [docC]) ([docC].length + 1) (i : Int)) && headDoc [docC]) = true := by decide +kernel
  simp only [Bool.and_eq_true] at h
  unfold rightF newOk
  rw [h.1.1, h.1.2, h.2, Bool.eq_iff_iff]
  simp
  omega
theorem doc_small {y : NodeD} (h : y.core = docC) : smallF [y] := by
  refine ⟨by simp, fun x hx => ?_⟩
  obtain rfl : x = y := by simpa using hx
  unfold smallN
  rw [h]
  exact ⟨by decide, by decide, by decide⟩
theorem NodeRow.boxCell {w : World} {b o g len cap : Nat} {L : List NodeD} (h : NodeRow w (some ⟨b, o, none⟩) len cap L) (hne : b ≠ g) (ha : ∀ x ∈ L, NodeAway g x) (o2 : Nat) (u : Value) : NodeRow (w.setCell ⟨g, o2, none⟩ u) (some ⟨b, o, none⟩) len cap L :=
  ⟨h.row.keep (by simp [World.setCell]) (fun b' off e _ o' => World.cell?_setCell_other _ _ _ _ (fun e2 => hne (by injection e with e; injection e with e; injection e2 with e2; omega))), fun x hx => (h.ok x hx).setCell (ha x hx) u, h.hnil⟩
set_option maxHeartbeats 8000000 in
set_option maxRecDepth 100000 in
theorem newFn_any (most : Int) (w : World) (hm : In64 most) : Calls Tryz.prog 22 #[.int .i64 most] w (ForPost w (newL most) (newM most) [.int .i64 (newE most)]) := by
  have HM := Lib.hid hm
  have CA : Hid (∀ W, Calls Tryz.prog 38 #[nodVal zeroD, .int .i64 0] W (AlonePost W zeroD.core 0)) := Lib.hid (fun W => alone_any zeroD 0 W (zeroD_ok W) ⟨by decide, by decide⟩ (by decide))
  have B0 := Lib.hid (Box2.new w (.slice none 0 0) (.int .i64 0) 24)
  clear hm
  go_enter Tryz.func22, Tryz.ntmps22
  go_wp2_with (go_at_call 38; refine (CA.out _).mono ?_; intro e w1 hp; obtain ⟨y, rfl, hyc, hyo, hb, hya, hyk⟩ := hp; have HY := Lib.hid hyo; have HYC := Lib.hid hyc; have HB := Lib.hid hb; have HYA := Lib.hid hya; have HYK := Lib.hid hyk; have B1 := Lib.hid (B0.out.keep hb); clear hyo hyc hb hya hyk)
  obtain ⟨W, hW, RW, BR, BG, BW⟩ : ∃ W, (w1.alloc (nodB y)).alloc (.cells #[.slice (some ⟨w1.heap.size, 0, none⟩) 1 1, .int .i64 most] 24) = W ∧ NodeRow W (some ⟨w1.heap.size, 0, none⟩) 1 1 [y] ∧ Box2 W w.heap.size (.slice none 0 0) (.int .i64 0) ∧ Box2 W (w1.heap.size + 1) (.slice (some ⟨w1.heap.size, 0, none⟩) 1 1) (.int .i64 most) ∧ Below w.heap.size w W := by
    have h1 : NodeRow (w1.alloc (nodB y)) (some ⟨w1.heap.size, 0, none⟩) 1 1 [y] := ⟨own_one w1 37 y (encN y).toArray (by simp) rfl, (fun z hz => by
      obtain rfl : z = y := by simpa using hz
      exact HY.out.below (below_box _ _)), fun h => by cases h⟩
    have hs : (w1.alloc (nodB y)).heap.size = w1.heap.size + 1 := by simp
    have h2 := Box2.new (w1.alloc (nodB y)) (.slice (some ⟨w1.heap.size, 0, none⟩) 1 1) (.int .i64 most) 24
    rw [hs] at h2
    exact ⟨_, rfl, h1.below (below_box _ _), (B1.out.keep (below_box _ _)).keep (below_box _ _), h2, ((below_box w _).trans ((HB.out.mono (by simp)).trans (((below_box w1 _).trans ((below_box _ _).mono (by simp))).mono (by have := HB.out.size; simp at this; omega))))⟩
  rw [hW]
  have RW := Lib.hid RW
  have BR := Lib.hid BR
  have BG := Lib.hid BG
  have BW := Lib.hid BW
  have CR : Hid (Calls Tryz.prog 14 #[forV (some ⟨w1.heap.size, 0, none⟩) 1 1 most] W fun e w' => e = .returned (.bool (newOk most)) ∧ Below W.heap.size W w') := Lib.hid (by
    have hc : coreL [y] = [docC] := by unfold coreL; rw [List.map_cons, List.map_nil, HYC.out]; rfl
    have := rightF_any (some ⟨w1.heap.size, 0, none⟩) 1 1 most [y] W RW.out HM.out (doc_small (by rw [HYC.out]; rfl))
    rwa [hc, right_doc] at this)
  clear hW
  cases hn : newOk most with
  | false =>
    rw [hn] at CR
    have HN : Hid (newL most = [] ∧ newM most = 0 ∧ newE most = 1) := Lib.hid (by unfold newL newM newE; rw [hn]; exact ⟨rfl, rfl, rfl⟩)
    clear hn
    go_wp2_with (refine CR.out.mono ?_; rintro e w2 ⟨rfl, hb⟩; have BR := Lib.hid (BR.out.keep hb); have BG := Lib.hid (BG.out.keep hb); have BW := Lib.hid (BW.out.trans (hb.mono BW.out.size)); have e0 := BR.out.c0; have e1 := BR.out.c1; have g0 := BR.out.f0; have g1 := BR.out.f1; clear hb)
    rw [HN.out.1, HN.out.2.1, HN.out.2.2]
    refine bodyPost_ret (v := .tuple #[forV none 0 0 0, .int .i64 1]) ?_ rfl ⟨none, 0, 0, [], rfl, ⟨SRow.nil, (fun x hx => by cases hx), fun _ => rfl⟩, rfl, (BW.out.setCell (p := ⟨w.heap.size, 0, none⟩) (Nat.le_refl _) _).setCell (p := ⟨w.heap.size, 1, none⟩) (Nat.le_refl _) _⟩
    simp [results, Tryz.results22, go_sem, e0, e1]
  | true =>
    rw [hn] at CR
    have HN : Hid (newL most = [docC] ∧ newM most = most ∧ newE most = 0) := Lib.hid (by unfold newL newM newE; rw [hn]; exact ⟨rfl, rfl, rfl⟩)
    have HNE : Hid (w1.heap.size ≠ w.heap.size) := Lib.hid (by have := HB.out.size; simp at this; omega)
    have HAW : Hid (∀ x ∈ [y], NodeAway w.heap.size x) := Lib.hid (fun x hx => by
      obtain rfl : x = y := by simpa using hx
      refine ⟨fun b off hb _ e => ?_, fun b off hb => by rw [HYK.out] at hb; cases hb⟩
      have := HYA.out b off hb
      simp at this
      omega)
    clear hn
    go_wp2_with (refine CR.out.mono ?_; rintro e w2 ⟨rfl, hb⟩; have BR := Lib.hid (BR.out.keep hb); have BG := Lib.hid (BG.out.keep hb); have BW := Lib.hid (BW.out.trans (hb.mono BW.out.size)); have RW := Lib.hid (RW.out.below hb); have d0 := BG.out.c0; have d1 := BG.out.c1; have e0 := BR.out.c0; have e1 := BR.out.c1; have g0 := BR.out.f0; have g1 := BR.out.f1; clear hb)
    rw [HN.out.1, HN.out.2.1, HN.out.2.2]
    refine bodyPost_ret (v := .tuple #[forV (some ⟨w1.heap.size, 0, none⟩) 1 1 most, .int .i64 0]) ?_ rfl ⟨_, 1, 1, [y], rfl, (RW.out.boxCell HNE.out HAW.out 0 _).boxCell HNE.out HAW.out 1 _, by unfold coreL; rw [List.map_cons, List.map_nil, HYC.out]; rfl, (BW.out.setCell (p := ⟨w.heap.size, 0, none⟩) (Nat.le_refl _) _).setCell (p := ⟨w.heap.size, 1, none⟩) (Nat.le_refl _) _⟩
    simp [results, Tryz.results22, go_sem, e0, e1]
end Go.Proofs.YtnjoimedilonnaaGreat
namespace Go.Proofs.YtnjoimedilonnaaGreat
open Go.RowKit Go.Shelf
attribute [local go_sem] Oper.semAt_some
set_option maxHeartbeats 2000000 in
theorem backward_any (a : Option Addr) (len cap : Nat) (w : World) :
    Calls Tryz.prog 59 #[.slice a len cap] w fun e w' => e = .returned (.func (.func 73) #[] #[.pointer (some ⟨w.heap.size, 0, none⟩)]) ∧ w' = w.alloc (.cells #[.slice a len cap] 27) := by
  go_enter Tryz.func59, Tryz.ntmps59
  go_wp2
  go_ret
  exact ⟨rfl, rfl⟩
def backF (K : List Int) (j : Nat) : Int × Int := ((K.length : Int) - 1 - j, K[K.length - 1 - j]?.getD 0)
def backTo (K : List Int) (k : Nat) : List (Int × Int) := (List.range k).map (backF K)
theorem backTo_succ (K : List Int) (k : Nat) : backTo K (k + 1) = backTo K k ++ [backF K k] := by simp [backTo, List.range_succ]
theorem backTo_length (K : List Int) (k : Nat) : (backTo K k).length = k := by simp [backTo]
def KpB (Bs n₀ : Nat) (W W' : World) : Prop := W'.heap[Bs]? = W.heap[Bs]? ∧ Below n₀ W W'
abbrev encP (x : Int × Int) : Array Value := #[.int .i64 x.1, .int .i64 x.2]
set_option maxRecDepth 100000 in
set_option maxHeartbeats 4000000 in
theorem back1_in (F : Fence) (n : Nat) (hf : F.fn 73) (hro : F.round = none) (hn : 1 ≤ n) (l Bs n₀ : Nat) (a : Option Addr) (len cap : Nat) (K : List Int) (J Jx : List (Int × Int) → World → Prop)
    (hY : ∀ pre x W, J pre W → pre.length < len → YieldAt F (n - 1) Tryz.prog l (encP x) W fun e W' =>
      (e = .returned (.bool true) ∧ J (pre ++ [x]) W' ∧ KpB Bs n₀ W W') ∨ (e = .returned (.bool false) ∧ Jx (pre ++ [x]) W'))
    (W : World) (hBs : W.cell? ⟨Bs, 0, none⟩ = some (.slice a len cap)) (hK : IntRow W a len cap K) (hlow : ∀ b off, a = some ⟨b, off, none⟩ → 0 < len → b < n₀) (h0 : J [] W) :
    CallsIn F n Tryz.prog 73 #[.func (.yield l) #[] #[], .pointer (some ⟨Bs, 0, none⟩)] W fun e W' => (∃ v, e = .returned v) ∧
      ((∃ ys, ys = backTo K len ∧ J ys W') ∨ (∃ pre, pre.length ≤ len ∧ Jx pre W')) := by
  have hl := hK.len64
  have HL := Lib.hid hK.hlen
  have HK := Lib.hid hK
  clear hK
  refine callsIn_of_wp Tryz.func73 rfl hf ?_ hro
  simp only [Tryz.ntmps73, List.size_toArray, List.length_cons, List.length_nil, Nat.reduceAdd, Nat.reduceSub, Array.replicate_succ, Array.replicate_zero, List.push_toArray, List.append_toArray, List.nil_append, List.cons_append]
  gi_wp2
  gi_loopw [3] (fun i wr => ∃ k : Nat, k ≤ len ∧ i = .int .i64 ((len : Int) - 1 - k) ∧ J (backTo K k) wr ∧ KpB Bs n₀ W wr) (fun i _ => (intOf i + 1).toNat)
  case atStart => exact ⟨0, Nat.zero_le _, by simp, h0, rfl, Below.refl _ _⟩
  case round =>
    obtain ⟨k, hk, rfl, hJs, hkp⟩ := hrel
    have hB2 : wr.cell? ⟨Bs, 0, none⟩ = some (.slice a len cap) := (World.cell?_of_block (a := ⟨Bs, 0, none⟩) hkp.1).trans hBs
    by_cases hlt : k < len
    · obtain ⟨j, hj⟩ : ∃ j : Nat, (len : Int) - 1 - k = j := ⟨len - 1 - k, by omega⟩
      obtain ⟨b, off, z, rfl, hb, hz, hcz, hin⟩ := HK.out.get (k := j) (by omega)
      have hcz2 : wr.cell? ⟨b, off + j, none⟩ = some (.int .i64 z) := (hkp.2.cell (p := ⟨b, off + j, none⟩) (hlow b off rfl (by omega))).trans hcz
      have hfk : backF K k = ((j : Int), z) := by
        unfold backF
        rw [HL.out, hj, show len - 1 - k = j by omega, hz]
        rfl
      obtain ⟨fn, tmps, assign, body, hy, hR⟩ := hY _ ((j : Int), z) wr hJs (by rw [backTo_length]; exact hlt)
      try dsimp only at hy
      rw [hj]
      have hj64 : j ≤ 9223372036854775807 := by omega
      clear hz hcz hin
      gi_wp2
      refine hR.mono ?_
      rintro e W3 (⟨rfl, hJ3, hk3⟩ | ⟨rfl, hJx3⟩)
      · gi_wp2
        go_roundw
        case rel => exact ⟨k + 1, by omega, by congr 1; omega, by rw [backTo_succ, hfk]; exact hJ3, hk3.1.trans hkp.1, hkp.2.trans hk3.2⟩
        case measure => simp [intOf]
      · gi_wp2
        refine bodyPost_ret (results_none rfl _ _ _) rfl ?_
        exact ⟨⟨_, rfl⟩, .inr ⟨_, by rw [List.length_append, backTo_length]; simp; omega, hJx3⟩⟩
    · have hkk : k = len := by omega
      subst hkk
      have e1 : (k : Int) - 1 - k = -1 := by omega
      rw [e1]
      gi_wp2
      go_end0
      exact ⟨⟨_, rfl⟩, .inl ⟨_, rfl, hJs⟩⟩
theorem back_stops (F : Fence) (n : Nat) (hf : F.fn 73) (hro : F.round = none) (hn : 1 ≤ n) (Bs n₀ : Nat) (a : Option Addr) (len cap : Nat) (K : List Int) (w : World) (hBs : Bs < w.heap.size) 
    (hc : w.cell? ⟨Bs, 0, none⟩ = some (.slice a len cap)) (hK : IntRow w a len cap K) (hlow : ∀ b off, a = some ⟨b, off, none⟩ → 0 < len → b < n₀) :
    SeqStopsK F n Tryz.prog 73 #[.pointer (some ⟨Bs, 0, none⟩)] encP (KpB Bs n₀) (fun ys => ys = backTo K len) (fun pre => pre.length ≤ len) len w := fun l J Jx W hW _ _ hY h0 =>
  back1_in F n hf hro hn l Bs n₀ a len cap K J Jx hY W ((hW.cell (p := ⟨Bs, 0, none⟩) hBs).trans hc) (hK.below hW) hlow h0
end Go.Proofs.YtnjoimedilonnaaGreat
namespace Go.Proofs.YtnjoimedilonnaaGreat
open Go.RowKit Go.Shelf
theorem wpListIn_append_keep {F : Fence} {n : Nat} {P : Program} (w : World) {ops : Array Oper} {rest : List Oper} {o : Oper} {a : Act} {Q : Exit → Act → World → Prop}
    (hg : o.guard = none) (s x : Operand) (t : TypeId) (hop : o.op = Op.call { callee := Callee.builtin Builtin.append, args := #[s, x], argTypes := #[t, t] })
    (base : Nat) (e : TypeId) (i : TypeInfo) (z : Value) (size bytes : Nat) (h1 : P.underlying t = some (.slice e)) (h2 : P.info? e = some i) (h3 : i.zero = some z) (h4 : i.size = size) (h5 : i.bytes = bytes) (h6 : z.cells.size = size) (h7 : 0 < size)
    (v : Value) (k : Nat) (xs : List Value) (hs : a.eval s = v) (hown : w.ownsRow base e size v k xs) (ad : Addr) (m c : Nat) (news : List Value) (hx : a.eval x = .slice (some ad) m c) (hn : news.length = m * size)
    (hc : ∀ j u, news[j]? = some u → w.cell? (ad.add j) = some u) (h1c : ∀ u ∈ news, u.oneCell' = true) (hm : 0 < m) (b1 : k + m ≤ maxLen) (b2 : (k + m) * bytes ≤ 140737488355328) (b3 : base ≤ w.heap.size)
    (hK : ∀ g cap w', w'.ownsRow base e size (.slice (some ⟨g, 0, none⟩) (k + m) cap) (k + m) (xs ++ news) → w'.ownsRow base e size v k xs → w.grownBy w' v.ownBlock → (v.ownBlock = some g ∨ g = w.heap.size) → g < w'.heap.size → wpListIn F n P ops Q rest (a.put o.dst (.slice (some ⟨g, 0, none⟩) (k + m) cap)) w') :
    wpListIn F n P ops Q (o :: rest) a w := by
  refine wpListIn_plain hg fun K hK' => ?_
  obtain ⟨g, cap, w', hrun, r1, r2, r3, r4, r5⟩ := run_append_keep (P := P) w t o.type base e i z size bytes h1 h2 h3 h4 h5 h6 h7 v k xs hown ad m c news hn hc h1c hm b1 b2 b3
  unfold Oper.wpIn
  refine ⟨?_, ?_⟩
  · simp [Oper.about, hop, resolve, Target.leads, Sem.run_pure]
  · rw [Oper.semAt_plain F _ _ (by rw [hop]; intro c hc'; cases hc')]
    simp [execOp, hop, resolve, invoke, builtin, hs, hx, hrun, Result.andThen]
    exact hK' _ _ (hK g cap w' r1 r2 r3 r4 r5)
abbrev markD (D : Nat) : Deferred := { target := .collected D, args := #[] }
structure Marks (B : Nat) (ds : List Nat) (W : World) : Prop where
  nd : ds.Nodup
  at_ : ∀ D ∈ ds, B ≤ D ∧ W.heap[D]? = some (.deferred (some []))
theorem Marks.kept {B : Nat} {ds : List Nat} {W W2 : World} {row : Option Nat} (h : Marks B ds W) (hg : W.grownBy W2 row) (hne : ∀ r, row = some r → (∃ c e f, W.heap[r]? = some (.cells c e f)) ∨ r ∉ ds) : Marks B ds W2 := by
  refine ⟨h.nd, fun D hD => ⟨(h.at_ D hD).1, (hg.block D (Array.getElem?_eq_some_iff.1 (h.at_ D hD).2).1 (fun e => ?_)).trans (h.at_ D hD).2⟩⟩
  rcases hne D e.symm with ⟨c, t, f, hc⟩ | hn
  · rw [(h.at_ D hD).2] at hc
    cases hc
  · exact hn hD
theorem leaves_marks {F : Fence} {n : Nat} {P : Program} {fn : Func} {tmps : Array Value} {R : Ending → World → Prop} (B : Nat) (Φ : World → Prop)
    (stab : ∀ W D, Φ W → B ≤ D → W.heap[D]? = some (.deferred (some [])) → Φ (W.putObj D (.deferred none))) (fin : ∀ W, Φ W → LeavesIn F n P fn tmps R [] .returning W) :
    ∀ (ds : List Nat) (W : World), Marks B ds W → Φ W → LeavesInM F n P fn tmps R (ds.map markD) .returning W
  | [], W, _, h => fin W h
  | D :: ds, W, hm, h => by
    have hD := hm.at_ D (by simp)
    have hnd := List.nodup_cons.1 hm.nd
    refine ⟨by simp, .inl ⟨D, _, rfl, run_takeDeferred hD.2, ?_⟩⟩
    refine leaves_marks B Φ stab fin ds _ ⟨hnd.2, fun E hE => ⟨(hm.at_ E (by simp [hE])).1, ?_⟩⟩ (stab W D h hD.1 hD.2)
    have hne : E ≠ D := fun e => hnd.1 (by rw [← e]; exact hE)
    rw [World.putObj_heap_other hne]
    exact (hm.at_ E (by simp [hE])).2
theorem own_prefix {w : World} {base : Nat} {e : TypeId} {size g k cap : Nat} {xs ys : List Value} (h : w.ownsRow base e size (.slice (some ⟨g, 0, none⟩) (k + 1) cap) (k + 1) (xs ++ ys)) (hl : xs.length = k * size) : w.ownsRow base e size (.slice (some ⟨g, 0, none⟩) k cap) k xs := by
  refine ⟨hl, ?_⟩
  rcases h.2 with ⟨hv, _⟩ | ⟨g', cap', cur, hv, hb, hg, h1, h2, h3, h4⟩
  · cases hv
  · injection hv with e1 e2 e3
    subst e3
    refine .inr ⟨g', cap, cur, by rw [e1], hb, hg, by omega, h2, h3, ?_⟩
    have := congrArg (List.take (k * size)) h4
    rw [List.take_take, Nat.min_eq_left (Nat.mul_le_mul_right _ (by omega)), ← hl, List.take_left] at this
    rw [← hl]
    exact this
structure Hand (w1 W : World) (B Bp g cp : Nat) (vo : Value) (out P : List Int) : Prop where
  below : Below B w1 W
  pile : Boxed W Bp 27 (.slice (some ⟨g, 0, none⟩) P.length cp)
  low : B ≤ Bp
  prow : W.ownsRow B 3 1 (.slice (some ⟨g, 0, none⟩) P.length cp) P.length (P.map encI)
  orow : W.ownsRow B 3 1 vo out.length (out.map encI)
  apart : vo.ownBlock ≠ some g
theorem Hand.kept {w1 W W2 : World} {B Bp g cp : Nat} {vo : Value} {out P : List Int} {row : Option Nat} (h : Hand w1 W B Bp g cp vo out P) (hg : W.grownBy W2 row) (hB : ∀ r, row = some r → B ≤ r) (h1 : some Bp ≠ row) (h2 : some g ≠ row) (h3 : vo.ownBlock = none ∨ vo.ownBlock ≠ row) (hsz : B ≤ W.heap.size) : Hand w1 W2 B Bp g cp vo out P :=
  ⟨h.below.grown hg hsz (fun k e => hB k e), h.pile.kept hg h1, h.low, h.prow.kept hg (.inr h2), h.orow.kept hg h3, h.apart⟩
theorem Hand.size {w1 W : World} {B Bp g cp : Nat} {vo : Value} {out P : List Int} (h : Hand w1 W B Bp g cp vo out P) : B ≤ W.heap.size := by
  have h1 := h.low
  have h2 := h.pile.lt
  omega
theorem own_cells {w : World} {base : Nat} {e : TypeId} {size n : Nat} {v : Value} {xs : List Value} (h : w.ownsRow base e size v n xs) : ∀ r, v.ownBlock = some r → ∃ c t f, w.heap[r]? = some (.cells c t f) := fun r hr => by
  rcases h.2 with ⟨rfl, _⟩ | ⟨g, cap, cur, rfl, _, hg, _⟩
  · cases hr
  · injection hr with hr
    have e : g = r := hr
    subst e
    exact ⟨_, _, _, hg⟩
theorem Hand.alloc {w1 W : World} {B Bp g cp : Nat} {vo : Value} {out P : List Int} (h : Hand w1 W B Bp g cp vo out P) (o : Obj) : Hand w1 (W.alloc o) B Bp g cp vo out P :=
  h.kept (World.grownBy_alloc W o none) (fun r e => by cases e) (by simp) (by simp) (by
    cases hv : vo.ownBlock with
    | none => exact .inl rfl
    | some k => exact .inr (by simp)) h.size
theorem Hand.other {w1 W W2 : World} {B Bp g cp : Nat} {vo : Value} {out P : List Int} {row : Option Nat} (h : Hand w1 W B Bp g cp vo out P) (hg : W.grownBy W2 row) (hr : ∀ r, row = some r → B ≤ r ∧ ∃ o : Obj, W.heap[r]? = some o ∧ o.isCells = false) : Hand w1 W2 B Bp g cp vo out P := by
  have no : ∀ k, (∃ c t f, W.heap[k]? = some (.cells c t f)) → some k ≠ row := fun k ⟨c, t, f, hc⟩ e => by
    obtain ⟨_, o, ho, hoc⟩ := hr k e.symm
    rw [hc] at ho
    injection ho with ho
    rw [← ho] at hoc
    cases hoc
  refine h.kept hg (fun r e => (hr r e).1) (no Bp ⟨_, _, _, h.pile⟩) (no g (own_cells h.prow g rfl)) ?_ h.size
  cases hv : vo.ownBlock with
  | none => exact .inl rfl
  | some k => exact .inr (no k (own_cells h.orow k hv))
theorem Hand.pop {w1 W : World} {B Bp g cp : Nat} {vo : Value} {out Q : List Int} {z : Int} (h : Hand w1 W B Bp g cp vo out (Q ++ [z])) : Hand w1 (W.setCell ⟨Bp, 0, none⟩ (.slice (some ⟨g, 0, none⟩) Q.length cp)) B Bp g cp vo out Q := by
  have hp := h.prow
  rw [List.length_append, List.map_append] at hp
  have hp2 := own_prefix hp (by simp)
  have hne : some Bp ≠ some g := h.pile.not_row (by decide) h.prow
  have hno := h.pile.not_row (by decide) h.orow
  refine ⟨h.below.setCell (p := ⟨Bp, 0, none⟩) h.low _, h.pile.set _, h.low, hp2.kept (grownBy_setCell' W Bp _) (.inr (fun e => hne e.symm)), h.orow.kept (grownBy_setCell' W Bp _) (.inr (fun e => hno e.symm)), h.apart⟩
theorem Hand.more {w1 W W2 : World} {B Bp g cp g2 cap : Nat} {vo : Value} {out P : List Int} {z : Int} {tmp : Obj} (h : Hand w1 W B Bp g cp vo out P)
    (ho : W2.ownsRow B 3 1 (.slice (some ⟨g2, 0, none⟩) (out.length + 1) cap) (out.length + 1) (out.map encI ++ [encI z])) (hg : (W.alloc tmp).grownBy W2 vo.ownBlock) (hat : vo.ownBlock = some g2 ∨ g2 = (W.alloc tmp).heap.size) : Hand w1 W2 B Bp g cp (.slice (some ⟨g2, 0, none⟩) (out.length + 1) cap) (out ++ [z]) P := by
  have h1 := h.alloc tmp
  have hno := h1.pile.not_row (by decide) h1.orow
  refine ⟨h1.below.grown hg h1.size (fun k e => (h1.orow.lt k e).1), h1.pile.kept hg hno, h1.low, h1.prow.kept hg (.inr (fun e => h1.apart e.symm)), by simpa using ho, fun e => ?_⟩
  have e2 : g2 = g := by injection e
  rcases hat with hat | hat
  · exact h.apart (by rw [hat, e2])
  · have := (h1.prow.lt g rfl).2
    omega
theorem Hand.push {w1 W W2 : World} {B Bp g cp g2 cap : Nat} {vo : Value} {out P : List Int} {z : Int} {tmp : Obj} (h : Hand w1 W B Bp g cp vo out P)
    (ho : W2.ownsRow B 3 1 (.slice (some ⟨g2, 0, none⟩) (P.length + 1) cap) (P.length + 1) (P.map encI ++ [encI z])) (hg : (W.alloc tmp).grownBy W2 (Value.ownBlock (.slice (some ⟨g, 0, none⟩) P.length cp))) (hat : Value.ownBlock (.slice (some ⟨g, 0, none⟩) P.length cp) = some g2 ∨ g2 = (W.alloc tmp).heap.size) :
    Boxed W2 Bp 27 (.slice (some ⟨g, 0, none⟩) P.length cp) ∧ Hand w1 (W2.setCell ⟨Bp, 0, none⟩ (.slice (some ⟨g2, 0, none⟩) (P.length + 1) cap)) B Bp g2 cap vo out (P ++ [z]) := by
  have h1 := h.alloc tmp
  have hno := h1.pile.not_row (by decide) h1.prow
  have hb := h1.pile.kept hg hno
  have hb2 := hb.not_row (by decide) ho
  have hor := h1.orow.kept hg (.inr h1.apart)
  have hno2 := hb.not_row (by decide) hor
  have e1 : (P ++ [z]).length = P.length + 1 := by simp
  refine ⟨hb, (h1.below.grown hg h1.size (fun k e => (h1.prow.lt k e).1)).setCell (p := ⟨Bp, 0, none⟩) h.low _, by rw [e1]; exact hb.set _, h.low, ?_, hor.kept (grownBy_setCell' W2 Bp _) (.inr (fun e => hno2 e.symm)), fun e => ?_⟩
  · rw [e1, List.map_append]
    exact ho.kept (grownBy_setCell' W2 Bp _) (.inr (fun e => hb2 e.symm))
  · rcases hat with hat | hat
    · have e2 : g = g2 := by injection hat
      exact h.apart (by rw [e, e2])
    · have := (h1.orow.lt g2 e).2
      omega
theorem Hand.next {w1 W : World} {B Bp g cp : Nat} {vo : Value} {out P : List Int} (h : Hand w1 W B Bp g cp vo out P) : Hand w1 (W.alloc (.cells #[.slice (some ⟨g, 0, none⟩) P.length cp] 27)) B W.heap.size g cp vo out P := by
  have h1 := h.alloc (.cells #[.slice (some ⟨g, 0, none⟩) P.length cp] 27)
  exact ⟨h1.below, Boxed.new _ _ _, h.size, h1.prow, h1.orow, h1.apart⟩
end Go.Proofs.YtnjoimedilonnaaGreat
