/- For package line's Add and Take: what a drawn region's worlds keep. -/
import Derived.Test.YtadlmjiebhpaoaaLineKit
import Derived.Test.YtadlmjiebhpaoaaStepRows
import Derived.Deep.RegionHeld3
import Derived.Deep.DeepCutAuto
import Derived.IntWalk
namespace Go.Proofs.Ytadlmjiebhpaoaa
open Go.RowKit
theorem three_boxes (w : World) (v : LnV) (t : TodoD) : LBox (((w.alloc v.obj).alloc t.obj).alloc LnV.zero.obj) w.heap.size v ∧ LBox (((w.alloc v.obj).alloc t.obj).alloc LnV.zero.obj) (w.heap.size + 2) .zero ∧ Below w.heap.size w (((w.alloc v.obj).alloc t.obj).alloc LnV.zero.obj) ∧ (((w.alloc v.obj).alloc t.obj).alloc LnV.zero.obj).heap[w.heap.size + 1]? = some t.obj := by
  have e1 : (w.alloc v.obj).heap.size = w.heap.size + 1 := by simp
  have e2 : ((w.alloc v.obj).alloc t.obj).heap.size = w.heap.size + 2 := by simp
  have h3 := LBox.new ((w.alloc v.obj).alloc t.obj) .zero
  rw [e2] at h3
  have b1 := below_one w v.obj
  have b2 := below_one (w.alloc v.obj) t.obj
  have b3 := below_one ((w.alloc v.obj).alloc t.obj) LnV.zero.obj
  have h4 := heap_alloc_new (w.alloc v.obj) t.obj
  rw [e1] at h4
  refine ⟨((LBox.new w v).keep b2).keep b3, h3, (b1.trans (b2.mono (by omega))).trans (b3.mono (by omega)), (b3.block _ (by omega)).trans h4⟩
/-- What of two blocks and of a cell is kept. -/
structure KX (W W' : World) (G P g k : Nat) : Prop where
  hg : W'.heap[G]? = W.heap[G]?
  hp : W'.heap[P]? = W.heap[P]?
  s : (W'.cell? ⟨g, k, none⟩).isSome = true
  f : W'.frozen? ⟨g, k, none⟩ = false
section
variable {W V X : World} {G P g k : Nat}
theorem KX.below (h : KX W V G P g k) (hG : G < V.heap.size) (hP : P < V.heap.size) (hb : Below V.heap.size V X) : KX W X G P g k := by
  obtain ⟨u, hu⟩ := Option.isSome_iff_exists.1 h.s
  have hl : g < V.heap.size := cell_lt hu
  exact ⟨(hb.block G hG).trans h.hg, (hb.block P hP).trans h.hp, by rw [hb.cell (p := ⟨g, k, none⟩) hl]; exact h.s, by rw [hb.frozen (p := ⟨g, k, none⟩) hl]; exact h.f⟩
theorem KX.grown (h : KX W V G P g k) (hG : G < V.heap.size) (hP : P < V.heap.size) {r : Option Nat} (hg : V.grownBy X r) (h1 : some G ≠ r) (h2 : some P ≠ r) (h3 : some g ≠ r) : KX W X G P g k := by
  obtain ⟨u, hu⟩ := Option.isSome_iff_exists.1 h.s
  have hl : g < V.heap.size := cell_lt hu
  have e := hg.block g hl h3
  exact ⟨(hg.block G hG h1).trans h.hg, (hg.block P hP h2).trans h.hp, by rw [World.cell?_of_block (a := ⟨g, k, none⟩) e]; exact h.s, by rw [World.frozen?_of_block (a := ⟨g, k, none⟩) e]; exact h.f⟩
theorem KX.put (h : KX W V G P g k) (h1 : G ≠ g) (h2 : P ≠ g) (u : Value) : KX W (V.setCell ⟨g, k, none⟩ u) G P g k :=
  ⟨(Below.heap_setCell _ _ _ G h1).trans h.hg, (Below.heap_setCell _ _ _ P h2).trans h.hp, World.isSome_setCells g [u] k V _ h.s, by rw [World.frozen?_setCell]; exact h.f⟩
end
/-- Add's first store: the cells that are read. -/
abbrev A4 (W W' : World) (G P g k : Nat) (u : LnV) (t : TodoD) : Prop := W'.cell? ⟨G, 0, none⟩ = some (.slice u.ta u.tl u.tc) ∧ W'.cell? ⟨P, 0, none⟩ = some (.int .i64 t.kind) ∧ W'.cell? ⟨P, 1, none⟩ = some (.int .i64 t.dfn) ∧ W'.cell? ⟨P, 2, none⟩ = some (.string t.name) ∧ W'.cell? ⟨P, 3, none⟩ = some (.bool t.had) ∧ W'.cell? ⟨P, 4, none⟩ = some (.bool t.has) ∧ W'.cell? ⟨P, 5, none⟩ = some (.string t.old) ∧ W'.cell? ⟨P, 6, none⟩ = some (.string t.new) ∧ W'.cell? ⟨P, 7, none⟩ = some (.int .i64 t.frm) ∧ W'.cell? ⟨P, 8, none⟩ = some (.int .i64 t.to) ∧ W'.cell? ⟨P, 9, none⟩ = some (.bool t.on) ∧ W'.cell? ⟨g, k, none⟩ = some (cellOf W' ⟨g, k, none⟩) ∧ W'.frozen? ⟨g, k, none⟩ = false ∧ KX W W' G P g k
theorem a4_of {W W' : World} {G P g k : Nat} {u : LnV} {t : TodoD} (hG : LBox W G u) (hP : W.heap[P]? = some t.obj) (h : KX W W' G P g k) : A4 W W' G P g k u t := by
  have b := LBox.of (h.hg.trans hG.h)
  have p := h.hp.trans hP
  have c := fun o => cell_of_row W' P o _ 28 (0, 0) p
  exact ⟨b.c0, c 0, c 1, c 2, c 3, c 4, c 5, c 6, c 7, c 8, c 9, cellOf_is h.s, h.f, h⟩
/-- Add's second store. -/
abbrev A7 (W W' : World) (G g k : Nat) (u : LnV) : Prop := W'.cell? ⟨G, 1, none⟩ = some (.slice u.sa u.sl u.sc) ∧ W'.cell? ⟨g, k, none⟩ = some (cellOf W' ⟨g, k, none⟩) ∧ W'.frozen? ⟨g, k, none⟩ = false ∧ KX W W' G G g k
theorem a7_of {W W' : World} {G g k : Nat} {u : LnV} (hG : LBox W G u) (h : KX W W' G G g k) : A7 W W' G g k u :=
  ⟨(LBox.of (h.hg.trans hG.h)).c1, cellOf_is h.s, h.f, h⟩
/-- What is handed back last: the copy's box, the argument's, and the result's cells. -/
structure KY (W W' : World) (A G R : Nat) : Prop where
  a : W'.heap[A]? = W.heap[A]?
  g : W'.heap[G]? = W.heap[G]?
  r : ∀ j, j < 4 → (W'.cell? ⟨R, j, none⟩).isSome = true ∧ W'.frozen? ⟨R, j, none⟩ = false
theorem KY.put {W V : World} {A G R : Nat} (h : KY W V A G R) (h1 : A ≠ R) (h2 : G ≠ R) (o : Nat) (u : Value) : KY W (V.setCell ⟨R, o, none⟩ u) A G R :=
  ⟨(Below.heap_setCell _ _ _ A h1).trans h.a, (Below.heap_setCell _ _ _ G h2).trans h.g, fun j hj => ⟨World.isSome_setCells R [u] o V _ (h.r j hj).1, by rw [World.frozen?_setCell]; exact (h.r j hj).2⟩⟩
abbrev A10 (W W' : World) (A G R : Nat) (v u : LnV) : Prop := W'.cell? ⟨G, 0, none⟩ = some (.slice u.ta u.tl u.tc) ∧ W'.cell? ⟨G, 1, none⟩ = some (.slice u.sa u.sl u.sc) ∧ W'.cell? ⟨G, 2, none⟩ = some (.slice u.ba u.bl u.bc) ∧ W'.cell? ⟨G, 3, none⟩ = some (.bool u.bz) ∧ W'.cell? ⟨A, 3, none⟩ = some (.bool v.bz) ∧ W'.cell? ⟨R, 0, none⟩ = some (cellOf W' ⟨R, 0, none⟩) ∧ W'.cell? ⟨R, 1, none⟩ = some (cellOf W' ⟨R, 1, none⟩) ∧ W'.cell? ⟨R, 2, none⟩ = some (cellOf W' ⟨R, 2, none⟩) ∧ W'.cell? ⟨R, 3, none⟩ = some (cellOf W' ⟨R, 3, none⟩) ∧ W'.frozen? ⟨R, 0, none⟩ = false ∧ W'.frozen? ⟨R, 1, none⟩ = false ∧ W'.frozen? ⟨R, 2, none⟩ = false ∧ W'.frozen? ⟨R, 3, none⟩ = false ∧ KY W W' A G R
theorem a10_of {W W' : World} {A G R : Nat} {v u : LnV} (hA : LBox W A v) (hG : LBox W G u) (h : KY W W' A G R) : A10 W W' A G R v u := by
  have b := LBox.of (h.g.trans hG.h)
  have a := LBox.of (h.a.trans hA.h)
  exact ⟨b.c0, b.c1, b.c2, b.c3, a.c3, cellOf_is (h.r 0 (by omega)).1, cellOf_is (h.r 1 (by omega)).1, cellOf_is (h.r 2 (by omega)).1, cellOf_is (h.r 3 (by omega)).1, (h.r 0 (by omega)).2, (h.r 1 (by omega)).2, (h.r 2 (by omega)).2, (h.r 3 (by omega)).2, h⟩
theorem KY.drew {W V : World} {A G R : Nat} (h : KY W V A G R) : KY W V.drew A G R := ⟨h.a, h.g, h.r⟩
theorem KY.start {W : World} {A G R : Nat} (hR : LBox W R .zero) : KY W W A G R := by
  refine ⟨rfl, rfl, fun j hj => ⟨?_, hR.f j⟩⟩
  show (W.cell? ⟨R, j, none⟩).isSome = true
  match j, hj with
  | 0, _ => rw [hR.c0]; rfl
  | 1, _ => rw [hR.c1]; rfl
  | 2, _ => rw [hR.c2]; rfl
  | 3, _ => rw [hR.c3]; rfl
/-- The copy has changed in two steps, its box has not. -/
theorem Edit.inner2 {w W V X : World} {A R G : Nat} {v u u' : LnV} (h : Edit w W A R G v u) {r r2 : Option Nat} (hg : W.grownBy V r) (hr : ∀ k, r = some k → u.has k) (hg2 : V.grownBy X r2) (hr2 : ∀ k, r2 = some k → u.has k) (ho : OwnLine w.heap.size X u') (he : u'.obj = u.obj) : Edit w X A R G v u' := by
  obtain ⟨o1, o2, o3⟩ := h.off
  have b1 := h.below.grown hg h.below.size (fun k hk => (h.own.lt (hr k hk)).1)
  exact ⟨(h.a.stay hg (fun e => o1 _ (hr _ e.symm) rfl)).stay hg2 (fun e => o1 _ (hr2 _ e.symm) rfl), (h.r.stay hg (fun e => o2 _ (hr _ e.symm) rfl)).stay hg2 (fun e => o2 _ (hr2 _ e.symm) rfl), .of (by rw [he]; exact ((h.g.stay hg (fun e => o3 _ (hr _ e.symm) rfl)).stay hg2 (fun e => o3 _ (hr2 _ e.symm) rfl)).h), ho, b1.grown hg2 b1.size (fun k hk => (h.own.lt (hr2 k hk)).1), h.lA, h.lR, h.lG, h.ar, h.ag, h.rg⟩
end Go.Proofs.Ytadlmjiebhpaoaa
