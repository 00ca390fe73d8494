/- A line's copy that is changed in place: what the calls of package line have in hand. -/
import Derived.Test.YtadlmjiebhpaoaaLineFresh
namespace Go.Proofs.Ytadlmjiebhpaoaa
open Go.RowKit
section
variable {base : Nat} {W V : World} {u : LnV}
/-- Other headers of the todos. -/
theorem OwnLine.headT (h : OwnLine base W u) {r : Option Nat} (hg : W.grownBy V r) (hr : r = none ∨ r = (Value.slice u.ta u.tl u.tc).ownBlock) {a' : Option Addr} {n' c' : Nat} {T' : List (Hd TodoD)}
    (ho : V.ownsRow base 56 1 (.slice a' n' c') n' (T'.flatMap encH)) (hsub : ∀ (j : Nat) x, T'[j]? = some x → u.T[j]? = some x ∨ x = ⟨none, 0, 0, []⟩) : OwnLine base V { u with ta := a', tl := n', tc := c', T := T' } := by
  have off : ∀ {e : TypeId} {s m : Nat} {v : Value} {xs : List Value} {b : Nat}, W.ownsRow b e s v m xs → e ≠ 56 → ∀ k, v.ownBlock = some k → some k ≠ r := fun hv he k hk e => by
    rcases hr with e1 | e1
    · rw [e1] at e; cases e
    · rw [e1] at e; exact own_types hv h.t.row he k hk e
  exact ⟨h.t.heads (by decide) hg hr ho hsub, h.s.stay hg (off h.s.row (by decide)) (fun x hx => off (h.s.each x hx) (by decide)), own_stay h.b hg (off h.b (by decide)), h.bi, h.sb⟩
/-- Other headers of the lists. -/
theorem OwnLine.headS (h : OwnLine base W u) {r : Option Nat} (hg : W.grownBy V r) (hr : r = none ∨ r = (Value.slice u.sa u.sl u.sc).ownBlock) {a' : Option Addr} {n' c' : Nat} {S' : List (Hd Int)}
    (ho : V.ownsRow base 24 1 (.slice a' n' c') n' (S'.flatMap encH)) (hsub : ∀ (j : Nat) x, S'[j]? = some x → u.S[j]? = some x ∨ x = ⟨none, 0, 0, []⟩) : OwnLine base V { u with sa := a', sl := n', sc := c', S := S' } := by
  have off : ∀ {e : TypeId} {s m : Nat} {v : Value} {xs : List Value} {b : Nat}, W.ownsRow b e s v m xs → e ≠ 24 → ∀ k, v.ownBlock = some k → some k ≠ r := fun hv he k hk e => by
    rcases hr with e1 | e1
    · rw [e1] at e; cases e
    · rw [e1] at e; exact own_types hv h.s.row he k hk e
  refine ⟨h.t.stay hg (off h.t.row (by decide)) (fun x hx => off (h.t.each x hx) (by decide)), h.s.heads (by decide) hg hr ho hsub, own_stay h.b hg (off h.b (by decide)), h.bi, fun x hx => ?_⟩
  obtain ⟨j, hj⟩ := List.getElem?_of_mem hx
  rcases hsub j x hj with h1 | rfl
  · exact h.sb x (List.mem_of_getElem? h1)
  · intro k hk; cases hk
/-- One node's todos have changed. -/
theorem OwnLine.editT {g : Nat} (h : OwnLine base W u) (hta : u.ta = some ⟨g, 0, none⟩) {i : Nat} {x : Hd TodoD} (hx : u.T[i]? = some x) {r : Option Nat} (hg : W.grownBy V r) (hr : r = none ∨ r = x.own) {y : Hd TodoD}
    (ho : V.ownsRow base 28 10 (.slice y.a y.n y.c) y.n (y.l.flatMap encTd)) (hok : ∀ z ∈ y.l, okTd z) (hat : ∀ k, y.own = some k → x.own = some k ∨ W.heap.size ≤ k) :
    OwnLine base (V.setCell ⟨g, i, none⟩ (.slice y.a y.n y.c)) { u with T := u.T.set i y } := by
  have ht := h.t
  rw [hta] at ht
  have hxm := List.mem_of_getElem? hx
  have off : ∀ {e : TypeId} {s m : Nat} {v : Value} {xs : List Value} {b : Nat}, W.ownsRow b e s v m xs → e ≠ 28 → ∀ k, v.ownBlock = some k → some k ≠ r := fun hv he k hk e => by
    rcases hr with e1 | e1
    · rw [e1] at e; cases e
    · rw [e1] at e; exact own_types hv (h.t.each x hxm) he k hk e
  have off2 : ∀ {e : TypeId} {s m : Nat} {v : Value} {xs : List Value} {b : Nat}, W.ownsRow b e s v m xs → e ≠ 56 → ∀ k, v.ownBlock = some k → some k ≠ some g := fun hv he k hk e => own_types hv ht.row he k hk (by rw [e]; rfl)
  have gp : V.grownBy (V.setCell ⟨g, i, none⟩ (.slice y.a y.n y.c)) (some g) := grown_put
  have h1 := ht.edit (by decide) hx hg hr ho hok hat
  refine ⟨?_, (h.s.stay hg (off h.s.row (by decide)) (fun x hx => off (h.s.each x hx) (by decide))).stay gp (off2 h.s.row (by decide)) (fun x hx => off2 (h.s.each x hx) (by decide)), own_stay (own_stay h.b hg (off h.b (by decide))) gp (off2 h.b (by decide)), h.bi, h.sb⟩
  show OwnRows encTd 10 okTd base _ _ _ u.ta u.tl u.tc (u.T.set i y)
  rw [hta]
  exact h1
/-- One list has got one more. -/
theorem OwnLine.editS {g : Nat} (h : OwnLine base W u) (hsa : u.sa = some ⟨g, 0, none⟩) {i : Nat} {x : Hd Int} (hx : u.S[i]? = some x) {r : Option Nat} (hg : W.grownBy V r) (hr : r = none ∨ r = x.own) {y : Hd Int}
    (ho : V.ownsRow base 3 1 (.slice y.a y.n y.c) y.n (y.l.flatMap encZ)) (hok : ∀ z ∈ y.l, In64 z) (hat : ∀ k, y.own = some k → x.own = some k ∨ W.heap.size ≤ k) :
    OwnLine base (V.setCell ⟨g, i, none⟩ (.slice y.a y.n y.c)) { u with S := u.S.set i y } := by
  have hs := h.s
  rw [hsa] at hs
  have hxm := List.mem_of_getElem? hx
  have off : ∀ {e : TypeId} {s m : Nat} {v : Value} {xs : List Value} {b : Nat}, W.ownsRow b e s v m xs → e ≠ 3 → ∀ k, v.ownBlock = some k → some k ≠ r := fun hv he k hk e => by
    rcases hr with e1 | e1
    · rw [e1] at e; cases e
    · rw [e1] at e; exact own_types hv (h.s.each x hxm) he k hk e
  have off2 : ∀ {e : TypeId} {s m : Nat} {v : Value} {xs : List Value} {b : Nat}, W.ownsRow b e s v m xs → e ≠ 24 → ∀ k, v.ownBlock = some k → some k ≠ some g := fun hv he k hk e => own_types hv hs.row he k hk (by rw [e]; rfl)
  have gp : V.grownBy (V.setCell ⟨g, i, none⟩ (.slice y.a y.n y.c)) (some g) := grown_put
  have h1 := hs.edit (by decide) hx hg hr ho hok hat
  have bo : ∀ k, (Value.slice u.ba u.bl u.bc).ownBlock = some k → some k ≠ r := fun k hk e => by
    rcases hr with e1 | e1
    · rw [e1] at e; cases e
    · rw [e1] at e; exact h.sb x hxm k e.symm hk.symm
  refine ⟨(h.t.stay hg (off h.t.row (by decide)) (fun x hx => off (h.t.each x hx) (by decide))).stay gp (off2 h.t.row (by decide)) (fun x hx => off2 (h.t.each x hx) (by decide)), ?_, own_stay (own_stay h.b hg bo) gp (off2 h.b (by decide)), h.bi, fun z hz k hk e => ?_⟩
  · show OwnRows encZ 1 In64 base _ _ _ u.sa u.sl u.sc (u.S.set i y)
    rw [hsa]
    exact h1
  · rcases List.mem_or_eq_of_mem_set hz with hz | rfl
    · exact h.sb z hz k hk e
    · rcases hat k hk with h2 | h2
      · exact h.sb x hxm k h2 e
      · have := (h.b.lt k e.symm).2
        omega
/-- Who waits by themselves have changed. -/
theorem OwnLine.editB (h : OwnLine base W u) {r : Option Nat} (hg : W.grownBy V r) (hr : r = none ∨ r = (Value.slice u.ba u.bl u.bc).ownBlock) {a' : Option Addr} {n' c' : Nat} {B' : List Int} (bz : Bool)
    (ho : V.ownsRow base 3 1 (.slice a' n' c') n' (B'.flatMap encZ)) (hok : ∀ z ∈ B', In64 z) (hat : ∀ k, (Value.slice a' n' c').ownBlock = some k → (Value.slice u.ba u.bl u.bc).ownBlock = some k ∨ W.heap.size ≤ k) :
    OwnLine base V { u with ba := a', bl := n', bc := c', B := B', bz := bz } := by
  have off : ∀ {e : TypeId} {s m : Nat} {v : Value} {xs : List Value} {b : Nat}, W.ownsRow b e s v m xs → e ≠ 3 → ∀ k, v.ownBlock = some k → some k ≠ r := fun hv he k hk e => by
    rcases hr with e1 | e1
    · rw [e1] at e; cases e
    · rw [e1] at e; exact own_types hv h.b he k hk e
  refine ⟨h.t.stay hg (off h.t.row (by decide)) (fun x hx => off (h.t.each x hx) (by decide)), h.s.stay hg (off h.s.row (by decide)) (fun x hx k hk e => ?_), ho, hok, fun x hx k hk e => ?_⟩
  · rcases hr with e1 | e1
    · rw [e1] at e; cases e
    · rw [e1] at e; exact h.sb x hx k hk e
  · rcases hat k e.symm with h2 | h2
    · exact h.sb x hx k hk h2.symm
    · have := (h.s.lt hx hk).2
      omega
theorem OwnLine.busy (h : OwnLine base W u) (bz : Bool) : OwnLine base W { u with bz := bz } := ⟨h.t, h.s, h.b, h.bi, h.sb⟩
end
theorem put_obj {W : World} {g : Nat} {cs : Array Value} {t : TypeId} {z : Nat × Nat} (h : W.heap[g]? = some (.cells cs t z)) {k : Nat} (hk : k < cs.size) (x : Value) : (W.setCell ⟨g, k, none⟩ x).heap[g]? = some (.cells (cs.set k x hk) t z) := by
  obtain ⟨hlt, he⟩ := Array.getElem?_eq_some_iff.1 h
  show (W.heap.modify g _)[g]? = _
  rw [Array.getElem?_eq_getElem (by rw [Array.size_modify]; exact hlt), Array.getElem_modify_self, he]
  simp [Array.setIfInBounds, hk]
/-- What a call has in hand: the argument's box, the result's, the copy's, and the copy. -/
structure Edit (w W : World) (A R G : Nat) (v u : LnV) : Prop where
  a : LBox W A v
  r : LBox W R .zero
  g : LBox W G u
  own : OwnLine w.heap.size W u
  below : Below w.heap.size w W
  lA : w.heap.size ≤ A
  lR : w.heap.size ≤ R
  lG : w.heap.size ≤ G
  ar : A ≠ R
  ag : A ≠ G
  rg : R ≠ G
section
variable {w W V W0 w1 : World} {A R G : Nat} {v u u' : LnV}
theorem Edit.start (hA : LBox W0 A v) (hR : LBox W0 R .zero) (hB : Below w.heap.size w W0) (lA : w.heap.size ≤ A) (lR : w.heap.size ≤ R) (ar : A ≠ R) (ho : OwnLine W0.heap.size w1 u) (hb : Below W0.heap.size W0 w1) : Edit w (w1.alloc u.obj) A R w1.heap.size v u := by
  have h1 := below_one w1 u.obj
  have hs := hb.size
  have la := hA.lt
  have lr := hR.lt
  exact ⟨(hA.keep hb).keep h1, (hR.keep hb).keep h1, LBox.new _ _, (ho.keep h1).lower hB.size, (hB.trans (hb.mono hB.size)).trans (h1.mono (Nat.le_trans hB.size hs)), lA, lR, Nat.le_trans hB.size hs, ar, by omega, by omega⟩
theorem Edit.keep (h : Edit w W A R G v u) (hb : Below W.heap.size W V) : Edit w V A R G v u :=
  ⟨h.a.keep hb, h.r.keep hb, h.g.keep hb, h.own.keep hb, h.below.trans (hb.mono h.below.size), h.lA, h.lR, h.lG, h.ar, h.ag, h.rg⟩
/-- None of the three boxes is the copy's own. -/
theorem Edit.off (h : Edit w W A R G v u) : (∀ k, u.has k → k ≠ A) ∧ (∀ k, u.has k → k ≠ R) ∧ ∀ k, u.has k → k ≠ G :=
  ⟨h.own.off h.a.h (by decide) (by decide) (by decide) (by decide), h.own.off h.r.h (by decide) (by decide) (by decide) (by decide), h.own.off h.g.h (by decide) (by decide) (by decide) (by decide)⟩
/-- The copy has changed, its box has not. -/
theorem Edit.inner (h : Edit w W A R G v u) {r : Option Nat} (hg : W.grownBy V r) (hr : ∀ k, r = some k → u.has k) (ho : OwnLine w.heap.size V u') (he : u'.obj = u.obj) : Edit w V A R G v u' := by
  obtain ⟨o1, o2, o3⟩ := h.off
  exact ⟨h.a.stay hg (fun e => o1 _ (hr _ e.symm) rfl), h.r.stay hg (fun e => o2 _ (hr _ e.symm) rfl), .of (by rw [he]; exact (h.g.stay hg (fun e => o3 _ (hr _ e.symm) rfl)).h), ho, h.below.grown hg h.below.size (fun k hk => (h.own.lt (hr k hk)).1), h.lA, h.lR, h.lG, h.ar, h.ag, h.rg⟩
/-- The copy's box is written. -/
theorem Edit.outer (h : Edit w W A R G v u) {r : Option Nat} (hg : W.grownBy V r) (hr : ∀ k, r = some k → u.has k) (ho : OwnLine w.heap.size V u') {o : Nat} {x : Value} (he : (V.setCell ⟨G, o, none⟩ x).heap[G]? = some u'.obj) : Edit w (V.setCell ⟨G, o, none⟩ x) A R G v u' := by
  obtain ⟨o1, o2, o3⟩ := h.off
  have gp : V.grownBy (V.setCell ⟨G, o, none⟩ x) (some G) := grown_put
  have hG := h.g.stay hg (fun e => o3 _ (hr _ e.symm) rfl)
  exact ⟨(h.a.stay hg (fun e => o1 _ (hr _ e.symm) rfl)).stay gp (fun e => h.ag (by injection e)), (h.r.stay hg (fun e => o2 _ (hr _ e.symm) rfl)).stay gp (fun e => h.rg (by injection e)), .of he,
    ho.stay gp (fun k hk e => ho.off hG.h (by decide) (by decide) (by decide) (by decide) k hk (by injection e)), (h.below.grown hg h.below.size (fun k hk => (h.own.lt (hr k hk)).1)).setCell h.lG _, h.lA, h.lR, h.lG, h.ar, h.ag, h.rg⟩
theorem Edit.gobj (h : Edit w W A R G v u) {r : Option Nat} (hg : W.grownBy V r) (hr : ∀ k, r = some k → u.has k) : LBox V G u := h.g.stay hg (fun e => h.off.2.2 _ (hr _ e.symm) rfl)
/-- The copy is handed back. -/
theorem Edit.finish (h : Edit w W A R G v u) : ∃ X, (((W.setCell ⟨R, 0, none⟩ (.slice u.ta u.tl u.tc)).setCell ⟨R, 1, none⟩ (.slice u.sa u.sl u.sc)).setCell ⟨R, 2, none⟩ (.slice u.ba u.bl u.bc)).setCell ⟨R, 3, none⟩ (.bool u.bz) = X ∧
    (X.cell? ⟨R, 0, none⟩ = some (.slice u.ta u.tl u.tc) ∧ X.cell? ⟨R, 1, none⟩ = some (.slice u.sa u.sl u.sc) ∧ X.cell? ⟨R, 2, none⟩ = some (.slice u.ba u.bl u.bc) ∧ X.cell? ⟨R, 3, none⟩ = some (.bool u.bz)) ∧ LineAt X u ∧ LineNew w.heap.size u ∧ Below w.heap.size w X ∧ W.grownBy X (some R) := by
  refine ⟨_, rfl, ?_, ?_, h.own.at_.2, below_put4 h.below h.lR, grown_put4⟩
  · have e1 := put_obj h.r.h (k := 0) (by decide) (.slice u.ta u.tl u.tc)
    have e2 := put_obj e1 (k := 1) (by simp) (.slice u.sa u.sl u.sc)
    have e3 := put_obj e2 (k := 2) (by simp) (.slice u.ba u.bl u.bc)
    have e4 := put_obj e3 (k := 3) (by simp) (.bool u.bz)
    exact ⟨cell_of_row _ R 0 _ _ (0, 0) e4, cell_of_row _ R 1 _ _ (0, 0) e4, cell_of_row _ R 2 _ _ (0, 0) e4, cell_of_row _ R 3 _ _ (0, 0) e4⟩
  · exact (h.own.stay grown_put4 (fun k hk e => h.off.2.1 k hk (by injection e))).at_.1
end
/-- What Grow and Open hand back. -/
def GrowP (w : World) (D : LnD) (e : Ending) (w' : World) : Prop := ∃ u : LnV, e = .returned u.val ∧ u.dat = D ∧ LineAt w' u ∧ LineNew w.heap.size u ∧ Below w.heap.size w w'
def AddP (w : World) (D : LnD) (b : Bool) (er : Int) (e : Ending) (w' : World) : Prop := ∃ u : LnV, e = .returned (.tuple #[u.val, .bool b, .int .i64 er]) ∧ u.dat = D ∧ LineAt w' u ∧ LineNew w.heap.size u ∧ Below w.heap.size w w'
def ShutP (w : World) (D : LnD) (L : List Int) (er : Int) (e : Ending) (w' : World) : Prop := ∃ (u : LnV) (a : Option Addr) (n c : Nat), e = .returned (.tuple #[u.val, .slice a n c, .int .i64 er]) ∧ u.dat = D ∧ LineAt w' u ∧ LineNew w.heap.size u ∧ IntRow w' a n c L ∧ (∀ b o, a = some ⟨b, o, none⟩ → w.heap.size ≤ b) ∧ Below w.heap.size w w'
def TakeP (w : World) (D : LnD) (t : TodoD) (ok : Bool) (e : Ending) (w' : World) : Prop := ∃ u : LnV, e = .returned (.tuple #[u.val, t.val, .bool ok]) ∧ u.dat = D ∧ LineAt w' u ∧ LineNew w.heap.size u ∧ Below w.heap.size w w'
def DropP (w : World) (D : LnD) (er : Int) (e : Ending) (w' : World) : Prop := ∃ u : LnV, e = .returned (.tuple #[u.val, .int .i64 er]) ∧ u.dat = D ∧ LineAt w' u ∧ LineNew w.heap.size u ∧ Below w.heap.size w w'
def PullP (w : World) (D : LnD) (k : Int) (is : Bool) (e : Ending) (w' : World) : Prop := ∃ u : LnV, e = .returned (.tuple #[u.val, .int .i64 k, .bool is]) ∧ u.dat = D ∧ LineAt w' u ∧ LineNew w.heap.size u ∧ Below w.heap.size w w'
end Go.Proofs.Ytadlmjiebhpaoaa
