/- Texts joined in build order: DeskAddFn. -/
import Derived.Test.YtioeagadhnnajaaA28
import Derived.Test.YtioeagadhnnajaaA29
import Derived.Test.YtioeagadhnnajaaA30
import Derived.Test.YtioeagadhnnajaaA18
import Derived.Deep.DeepCutAuto
/- Package desk's Add and Await. -/
namespace Go.Proofs.Ytioeagadhnnajaa
open Go.RowKit
/-- A desk's box that may be written. -/
structure GBox (W : World) (g : Nat) (x0 x1 : Value) (nx : Int) (bz : Bool) : Prop where
  lt : g < W.heap.size
  c0 : W.cell? ⟨g, 0, none⟩ = some x0
  c1 : W.cell? ⟨g, 1, none⟩ = some x1
  c2 : W.cell? ⟨g, 2, none⟩ = some (.int .i64 nx)
  c3 : W.cell? ⟨g, 3, none⟩ = some (.bool bz)
  f : ∀ j, W.frozen? ⟨g, j, none⟩ = false
section
variable {W V : World} {g : Nat} {x0 x1 : Value} {nx : Int} {bz : Bool}
theorem GBox.same (h : GBox W g x0 x1 nx bz) (hs : V.heap[g]? = W.heap[g]?) (hz : W.heap.size ≤ V.heap.size) : GBox V g x0 x1 nx bz :=
  ⟨Nat.lt_of_lt_of_le h.lt hz, (World.cell?_of_block (a := ⟨g, 0, none⟩) hs).trans h.c0, (World.cell?_of_block (a := ⟨g, 1, none⟩) hs).trans h.c1, (World.cell?_of_block (a := ⟨g, 2, none⟩) hs).trans h.c2, (World.cell?_of_block (a := ⟨g, 3, none⟩) hs).trans h.c3, fun j => (World.frozen?_of_block (a := ⟨g, j, none⟩) hs).trans (h.f j)⟩
theorem GBox.keep (h : GBox W g x0 x1 nx bz) (hb : Below W.heap.size W V) : GBox V g x0 x1 nx bz := h.same (hb.block g h.lt) hb.size
theorem GBox.new (W : World) (x0 x1 : Value) (nx : Int) (bz : Bool) : GBox (W.alloc (.cells #[x0, x1, .int .i64 nx, .bool bz] 25)) W.heap.size x0 x1 nx bz :=
  ⟨by simp, cell_of_row _ W.heap.size 0 _ 25 (0, 0) (heap_alloc_new W _), cell_of_row _ W.heap.size 1 _ 25 (0, 0) (heap_alloc_new W _), cell_of_row _ W.heap.size 2 _ 25 (0, 0) (heap_alloc_new W _), cell_of_row _ W.heap.size 3 _ 25 (0, 0) (heap_alloc_new W _), box_free (heap_alloc_new W _) (Below.refl _ _)⟩
theorem GBox.set0 (h : GBox W g x0 x1 nx bz) (u : Value) : GBox (W.setCell ⟨g, 0, none⟩ u) g u x1 nx bz :=
  ⟨by simp only [World.setCell, Array.size_modify]; exact h.lt, World.cell?_setCell_same _ _ _ h.c0, (World.cell?_setCell_other _ _ _ _ (by intro e; injection e with _ e; omega)).trans h.c1, (World.cell?_setCell_other _ _ _ _ (by intro e; injection e with _ e; omega)).trans h.c2, (World.cell?_setCell_other _ _ _ _ (by intro e; injection e with _ e; omega)).trans h.c3, fun j => by rw [World.frozen?_setCell]; exact h.f j⟩
theorem GBox.set1 (h : GBox W g x0 x1 nx bz) (u : Value) : GBox (W.setCell ⟨g, 1, none⟩ u) g x0 u nx bz :=
  ⟨by simp only [World.setCell, Array.size_modify]; exact h.lt, (World.cell?_setCell_other _ _ _ _ (by intro e; injection e with _ e; omega)).trans h.c0, World.cell?_setCell_same _ _ _ h.c1, (World.cell?_setCell_other _ _ _ _ (by intro e; injection e with _ e; omega)).trans h.c2, (World.cell?_setCell_other _ _ _ _ (by intro e; injection e with _ e; omega)).trans h.c3, fun j => by rw [World.frozen?_setCell]; exact h.f j⟩
theorem GBox.set2 (h : GBox W g x0 x1 nx bz) (u : Int) : GBox (W.setCell ⟨g, 2, none⟩ (.int .i64 u)) g x0 x1 u bz :=
  ⟨by simp only [World.setCell, Array.size_modify]; exact h.lt, (World.cell?_setCell_other _ _ _ _ (by intro e; injection e with _ e; omega)).trans h.c0, (World.cell?_setCell_other _ _ _ _ (by intro e; injection e with _ e; omega)).trans h.c1, World.cell?_setCell_same _ _ _ h.c2, (World.cell?_setCell_other _ _ _ _ (by intro e; injection e with _ e; omega)).trans h.c3, fun j => by rw [World.frozen?_setCell]; exact h.f j⟩
theorem GBox.set3 (h : GBox W g x0 x1 nx bz) (u : Bool) : GBox (W.setCell ⟨g, 3, none⟩ (.bool u)) g x0 x1 nx u :=
  ⟨by simp only [World.setCell, Array.size_modify]; exact h.lt, (World.cell?_setCell_other _ _ _ _ (by intro e; injection e with _ e; omega)).trans h.c0, (World.cell?_setCell_other _ _ _ _ (by intro e; injection e with _ e; omega)).trans h.c1, (World.cell?_setCell_other _ _ _ _ (by intro e; injection e with _ e; omega)).trans h.c2, World.cell?_setCell_same _ _ _ h.c3, fun j => by rw [World.frozen?_setCell]; exact h.f j⟩
/-- All four cells written. -/
def put4 (W : World) (g : Nat) (a b c d : Value) : World := (((W.setCell ⟨g, 0, none⟩ a).setCell ⟨g, 1, none⟩ b).setCell ⟨g, 2, none⟩ c).setCell ⟨g, 3, none⟩ d
theorem put4_same {W : World} {g : Nat} {a b c d : Value} {k : Nat} (h : k ≠ g) : (put4 W g a b c d).heap[k]? = W.heap[k]? :=
  (Below.heap_setCell _ _ _ k h).trans ((Below.heap_setCell _ _ _ k h).trans ((Below.heap_setCell _ _ _ k h).trans (Below.heap_setCell _ _ _ k h)))
theorem put4_below {B : Nat} {w W : World} {g : Nat} {a b c d : Value} (h : Below B w W) (hg : B ≤ g) : Below B w (put4 W g a b c d) :=
  (((h.setCell hg _).setCell hg _).setCell hg _).setCell hg _
theorem put4_size {W : World} {g : Nat} {a b c d : Value} : (put4 W g a b c d).heap.size = W.heap.size := by simp [put4, World.setCell]
end
theorem DefRow.same {w W : World} {a : Option Addr} {len cap : Nat} {L : List DefD} (h : DefRow w a len cap L) (hs : ∀ b off, a = some ⟨b, off, none⟩ → W.heap[b]? = w.heap[b]?) (hz : w.heap.size ≤ W.heap.size) : DefRow W a len cap L :=
  ⟨h.row.keep hz (fun b off e _ o => World.cell?_of_block (a := ⟨b, o, none⟩) (hs b off e)), h.ok, h.hnil⟩
theorem WaitRow.same {w W : World} {a : Option Addr} {len cap : Nat} {L : List WaitD} (h : WaitRow w a len cap L) (hs : ∀ b off, a = some ⟨b, off, none⟩ → W.heap[b]? = w.heap[b]?) (hz : w.heap.size ≤ W.heap.size) : WaitRow W a len cap L :=
  ⟨h.row.keep hz (fun b off e _ o => World.cell?_of_block (a := ⟨b, o, none⟩) (hs b off e)), h.ok, h.hnil⟩
theorem IntRow.same9 {w W : World} {a : Option Addr} {len cap : Nat} {L : List Int} (h : IntRow w a len cap L) (hs : ∀ b off, a = some ⟨b, off, none⟩ → W.heap[b]? = w.heap[b]?) (hz : w.heap.size ≤ W.heap.size) : IntRow W a len cap L :=
  ⟨h.row.keep hz (fun b off e _ o => World.cell?_of_block (a := ⟨b, o, none⟩) (hs b off e)), h.inb, h.hnil⟩
theorem IntRow.nil9 (w : World) : IntRow w none 0 0 [] := ⟨SRow.nil, (fun z hz => by cases hz), fun _ => rfl⟩
/-- What Add enters with: the desk's box, the name's box, the result's box. -/
structure AddIn (w W : World) (da : Option Addr) (dl dc : Nat) (wa : Option Addr) (wl wc : Nat) (nx : Int) (bz : Bool) (L : List DefD) (M : List WaitD) (s : ByteArray) : Prop where
  d : DBox w W w.heap.size da dl dc wa wl wc nx bz L M
  s : W.cell? ⟨w.heap.size + 1, 0, none⟩ = some (.string s)
  r : GBox W (w.heap.size + 1 + 1) (.slice none 0 0) (.slice none 0 0) 0 false
section
variable {w W V : World} {da wa : Option Addr} {dl dc wl wc : Nat} {nx : Int} {bz : Bool} {L : List DefD} {M : List WaitD} {s : ByteArray}
theorem AddIn.keep (h : AddIn w W da dl dc wa wl wc nx bz L M s) (hb : Below W.heap.size W V) : AddIn w V da dl dc wa wl wc nx bz L M s :=
  ⟨h.d.keep hb, (hb.cell (p := ⟨w.heap.size + 1, 0, none⟩) (by have := h.r.lt; show w.heap.size + 1 < _; omega)).trans h.s, h.r.keep hb⟩
theorem AddIn.start (hd : DefRow w da dl dc L) (ht : WaitRow w wa wl wc M) : AddIn w (((w.alloc (deskB da dl dc wa wl wc nx bz)).alloc (.cells #[.string s] 9)).alloc (.cells #[.slice none 0 0, .slice none 0 0, .int .i64 0, .bool false] 25)) da dl dc wa wl wc nx bz L M s := by
  have e1 : (w.alloc (deskB da dl dc wa wl wc nx bz)).heap.size = w.heap.size + 1 := by simp
  have e2 : ((w.alloc (deskB da dl dc wa wl wc nx bz)).alloc (.cells #[.string s] 9)).heap.size = w.heap.size + 1 + 1 := by simp
  refine ⟨((DBox.start hd ht).keep (below_desk _ _)).keep (below_desk _ _), ?_, ?_⟩
  · have := ((below_desk ((w.alloc (deskB da dl dc wa wl wc nx bz)).alloc (.cells #[.string s] 9)) (.cells #[.slice none 0 0, .slice none 0 0, .int .i64 0, .bool false] 25)).cell (p := ⟨(w.alloc (deskB da dl dc wa wl wc nx bz)).heap.size, 0, none⟩) (by simp)).trans (cell_new (w.alloc (deskB da dl dc wa wl wc nx bz)) (.string s) 9)
    rwa [e1] at this
  · have := GBox.new ((w.alloc (deskB da dl dc wa wl wc nx bz)).alloc (.cells #[.string s] 9)) (.slice none 0 0) (.slice none 0 0) 0 false
    rwa [e2] at this
end
theorem own_eq9 {w W : World} {base : Nat} {e : TypeId} {size n : Nat} {v : Value} {xs : List Value} (h : w.ownsRow base e size v n xs) (hs : ∀ k, v.ownBlock = some k → W.heap[k]? = w.heap[k]?) : W.ownsRow base e size v n xs := by
  refine ⟨h.1, ?_⟩
  rcases h.2 with h0 | ⟨g, cap, cur, hv, hbg, hg, h1, h2, h3, h4⟩
  · exact .inl h0
  · exact .inr ⟨g, cap, cur, hv, hbg, (hs g (by rw [hv]; rfl)).trans hg, h1, h2, h3, h4⟩
theorem cell_two (V : World) (x y : Value) (t : TypeId) : (V.alloc (.cells #[x, y] t)).cell? ⟨V.heap.size, 0, none⟩ = some x ∧ (V.alloc (.cells #[x, y] t)).cell? ⟨V.heap.size, 1, none⟩ = some y :=
  ⟨cell_of_row _ V.heap.size 0 _ t (0, 0) (heap_alloc_new V _), cell_of_row _ V.heap.size 1 _ t (0, 0) (heap_alloc_new V _)⟩
/-- What stands behind the new definition's append: the definitions, those who wait, the box. -/
structure AddMid (V0 W : World) (g : Nat) (ad : Option Addr) (dl dc : Nat) (at_ : Option Addr) (tl tc : Nat) (L : List DefD) (M : List WaitD) (nx : Int) (bz : Bool) : Prop where
  d : W.ownsRow V0.heap.size 46 3 (.slice ad dl dc) dl (L.flatMap encD)
  t : W.ownsRow V0.heap.size 48 2 (.slice at_ tl tc) tl (M.flatMap encT9)
  bx : GBox W g (.slice ad dl dc) (.slice at_ tl tc) nx bz
  below : Below V0.heap.size V0 W
  dg : ∀ k, Value.ownBlock (.slice ad dl dc) = some k → k ≠ g
  tg : ∀ k, Value.ownBlock (.slice at_ tl tc) = some k → k ≠ g
/-- What stands behind the deletion. -/
structure AddEnd (V0 W : World) (g : Nat) (ad : Option Addr) (dl dc : Nat) (at_ : Option Addr) (tl tc : Nat) (L : List DefD) (M : List WaitD) (nx : Int) (bz : Bool) : Prop where
  d : DefRow W ad dl dc L
  t : WaitRow W at_ tl tc M
  bx : GBox W g (.slice ad dl dc) (.slice at_ tl tc) nx bz
  below : Below V0.heap.size V0 W
  dlo : ∀ b off, ad = some ⟨b, off, none⟩ → V0.heap.size ≤ b
  tlo : ∀ b off, at_ = some ⟨b, off, none⟩ → V0.heap.size ≤ b
theorem AddEnd.keep {V0 W W2 : World} {g : Nat} {ad at_ : Option Addr} {dl dc tl tc : Nat} {L : List DefD} {M : List WaitD} {nx : Int} {bz : Bool} (h : AddEnd V0 W g ad dl dc at_ tl tc L M nx bz) (hb : Below W.heap.size W W2) : AddEnd V0 W2 g ad dl dc at_ tl tc L M nx bz :=
  ⟨h.d.below hb, h.t.below hb, h.bx.keep hb, h.below.trans (hb.mono h.below.size), h.dlo, h.tlo⟩
end Go.Proofs.Ytioeagadhnnajaa
