/- For instarlaw09's DeskTells: a desk that a function has handed back, before it is taken over. -/
import Derived.Test.YtapfhgimeohmgaaDeskTellsAt
namespace Go.Proofs.Ytapfhgimeohmgaa
open Go.RowKit
/-- A block that stands apart from what the law keeps. -/
structure Apart (W : World) (g b : Nat) : Prop where
  off : Want.Off W (g + 1) b
  lt : b < W.heap.size
  n0 : b ≠ g
  n1 : b ≠ g + 1
  n2 : b ≠ g + 2
  n3 : b ≠ g + 3
/-- A desk in the box h, its rows apart from what the law keeps. -/
structure Pend (W : World) (g h : Nat) (a : Option Addr) (l c : Nat) (b : Option Addr) (m n : Nat) (E : DeskD) : Prop where
  box : GBox W h (.slice a l c) (.slice b m n) E.next E.busy
  d : DefRow W a l c E.defs
  t : WaitRow W b m n E.waits
  o : Apart W g h
  od : ∀ k off, a = some ⟨k, off, none⟩ → 0 < l → Apart W g k
  ot : ∀ k off, b = some ⟨k, off, none⟩ → 0 < m → Apart W g k
section
variable {w W V : World} {base g h : Nat} {a b da wa : Option Addr} {l c m n dl dc wl wc : Nat} {D E : DeskD} {T : Nat → List Int} {df us : Nat → Bool}
theorem Apart.keep {k : Nat} (p : Apart W g k) (t : Want base W (g + 1) T) (hb : Below W.heap.size W V) : Apart V g k :=
  ⟨t.offKeep p.off hb, Nat.lt_of_lt_of_le p.lt hb.size, p.n0, p.n1, p.n2, p.n3⟩
theorem Pend.keep (p : Pend W g h a l c b m n E) (t : Want base W (g + 1) T) (hb : Below W.heap.size W V) : Pend V g h a l c b m n E :=
  ⟨p.box.keep hb, p.d.below hb, p.t.below hb, p.o.keep t hb, fun k off e hp => (p.od k off e hp).keep t hb, fun k off e hp => (p.ot k off e hp).keep t hb⟩
/-- It was handed back just now. -/
theorem Pend.make (t : TellsAt w W g da dl dc wa wl wc D T df us) (hb : Below W.heap.size W V) (hd : DefRow V a l c E.defs) (ht : WaitRow V b m n E.waits) (hn : NewAt W a) (hm : NewAt W b) :
    Pend (V.alloc (.cells #[.slice a l c, .slice b m n, .int .i64 E.next, .bool E.busy] 25)) g V.heap.size a l c b m n E := by
  obtain ⟨W2, hW2⟩ : ∃ W2, V.alloc (.cells #[.slice a l c, .slice b m n, .int .i64 E.next, .bool E.busy] 25) = W2 := ⟨_, rfl⟩
  have bx : GBox W2 V.heap.size (.slice a l c) (.slice b m n) E.next E.busy := by rw [← hW2]; exact GBox.new _ _ _ _ _
  have B2 : Below W.heap.size W W2 := by rw [← hW2]; exact hb.alloc hb.size _
  have e5 : DefRow W2 a l c E.defs := by rw [← hW2]; exact hd.below (below_desk _ _)
  have f5 : WaitRow W2 b m n E.waits := by rw [← hW2]; exact ht.below (below_desk _ _)
  have h8 := t.u.lt
  have ap : ∀ b, W.heap.size ≤ b → b < W2.heap.size → Apart W2 g b := fun b h1 h2 => ⟨t.t.offKeep (t.t.offNew h1) B2, h2, by omega, by omega, by omega, by omega⟩
  rw [hW2]
  refine ⟨bx, e5, f5, ap _ hb.size bx.lt, fun k off e hp => ?_, fun k off e hp => ?_⟩
  · subst e
    exact ap k (hn k off rfl) (e5.block_lt hp)
  · subst e
    exact ap k (hm k off rfl) (f5.block_lt hp)
/-- A row of what is wanted is written beside it. -/
theorem Pend.want (p : Pend W g h a l c b m n E) (t : TellsAt w W g da dl dc wa wl wc D T df us) {k : Nat} (hk : k < 6) {v : Value} (hv : W.cell? ⟨g + 1, k, none⟩ = some v) {row : Option Nat} (hg : W.grownBy V row) (hrow : row = none ∨ row = v.ownBlock) {v' : Value} (hat : ∀ b, v'.ownBlock = some b → v.ownBlock = some b ∨ W.heap.size ≤ b) :
    Pend (V.setCell ⟨g + 1, k, none⟩ v') g h a l c b m n E := by
  have offr : ∀ b, Want.Off W (g + 1) b → some b ≠ row := fun b hb e => by
    rcases hrow with hr | hr
    · rw [hr] at e; cases e
    · rw [hr] at e
      exact hb k v hk hv e.symm
  have same : ∀ b, Apart W g b → (V.setCell ⟨g + 1, k, none⟩ v').heap[b]? = W.heap[b]? := fun b hb => (Below.heap_setCell _ _ _ b hb.n1).trans (hg.block b hb.lt (offr b hb.off))
  have hz : W.heap.size ≤ (V.setCell ⟨g + 1, k, none⟩ v').heap.size := by simp only [World.setCell, Array.size_modify]; exact hg.size
  have ap : ∀ b, Apart W g b → Apart (V.setCell ⟨g + 1, k, none⟩ v') g b := fun b hb => ⟨t.t.putOff hk hv hg hrow hat hb.off hb.lt, Nat.lt_of_lt_of_le hb.lt hz, hb.n0, hb.n1, hb.n2, hb.n3⟩
  exact ⟨p.box.same (same h p.o) hz, p.d.same2 (fun b off e hp => same b (p.od b off e hp)) hz, p.t.same2 (fun b off e hp => same b (p.ot b off e hp)) hz, ap h p.o, fun b off e hp => ap b (p.od b off e hp), fun b off e hp => ap b (p.ot b off e hp)⟩
/-- A name is defined, a class is used, beside it. -/
theorem Pend.mark (p : Pend W g h a l c b m n E) {k u : Nat} :
    Pend ((W.setCell ⟨g + 2, k, none⟩ (.bool true)).setCell ⟨g + 3, u, none⟩ (.bool true)) g h a l c b m n E := by
  have same : ∀ b, Apart W g b → ((W.setCell ⟨g + 2, k, none⟩ (.bool true)).setCell ⟨g + 3, u, none⟩ (.bool true)).heap[b]? = W.heap[b]? := fun b hb => (Below.heap_setCell _ _ _ b hb.n3).trans (Below.heap_setCell _ _ _ b hb.n2)
  have hsz : ((W.setCell ⟨g + 2, k, none⟩ (.bool true)).setCell ⟨g + 3, u, none⟩ (.bool true)).heap.size = W.heap.size := by simp [World.setCell]
  have ap : ∀ b, Apart W g b → Apart ((W.setCell ⟨g + 2, k, none⟩ (.bool true)).setCell ⟨g + 3, u, none⟩ (.bool true)) g b := fun b hb => ⟨Want.farOff (by omega) (Want.farOff (by omega) hb.off), by rw [hsz]; exact hb.lt, hb.n0, hb.n1, hb.n2, hb.n3⟩
  exact ⟨p.box.same (same h p.o) (by omega), p.d.same2 (fun b off e hp => same b (p.od b off e hp)) (by omega), p.t.same2 (fun b off e hp => same b (p.ot b off e hp)) (by omega), ap h p.o, fun b off e hp => ap b (p.od b off e hp), fun b off e hp => ap b (p.ot b off e hp)⟩
/-- It is taken over. -/
theorem TellsAt.takeP (t : TellsAt w W g da dl dc wa wl wc D T df us) (p : Pend W g h a l c b m n E) :
    TellsAt w (put4 W g (.slice a l c) (.slice b m n) (.int .i64 E.next) (.bool E.busy)) g a l c b m n E T df us :=
  t.take p.d p.t (fun k off e hp => have q := p.od k off e hp; ⟨q.off, q.lt, q.n0, q.n1, q.n2, q.n3⟩) (fun k off e hp => have q := p.ot k off e hp; ⟨q.off, q.lt, q.n0, q.n1, q.n2, q.n3⟩)
end
end Go.Proofs.Ytapfhgimeohmgaa
