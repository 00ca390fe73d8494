/- The state of the law AttrModel: two arrays and a list of places, in memory. -/
import Derived.Test.YtmofeddldcifbaaAttrTable
import Derived.Test.YtmofeddldcifbaaAttrRem2
import Derived.Test.YtmofeddldcifbaaAttrOpenDo
namespace Go.Proofs.Ytmofeddldcifbaa
open Go.RowKit
def encI (k : Nat) : List Value := [.int .i64 (k : Int)]
theorem encI_len (k : Nat) : (encI k).length = 1 := rfl
theorem encI_one (k : Nat) : ∀ u ∈ encI k, u.oneCell' = true := by
  intro u hu
  simp [encI] at hu
  rw [hu]
  rfl
/-- The arrays of truths and of values (blocks g and g + 1), and the list of places, of the call's own. -/
structure Raw (w wr : World) (g : Nat) (order : Value) (os : List Nat) (hs : Nat → Bool) (vs : Nat → ByteArray) : Prop where
  ord : wr.ownsRow (g + 2) 3 1 order os.length (os.flatMap encI)
  has : ∀ j, j < 26 → wr.cell? ⟨g, j, none⟩ = some (.bool (hs j))
  val : ∀ j, j < 26 → wr.cell? ⟨g + 1, j, none⟩ = some (.string (vs j))
  free1 : ∀ j, wr.frozen? ⟨g, j, none⟩ = false
  free2 : ∀ j, wr.frozen? ⟨g + 1, j, none⟩ = false
  low : w.heap.size ≤ g
  lt : g + 1 < wr.heap.size
  below : Below w.heap.size w wr
section
variable {w wr W : World} {g : Nat} {order : Value} {os : List Nat} {hs : Nat → Bool} {vs : Nat → ByteArray}
theorem Raw.keep (h : Raw w wr g order os hs vs) (hb : Below wr.heap.size wr W) : Raw w W g order os hs vs := by
  have hlt := h.lt
  refine ⟨own_below h.ord hb, fun j hj => ?_, fun j hj => ?_, fun j => ?_, fun j => ?_, h.low, Nat.lt_of_lt_of_le h.lt hb.size, h.below.trans (hb.mono h.below.size)⟩
  · rw [hb.cell (p := ⟨g, j, none⟩) (show g < _ by omega)]; exact h.has j hj
  · rw [hb.cell (p := ⟨g + 1, j, none⟩) hlt]; exact h.val j hj
  · rw [hb.frozen (p := ⟨g, j, none⟩) (show g < _ by omega)]; exact h.free1 j
  · rw [hb.frozen (p := ⟨g + 1, j, none⟩) hlt]; exact h.free2 j
theorem own_setCell {base : Nat} {e : TypeId} {size n : Nat} {v : Value} {xs : List Value} {p : Addr} (h : wr.ownsRow base e size v n xs) (hp : p.block < base) (u : Value) : (wr.setCell p u).ownsRow base e size v n xs := by
  refine ⟨h.1, ?_⟩
  rcases h.2 with h | ⟨b, cap, cur, h1, h2, h3, h4⟩
  · exact .inl h
  · exact .inr ⟨b, cap, cur, h1, h2, by rw [Below.heap_setCell _ _ _ _ (by omega)]; exact h3, h4⟩
theorem cell_set_same {p : Addr} {u v : Value} (h : wr.cell? p = some v) : (wr.setCell p u).cell? p = some u := by
  exact World.cell?_setCell_same _ _ _ h
theorem Raw.setHas (h : Raw w wr g order os hs vs) {k : Nat} (hk : k < 26) (b : Bool) : Raw w (wr.setCell ⟨g, k, none⟩ (.bool b)) g order os (fun j => if j = k then b else hs j) vs := by
  refine ⟨own_setCell h.ord (by show g < g + 2; omega) _, fun j hj => ?_, fun j hj => ?_, fun j => ?_, fun j => ?_, h.low, by simp [World.setCell]; exact h.lt, h.below.setCell (p := ⟨g, k, none⟩) h.low _⟩
  · by_cases e : j = k
    · subst e
      rw [if_pos rfl]
      exact cell_set_same (h.has j hj)
    · rw [if_neg e, World.cell?_setCell_other _ _ _ _ (fun e2 => by injection e2 with _ e2; omega)]
      exact h.has j hj
  · rw [World.cell?_setCell_other _ _ _ _ (fun e2 => by injection e2 with e2; omega)]
    exact h.val j hj
  · rw [World.frozen?_setCell]; exact h.free1 j
  · rw [World.frozen?_setCell]; exact h.free2 j
theorem Raw.setVal (h : Raw w wr g order os hs vs) {k : Nat} (hk : k < 26) (v : ByteArray) : Raw w (wr.setCell ⟨g + 1, k, none⟩ (.string v)) g order os hs (upd vs k v) := by
  refine ⟨own_setCell h.ord (by show g + 1 < g + 2; omega) _, fun j hj => ?_, fun j hj => ?_, fun j => ?_, fun j => ?_, h.low, by simp [World.setCell]; exact h.lt, h.below.setCell (p := ⟨g + 1, k, none⟩) (by have := h.low; show _ ≤ g + 1; omega) _⟩
  · rw [World.cell?_setCell_other _ _ _ _ (fun e2 => by injection e2 with e2; omega)]
    exact h.has j hj
  · unfold upd
    by_cases e : j = k
    · subst e
      rw [if_pos rfl]
      exact cell_set_same (h.val j hj)
    · rw [if_neg e, World.cell?_setCell_other _ _ _ _ (fun e2 => by injection e2 with _ e2; omega)]
      exact h.val j hj
  · rw [World.frozen?_setCell]; exact h.free1 j
  · rw [World.frozen?_setCell]; exact h.free2 j
/-- A list of attributes keeps, when a cell of another block is written. -/
theorem AttrRow.setCell {a : Option Addr} {len cap : Nat} {L : AL} {p : Addr} (h : AttrRow wr a len cap L) (hp : ∀ b off, a = some ⟨b, off, none⟩ → p.block ≠ b) (u : Value) : AttrRow (wr.setCell p u) a len cap L :=
  ⟨h.row.keep (by simp [World.setCell]) (fun b off ha _ o => World.cell?_setCell_other _ _ _ _ (fun e => hp b off ha (by rw [e]))), h.small, h.hnil⟩
theorem AttrRow.grown {a : Option Addr} {len cap : Nat} {L : AL} {row : Option Nat} (h : AttrRow wr a len cap L) (hg : wr.grownBy W row) (hp : ∀ b off, a = some ⟨b, off, none⟩ → row ≠ some b) : AttrRow W a len cap L := by
  refine ⟨h.row.keep hg.size (fun b off ha hpos o => ?_), h.small, h.hnil⟩
  rcases h.row.cells with h0 | ⟨b', off', ha', hlt, _⟩
  · omega
  · rw [ha] at ha'
    injection ha' with ha'
    injection ha' with e1 e2
    subst e1
    exact World.cell?_of_block (hg.block b hlt (fun e => hp b off ha e.symm))
/-- The list of places gets one more. -/
theorem Raw.added (h : Raw w wr g order os hs vs) {o2 : Value} {k : Nat} {B : Obj} (hg : (wr.alloc B).grownBy W order.ownBlock) (hown : W.ownsRow (g + 2) 3 1 o2 (os.length + 1) ((os ++ [k]).flatMap encI)) : Raw w W g o2 (os ++ [k]) hs vs := by
  have hlt := h.lt
  have hne : ∀ b, b < g + 2 → some b ≠ order.ownBlock := fun b hb e => by
    have := (h.ord.lt b e.symm).1
    omega
  have hsz : (wr.alloc B).heap.size = wr.heap.size + 1 := by simp
  have hbl : ∀ b, b < g + 2 → W.heap[b]? = wr.heap[b]? := fun b hb => by
    rw [hg.block b (by omega) (hne b hb)]
    exact Below.heap_alloc wr B b (by omega)
  refine ⟨by rw [List.length_append]; exact hown, fun j hj => ?_, fun j hj => ?_, fun j => ?_, fun j => ?_, h.low, by have := hg.size; omega, ?_⟩
  · rw [World.cell?_of_block (w := wr) (hbl g (by omega))]; exact h.has j hj
  · rw [World.cell?_of_block (w := wr) (hbl (g + 1) (by omega))]; exact h.val j hj
  · rw [World.frozen?_of_block (w := wr) (hbl g (by omega))]; exact h.free1 j
  · rw [World.frozen?_of_block (w := wr) (hbl (g + 1) (by omega))]; exact h.free2 j
  · exact (h.below.alloc h.below.size B).grown hg (by have := h.below.size; omega) (fun b hb => by
      have := (h.ord.lt b hb).1
      have := h.low
      omega)
/-- Another list of places in its stead. -/
theorem Raw.other (h : Raw w wr g order os hs vs) (hb : Below wr.heap.size wr W) {o2 : Value} {os2 : List Nat} (hown : W.ownsRow wr.heap.size 3 1 o2 os2.length (os2.flatMap encI)) : Raw w W g o2 os2 hs vs := by
  obtain ⟨_, h2, h3, h4, h5, h6, h7, h8⟩ := h.keep hb
  refine ⟨⟨hown.1, ?_⟩, h2, h3, h4, h5, h6, h7, h8⟩
  rcases hown.2 with h | ⟨b, cap, cur, h1, hb2, h3⟩
  · exact .inl h
  · exact .inr ⟨b, cap, cur, h1, by have := h.lt; omega, h3⟩
end
end Go.Proofs.Ytmofeddldcifbaa
