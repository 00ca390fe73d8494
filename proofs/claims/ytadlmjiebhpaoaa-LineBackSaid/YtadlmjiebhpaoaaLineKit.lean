/- What the calls of package line share: who is there, and what is taken out of the copy. -/
import Derived.Test.YtadlmjiebhpaoaaLineGrow
namespace Go.Proofs.Ytadlmjiebhpaoaa
open Go.RowKit
theorem own_at0 {w : World} {base : Nat} {e : TypeId} {size n c : Nat} {a : Option Addr} {xs : List Value} (h : w.ownsRow base e size (.slice a n c) n xs) (hn : 0 < n) : ∃ g, a = some ⟨g, 0, none⟩ := by
  rcases h.2 with ⟨hv, h0⟩ | ⟨g, cap, cur, hv, _⟩
  · omega
  · injection hv with e1 _ _
    exact ⟨g, e1⟩
/-- Is there a node n, as has is asked. -/
theorem has1_any (v : LnV) (n : Int) (hn : In64 n) (V : World) (q : Bool) (hq : inB v.tl n = q) (h : LineAt V v) :
    Calls Try.prog 32 #[v.val, .slice (some ⟨V.heap.size, 0, none⟩) 1 1] (V.alloc (.cells #[.int .i64 n] 3)) fun e w' => e = .returned (.bool q) ∧ Below V.heap.size V w' := by
  have h1 := has11_any v (some ⟨V.heap.size, 0, none⟩) 1 1 [n] (V.alloc (.cells #[.int .i64 n] 3)) (h.below (below_one _ _)) ⟨own_one V _ n _ rfl rfl, fun z hz => by rw [List.mem_singleton.1 hz]; exact hn, fun e => by cases e⟩
  refine h1.mono (fun e w' h2 => ⟨?_, (below_one V _).trans (h2.2.mono (by simp))⟩)
  rw [h2.1, ← hq]
  simp
theorem getL_of {α : Type} {T : List (Hd α)} {k : Nat} {x : Hd α} (h : T[k]? = some x) : getL (datL T) k = x.l := by
  unfold getL
  rw [datL_get h]
  rfl
theorem datL_set {α : Type} (T : List (Hd α)) (k : Nat) (y : Hd α) : datL (T.set k y) = (datL T).set k y.l := by
  unfold datL
  rw [List.map_set]
theorem set_none {α : Type} {l : List α} {k : Nat} {x : α} (h : l[k]? = some x) : l.set k x = l := by
  apply List.ext_getElem?
  intro j
  by_cases e : k = j
  · subst e
    rw [List.getElem?_set_self (List.getElem?_eq_some_iff.1 h).1, h]
  · rw [List.getElem?_set_ne e]
/-- A header of the copy's own rows. -/
theorem OwnRows.get {α : Type} {enc : α → List Value} {size : Nat} {ok : α → Prop} {base : Nat} {th te : TypeId} {W : World} {a : Option Addr} {n c : Nat} {T : List (Hd α)} (h : OwnRows enc size ok base th te W a n c T) {k : Nat} (hk : k < n) :
    ∃ g x, a = some ⟨g, 0, none⟩ ∧ g < W.heap.size ∧ T[k]? = some x ∧ W.cell? ⟨g, k, none⟩ = some (.slice x.a x.n x.c) ∧ W.frozen? ⟨g, k, none⟩ = false ∧ W.ownsRow base te size (.slice x.a x.n x.c) x.n (x.l.flatMap enc) ∧ ∀ y ∈ x.l, ok y := by
  obtain ⟨g, rfl⟩ := own_at0 h.row (by omega)
  have hl : k < T.length := by rw [h.hlen]; exact hk
  have hx : T[k]? = some (T[k]'hl) := List.getElem?_eq_getElem hl
  obtain ⟨h1, h2, h3, h4, h5, h6⟩ := own_shape11 h.row
  have hc := h.row.cells (g := g) rfl k (.slice (T[k]'hl).a (T[k]'hl).n (T[k]'hl).c) (by
    have := flat_get (enc := encH) (size := 1) (fun y _ => encH_len y) hx (show 0 < 1 by decide)
    rw [Nat.mul_one, Nat.add_zero] at this
    exact this)
  rw [Go.WideShapes.add_plain, Nat.zero_add] at hc
  exact ⟨g, _, rfl, h5, hx, hc, h3 k, h.each _ (List.mem_of_getElem? hx), h.ok _ (List.mem_of_getElem? hx)⟩
end Go.Proofs.Ytadlmjiebhpaoaa
