/- Mathematics of lines, for instarlaw11's laws. -/
import Derived.Test.YtadlmjiebhpaoaaLineAwake
import Derived.Test.YtadlmjiebhpaoaaRef11Right
namespace Go.Proofs.Ytadlmjiebhpaoaa
open Go.RowKit
/-- A line held in a box of the law's. -/
structure HeldL (w W : World) (g : Nat) (v : LnV) : Prop where
  b : LBox W g v
  l : LineAt W v
  w : Below w.heap.size w W
theorem HeldL.keep {w W V : World} {g : Nat} {v : LnV} (h : HeldL w W g v) (hb : Below W.heap.size W V) : HeldL w V g v := ⟨h.b.keep hb, h.l.below hb, h.w.trans (hb.mono h.w.size)⟩
theorem HeldL.new {w W W1 : World} {u : LnV} (hw : Below w.heap.size w W) (hb : Below W.heap.size W W1) (hl : LineAt W1 u) : HeldL w (W1.alloc u.obj) W1.heap.size u :=
  ⟨LBox.new _ _, hl.below (below_one _ _), (hw.trans (hb.mono hw.size)).trans ((below_one _ _).mono (Nat.le_trans hw.size hb.size))⟩
theorem small_short {D : LnD} (h : short11 D = true) : SmallL D := by
  obtain ⟨h1, h2, h3, h4, h5⟩ := short11_small h
  exact ⟨by omega, fun l hl => by have := h4 l hl; omega, by omega, fun l hl => by have := h5 l hl; omega, by omega⟩
theorem drop_len (D : LnD) (k : Nat) : (drop11 D k).td.length = D.td.length := by unfold drop11; dsimp only; rw [List.length_set]
theorem set_mem {α : Type} {T : List (List α)} {k : Nat} {y x : List α} (h : x ∈ T.set k y) : x ∈ T ∨ x = y := List.mem_or_eq_of_mem_set h
theorem drop_right {D : LnD} {k : Nat} (h : right11 D = true) : right11 (drop11 D k) = true := by
  have e : right11 (drop11 D k) = right11 D := by
    unfold right11
    rw [drop_len]
    rfl
  rw [e, h]
theorem drop_small {D : LnD} {k : Nat} (h : SmallL D) : SmallL (drop11 D k) :=
  ⟨by rw [drop_len]; exact h.td, fun l hl => by
    rcases set_mem hl with h1 | rfl
    · exact h.te l h1
    · simp, h.st, h.se, h.bk⟩
theorem drop_drop (D : LnD) (k : Nat) : drop11 (drop11 D k) k = drop11 D k := by
  unfold drop11
  dsimp only
  rw [List.set_set]
theorem getL_set {α : Type} {T : List (List α)} {k : Nat} {y : List α} (h : k < T.length) : getL (T.set k y) k = y := by
  unfold getL
  rw [List.getElem?_set_self h]
  rfl
theorem inB_more {m n : Nat} {z : Int} (h : inB m z = true) (hm : m ≤ n) : inB n z = true := by
  rw [inB_iff] at h ⊢
  omega
theorem all_more {m n : Nat} {L : List Int} (h : L.all (inB m) = true) (hm : m ≤ n) : L.all (inB n) = true := by
  rw [List.all_eq_true] at h ⊢
  exact fun z hz => inB_more (h z hz) hm
theorem right_more {D E : LnD} (h : right11 D = true) (hm : D.td.length ≤ E.td.length) (hs : E.st = D.st) (hb : E.bk = D.bk) : right11 E = true := by
  unfold right11 at h ⊢
  simp only [Bool.and_eq_true] at h ⊢
  rw [hs, hb]
  refine ⟨?_, all_more h.2 hm⟩
  rw [List.all_eq_true] at h ⊢
  exact fun l hl => all_more (h.1 l hl) hm
theorem grow_right {D : LnD} (h : right11 D = true) : right11 (grow11 D) = true := right_more h (by unfold grow11; simp) rfl rfl
theorem datL_at {α : Type} {T : List (Hd α)} {k : Nat} {l : List α} (h : (datL T)[k]? = some l) : ∃ x, T[k]? = some x ∧ x.l = l := by
  unfold datL at h
  rw [List.getElem?_map] at h
  cases hx : T[k]? with
  | none => rw [hx] at h; cases h
  | some x => rw [hx] at h; injection h with h; exact ⟨x, rfl, h⟩
end Go.Proofs.Ytadlmjiebhpaoaa
