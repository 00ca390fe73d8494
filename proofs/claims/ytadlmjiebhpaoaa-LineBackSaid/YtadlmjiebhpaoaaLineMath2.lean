/- Mathematics of lines, for instarlaw11's LineBack and LineRight. -/
import Derived.Test.YtadlmjiebhpaoaaLineMath
namespace Go.Proofs.Ytadlmjiebhpaoaa
open Go.RowKit
structure SmallN (n : Nat) (D : LnD) : Prop where
  td : D.td.length ≤ n
  te : ∀ l ∈ D.td, l.length ≤ n
  st : D.st.length ≤ n
  se : ∀ l ∈ D.st, l.length ≤ n
  bk : D.bk.length ≤ n
theorem SmallN.small {n : Nat} {D : LnD} (h : SmallN n D) (hn : n ≤ 1000) : SmallL D :=
  ⟨by have := h.td; omega, fun l hl => by have := h.te l hl; omega, by have := h.st; omega, fun l hl => by have := h.se l hl; omega, by have := h.bk; omega⟩
theorem short_smallN {D : LnD} (h : short11 D = true) : SmallN 60 D := by
  obtain ⟨h1, h2, h3, h4, h5⟩ := short11_small h
  exact ⟨h1, h4, by omega, h5, h3⟩
theorem getL_mem {α : Type} {T : List (List α)} {k : Nat} : getL T k ∈ T ∨ getL T k = [] := by
  unfold getL
  cases h : T[k]? with
  | none => exact .inr rfl
  | some x => exact .inl (List.mem_of_getElem? h)
theorem getL_len {α : Type} {T : List (List α)} {k n : Nat} (h : ∀ l ∈ T, l.length ≤ n) : (getL T k).length ≤ n := by
  rcases getL_mem (T := T) (k := k) with h1 | h1
  · exact h _ h1
  · rw [h1]; simp
theorem set_small {α : Type} {T : List (List α)} {k n : Nat} {y : List α} (h : ∀ l ∈ T, l.length ≤ n) (hy : y.length ≤ n) : ∀ l ∈ T.set k y, l.length ≤ n := fun l hl => by
  rcases set_mem hl with h1 | rfl
  · exact h l h1
  · exact hy
theorem up {α : Type} {T : List (List α)} {n : Nat} (h : ∀ l ∈ T, l.length ≤ n) : ∀ l ∈ T, l.length ≤ n + 1 := fun l hl => by have := h l hl; omega
theorem add_small {n : Nat} {D : LnD} {k : Nat} {t : TodoD} (h : SmallN n D) : SmallN (n + 1) (add11 D k t).1 := by
  have h1 : ∀ l ∈ D.td.set k (getL D.td k ++ [t]), l.length ≤ n + 1 := set_small (up h.te) (by rw [List.length_append]; have := getL_len (k := k) h.te; simp; exact this)
  unfold add11
  by_cases h0 : D.st.length = 0
  · rw [if_pos h0]
    exact ⟨by dsimp only; rw [List.length_set]; have := h.td; omega, h1, by have := h.st; dsimp only; omega, up h.se, by dsimp only; rw [List.length_append]; have := h.bk; simp; exact this⟩
  · rw [if_neg h0]
    exact ⟨by dsimp only; rw [List.length_set]; have := h.td; omega, h1, by dsimp only; rw [List.length_set]; have := h.st; omega, set_small (up h.se) (by rw [List.length_append]; have := getL_len (k := D.st.length - 1) h.se; simp; exact this), by have := h.bk; dsimp only; omega⟩
theorem open_small {n : Nat} {D : LnD} (h : SmallN n D) : SmallN (n + 1) (open11 D) := by
  unfold open11
  refine ⟨by have := h.td; dsimp only; omega, up h.te, by dsimp only; rw [List.length_append]; have := h.st; simp; exact this, fun l hl => ?_, by have := h.bk; dsimp only; omega⟩
  rcases List.mem_append.1 hl with h1 | h1
  · exact up h.se l h1
  · rw [List.mem_singleton.1 h1]; simp
theorem add_td {D : LnD} {k : Nat} {t : TodoD} : (add11 D k t).1.td = D.td.set k (getL D.td k ++ [t]) := by
  unfold add11
  split <;> rfl
theorem add_tdlen {D : LnD} {k : Nat} {t : TodoD} : (add11 D k t).1.td.length = D.td.length := by rw [add_td, List.length_set]
theorem add_right {D : LnD} {k : Nat} {t : TodoD} (h : right11 D = true) (hk : k < D.td.length) : right11 (add11 D k t).1 = true := by
  have hi : inB D.td.length (k : Int) = true := inB_iff.2 ⟨by omega, by omega⟩
  unfold right11 at h ⊢
  rw [add_tdlen]
  simp only [Bool.and_eq_true] at h ⊢
  unfold add11
  by_cases h0 : D.st.length = 0
  · rw [if_pos h0]
    refine ⟨h.1, ?_⟩
    rw [List.all_append, h.2]
    simp [hi]
  · rw [if_neg h0]
    refine ⟨?_, h.2⟩
    rw [List.all_eq_true]
    intro l hl
    have h1 := h.1
    rw [List.all_eq_true] at h1
    rcases set_mem hl with h2 | rfl
    · exact h1 l h2
    · rw [List.all_append]
      have : (getL D.st (D.st.length - 1)).all (inB D.td.length) = true := by
        rcases getL_mem (T := D.st) (k := D.st.length - 1) with h3 | h3
        · exact h1 _ h3
        · rw [h3]; rfl
      rw [this]
      simp [hi]
theorem open_right {D : LnD} (h : right11 D = true) : right11 (open11 D) = true := by
  unfold right11 open11 at *
  dsimp only at *
  rw [List.all_append]
  simp only [Bool.and_eq_true] at h ⊢
  exact ⟨⟨h.1, rfl⟩, h.2⟩
theorem getL_last {α : Type} {T : List (List α)} {y : List α} : getL (T ++ [y]) T.length = y := by
  unfold getL
  rw [List.getElem?_append_right (Nat.le_refl _), Nat.sub_self]
  rfl
theorem set_last {α : Type} {T : List α} {y z : α} : (T ++ [y]).set T.length z = T ++ [z] := by
  rw [List.set_append_right _ _ (Nat.le_refl _), Nat.sub_self]
  rfl
theorem open_shut (D : LnD) : (shut11 (open11 D)).1 = D ∧ (shut11 (open11 D)).2 = [] := by
  unfold shut11 open11
  dsimp only
  rw [List.length_append, List.length_singleton, Nat.add_sub_cancel, getL_last, List.take_left]
  exact ⟨rfl, rfl⟩
theorem add_open (D : LnD) (k : Nat) (t : TodoD) : add11 (open11 D) k t = (⟨D.td.set k (getL D.td k ++ [t]), D.st ++ [[(k : Int)]], D.bk, D.bz⟩, false) := by
  unfold add11 open11
  dsimp only
  rw [List.length_append, List.length_singleton, if_neg (by omega), Nat.add_sub_cancel, getL_last, set_last]
  rfl
theorem add_open_shut (D : LnD) (k : Nat) (t : TodoD) : (shut11 (add11 (open11 D) k t).1).1 = ⟨D.td.set k (getL D.td k ++ [t]), D.st, D.bk, D.bz⟩ ∧ (shut11 (add11 (open11 D) k t).1).2 = [(k : Int)] := by
  rw [add_open]
  unfold shut11
  dsimp only
  rw [List.length_append, List.length_singleton, Nat.add_sub_cancel, getL_last, List.take_left]
  exact ⟨rfl, rfl⟩
theorem put_take {D : LnD} {k : Nat} {t : TodoD} (hk : k < D.td.length) (h0 : getL D.td k = []) : tail11 ⟨D.td.set k (getL D.td k ++ [t]), D.st, D.bk, D.bz⟩ k = D := by
  have h1 : D.td[k]? = some [] := by
    unfold getL at h0
    rw [List.getElem?_eq_getElem hk] at h0 ⊢
    exact congrArg some h0
  unfold tail11
  dsimp only
  rw [getL_set hk, h0, List.set_set]
  show ({ td := D.td.set k [], st := D.st, bk := D.bk, bz := D.bz } : LnD) = D
  rw [set_none h1]
theorem getL_other {α : Type} {T : List (List α)} {k j : Nat} {y : List α} (h : k ≠ j) : getL (T.set k y) j = getL T j := by
  unfold getL
  rw [List.getElem?_set_ne h]
theorem add_add_td {D : LnD} {x y : Nat} {t u : TodoD} (h : x ≠ y) : (add11 (add11 D x t).1 y u).1.td = (add11 (add11 D y u).1 x t).1.td := by
  rw [add_td, add_td, add_td, add_td, getL_other h, getL_other h.symm, List.set_comm _ _ h]
theorem add_bz {D : LnD} {k : Nat} {t : TodoD} : (add11 D k t).1.bz = if D.st.length = 0 then true else D.bz := by
  unfold add11
  split <;> rfl
theorem add_stlen {D : LnD} {k : Nat} {t : TodoD} : (add11 D k t).1.st.length = D.st.length := by
  unfold add11
  split
  · rfl
  · dsimp only; rw [List.length_set]
theorem add_bklen {D : LnD} {k : Nat} {t : TodoD} : (add11 D k t).1.bk.length = D.bk.length + if D.st.length = 0 then 1 else 0 := by
  unfold add11
  split
  · dsimp only; rw [List.length_append]; rfl
  · rfl
theorem add_ok (v : LnV) (k : Nat) (t : TodoD) (w : World) (ht : LineAt w v) (hs : SmallL v.dat) (hto : okTd t) (hq : right11 v.dat = true) (hk : k < v.dat.td.length) :
    Calls Try.prog 10 #[v.val, .int .i64 k, t.val] w (AddP w (add11 v.dat k t).1 (add11 v.dat k t).2 0) := by
  by_cases h0 : v.dat.st.length = 0
  · have h1 := add_back v k t w ht hs hto hq hk h0
    have e : (add11 v.dat k t).2 = !v.dat.bz := by unfold add11; rw [if_pos h0]
    rw [e]
    exact h1
  · have h1 := add_list v k t w ht hs hto hq hk (v.dat.st.length - 1) (by omega)
    have e : (add11 v.dat k t).2 = false := by unfold add11; rw [if_neg h0]
    rw [e]
    exact h1
end Go.Proofs.Ytadlmjiebhpaoaa
