/- Desks: two definitions in either order; what is waited for and defined, one behind the other. No program. -/
import Derived.Test.YtapfhgimeohmgaaDeskMath
namespace Go.Proofs.Ytapfhgimeohmgaa
open Go.RowKit
section
variable {D : DeskD} {s t base other : ByteArray} {a b : Int}
/-- What may be defined behind another definition is what might be ahead of it. -/
theorem MayOk.swap {classes : Int} (h : MayOk D classes s.toList base.toList a) (hs : s.toList ≠ t.toList) (ha : a ≠ b) : mayE (addK D s base a) classes t.toList other.toList b = mayE D classes t.toList other.toList b := by
  have h1 : rightK (addK D s base a) = rightK D := by rw [rightK_iff.2 h.right, rightK_iff.2 h.r]
  have h2 : (0 ≤ namedZ (addK D s base a).defs t.toList) = (0 ≤ namedZ D.defs t.toList) := by
    rw [named_add]
    split
    · rfl
    · rename_i h0
      exact propext ⟨fun h => by omega, fun h => absurd h h0⟩
  have h3 : (0 ≤ classedZ (addK D s base a).defs b) = (0 ≤ classedZ D.defs b) := by
    rw [classed_add]
    split
    · rfl
    · rename_i h0
      exact propext ⟨fun h => by omega, fun h => absurd h h0⟩
  unfold mayE
  simp only [h1, h2, h3]
  rw [h.idle]
  rfl
theorem addR_may {classes : Int} (h : MayOk D classes s.toList base.toList a) : addR D classes s base a = (addK D s base a, (D.defs.length : Int), toldZ D.waits s.toList, 0) := by
  unfold addR
  rw [if_pos (may_ok.2 h)]
theorem addR_not {classes : Int} (h : mayE D classes s.toList base.toList a ≠ 0) : addR D classes s base a = (D, -1, [], mayE D classes s.toList base.toList a) := by
  unfold addR
  rw [if_neg h]
theorem addR_err {classes : Int} : (addR D classes s base a).2.2.2 = mayE D classes s.toList base.toList a := by
  unfold addR
  split
  · rename_i h; rw [h]
  · rfl
/-- The errors of two definitions in either order. -/
theorem order_err (hs : s.toList ≠ t.toList) (ha : a ≠ b) : mayE (addR D 12 s base a).1 12 t.toList other.toList b = mayE D 12 t.toList other.toList b := by
  by_cases h : mayE D 12 s.toList base.toList a = 0
  · rw [addR_may (may_ok.1 h)]
    exact (may_ok.1 h).swap hs ha
  · rw [addR_not h]
theorem told_other {L : List WaitD} {s t : List UInt8} (h : s ≠ t) : toldZ (restT L t) s = toldZ L s := by
  unfold toldZ restT
  rw [List.filter_filter]
  congr 1
  refine List.filter_congr fun x _ => ?_
  by_cases hx : x.name.toList = s
  · have : (x.name.toList == t) = false := beq_eq_false_iff_ne.2 (fun e => h (by rw [← hx, e]))
    rw [this, beq_iff_eq.2 hx]
    rfl
  · rw [beq_eq_false_iff_ne.2 hx]
    rfl
theorem told_same {L : List WaitD} {s : List UInt8} : toldZ (restT L s) s = [] := by
  unfold toldZ restT
  rw [List.filter_filter]
  rw [List.map_eq_nil_iff, List.filter_eq_nil_iff]
  intro x _
  cases h : x.name.toList == s <;> simp
/-- Who is found is of the same definition. -/
theorem order_find {E F : DeskD} (hE : RightK E) (hF : RightK F) (hm : ∀ x, x ∈ E.defs ↔ x ∈ F.defs) (l i : List UInt8) : (findZ2 E.defs l i = -1 ∧ findZ2 F.defs l i = -1) ∨ ∃ (j k : Nat) (x : DefD), findZ2 E.defs l i = (j : Int) ∧ findZ2 F.defs l i = (k : Int) ∧ E.defs[j]? = some x ∧ F.defs[k]? = some x := by
  by_cases h0 : findZ2 E.defs l i = -1
  · refine .inl ⟨h0, hF.find_none.2 fun x hx => ?_⟩
    exact hE.find_none.1 h0 x ((hm x).2 hx)
  · have h1 := find_lt E.defs l i
    obtain ⟨j, hj⟩ : ∃ k : Nat, findZ2 E.defs l i = k := ⟨(findZ2 E.defs l i).toNat, by omega⟩
    have hl : j < E.defs.length := by omega
    have hg := List.getElem?_eq_getElem hl
    have hf := (hE.find_iff hg).1 hj
    obtain ⟨k, hk⟩ := List.getElem?_of_mem ((hm _).1 (List.mem_of_getElem? hg))
    exact .inr ⟨j, k, _, hj, (hF.find_iff hk).2 hf, hg, hk⟩
theorem order_mem (x : DefD) : x ∈ (addK (addK D s base a) t other b).defs ↔ x ∈ (addK (addK D t other b) s base a).defs := by
  unfold addK
  simp only [List.mem_append, List.mem_singleton]
  constructor
  · rintro ((h | h) | h)
    · exact .inl (.inl h)
    · exact .inr h
    · exact .inl (.inr h)
  · rintro ((h | h) | h)
    · exact .inl (.inl h)
    · exact .inr h
    · exact .inl (.inr h)
end
section
variable {D : DeskD} {s : ByteArray}
theorem await_ok {s : List UInt8} : awaitE D s = 0 ↔ RightK D ∧ customL s = true ∧ D.next < 100000 := by
  unfold awaitE
  constructor
  · intro h
    split at h
    · omega
    rename_i h1
    split at h
    · omega
    rename_i h2
    split at h
    · omega
    rename_i h3
    exact ⟨rightK_iff.1 (by cases hr : rightK D with | true => rfl | false => exact absurd hr h1), by cases hr : customL s with | true => rfl | false => exact absurd hr h2, by omega⟩
  · rintro ⟨h1, h2, h3⟩
    rw [if_neg (by rw [rightK_iff.2 h1]; decide), if_neg (by rw [h2]; decide), if_neg (by omega)]
theorem await_right (h : RightK D) (hc : customL s.toList = true) (hn : D.next < 100000) : RightK (awaitK D s) := by
  have h0 := h.n0
  refine RightK.of (D := awaitK D s) ?_ ?_ h.d (fun x hx => ?_) ?_
  · show 0 ≤ D.next + 1; omega
  · show D.next + 1 ≤ 100000; omega
  · show _ ∧ namedZ D.defs _ = -1 ∧ _ ∧ _ < D.next + 1
    unfold awaitK at hx
    dsimp only at hx
    split at hx
    · rename_i hm
      rcases List.mem_append.1 hx with hx | hx
      · obtain ⟨h3, h4, h5, h6⟩ := h.wait hx
        exact ⟨h3, h4, h5, by omega⟩
      · rw [List.mem_singleton.1 hx]
        have := (firstZ_lt (isName s.toList) D.defs).1
        refine ⟨hc, ?_, by dsimp only; omega, by dsimp only; omega⟩
        show firstZ (isName s.toList) D.defs = -1
        unfold namedZ at hm
        omega
    · obtain ⟨h3, h4, h5, h6⟩ := h.wait hx
      exact ⟨h3, h4, h5, by omega⟩
  · unfold awaitK
    dsimp only
    split
    · rw [List.pairwise_append]
      refine ⟨h.asc.2, List.pairwise_singleton _ _, fun x hx y hy => ?_⟩
      rw [List.mem_singleton.1 hy]
      exact (h.wait hx).2.2.2
    · exact h.asc.2
theorem told_await (n : List UInt8) : toldZ (awaitK D s).waits n = if namedZ D.defs s.toList < 0 ∧ s.toList = n then toldZ D.waits n ++ [D.next] else toldZ D.waits n := by
  unfold awaitK
  dsimp only
  by_cases h : namedZ D.defs s.toList < 0
  · rw [if_pos h]
    unfold toldZ
    rw [List.filter_append, List.map_append]
    by_cases hn : s.toList = n
    · rw [if_pos ⟨h, hn⟩]
      congr 1
      rw [List.filter_cons, if_pos (by simpa using hn)]
      rfl
    · rw [if_neg (fun e => hn e.2), List.filter_cons, if_neg (by simpa using hn)]
      simp
  · rw [if_neg h, if_neg (fun e => h e.1)]
end
/-- The names that are waited for and defined. -/
def nmK (k : Nat) : List UInt8 := [120, 45, 97 + UInt8.ofNat k]
theorem nmK_one {j k : Nat} (hj : j < 6) (hk : k < 6) (h : nmK j = nmK k) : j = k := by
  have : ∀ j : Fin 6, ∀ k : Fin 6, nmK j = nmK k → j = k := by decide
  have := this ⟨j, hj⟩ ⟨k, hk⟩ h
  exact congrArg Fin.val this
theorem nmK_custom {k : Nat} (hk : k < 6) : customL (nmK k) = true := by
  have : ∀ k : Fin 6, customL (nmK k) = true := by decide
  exact this ⟨k, hk⟩
/-- Where what is waited for and defined has come to. -/
structure Tells (D : DeskD) (W : Nat → List Int) (df us : Nat → Bool) : Prop where
  r : RightK D
  idle : D.busy = false
  want : ∀ k, k < 6 → W k = toldZ D.waits (nmK k)
  dfd : ∀ k, k < 6 → df k = decide (0 ≤ namedZ D.defs (nmK k))
  usd : ∀ c : Nat, c < 12 → us c = decide (0 ≤ classedZ D.defs (c : Int))
  all : ∀ x ∈ D.waits, ∃ k, k < 6 ∧ x.name.toList = nmK k
theorem Tells.start : Tells ⟨[], [], 0, false⟩ (fun _ => []) (fun _ => false) (fun _ => false) := by
  refine ⟨rightK_iff.1 (by decide), rfl, fun k _ => rfl, fun k _ => ?_, fun c _ => ?_, fun x hx => by cases hx⟩
  · exact (decide_eq_false (by show ¬ 0 ≤ firstZ _ []; unfold firstZ; simp)).symm
  · exact (decide_eq_false (by show ¬ 0 ≤ firstZ _ []; unfold firstZ; simp)).symm
section
variable {D : DeskD} {W : Nat → List Int} {df us : Nat → Bool} {k : Nat} {s : ByteArray}
theorem Tells.await (h : Tells D W df us) (hk : k < 6) (hs : s.toList = nmK k) (hn : D.next < 100000) : Tells (awaitK D s) (fun j => if j = k ∧ df k = false then W j ++ [D.next] else W j) df us := by
  have hd := h.dfd k hk
  refine ⟨await_right h.r (by rw [hs]; exact nmK_custom hk) hn, h.idle, fun j hj => ?_, h.dfd, h.usd, fun x hx => ?_⟩
  · rw [told_await, ← h.want j hj, hs]
    by_cases hjk : j = k
    · subst hjk
      cases hf : df j with
      | false =>
        rw [hf] at hd
        have hd2 := of_decide_eq_false hd.symm
        rw [if_pos ⟨rfl, rfl⟩, if_pos ⟨by omega, rfl⟩]
      | true =>
        rw [hf] at hd
        have hd2 := of_decide_eq_true hd.symm
        rw [if_neg (by rintro ⟨_, h⟩; cases h), if_neg (by rintro ⟨h, _⟩; omega)]
    · rw [if_neg (fun e => hjk e.1), if_neg (fun e => hjk (nmK_one hk hj e.2).symm)]
  · unfold awaitK at hx
    dsimp only at hx
    split at hx
    · rcases List.mem_append.1 hx with hx | hx
      · exact h.all x hx
      · rw [List.mem_singleton.1 hx]
        exact ⟨k, hk, hs⟩
    · exact h.all x hx
/-- What may be defined of them. -/
theorem Tells.may (h : Tells D W df us) {c : Nat} (hk : k < 6) (hs : s.toList = nmK k) (hc : c < 12) : mayE D 12 s.toList [] (c : Int) = if df k = true ∨ us c = true then 10 else 0 := by
  unfold mayE
  rw [if_neg (by
    rw [rightK_iff.2 h.r]
    rintro (h | h | h | h)
    · cases h
    · omega
    · omega
    · omega), if_neg (by rw [hs, nmK_custom hk]; decide)]
  have h1 : (0 ≤ namedZ D.defs s.toList) = (df k = true) := by rw [hs, h.dfd k hk, decide_eq_true_eq]
  have h2 : (0 ≤ classedZ D.defs (c : Int)) = (us c = true) := by rw [h.usd c hc, decide_eq_true_eq]
  simp only [h1, h2]
  split
  · rfl
  · rw [if_neg (by rintro ⟨h, _⟩; exact h rfl), if_neg (by rw [h.idle]; decide)]
theorem Tells.add (h : Tells D W df us) {c : Nat} (hk : k < 6) (hs : s.toList = nmK k) (hc : c < 12) (hd : df k = false) (hu : us c = false) {e : ByteArray} (he : e.toList = []) : Tells (addK D s e (c : Int)) (fun j => if j = k then [] else W j) (fun j => if j = k then true else df j) (fun j => if j = c then true else us j) := by
  have hm : MayOk D 12 s.toList e.toList (c : Int) := may_ok.1 (by rw [he, h.may hk hs hc, if_neg (by rw [hd, hu]; decide)])
  refine ⟨hm.right, rfl, fun j hj => ?_, fun j hj => ?_, fun j hj => ?_, fun x hx => ?_⟩
  · show _ = toldZ (restT D.waits s.toList) (nmK j)
    by_cases hjk : j = k
    · subst hjk
      rw [if_pos rfl, hs, told_same]
    · rw [if_neg hjk, hs, told_other (fun e => hjk (nmK_one hj hk e)), h.want j hj]
  · rw [named_add]
    by_cases hjk : j = k
    · subst hjk
      rw [if_pos rfl]
      refine (decide_eq_true ?_).symm
      split
      · rename_i h0; exact h0
      · omega
    · rw [if_neg hjk, h.dfd j hj]
      by_cases h0 : 0 ≤ namedZ D.defs (nmK j)
      · rw [if_pos h0]
      · rw [if_neg h0, if_neg (fun e => hjk (nmK_one hj hk (by rw [← e, hs]))), decide_eq_false h0]
        rfl
  · rw [classed_add]
    by_cases hjk : j = c
    · subst hjk
      rw [if_pos rfl]
      refine (decide_eq_true ?_).symm
      split
      · rename_i h0; exact h0
      · omega
    · rw [if_neg hjk, h.usd j hj]
      by_cases h0 : 0 ≤ classedZ D.defs (j : Int)
      · rw [if_pos h0]
      · rw [if_neg h0, if_neg (by omega), decide_eq_false h0]
        rfl
  · exact h.all x (List.mem_filter.1 hx).1
/-- All that wait are waited for by a name. -/
theorem sum_told : ∀ {L : List WaitD}, (∀ x ∈ L, ∃ k, k < 6 ∧ x.name.toList = nmK k) → (toldZ L (nmK 0)).length + (toldZ L (nmK 1)).length + (toldZ L (nmK 2)).length + (toldZ L (nmK 3)).length + (toldZ L (nmK 4)).length + (toldZ L (nmK 5)).length = L.length
  | [], _ => rfl
  | x :: r, h => by
    have ih := sum_told (L := r) (fun y hy => h y (by simp [hy]))
    obtain ⟨k, hk, hx⟩ := h x (by simp)
    have e : ∀ j, (toldZ (x :: r) (nmK j)).length = (if nmK k = nmK j then 1 else 0) + (toldZ r (nmK j)).length := by
      intro j
      unfold toldZ
      rw [List.filter_cons, hx]
      by_cases hj : nmK k = nmK j
      · rw [if_pos hj, if_pos (by simpa using hj)]
        simp only [List.map_cons, List.length_cons]; omega
      · rw [if_neg hj, if_neg (by simpa using hj)]
        omega
    have one : ∀ k : Fin 6, (if nmK k = nmK 0 then 1 else 0) + (if nmK k = nmK 1 then 1 else 0) + (if nmK k = nmK 2 then 1 else 0) + (if nmK k = nmK 3 then 1 else 0) + (if nmK k = nmK 4 then 1 else 0) + (if nmK k = nmK 5 then 1 else 0) = 1 := by decide
    have := one ⟨k, hk⟩
    dsimp only at this
    rw [e 0, e 1, e 2, e 3, e 4, e 5, List.length_cons]
    omega
end
end Go.Proofs.Ytapfhgimeohmgaa
