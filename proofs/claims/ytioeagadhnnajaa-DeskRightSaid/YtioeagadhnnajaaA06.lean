/- Texts joined in build order: DeskMath DeskMath2. -/
import Derived.Test.YtioeagadhnnajaaA04
import Derived.Test.YtioeagadhnnajaaA05
/- Desks that are right: whose definition is whose, and what comes of defining. No program. -/
namespace Go.Proofs.Ytioeagadhnnajaa
open Go.RowKit
theorem firstZ_append {α : Type} {p : α → Bool} {L : List α} {x : α} : firstZ p (L ++ [x]) = if 0 ≤ firstZ p L then firstZ p L else if p x = true then (L.length : Int) else -1 := by
  rcases firstZ_cases p L with ⟨h1, h2⟩ | ⟨k, y, h1, h2, h3, h4⟩
  · rw [h1, if_neg (by decide)]
    cases hp : p x with
    | false =>
      rw [if_neg (by decide)]
      refine firstZ_no fun y hy => ?_
      rcases List.mem_append.1 hy with h | h
      · exact h2 y h
      · rw [List.mem_singleton.1 h, hp]
    | true =>
      rw [if_pos rfl]
      refine firstZ_is (x := x) (by simp) hp fun j y hj hy => ?_
      rw [List.getElem?_append_left hj] at hy
      exact h2 y (List.mem_of_getElem? hy)
  · obtain ⟨hl, _⟩ := List.getElem?_eq_some_iff.1 h2
    rw [h1, if_pos (by omega)]
    refine firstZ_is (x := y) (by rw [List.getElem?_append_left hl]; exact h2) h3 fun j z hj hz => ?_
    rw [List.getElem?_append_left (by omega)] at hz
    exact h4 j z hj hz
def fits (x : DefD) (l s : List UInt8) : Bool := x.loc.toList == l && (x.name.toList == l || x.name.toList == s)
theorem fits_iff {x : DefD} {l s : List UInt8} : fits x l s = true ↔ x.loc.toList = l ∧ (x.name.toList = l ∨ x.name.toList = s) := by
  unfold fits; simp
section
variable {D : DeskD} {l s : List UInt8} {i j : Nat} {x y : DefD}
theorem RightK.name_one (h : RightK D) (hx : D.defs[i]? = some x) (hy : D.defs[j]? = some y) (e : x.name.toList = y.name.toList) : i = j := by
  have h1 := (h.d i x hx).2.2.2.2.1
  have h2 := (h.d j y hy).2.2.2.2.1
  rw [e, h2] at h1
  omega
theorem RightK.cls_one (h : RightK D) (hx : D.defs[i]? = some x) (hy : D.defs[j]? = some y) (e : x.cls = y.cls) : i = j := by
  have h1 := (h.d i x hx).2.2.2.2.2
  have h2 := (h.d j y hy).2.2.2.2.2
  rw [e, h2] at h1
  omega
theorem isOwn_iff : isOwn l x = true ↔ x.loc.toList = l ∧ x.name.toList = l := by unfold isOwn; simp
theorem isIs_iff : isIs l s x = true ↔ x.loc.toList = l ∧ x.name.toList = s := by unfold isIs; simp
/-- Who is found is for the element, and who is for it is found. -/
theorem RightK.find_iff (h : RightK D) (hx : D.defs[i]? = some x) : findZ2 D.defs l s = (i : Int) ↔ fits x l s = true := by
  rw [fits_iff]
  unfold findZ2
  constructor
  · intro e
    split at e
    · rename_i h0
      obtain ⟨k, y, h1, h2, h3⟩ := firstZ_ge h0
      rw [h1] at e
      obtain rfl : k = i := by omega
      rw [hx] at h2
      injection h2 with h2
      subst h2
      obtain ⟨h4, h5⟩ := isOwn_iff.1 h3
      exact ⟨h4, .inl h5⟩
    · obtain ⟨k, y, h1, h2, h3⟩ := firstZ_ge (p := isIs l s) (L := D.defs) (by rw [e]; omega)
      rw [h1] at e
      obtain rfl : k = i := by omega
      rw [hx] at h2
      injection h2 with h2
      subst h2
      obtain ⟨h4, h5⟩ := isIs_iff.1 h3
      exact ⟨h4, .inr h5⟩
  · rintro ⟨h1, h2⟩
    by_cases h3 : x.name.toList = l
    · have h4 : firstZ (isOwn l) D.defs = (i : Int) := firstZ_is hx (isOwn_iff.2 ⟨h1, h3⟩) fun j y hj hy => by
        cases hp : isOwn l y with
        | false => rfl
        | true =>
          have := h.name_one hy hx (by rw [(isOwn_iff.1 hp).2, h3])
          omega
      rw [h4, if_pos (by omega)]
    · have h2' : x.name.toList = s := h2.resolve_left h3
      have hk : knownL l = true := by
        have := (h.d i x hx).2.1
        rw [h1] at this
        exact this.resolve_left (fun e => h3 e.symm)
      have h4 : firstZ (isOwn l) D.defs = -1 := firstZ_no fun y hy => by
        cases hp : isOwn l y with
        | false => rfl
        | true =>
          obtain ⟨k, hk2⟩ := List.getElem?_of_mem hy
          have h5 := (h.d k y hk2).1
          rw [(isOwn_iff.1 hp).2] at h5
          rw [custom_known h5] at hk
          cases hk
      rw [h4, if_neg (by decide)]
      exact firstZ_is hx (isIs_iff.2 ⟨h1, h2'⟩) fun j y hj hy => by
        cases hp : isIs l s y with
        | false => rfl
        | true =>
          have := h.name_one hy hx (by rw [(isIs_iff.1 hp).2, h2'])
          omega
theorem find_lt (L : List DefD) (l s : List UInt8) : -1 ≤ findZ2 L l s ∧ findZ2 L l s < (L.length : Int) := by
  unfold findZ2
  split
  · exact firstZ_lt _ _
  · exact firstZ_lt _ _
theorem RightK.find_eq (h : RightK D) (hx : D.defs[i]? = some x) : (findZ2 D.defs l s == (i : Int)) = fits x l s := by
  cases hf : fits x l s with
  | true => rw [(h.find_iff hx).2 hf]; simp
  | false =>
    refine beq_eq_false_iff_ne.2 fun e => ?_
    rw [(h.find_iff hx).1 e] at hf
    cases hf
theorem RightK.find_self (h : RightK D) (hx : D.defs[i]? = some x) : findZ2 D.defs x.loc.toList x.name.toList = (i : Int) := (h.find_iff hx).2 (fits_iff.2 ⟨rfl, .inr rfl⟩)
/-- An element named as the definition is: it is found only if that is its Local, too. -/
theorem RightK.find_name (h : RightK D) (hx : D.defs[i]? = some x) : (findZ2 D.defs x.name.toList s == (i : Int)) = (x.loc.toList == x.name.toList) := by
  rw [h.find_eq hx]
  unfold fits
  simp
/-- Nobody is found just if nobody is for it. -/
theorem RightK.find_none (h : RightK D) : findZ2 D.defs l s = -1 ↔ ∀ x ∈ D.defs, fits x l s = false := by
  constructor
  · intro e x hx
    obtain ⟨k, hk⟩ := List.getElem?_of_mem hx
    cases hf : fits x l s with
    | false => rfl
    | true => rw [(h.find_iff hk).2 hf] at e; omega
  · intro hn
    have h1 := find_lt D.defs l s
    by_cases h0 : findZ2 D.defs l s = -1
    · exact h0
    · obtain ⟨k, hk⟩ : ∃ k : Nat, findZ2 D.defs l s = k := ⟨(findZ2 D.defs l s).toNat, by omega⟩
      have hl : k < D.defs.length := by omega
      have := (h.find_iff (List.getElem?_eq_getElem hl)).1 hk
      rw [hn _ (List.getElem_mem hl)] at this
      cases this
end
/-- Tickets rise. -/
theorem asc_iff : ∀ {M : List WaitD} {last : Int}, (∀ (k : Nat) x, M[k]? = some x → (match k with | 0 => last | k + 1 => lastT M (k + 1)) < x.ticket) ↔ (∀ x ∈ M, last < x.ticket) ∧ M.Pairwise (fun x y => x.ticket < y.ticket)
  | [], last => by simp
  | y :: r, last => by
    have ih := @asc_iff r y.ticket
    rw [List.pairwise_cons]
    constructor
    · intro h
      have h0 := h 0 y rfl
      obtain ⟨h1, h2⟩ := ih.1 (fun k x hx => by
        have := h (k + 1) x (by simpa using hx)
        cases k with
        | zero => simpa [lastT] using this
        | succ k => simpa [lastT] using this)
      refine ⟨fun x hx => ?_, h1, h2⟩
      rcases List.mem_cons.1 hx with rfl | hx
      · exact h0
      · have := h1 x hx
        simp at h0
        omega
    · rintro ⟨h0, h1, h2⟩ k x hx
      cases k with
      | zero => simp at hx; subst hx; exact h0 _ (by simp)
      | succ k =>
        have := ih.2 ⟨h1, h2⟩ k x (by simpa using hx)
        cases k with
        | zero => simpa [lastT] using this
        | succ k => simpa [lastT] using this
theorem asc_all {M : List WaitD} : (∀ (k : Nat) x, M[k]? = some x → lastT M k < x.ticket) ↔ (∀ x ∈ M, -1 < x.ticket) ∧ M.Pairwise (fun x y => x.ticket < y.ticket) := by
  rw [← asc_iff]
  constructor
  · intro h k x hx
    have := h k x hx
    cases k <;> exact this
  · intro h k x hx
    have := h k x hx
    cases k <;> exact this
theorem RightK.asc {D : DeskD} (h : RightK D) : (∀ x ∈ D.waits, -1 < x.ticket) ∧ D.waits.Pairwise (fun x y => x.ticket < y.ticket) := asc_all.1 fun k x hx => (h.t k x hx).2.2.1
theorem RightK.wait {D : DeskD} (h : RightK D) {x : WaitD} (hx : x ∈ D.waits) : customL x.name.toList = true ∧ namedZ D.defs x.name.toList = -1 ∧ -1 < x.ticket ∧ x.ticket < D.next := by
  obtain ⟨k, hk⟩ := List.getElem?_of_mem hx
  have h1 := h.t k x hk
  exact ⟨h1.1, h1.2.1, h.asc.1 x hx, h1.2.2.2⟩
theorem RightK.of {D : DeskD} (n0 : 0 ≤ D.next) (n1 : D.next ≤ 100000) (d : ∀ (k : Nat) (x : DefD), D.defs[k]? = some x → customL x.name.toList = true ∧ (x.loc.toList = x.name.toList ∨ knownL x.loc.toList = true) ∧ 0 ≤ x.cls ∧ x.cls ≤ 11 ∧ namedZ D.defs x.name.toList = (k : Int) ∧ classedZ D.defs x.cls = (k : Int)) (t : ∀ x ∈ D.waits, customL x.name.toList = true ∧ namedZ D.defs x.name.toList = -1 ∧ -1 < x.ticket ∧ x.ticket < D.next) (hp : D.waits.Pairwise (fun x y => x.ticket < y.ticket)) : RightK D :=
  ⟨n0, n1, d, fun k x hx => by
    have hm := List.mem_of_getElem? hx
    obtain ⟨h1, h2, _, h4⟩ := t x hm
    exact ⟨h1, h2, asc_all.2 ⟨fun y hy => (t y hy).2.2.1, hp⟩ k x hx, h4⟩⟩
/-- What may be defined, in parts. -/
structure MayOk (D : DeskD) (classes : Int) (s base : List UInt8) (c : Int) : Prop where
  r : RightK D
  c0 : 0 ≤ c
  c1 : c < classes
  c2 : c ≤ 11
  cus : customL s = true
  nm : namedZ D.defs s = -1
  cl : classedZ D.defs c = -1
  bs : base = [] ∨ knownL base = true
  idle : D.busy = false
theorem may_ok9 {D : DeskD} {classes : Int} {s base : List UInt8} {c : Int} : mayE D classes s base c = 0 ↔ MayOk D classes s base c := by
  unfold mayE
  have hn := (firstZ_lt (isName s) D.defs).1
  have hc := (firstZ_lt (isCls c) D.defs).1
  constructor
  · intro h
    split at h
    · omega
    rename_i h1
    split at h
    · omega
    rename_i h2
    split at h
    · omega
    rename_i h3
    split at h
    · omega
    rename_i h4
    split at h
    · omega
    rename_i h5
    refine ⟨rightK_iff.1 (by cases hr : rightK D with | true => rfl | false => exact absurd (.inl hr) h1), by omega, by omega, by omega, by cases hr : customL s with | true => rfl | false => exact absurd hr h2, ?_, ?_, ?_, by cases hr : D.busy with | false => rfl | true => exact absurd hr h5⟩
    · unfold namedZ at *; omega
    · unfold classedZ at *; omega
    · by_cases hb : base = []
      · exact .inl hb
      · refine .inr ?_
        cases hr : knownL base with
        | true => rfl
        | false => exact absurd ⟨hb, hr⟩ h4
  · rintro ⟨r, c0, c1, c2, cus, nm, cl, bs, idle⟩
    have hr := rightK_iff.2 r
    have g1 : ¬ (rightK D = false ∨ c < 0 ∨ classes ≤ c ∨ 11 < c) := by
      rw [hr]
      rintro (h | h | h | h)
      · cases h
      · omega
      · omega
      · omega
    have g2 : ¬ (base ≠ [] ∧ knownL base = false) := by
      rintro ⟨h1, h2⟩
      rcases bs with h | h
      · exact h1 h
      · rw [h] at h2; cases h2
    rw [if_neg g1, if_neg (by rw [cus]; decide), if_neg (by rw [nm, cl]; omega), if_neg g2, if_neg (by rw [idle]; decide)]
section
variable {D : DeskD} {classes : Int} {s base : ByteArray} {c : Int}
theorem newDef_loc : (newDef s base c).loc.toList = if base.toList = [] then s.toList else base.toList := by
  unfold newDef
  dsimp only
  split <;> rfl
theorem named_add {n : List UInt8} : namedZ (addK D s base c).defs n = if 0 ≤ namedZ D.defs n then namedZ D.defs n else if s.toList = n then (D.defs.length : Int) else -1 := by
  unfold namedZ addK
  dsimp only
  rw [firstZ_append]
  unfold isName newDef
  simp only [beq_iff_eq]
theorem classed_add {n : Int} : classedZ (addK D s base c).defs n = if 0 ≤ classedZ D.defs n then classedZ D.defs n else if c = n then (D.defs.length : Int) else -1 := by
  unfold classedZ addK
  dsimp only
  rw [firstZ_append]
  unfold isCls newDef
  simp only [beq_iff_eq]
theorem MayOk.right (h : MayOk D classes s.toList base.toList c) : RightK (addK D s base c) := by
  refine RightK.of h.r.n0 h.r.n1 (fun k x hx => ?_) (fun x hx => ?_) ?_
  · by_cases hk : k < D.defs.length
    · unfold addK at hx
      dsimp only at hx
      rw [List.getElem?_append_left hk] at hx
      obtain ⟨h1, h2, h3, h4, h5, h6⟩ := h.r.d k x hx
      refine ⟨h1, h2, h3, h4, ?_, ?_⟩
      · rw [named_add, h5, if_pos (by omega)]
      · rw [classed_add, h6, if_pos (by omega)]
    · have hl : k = D.defs.length := by
        obtain ⟨hl, _⟩ := List.getElem?_eq_some_iff.1 hx
        unfold addK at hl
        simp at hl
        omega
      subst hl
      have hx' : x = newDef s base c := by
        unfold addK at hx
        simp at hx
        exact hx.symm
      subst hx'
      refine ⟨h.cus, ?_, h.c0, h.c2, ?_, ?_⟩
      · rw [newDef_loc]
        show (if base.toList = [] then s.toList else base.toList) = s.toList ∨ _
        by_cases hb : base.toList = []
        · exact .inl (if_pos hb)
        · rw [if_neg hb]
          exact .inr (h.bs.resolve_left hb)
      · rw [named_add]
        show (if 0 ≤ namedZ D.defs s.toList then _ else if s.toList = s.toList then _ else _) = _
        rw [h.nm, if_neg (by decide), if_pos rfl]
      · rw [classed_add]
        show (if 0 ≤ classedZ D.defs c then _ else if c = c then _ else _) = _
        rw [h.cl, if_neg (by decide), if_pos rfl]
  · unfold addK restT at hx
    dsimp only at hx
    obtain ⟨h1, h2⟩ := List.mem_filter.1 hx
    obtain ⟨h3, h4, h5, h6⟩ := h.r.wait h1
    refine ⟨h3, ?_, h5, h6⟩
    rw [named_add, h4, if_neg (by decide), if_neg (by intro e; rw [e] at h2; simp at h2)]
  · exact h.r.asc.2.filter _
theorem MayOk.again (h : MayOk D classes s.toList base.toList c) : mayE (addK D s base c) classes s.toList base.toList c = 10 := by
  unfold mayE
  rw [if_neg (by
    rw [rightK_iff.2 h.right]
    have := h.c0; have := h.c1; have := h.c2
    rintro (h | h | h | h)
    · cases h
    · omega
    · omega
    · omega), if_neg (by rw [h.cus]; decide), if_pos (.inl (by rw [named_add, h.nm, if_neg (by decide), if_pos rfl]; omega))]
theorem MayOk.other (h : MayOk D classes s.toList base.toList c) {o b : List UInt8} (ho : customL o = true) : mayE (addK D s base c) classes o b c = 10 := by
  unfold mayE
  rw [if_neg (by
    rw [rightK_iff.2 h.right]
    have := h.c0; have := h.c1; have := h.c2
    rintro (h | h | h | h)
    · cases h
    · omega
    · omega
    · omega), if_neg (by rw [ho]; decide), if_pos (.inr (by rw [classed_add, h.cl, if_neg (by decide), if_pos rfl]; omega))]
theorem add_defs_at (k : Nat) : (addK D s base c).defs[k]? = if k < D.defs.length then D.defs[k]? else if k = D.defs.length then some (newDef s base c) else none := by
  unfold addK
  dsimp only
  by_cases h : k < D.defs.length
  · rw [if_pos h, List.getElem?_append_left h]
  · rw [if_neg h, List.getElem?_append_right (by omega)]
    by_cases h2 : k = D.defs.length
    · subst h2; simp
    · rw [if_neg h2]
      rw [List.getElem?_eq_none (by simp; omega)]
/-- Who is found behind a definition: it, for whom it is; else who was found. -/
theorem MayOk.find_fits (h : MayOk D classes s.toList base.toList c) {l i : List UInt8} (hf : fits (newDef s base c) l i = true) : findZ2 D.defs l i = -1 ∧ findZ2 (addK D s base c).defs l i = (D.defs.length : Int) := by
  have h1 := (h.right.find_iff (i := D.defs.length) (x := newDef s base c) (l := l) (s := i) (by rw [add_defs_at, if_neg (by omega), if_pos rfl])).2 hf
  refine ⟨h.r.find_none.2 fun x hx => ?_, h1⟩
  obtain ⟨k, hk⟩ := List.getElem?_of_mem hx
  obtain ⟨hl, _⟩ := List.getElem?_eq_some_iff.1 hk
  cases hf2 : fits x l i with
  | false => rfl
  | true =>
    have := (h.right.find_iff (i := k) (x := x) (l := l) (s := i) (by rw [add_defs_at, if_pos hl]; exact hk)).2 hf2
    omega
theorem MayOk.find_not (h : MayOk D classes s.toList base.toList c) {l i : List UInt8} (hf : fits (newDef s base c) l i = false) : findZ2 (addK D s base c).defs l i = findZ2 D.defs l i := by
  have h1 := find_lt D.defs l i
  by_cases h0 : findZ2 D.defs l i = -1
  · rw [h0, h.right.find_none]
    intro x hx
    rcases List.mem_append.1 hx with hx | hx
    · exact h.r.find_none.1 h0 x hx
    · rw [List.mem_singleton.1 hx, hf]
  · obtain ⟨k, hk⟩ : ∃ k : Nat, findZ2 D.defs l i = k := ⟨(findZ2 D.defs l i).toNat, by omega⟩
    have hl : k < D.defs.length := by omega
    have hg := List.getElem?_eq_getElem hl
    rw [hk]
    exact (h.right.find_iff (by rw [add_defs_at, if_pos hl]; exact hg)).2 ((h.r.find_iff hg).1 hk)
end
theorem told_rest (L : List WaitD) (s : List UInt8) : (toldZ L s).length + (restT L s).length = L.length := by
  unfold toldZ restT
  rw [List.length_map]
  induction L with
  | nil => rfl
  | cons x r ih =>
    rw [List.filter_cons, List.filter_cons]
    cases h : x.name.toList == s
    · simp only [Bool.not_false, if_true, Bool.false_eq_true, if_false, List.length_cons]; omega
    · simp only [Bool.not_true, if_true, Bool.false_eq_true, if_false, List.length_cons]; omega
/-- A ticket that waits for the name is told once. -/
theorem told_once {L : List WaitD} {s : List UInt8} {x : WaitD} (hp : L.Pairwise (fun x y => x.ticket < y.ticket)) (hx : x ∈ L) (hs : x.name.toList = s) : hasZ (toldZ L s) x.ticket = 1 := by
  unfold hasZ toldZ
  induction L with
  | nil => cases hx
  | cons y r ih =>
    rw [List.pairwise_cons] at hp
    rcases List.mem_cons.1 hx with rfl | hx
    · rw [List.filter_cons, if_pos (by simpa using hs), List.map_cons, List.countP_cons, if_pos (by simp)]
      have : (((r.filter fun x => x.name.toList == s).map (·.ticket)).countP fun z => z == x.ticket) = 0 := by
        rw [List.countP_eq_zero]
        intro z hz
        obtain ⟨y, hy, rfl⟩ := List.mem_map.1 hz
        have := hp.1 y (List.mem_filter.1 hy).1
        simp
        omega
      omega
    · have h1 := hp.1 x hx
      rw [List.filter_cons]
      split
      · rw [List.map_cons, List.countP_cons, if_neg (by simp; omega)]
        exact ih hp.2 hx
      · exact ih hp.2 hx
theorem filter_at {α : Type} {p : α → Bool} : ∀ {L : List α} {k : Nat} {x : α}, L[k]? = some x → p x = true → (L.filter p)[((L.take k).filter p).length]? = some x
  | y :: r, 0, x, h, hp => by
    simp at h; subst h
    rw [List.filter_cons, if_pos hp]
    rfl
  | y :: r, k + 1, x, h, hp => by
    have ih := filter_at (L := r) (k := k) (by simpa using h) hp
    rw [List.take_succ_cons, List.filter_cons, List.filter_cons]
    split
    · simpa using ih
    · exact ih
theorem filter_step9 {α : Type} {p : α → Bool} {L : List α} {k : Nat} {x : α} (h : L[k]? = some x) : ((L.take (k + 1)).filter p).length = ((L.take k).filter p).length + if p x then 1 else 0 := by
  obtain ⟨hl, hg⟩ := List.getElem?_eq_some_iff.1 h
  rw [List.take_succ_eq_append_getElem hl, List.filter_append, List.length_append, hg]
  cases hp : p x <;> simp [hp]
end Go.Proofs.Ytioeagadhnnajaa
/- Desks: two definitions in either order; what is waited for and defined, one behind the other. No program. -/
namespace Go.Proofs.Ytioeagadhnnajaa
open Go.RowKit
section
variable {D : DeskD} {s t base other : ByteArray} {a b : Int}
/-- What may be defined behind another definition is what might be ahead of it. -/
theorem MayOk.swap {classes : Int} (h : MayOk D classes s.toList base.toList a) (hs : s.toList ≠ t.toList) (ha : a ≠ b) : mayE (addK D s base a) classes t.toList other.toList b = mayE D classes t.toList other.toList b := by
  have h1 : rightK (addK D s base a) = rightK D := by rw [rightK_iff.2 h.right, rightK_iff.2 h.r]
  have h2 : (0 ≤ namedZ (addK D s base a).defs t.toList) = (0 ≤ namedZ D.defs t.toList) := by
    rw [named_add]
    split
    · rfl
    · rename_i h0
      exact propext ⟨fun h => by omega, fun h => absurd h h0⟩
  have h3 : (0 ≤ classedZ (addK D s base a).defs b) = (0 ≤ classedZ D.defs b) := by
    rw [classed_add]
    split
    · rfl
    · rename_i h0
      exact propext ⟨fun h => by omega, fun h => absurd h h0⟩
  unfold mayE
  simp only [h1, h2, h3]
  rw [h.idle]
  rfl
theorem addR_may {classes : Int} (h : MayOk D classes s.toList base.toList a) : addR9 D classes s base a = (addK D s base a, (D.defs.length : Int), toldZ D.waits s.toList, 0) := by
  unfold addR9
  rw [if_pos (may_ok9.2 h)]
theorem addR_not {classes : Int} (h : mayE D classes s.toList base.toList a ≠ 0) : addR9 D classes s base a = (D, -1, [], mayE D classes s.toList base.toList a) := by
  unfold addR9
  rw [if_neg h]
theorem addR_err {classes : Int} : (addR9 D classes s base a).2.2.2 = mayE D classes s.toList base.toList a := by
  unfold addR9
  split
  · rename_i h; rw [h]
  · rfl
/-- The errors of two definitions in either order. -/
theorem order_err (hs : s.toList ≠ t.toList) (ha : a ≠ b) : mayE (addR9 D 12 s base a).1 12 t.toList other.toList b = mayE D 12 t.toList other.toList b := by
  by_cases h : mayE D 12 s.toList base.toList a = 0
  · rw [addR_may (may_ok9.1 h)]
    exact (may_ok9.1 h).swap hs ha
  · rw [addR_not h]
theorem told_other {L : List WaitD} {s t : List UInt8} (h : s ≠ t) : toldZ (restT L t) s = toldZ L s := by
  unfold toldZ restT
  rw [List.filter_filter]
  congr 1
  refine List.filter_congr fun x _ => ?_
  by_cases hx : x.name.toList = s
  · have : (x.name.toList == t) = false := beq_eq_false_iff_ne.2 (fun e => h (by rw [← hx, e]))
    rw [this, beq_iff_eq.2 hx]
    rfl
  · rw [beq_eq_false_iff_ne.2 hx]
    rfl
theorem told_same {L : List WaitD} {s : List UInt8} : toldZ (restT L s) s = [] := by
  unfold toldZ restT
  rw [List.filter_filter]
  rw [List.map_eq_nil_iff, List.filter_eq_nil_iff]
  intro x _
  cases h : x.name.toList == s <;> simp
/-- Who is found is of the same definition. -/
theorem order_find {E F : DeskD} (hE : RightK E) (hF : RightK F) (hm : ∀ x, x ∈ E.defs ↔ x ∈ F.defs) (l i : List UInt8) : (findZ2 E.defs l i = -1 ∧ findZ2 F.defs l i = -1) ∨ ∃ (j k : Nat) (x : DefD), findZ2 E.defs l i = (j : Int) ∧ findZ2 F.defs l i = (k : Int) ∧ E.defs[j]? = some x ∧ F.defs[k]? = some x := by
  by_cases h0 : findZ2 E.defs l i = -1
  · refine .inl ⟨h0, hF.find_none.2 fun x hx => ?_⟩
    exact hE.find_none.1 h0 x ((hm x).2 hx)
  · have h1 := find_lt E.defs l i
    obtain ⟨j, hj⟩ : ∃ k : Nat, findZ2 E.defs l i = k := ⟨(findZ2 E.defs l i).toNat, by omega⟩
    have hl : j < E.defs.length := by omega
    have hg := List.getElem?_eq_getElem hl
    have hf := (hE.find_iff hg).1 hj
    obtain ⟨k, hk⟩ := List.getElem?_of_mem ((hm _).1 (List.mem_of_getElem? hg))
    exact .inr ⟨j, k, _, hj, (hF.find_iff hk).2 hf, hg, hk⟩
theorem order_mem (x : DefD) : x ∈ (addK (addK D s base a) t other b).defs ↔ x ∈ (addK (addK D t other b) s base a).defs := by
  unfold addK
  simp only [List.mem_append, List.mem_singleton]
  constructor
  · rintro ((h | h) | h)
    · exact .inl (.inl h)
    · exact .inr h
    · exact .inl (.inr h)
  · rintro ((h | h) | h)
    · exact .inl (.inl h)
    · exact .inr h
    · exact .inl (.inr h)
end
section
variable {D : DeskD} {s : ByteArray}
theorem await_ok {s : List UInt8} : awaitE D s = 0 ↔ RightK D ∧ customL s = true ∧ D.next < 100000 := by
  unfold awaitE
  constructor
  · intro h
    split at h
    · omega
    rename_i h1
    split at h
    · omega
    rename_i h2
    split at h
    · omega
    rename_i h3
    exact ⟨rightK_iff.1 (by cases hr : rightK D with | true => rfl | false => exact absurd hr h1), by cases hr : customL s with | true => rfl | false => exact absurd hr h2, by omega⟩
  · rintro ⟨h1, h2, h3⟩
    rw [if_neg (by rw [rightK_iff.2 h1]; decide), if_neg (by rw [h2]; decide), if_neg (by omega)]
theorem await_right (h : RightK D) (hc : customL s.toList = true) (hn : D.next < 100000) : RightK (awaitK D s) := by
  have h0 := h.n0
  refine RightK.of (D := awaitK D s) ?_ ?_ h.d (fun x hx => ?_) ?_
  · show 0 ≤ D.next + 1; omega
  · show D.next + 1 ≤ 100000; omega
  · show _ ∧ namedZ D.defs _ = -1 ∧ _ ∧ _ < D.next + 1
    unfold awaitK at hx
    dsimp only at hx
    split at hx
    · rename_i hm
      rcases List.mem_append.1 hx with hx | hx
      · obtain ⟨h3, h4, h5, h6⟩ := h.wait hx
        exact ⟨h3, h4, h5, by omega⟩
      · rw [List.mem_singleton.1 hx]
        have := (firstZ_lt (isName s.toList) D.defs).1
        refine ⟨hc, ?_, by dsimp only; omega, by dsimp only; omega⟩
        show firstZ (isName s.toList) D.defs = -1
        unfold namedZ at hm
        omega
    · obtain ⟨h3, h4, h5, h6⟩ := h.wait hx
      exact ⟨h3, h4, h5, by omega⟩
  · unfold awaitK
    dsimp only
    split
    · rw [List.pairwise_append]
      refine ⟨h.asc.2, List.pairwise_singleton _ _, fun x hx y hy => ?_⟩
      rw [List.mem_singleton.1 hy]
      exact (h.wait hx).2.2.2
    · exact h.asc.2
theorem told_await (n : List UInt8) : toldZ (awaitK D s).waits n = if namedZ D.defs s.toList < 0 ∧ s.toList = n then toldZ D.waits n ++ [D.next] else toldZ D.waits n := by
  unfold awaitK
  dsimp only
  by_cases h : namedZ D.defs s.toList < 0
  · rw [if_pos h]
    unfold toldZ
    rw [List.filter_append, List.map_append]
    by_cases hn : s.toList = n
    · rw [if_pos ⟨h, hn⟩]
      congr 1
      rw [List.filter_cons, if_pos (by simpa using hn)]
      rfl
    · rw [if_neg (fun e => hn e.2), List.filter_cons, if_neg (by simpa using hn)]
      simp
  · rw [if_neg h, if_neg (fun e => h e.1)]
end
/-- The names that are waited for and defined. -/
def nmK (k : Nat) : List UInt8 := [120, 45, 97 + UInt8.ofNat k]
theorem nmK_one {j k : Nat} (hj : j < 6) (hk : k < 6) (h : nmK j = nmK k) : j = k := by
  have : ∀ j : Fin 6, ∀ k : Fin 6, nmK j = nmK k → j = k := by decide
  have := this ⟨j, hj⟩ ⟨k, hk⟩ h
  exact congrArg Fin.val this
theorem nmK_custom {k : Nat} (hk : k < 6) : customL (nmK k) = true := by
  have : ∀ k : Fin 6, customL (nmK k) = true := by decide
  exact this ⟨k, hk⟩
/-- Where what is waited for and defined has come to. -/
structure Tells (D : DeskD) (W : Nat → List Int) (df us : Nat → Bool) : Prop where
  r : RightK D
  idle : D.busy = false
  want : ∀ k, k < 6 → W k = toldZ D.waits (nmK k)
  dfd : ∀ k, k < 6 → df k = decide (0 ≤ namedZ D.defs (nmK k))
  usd : ∀ c : Nat, c < 12 → us c = decide (0 ≤ classedZ D.defs (c : Int))
  all : ∀ x ∈ D.waits, ∃ k, k < 6 ∧ x.name.toList = nmK k
theorem Tells.start : Tells ⟨[], [], 0, false⟩ (fun _ => []) (fun _ => false) (fun _ => false) := by
  refine ⟨rightK_iff.1 (by decide), rfl, fun k _ => rfl, fun k _ => ?_, fun c _ => ?_, fun x hx => by cases hx⟩
  · exact (decide_eq_false (by show ¬ 0 ≤ firstZ _ []; unfold firstZ; simp)).symm
  · exact (decide_eq_false (by show ¬ 0 ≤ firstZ _ []; unfold firstZ; simp)).symm
section
variable {D : DeskD} {W : Nat → List Int} {df us : Nat → Bool} {k : Nat} {s : ByteArray}
theorem Tells.await (h : Tells D W df us) (hk : k < 6) (hs : s.toList = nmK k) (hn : D.next < 100000) : Tells (awaitK D s) (fun j => if j = k ∧ df k = false then W j ++ [D.next] else W j) df us := by
  have hd := h.dfd k hk
  refine ⟨await_right h.r (by rw [hs]; exact nmK_custom hk) hn, h.idle, fun j hj => ?_, h.dfd, h.usd, fun x hx => ?_⟩
  · rw [told_await, ← h.want j hj, hs]
    by_cases hjk : j = k
    · subst hjk
      cases hf : df j with
      | false =>
        rw [hf] at hd
        have hd2 := of_decide_eq_false hd.symm
        rw [if_pos ⟨rfl, rfl⟩, if_pos ⟨by omega, rfl⟩]
      | true =>
        rw [hf] at hd
        have hd2 := of_decide_eq_true hd.symm
        rw [if_neg (by rintro ⟨_, h⟩; cases h), if_neg (by rintro ⟨h, _⟩; omega)]
    · rw [if_neg (fun e => hjk e.1), if_neg (fun e => hjk (nmK_one hk hj e.2).symm)]
  · unfold awaitK at hx
    dsimp only at hx
    split at hx
    · rcases List.mem_append.1 hx with hx | hx
      · exact h.all x hx
      · rw [List.mem_singleton.1 hx]
        exact ⟨k, hk, hs⟩
    · exact h.all x hx
/-- What may be defined of them. -/
theorem Tells.may (h : Tells D W df us) {c : Nat} (hk : k < 6) (hs : s.toList = nmK k) (hc : c < 12) : mayE D 12 s.toList [] (c : Int) = if df k = true ∨ us c = true then 10 else 0 := by
  unfold mayE
  rw [if_neg (by
    rw [rightK_iff.2 h.r]
    rintro (h | h | h | h)
    · cases h
    · omega
    · omega
    · omega), if_neg (by rw [hs, nmK_custom hk]; decide)]
  have h1 : (0 ≤ namedZ D.defs s.toList) = (df k = true) := by rw [hs, h.dfd k hk, decide_eq_true_eq]
  have h2 : (0 ≤ classedZ D.defs (c : Int)) = (us c = true) := by rw [h.usd c hc, decide_eq_true_eq]
  simp only [h1, h2]
  split
  · rfl
  · rw [if_neg (by rintro ⟨h, _⟩; exact h rfl), if_neg (by rw [h.idle]; decide)]
theorem Tells.add (h : Tells D W df us) {c : Nat} (hk : k < 6) (hs : s.toList = nmK k) (hc : c < 12) (hd : df k = false) (hu : us c = false) {e : ByteArray} (he : e.toList = []) : Tells (addK D s e (c : Int)) (fun j => if j = k then [] else W j) (fun j => if j = k then true else df j) (fun j => if j = c then true else us j) := by
  have hm : MayOk D 12 s.toList e.toList (c : Int) := may_ok9.1 (by rw [he, h.may hk hs hc, if_neg (by rw [hd, hu]; decide)])
  refine ⟨hm.right, rfl, fun j hj => ?_, fun j hj => ?_, fun j hj => ?_, fun x hx => ?_⟩
  · show _ = toldZ (restT D.waits s.toList) (nmK j)
    by_cases hjk : j = k
    · subst hjk
      rw [if_pos rfl, hs, told_same]
    · rw [if_neg hjk, hs, told_other (fun e => hjk (nmK_one hj hk e)), h.want j hj]
  · rw [named_add]
    by_cases hjk : j = k
    · subst hjk
      rw [if_pos rfl]
      refine (decide_eq_true ?_).symm
      split
      · rename_i h0; exact h0
      · omega
    · rw [if_neg hjk, h.dfd j hj]
      by_cases h0 : 0 ≤ namedZ D.defs (nmK j)
      · rw [if_pos h0]
      · rw [if_neg h0, if_neg (fun e => hjk (nmK_one hj hk (by rw [← e, hs]))), decide_eq_false h0]
        rfl
  · rw [classed_add]
    by_cases hjk : j = c
    · subst hjk
      rw [if_pos rfl]
      refine (decide_eq_true ?_).symm
      split
      · rename_i h0; exact h0
      · omega
    · rw [if_neg hjk, h.usd j hj]
      by_cases h0 : 0 ≤ classedZ D.defs (j : Int)
      · rw [if_pos h0]
      · rw [if_neg h0, if_neg (by omega), decide_eq_false h0]
        rfl
  · exact h.all x (List.mem_filter.1 hx).1
/-- All that wait are waited for by a name. -/
theorem sum_told : ∀ {L : List WaitD}, (∀ x ∈ L, ∃ k, k < 6 ∧ x.name.toList = nmK k) → (toldZ L (nmK 0)).length + (toldZ L (nmK 1)).length + (toldZ L (nmK 2)).length + (toldZ L (nmK 3)).length + (toldZ L (nmK 4)).length + (toldZ L (nmK 5)).length = L.length
  | [], _ => rfl
  | x :: r, h => by
    have ih := sum_told (L := r) (fun y hy => h y (by simp [hy]))
    obtain ⟨k, hk, hx⟩ := h x (by simp)
    have e : ∀ j, (toldZ (x :: r) (nmK j)).length = (if nmK k = nmK j then 1 else 0) + (toldZ r (nmK j)).length := by
      intro j
      unfold toldZ
      rw [List.filter_cons, hx]
      by_cases hj : nmK k = nmK j
      · rw [if_pos hj, if_pos (by simpa using hj)]
        simp only [List.map_cons, List.length_cons]; omega
      · rw [if_neg hj, if_neg (by simpa using hj)]
        omega
    have one : ∀ k : Fin 6, (if nmK k = nmK 0 then 1 else 0) + (if nmK k = nmK 1 then 1 else 0) + (if nmK k = nmK 2 then 1 else 0) + (if nmK k = nmK 3 then 1 else 0) + (if nmK k = nmK 4 then 1 else 0) + (if nmK k = nmK 5 then 1 else 0) = 1 := by decide
    have := one ⟨k, hk⟩
    dsimp only at this
    rw [e 0, e 1, e 2, e 3, e 4, e 5, List.length_cons]
    omega
end
end Go.Proofs.Ytioeagadhnnajaa
