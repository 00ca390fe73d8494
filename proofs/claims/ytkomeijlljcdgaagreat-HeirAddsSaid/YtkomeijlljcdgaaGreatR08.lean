/- Texts joined in build order: DeskMath DeskMath2 Ref9Named RefOne. -/
import Derived.Test.YtkomeijlljcdgaaGreatR03
import Derived.Test.YtkomeijlljcdgaaGreatR04
import Derived.Test.YtkomeijlljcdgaaGreatChecked
import Derived.WalkLawsBesides
import Derived.WalkSmall
import Derived.Lib.Hide
import Derived.Deep.QuietTactic
import Derived.BigQuiet
import Derived.Test.YtkomeijlljcdgaaGreatR01
import Derived.Lib.IndexBytes
namespace Go.Proofs.YtkomeijlljcdgaaGreat
open Go.RowKit
theorem firstZ_append {α : Type} {p : α → Bool} {L : List α} {x : α} : firstZ p (L ++ [x]) = if 0 ≤ firstZ p L then firstZ p L else if p x = true then (L.length : Int) else -1 := by
  rcases firstZ_cases p L with ⟨h1, h2⟩ | ⟨k, y, h1, h2, h3, h4⟩
  · rw [h1, if_neg (by decide)]
    cases hp : p x with
    | false =>
      rw [if_neg (by decide)]
      refine firstZ_no fun y hy => ?_
      rcases List.mem_append.1 hy with h | h
      · exact h2 y h
      · rw [List.mem_singleton.1 h, hp]
    | true =>
      rw [if_pos rfl]
      refine firstZ_is (x := x) (by simp) hp fun j y hj hy => ?_
      rw [List.getElem?_append_left hj] at hy
      exact h2 y (List.mem_of_getElem? hy)
  · obtain ⟨hl, _⟩ := List.getElem?_eq_some_iff.1 h2
    rw [h1, if_pos (by omega)]
    refine firstZ_is (x := y) (by rw [List.getElem?_append_left hl]; exact h2) h3 fun j z hj hz => ?_
    rw [List.getElem?_append_left (by omega)] at hz
    exact h4 j z hj hz
def fits (x : DefD) (l s : List UInt8) : Bool := x.loc.toList == l && (x.name.toList == l || x.name.toList == s)
theorem fits_iff {x : DefD} {l s : List UInt8} : fits x l s = true ↔ x.loc.toList = l ∧ (x.name.toList = l ∨ x.name.toList = s) := by
  unfold fits; simp
section
variable {D : DeskD} {l s : List UInt8} {i j : Nat} {x y : DefD}
theorem RightK.name_one (h : RightK D) (hx : D.defs[i]? = some x) (hy : D.defs[j]? = some y) (e : x.name.toList = y.name.toList) : i = j := by
  have h1 := (h.d i x hx).2.2.2.2.1
  have h2 := (h.d j y hy).2.2.2.2.1
  rw [e, h2] at h1
  omega
theorem isOwn_iff : isOwn l x = true ↔ x.loc.toList = l ∧ x.name.toList = l := by unfold isOwn; simp
theorem isIs_iff : isIs l s x = true ↔ x.loc.toList = l ∧ x.name.toList = s := by unfold isIs; simp
theorem RightK.find_iff (h : RightK D) (hx : D.defs[i]? = some x) : findZ2 D.defs l s = (i : Int) ↔ fits x l s = true := by
  rw [fits_iff]
  unfold findZ2
  constructor
  · intro e
    split at e
    · rename_i h0
      obtain ⟨k, y, h1, h2, h3⟩ := firstZ_ge h0
      rw [h1] at e
      obtain rfl : k = i := by omega
      rw [hx] at h2
      injection h2 with h2
      subst h2
      obtain ⟨h4, h5⟩ := isOwn_iff.1 h3
      exact ⟨h4, .inl h5⟩
    · obtain ⟨k, y, h1, h2, h3⟩ := firstZ_ge (p := isIs l s) (L := D.defs) (by rw [e]; omega)
      rw [h1] at e
      obtain rfl : k = i := by omega
      rw [hx] at h2
      injection h2 with h2
      subst h2
      obtain ⟨h4, h5⟩ := isIs_iff.1 h3
      exact ⟨h4, .inr h5⟩
  · rintro ⟨h1, h2⟩
    by_cases h3 : x.name.toList = l
    · have h4 : firstZ (isOwn l) D.defs = (i : Int) := firstZ_is hx (isOwn_iff.2 ⟨h1, h3⟩) fun j y hj hy => by
        cases hp : isOwn l y with
        | false => rfl
        | true =>
          have := h.name_one hy hx (by rw [(isOwn_iff.1 hp).2, h3])
          omega
      rw [h4, if_pos (by omega)]
    · have h2' : x.name.toList = s := h2.resolve_left h3
      have hk : knownL l = true := by
        have := (h.d i x hx).2.1
        rw [h1] at this
        exact this.resolve_left (fun e => h3 e.symm)
      have h4 : firstZ (isOwn l) D.defs = -1 := firstZ_no fun y hy => by
        cases hp : isOwn l y with
        | false => rfl
        | true =>
          obtain ⟨k, hk2⟩ := List.getElem?_of_mem hy
          have h5 := (h.d k y hk2).1
          rw [(isOwn_iff.1 hp).2] at h5
          rw [custom_known h5] at hk
          cases hk
      rw [h4, if_neg (by decide)]
      exact firstZ_is hx (isIs_iff.2 ⟨h1, h2'⟩) fun j y hj hy => by
        cases hp : isIs l s y with
        | false => rfl
        | true =>
          have := h.name_one hy hx (by rw [(isIs_iff.1 hp).2, h2'])
          omega
theorem find_lt (L : List DefD) (l s : List UInt8) : -1 ≤ findZ2 L l s ∧ findZ2 L l s < (L.length : Int) := by
  unfold findZ2
  split
  · exact firstZ_lt _ _
  · exact firstZ_lt _ _
theorem RightK.find_eq (h : RightK D) (hx : D.defs[i]? = some x) : (findZ2 D.defs l s == (i : Int)) = fits x l s := by
  cases hf : fits x l s with
  | true => rw [(h.find_iff hx).2 hf]; simp
  | false =>
    refine beq_eq_false_iff_ne.2 fun e => ?_
    rw [(h.find_iff hx).1 e] at hf
    cases hf
theorem RightK.find_none (h : RightK D) : findZ2 D.defs l s = -1 ↔ ∀ x ∈ D.defs, fits x l s = false := by
  constructor
  · intro e x hx
    obtain ⟨k, hk⟩ := List.getElem?_of_mem hx
    cases hf : fits x l s with
    | false => rfl
    | true => rw [(h.find_iff hk).2 hf] at e; omega
  · intro hn
    have h1 := find_lt D.defs l s
    by_cases h0 : findZ2 D.defs l s = -1
    · exact h0
    · obtain ⟨k, hk⟩ : ∃ k : Nat, findZ2 D.defs l s = k := ⟨(findZ2 D.defs l s).toNat, by omega⟩
      have hl : k < D.defs.length := by omega
      have := (h.find_iff (List.getElem?_eq_getElem hl)).1 hk
      rw [hn _ (List.getElem_mem hl)] at this
      cases this
end
theorem asc_iff : ∀ {M : List WaitD} {last : Int}, (∀ (k : Nat) x, M[k]? = some x → (match k with | 0 => last | k + 1 => lastT M (k + 1)) < x.ticket) ↔ (∀ x ∈ M, last < x.ticket) ∧ M.Pairwise (fun x y => x.ticket < y.ticket)
  | [], last => by simp
  | y :: r, last => by
    have ih := @asc_iff r y.ticket
    rw [List.pairwise_cons]
    constructor
    · intro h
      have h0 := h 0 y rfl
      obtain ⟨h1, h2⟩ := ih.1 (fun k x hx => by
        have := h (k + 1) x (by simpa using hx)
        cases k with
        | zero => simpa [lastT] using this
        | succ k => simpa [lastT] using this)
      refine ⟨fun x hx => ?_, h1, h2⟩
      rcases List.mem_cons.1 hx with rfl | hx
      · exact h0
      · have := h1 x hx
        simp at h0
        omega
    · rintro ⟨h0, h1, h2⟩ k x hx
      cases k with
      | zero => simp at hx; subst hx; exact h0 _ (by simp)
      | succ k =>
        have := ih.2 ⟨h1, h2⟩ k x (by simpa using hx)
        cases k with
        | zero => simpa [lastT] using this
        | succ k => simpa [lastT] using this
theorem asc_all {M : List WaitD} : (∀ (k : Nat) x, M[k]? = some x → lastT M k < x.ticket) ↔ (∀ x ∈ M, -1 < x.ticket) ∧ M.Pairwise (fun x y => x.ticket < y.ticket) := by
  rw [← asc_iff]
  constructor
  · intro h k x hx
    have := h k x hx
    cases k <;> exact this
  · intro h k x hx
    have := h k x hx
    cases k <;> exact this
theorem RightK.asc {D : DeskD} (h : RightK D) : (∀ x ∈ D.waits, -1 < x.ticket) ∧ D.waits.Pairwise (fun x y => x.ticket < y.ticket) := asc_all.1 fun k x hx => (h.t k x hx).2.2.1
theorem RightK.wait {D : DeskD} (h : RightK D) {x : WaitD} (hx : x ∈ D.waits) : customL x.name.toList = true ∧ namedZ D.defs x.name.toList = -1 ∧ -1 < x.ticket ∧ x.ticket < D.next := by
  obtain ⟨k, hk⟩ := List.getElem?_of_mem hx
  have h1 := h.t k x hk
  exact ⟨h1.1, h1.2.1, h.asc.1 x hx, h1.2.2.2⟩
theorem RightK.of {D : DeskD} (n0 : 0 ≤ D.next) (n1 : D.next ≤ 100000) (d : ∀ (k : Nat) (x : DefD), D.defs[k]? = some x → customL x.name.toList = true ∧ (x.loc.toList = x.name.toList ∨ knownL x.loc.toList = true) ∧ 0 ≤ x.cls ∧ x.cls ≤ 11 ∧ namedZ D.defs x.name.toList = (k : Int) ∧ classedZ D.defs x.cls = (k : Int)) (t : ∀ x ∈ D.waits, customL x.name.toList = true ∧ namedZ D.defs x.name.toList = -1 ∧ -1 < x.ticket ∧ x.ticket < D.next) (hp : D.waits.Pairwise (fun x y => x.ticket < y.ticket)) : RightK D :=
  ⟨n0, n1, d, fun k x hx => by
    have hm := List.mem_of_getElem? hx
    obtain ⟨h1, h2, _, h4⟩ := t x hm
    exact ⟨h1, h2, asc_all.2 ⟨fun y hy => (t y hy).2.2.1, hp⟩ k x hx, h4⟩⟩
structure MayOk (D : DeskD) (classes : Int) (s base : List UInt8) (c : Int) : Prop where
  r : RightK D
  c0 : 0 ≤ c
  c1 : c < classes
  c2 : c ≤ 11
  cus : customL s = true
  nm : namedZ D.defs s = -1
  cl : classedZ D.defs c = -1
  bs : base = [] ∨ knownL base = true
  idle : D.busy = false
theorem may_ok9 {D : DeskD} {classes : Int} {s base : List UInt8} {c : Int} : mayE D classes s base c = 0 ↔ MayOk D classes s base c := by
  unfold mayE
  have hn := (firstZ_lt (isName s) D.defs).1
  have hc := (firstZ_lt (isCls c) D.defs).1
  constructor
  · intro h
    split at h
    · omega
    rename_i h1
    split at h
    · omega
    rename_i h2
    split at h
    · omega
    rename_i h3
    split at h
    · omega
    rename_i h4
    split at h
    · omega
    rename_i h5
    refine ⟨rightK_iff.1 (by cases hr : rightK D with | true => rfl | false => exact absurd (.inl hr) h1), by omega, by omega, by omega, by cases hr : customL s with | true => rfl | false => exact absurd hr h2, ?_, ?_, ?_, by cases hr : D.busy with | false => rfl | true => exact absurd hr h5⟩
    · unfold namedZ at *; omega
    · unfold classedZ at *; omega
    · by_cases hb : base = []
      · exact .inl hb
      · refine .inr ?_
        cases hr : knownL base with
        | true => rfl
        | false => exact absurd ⟨hb, hr⟩ h4
  · rintro ⟨r, c0, c1, c2, cus, nm, cl, bs, idle⟩
    have hr := rightK_iff.2 r
    have g1 : ¬ (rightK D = false ∨ c < 0 ∨ classes ≤ c ∨ 11 < c) := by
      rw [hr]
      rintro (h | h | h | h)
      · cases h
      · omega
      · omega
      · omega
    have g2 : ¬ (base ≠ [] ∧ knownL base = false) := by
      rintro ⟨h1, h2⟩
      rcases bs with h | h
      · exact h1 h
      · rw [h] at h2; cases h2
    rw [if_neg g1, if_neg (by rw [cus]; decide), if_neg (by rw [nm, cl]; omega), if_neg g2, if_neg (by rw [idle]; decide)]
section
variable {D : DeskD} {classes : Int} {s base : ByteArray} {c : Int}
theorem newDef_loc : (newDef s base c).loc.toList = if base.toList = [] then s.toList else base.toList := by
  unfold newDef
  dsimp only
  split <;> rfl
theorem named_add {n : List UInt8} : namedZ (addK D s base c).defs n = if 0 ≤ namedZ D.defs n then namedZ D.defs n else if s.toList = n then (D.defs.length : Int) else -1 := by
  unfold namedZ addK
  dsimp only
  rw [firstZ_append]
  unfold isName newDef
  simp only [beq_iff_eq]
theorem classed_add {n : Int} : classedZ (addK D s base c).defs n = if 0 ≤ classedZ D.defs n then classedZ D.defs n else if c = n then (D.defs.length : Int) else -1 := by
  unfold classedZ addK
  dsimp only
  rw [firstZ_append]
  unfold isCls newDef
  simp only [beq_iff_eq]
theorem MayOk.right (h : MayOk D classes s.toList base.toList c) : RightK (addK D s base c) := by
  refine RightK.of h.r.n0 h.r.n1 (fun k x hx => ?_) (fun x hx => ?_) ?_
  · by_cases hk : k < D.defs.length
    · unfold addK at hx
      dsimp only at hx
      rw [List.getElem?_append_left hk] at hx
      obtain ⟨h1, h2, h3, h4, h5, h6⟩ := h.r.d k x hx
      refine ⟨h1, h2, h3, h4, ?_, ?_⟩
      · rw [named_add, h5, if_pos (by omega)]
      · rw [classed_add, h6, if_pos (by omega)]
    · have hl : k = D.defs.length := by
        obtain ⟨hl, _⟩ := List.getElem?_eq_some_iff.1 hx
        unfold addK at hl
        simp at hl
        omega
      subst hl
      have hx' : x = newDef s base c := by
        unfold addK at hx
        simp at hx
        exact hx.symm
      subst hx'
      refine ⟨h.cus, ?_, h.c0, h.c2, ?_, ?_⟩
      · rw [newDef_loc]
        show (if base.toList = [] then s.toList else base.toList) = s.toList ∨ _
        by_cases hb : base.toList = []
        · exact .inl (if_pos hb)
        · rw [if_neg hb]
          exact .inr (h.bs.resolve_left hb)
      · rw [named_add]
        show (if 0 ≤ namedZ D.defs s.toList then _ else if s.toList = s.toList then _ else _) = _
        rw [h.nm, if_neg (by decide), if_pos rfl]
      · rw [classed_add]
        show (if 0 ≤ classedZ D.defs c then _ else if c = c then _ else _) = _
        rw [h.cl, if_neg (by decide), if_pos rfl]
  · unfold addK restT at hx
    dsimp only at hx
    obtain ⟨h1, h2⟩ := List.mem_filter.1 hx
    obtain ⟨h3, h4, h5, h6⟩ := h.r.wait h1
    refine ⟨h3, ?_, h5, h6⟩
    rw [named_add, h4, if_neg (by decide), if_neg (by intro e; rw [e] at h2; simp at h2)]
  · exact h.r.asc.2.filter _
theorem MayOk.other (h : MayOk D classes s.toList base.toList c) {o b : List UInt8} (ho : customL o = true) : mayE (addK D s base c) classes o b c = 10 := by
  unfold mayE
  rw [if_neg (by
    rw [rightK_iff.2 h.right]
    have := h.c0; have := h.c1; have := h.c2
    rintro (h | h | h | h)
    · cases h
    · omega
    · omega
    · omega), if_neg (by rw [ho]; decide), if_pos (.inr (by rw [classed_add, h.cl, if_neg (by decide), if_pos rfl]; omega))]
theorem add_defs_at (k : Nat) : (addK D s base c).defs[k]? = if k < D.defs.length then D.defs[k]? else if k = D.defs.length then some (newDef s base c) else none := by
  unfold addK
  dsimp only
  by_cases h : k < D.defs.length
  · rw [if_pos h, List.getElem?_append_left h]
  · rw [if_neg h, List.getElem?_append_right (by omega)]
    by_cases h2 : k = D.defs.length
    · subst h2; simp
    · rw [if_neg h2]
      rw [List.getElem?_eq_none (by simp; omega)]
theorem MayOk.find_fits (h : MayOk D classes s.toList base.toList c) {l i : List UInt8} (hf : fits (newDef s base c) l i = true) : findZ2 D.defs l i = -1 ∧ findZ2 (addK D s base c).defs l i = (D.defs.length : Int) := by
  have h1 := (h.right.find_iff (i := D.defs.length) (x := newDef s base c) (l := l) (s := i) (by rw [add_defs_at, if_neg (by omega), if_pos rfl])).2 hf
  refine ⟨h.r.find_none.2 fun x hx => ?_, h1⟩
  obtain ⟨k, hk⟩ := List.getElem?_of_mem hx
  obtain ⟨hl, _⟩ := List.getElem?_eq_some_iff.1 hk
  cases hf2 : fits x l i with
  | false => rfl
  | true =>
    have := (h.right.find_iff (i := k) (x := x) (l := l) (s := i) (by rw [add_defs_at, if_pos hl]; exact hk)).2 hf2
    omega
theorem MayOk.find_not (h : MayOk D classes s.toList base.toList c) {l i : List UInt8} (hf : fits (newDef s base c) l i = false) : findZ2 (addK D s base c).defs l i = findZ2 D.defs l i := by
  have h1 := find_lt D.defs l i
  by_cases h0 : findZ2 D.defs l i = -1
  · rw [h0, h.right.find_none]
    intro x hx
    rcases List.mem_append.1 hx with hx | hx
    · exact h.r.find_none.1 h0 x hx
    · rw [List.mem_singleton.1 hx, hf]
  · obtain ⟨k, hk⟩ : ∃ k : Nat, findZ2 D.defs l i = k := ⟨(findZ2 D.defs l i).toNat, by omega⟩
    have hl : k < D.defs.length := by omega
    have hg := List.getElem?_eq_getElem hl
    rw [hk]
    exact (h.right.find_iff (by rw [add_defs_at, if_pos hl]; exact hg)).2 ((h.r.find_iff hg).1 hk)
end
end Go.Proofs.YtkomeijlljcdgaaGreat
namespace Go.Proofs.YtkomeijlljcdgaaGreat
open Go.RowKit
section
variable {D : DeskD} {s t base other : ByteArray} {a b : Int}
theorem addR_may {classes : Int} (h : MayOk D classes s.toList base.toList a) : addR9 D classes s base a = (addK D s base a, (D.defs.length : Int), toldZ D.waits s.toList, 0) := by
  unfold addR9
  rw [if_pos (may_ok9.2 h)]
theorem addR_not {classes : Int} (h : mayE D classes s.toList base.toList a ≠ 0) : addR9 D classes s base a = (D, -1, [], mayE D classes s.toList base.toList a) := by
  unfold addR9
  rw [if_neg h]
theorem told_other {L : List WaitD} {s t : List UInt8} (h : s ≠ t) : toldZ (restT L t) s = toldZ L s := by
  unfold toldZ restT
  rw [List.filter_filter]
  congr 1
  refine List.filter_congr fun x _ => ?_
  by_cases hx : x.name.toList = s
  · have : (x.name.toList == t) = false := beq_eq_false_iff_ne.2 (fun e => h (by rw [← hx, e]))
    rw [this, beq_iff_eq.2 hx]
    rfl
  · rw [beq_eq_false_iff_ne.2 hx]
    rfl
theorem told_same {L : List WaitD} {s : List UInt8} : toldZ (restT L s) s = [] := by
  unfold toldZ restT
  rw [List.filter_filter]
  rw [List.map_eq_nil_iff, List.filter_eq_nil_iff]
  intro x _
  cases h : x.name.toList == s <;> simp
end
section
variable {D : DeskD} {s : ByteArray}
end
def nmK (k : Nat) : List UInt8 := [120, 45, 97 + UInt8.ofNat k]
theorem nmK_one {j k : Nat} (hj : j < 6) (hk : k < 6) (h : nmK j = nmK k) : j = k := by
  have : ∀ j : Fin 6, ∀ k : Fin 6, nmK j = nmK k → j = k := by decide
  have := this ⟨j, hj⟩ ⟨k, hk⟩ h
  exact congrArg Fin.val this
theorem nmK_custom {k : Nat} (hk : k < 6) : customL (nmK k) = true := by
  have : ∀ k : Fin 6, customL (nmK k) = true := by decide
  exact this ⟨k, hk⟩
structure Tells (D : DeskD) (W : Nat → List Int) (df us : Nat → Bool) : Prop where
  r : RightK D
  idle : D.busy = false
  want : ∀ k, k < 6 → W k = toldZ D.waits (nmK k)
  dfd : ∀ k, k < 6 → df k = decide (0 ≤ namedZ D.defs (nmK k))
  usd : ∀ c : Nat, c < 12 → us c = decide (0 ≤ classedZ D.defs (c : Int))
  all : ∀ x ∈ D.waits, ∃ k, k < 6 ∧ x.name.toList = nmK k
theorem Tells.start : Tells ⟨[], [], 0, false⟩ (fun _ => []) (fun _ => false) (fun _ => false) := by
  refine ⟨rightK_iff.1 (by decide), rfl, fun k _ => rfl, fun k _ => ?_, fun c _ => ?_, fun x hx => by cases hx⟩
  · exact (decide_eq_false (by show ¬ 0 ≤ firstZ _ []; unfold firstZ; simp)).symm
  · exact (decide_eq_false (by show ¬ 0 ≤ firstZ _ []; unfold firstZ; simp)).symm
section
variable {D : DeskD} {W : Nat → List Int} {df us : Nat → Bool} {k : Nat} {s : ByteArray}
theorem Tells.may (h : Tells D W df us) {c : Nat} (hk : k < 6) (hs : s.toList = nmK k) (hc : c < 12) : mayE D 12 s.toList [] (c : Int) = if df k = true ∨ us c = true then 10 else 0 := by
  unfold mayE
  rw [if_neg (by
    rw [rightK_iff.2 h.r]
    rintro (h | h | h | h)
    · cases h
    · omega
    · omega
    · omega), if_neg (by rw [hs, nmK_custom hk]; decide)]
  have h1 : (0 ≤ namedZ D.defs s.toList) = (df k = true) := by rw [hs, h.dfd k hk, decide_eq_true_eq]
  have h2 : (0 ≤ classedZ D.defs (c : Int)) = (us c = true) := by rw [h.usd c hc, decide_eq_true_eq]
  simp only [h1, h2]
  split
  · rfl
  · rw [if_neg (by rintro ⟨h, _⟩; exact h rfl), if_neg (by rw [h.idle]; decide)]
theorem Tells.add (h : Tells D W df us) {c : Nat} (hk : k < 6) (hs : s.toList = nmK k) (hc : c < 12) (hd : df k = false) (hu : us c = false) {e : ByteArray} (he : e.toList = []) : Tells (addK D s e (c : Int)) (fun j => if j = k then [] else W j) (fun j => if j = k then true else df j) (fun j => if j = c then true else us j) := by
  have hm : MayOk D 12 s.toList e.toList (c : Int) := may_ok9.1 (by rw [he, h.may hk hs hc, if_neg (by rw [hd, hu]; decide)])
  refine ⟨hm.right, rfl, fun j hj => ?_, fun j hj => ?_, fun j hj => ?_, fun x hx => ?_⟩
  · show _ = toldZ (restT D.waits s.toList) (nmK j)
    by_cases hjk : j = k
    · subst hjk
      rw [if_pos rfl, hs, told_same]
    · rw [if_neg hjk, hs, told_other (fun e => hjk (nmK_one hj hk e)), h.want j hj]
  · rw [named_add]
    by_cases hjk : j = k
    · subst hjk
      rw [if_pos rfl]
      refine (decide_eq_true ?_).symm
      split
      · rename_i h0; exact h0
      · omega
    · rw [if_neg hjk, h.dfd j hj]
      by_cases h0 : 0 ≤ namedZ D.defs (nmK j)
      · rw [if_pos h0]
      · rw [if_neg h0, if_neg (fun e => hjk (nmK_one hj hk (by rw [← e, hs]))), decide_eq_false h0]
        rfl
  · rw [classed_add]
    by_cases hjk : j = c
    · subst hjk
      rw [if_pos rfl]
      refine (decide_eq_true ?_).symm
      split
      · rename_i h0; exact h0
      · omega
    · rw [if_neg hjk, h.usd j hj]
      by_cases h0 : 0 ≤ classedZ D.defs (j : Int)
      · rw [if_pos h0]
      · rw [if_neg h0, if_neg (by omega), decide_eq_false h0]
        rfl
  · exact h.all x (List.mem_filter.1 hx).1
end
end Go.Proofs.YtkomeijlljcdgaaGreat
namespace Go.Proofs.YtkomeijlljcdgaaGreat
open Go.RowKit
abbrev deskB (da : Option Addr) (dl dc : Nat) (wa : Option Addr) (wl wc : Nat) (nx : Int) (bz : Bool) : Obj := .cells #[.slice da dl dc, .slice wa wl wc, .int .i64 nx, .bool bz] 28
theorem below_desk (w : World) (B : Obj) : Below w.heap.size w (w.alloc B) := (Below.refl _ _).alloc (Nat.le_refl _) B
set_option maxHeartbeats 4000000 in
set_option maxRecDepth 100000 in
theorem refnamed_any (da : Option Addr) (dl dc : Nat) (wa : Option Addr) (wl wc : Nat) (nx : Int) (bz : Bool) (L : List DefD) (s : ByteArray) (w : World) (h0 : DefRow w da dl dc L) :
    Calls Tryz.prog 35 #[deskV da dl dc wa wl wc nx bz, .string s] w fun e w' => e = .returned (.int .i64 (namedZ L s.toList)) ∧ Below w.heap.size w w' := by
  have hl := h0.len64
  have HLN := Lib.hid h0.hlen
  have h := h0.below (below_desk w (deskB da dl dc wa wl wc nx bz))
  clear h0
  go_enter Tryz.func35, Tryz.ntmps35
  go_wp2
  go_loop [5] (fun i => ∃ k : Nat, k ≤ dl ∧ i = .int .i64 k ∧ Hid (k ≤ firstN (isName s.toList) L)) (fun i => dl - (intOf i).toNat)
  case atStart => exact ⟨0, Nat.zero_le _, rfl, Lib.hid (Nat.zero_le _)⟩
  case round =>
    obtain ⟨k, hk, rfl, HA⟩ := hrel
    by_cases hlt : k < dl
    · obtain ⟨b, off, x, rfl, hb, hx, c0, -, -, -⟩ := h.get hlt
      have hb2 : b < w.heap.size + 1 := by simpa using hb
      have HX := Lib.hid hx
      clear hx
      obtain ⟨n, hn⟩ : ∃ n, x.name = n := ⟨_, rfl⟩
      rw [hn] at c0
      cases e1 : n.toList == s.toList with
      | true =>
        have HR : Hid (namedZ L s.toList = (k : Int)) := Lib.hid (firstZ_here HA.out HX.out (by unfold isName; rw [hn]; exact e1))
        go_wp2
        go_ret
        exact ⟨ret_int HR.out.symm, below_desk _ _⟩
      | false =>
        have HR : Hid (k + 1 ≤ firstN (isName s.toList) L) := Lib.hid (first_step HA.out HX.out (by unfold isName; rw [hn]; exact e1))
        go_wp2
        go_round
        case rel => exact ⟨k + 1, by omega, by go_num, HR⟩
        case measure => simp [intOf]; omega
    · have HR : Hid (namedZ L s.toList = -1) := Lib.hid (firstZ_none HA.out (by rw [HLN.out]; omega))
      go_wp2
      go_ret
      exact ⟨ret_int HR.out.symm, below_desk _ _⟩
set_option maxHeartbeats 4000000 in
set_option maxRecDepth 100000 in
theorem refclassed_any (da : Option Addr) (dl dc : Nat) (wa : Option Addr) (wl wc : Nat) (nx : Int) (bz : Bool) (L : List DefD) (c : Int) (w : World) (h0 : DefRow w da dl dc L) :
    Calls Tryz.prog 36 #[deskV da dl dc wa wl wc nx bz, .int .i64 c] w fun e w' => e = .returned (.int .i64 (classedZ L c)) ∧ Below w.heap.size w w' := by
  have hl := h0.len64
  have HLN := Lib.hid h0.hlen
  have h := h0.below (below_desk w (deskB da dl dc wa wl wc nx bz))
  clear h0
  go_enter Tryz.func36, Tryz.ntmps36
  go_wp2
  go_loop [5] (fun i => ∃ k : Nat, k ≤ dl ∧ i = .int .i64 k ∧ Hid (k ≤ firstN (isCls c) L)) (fun i => dl - (intOf i).toNat)
  case atStart => exact ⟨0, Nat.zero_le _, rfl, Lib.hid (Nat.zero_le _)⟩
  case round =>
    obtain ⟨k, hk, rfl, HA⟩ := hrel
    by_cases hlt : k < dl
    · obtain ⟨b, off, x, rfl, hb, hx, -, -, c2, -⟩ := h.get hlt
      have hb2 : b < w.heap.size + 1 := by simpa using hb
      have HX := Lib.hid hx
      clear hx
      obtain ⟨n, hn⟩ : ∃ n, x.cls = n := ⟨_, rfl⟩
      rw [hn] at c2
      cases e1 : n == c with
      | true =>
        have HR : Hid (classedZ L c = (k : Int)) := Lib.hid (firstZ_here HA.out HX.out (by unfold isCls; rw [hn]; exact e1))
        go_wp2
        go_ret
        exact ⟨ret_int HR.out.symm, below_desk _ _⟩
      | false =>
        have HR : Hid (k + 1 ≤ firstN (isCls c) L) := Lib.hid (first_step HA.out HX.out (by unfold isCls; rw [hn]; exact e1))
        go_wp2
        go_round
        case rel => exact ⟨k + 1, by omega, by go_num, HR⟩
        case measure => simp [intOf]; omega
    · have HR : Hid (classedZ L c = -1) := Lib.hid (firstZ_none HA.out (by rw [HLN.out]; omega))
      go_wp2
      go_ret
      exact ⟨ret_int HR.out.symm, below_desk _ _⟩
end Go.Proofs.YtkomeijlljcdgaaGreat
namespace Go.Proofs.YtkomeijlljcdgaaGreat
open Go.RowKit
def splitL : List UInt8 → List UInt8 → List (List UInt8)
  | cur, [] => [cur]
  | cur, c :: r => if c == 32 then cur :: splitL [] r else splitL (cur ++ [c]) r
def oneGo (s : List UInt8) : List UInt8 → List UInt8 → Bool
  | cur, [] => cur == s
  | cur, c :: r => if c == 32 then (cur == s) || oneGo s [] r else oneGo s (cur ++ [c]) r
def oneL (s v : List UInt8) : Bool := oneGo s [] v
theorem oneGo_split (s : List UInt8) : ∀ (v cur : List UInt8), oneGo s cur v = (splitL cur v).contains s
  | [], cur => by
    unfold oneGo splitL
    rw [BEq.comm (a := cur), List.contains_cons]
    simp only [List.contains_nil, Bool.or_false]
  | c :: r, cur => by
    unfold oneGo splitL
    by_cases h : (c == 32) = true
    · rw [if_pos h, if_pos h, List.contains_cons, oneGo_split s r []]
      rw [BEq.comm (a := cur)]
    · rw [if_neg h, if_neg h]
      exact oneGo_split s r _
theorem one_split (s v : List UInt8) : oneL s v = (splitL [] v).contains s := oneGo_split s v []
def OneAt (s v : List UInt8) (a i : Nat) : Prop := (a ≤ i ∧ i ≤ v.length ∧ oneGo s ((v.take i).drop a) (v.drop i) = oneL s v) ∨ (i = v.length + 1 ∧ oneL s v = false)
theorem OneAt.start (s v : List UInt8) : OneAt s v 0 0 := .inl ⟨Nat.le_refl _, Nat.zero_le _, by simp [oneL]⟩
theorem OneAt.hit {s v : List UInt8} {a i : Nat} (h : OneAt s v a i) (hi : i ≤ v.length) (hc : i = v.length ∨ v[i]? = some 32) (he : (v.take i).drop a = s) : oneL s v = true := by
  rcases h with ⟨h1, h2, h3⟩ | ⟨h1, _⟩
  · rw [← h3]
    rcases hc with hc | hc
    · have : v.drop i = [] := by rw [hc]; simp
      rw [this]
      unfold oneGo
      rw [he]; simp
    · obtain ⟨hl, hg⟩ := List.getElem?_eq_some_iff.1 hc
      rw [List.drop_eq_getElem_cons hl, hg]
      unfold oneGo
      rw [he]; simp
  · omega
theorem OneAt.last {s v : List UInt8} {a i : Nat} (h : OneAt s v a i) (hi : i = v.length) (he : ¬ (v.take i).drop a = s) (b : Nat) : OneAt s v b (i + 1) := by
  rcases h with ⟨h1, h2, h3⟩ | ⟨h1, _⟩
  · refine .inr ⟨by omega, ?_⟩
    rw [← h3]
    have : v.drop i = [] := by rw [hi]; simp
    rw [this]
    unfold oneGo
    simpa using he
  · omega
theorem OneAt.blank {s v : List UInt8} {a i : Nat} (h : OneAt s v a i) (hc : v[i]? = some 32) (he : ¬ (v.take i).drop a = s) : OneAt s v (i + 1) (i + 1) := by
  obtain ⟨hl, hg⟩ := List.getElem?_eq_some_iff.1 hc
  rcases h with ⟨h1, h2, h3⟩ | ⟨h1, _⟩
  · refine .inl ⟨Nat.le_refl _, by omega, ?_⟩
    rw [← h3, List.drop_eq_getElem_cons hl, hg]
    have : (v.take (i + 1)).drop (i + 1) = [] := by simp
    rw [this]
    conv => rhs; unfold oneGo
    simp [he]
  · omega
theorem OneAt.sign {s v : List UInt8} {a i : Nat} (h : OneAt s v a i) {c : UInt8} (hc : v[i]? = some c) (h32 : ¬ c = 32) : OneAt s v a (i + 1) := by
  obtain ⟨hl, hg⟩ := List.getElem?_eq_some_iff.1 hc
  rcases h with ⟨h1, h2, h3⟩ | ⟨h1, _⟩
  · refine .inl ⟨by omega, by omega, ?_⟩
    rw [← h3, List.drop_eq_getElem_cons hl, hg]
    have : (v.take (i + 1)).drop a = (v.take i).drop a ++ [c] := by
      rw [List.take_succ_eq_append_getElem hl, hg, List.drop_append_of_le_length (by rw [List.length_take]; omega)]
    rw [this]
    conv => rhs; unfold oneGo
    simp [h32]
  · omega
theorem OneAt.none {s v : List UInt8} {a i : Nat} (h : OneAt s v a i) (hi : ¬ i ≤ v.length) : oneL s v = false := by
  rcases h with ⟨h1, h2, h3⟩ | ⟨_, h⟩
  · omega
  · exact h
theorem OneAt.le {s v : List UInt8} {a i : Nat} (h : OneAt s v a i) (hi : i ≤ v.length) : a ≤ i := by
  rcases h with ⟨h1, _, _⟩ | ⟨h1, _⟩
  · exact h1
  · omega
theorem cut_list (v : ByteArray) (a i : Nat) : (v.extract a i).toList = (v.toList.take i).drop a := by
  rw [tl, tl, Lib.extract_data]
  first
    | rfl
    | (rw [List.take_drop]; congr 1; omega)
    | simp [List.drop_take]
set_option maxHeartbeats 4000000 in
set_option maxRecDepth 100000 in
theorem one_any (s v : ByteArray) (w : World) (hv : v.size ≤ 1000000) :
    Calls Tryz.prog 68 #[.string s, .string v] w fun e w' => e = .returned (.bool (oneL s.toList v.toList)) ∧ w = w' := by
  have HV := Lib.hid (tl_len v)
  go_enter Tryz.func68, Tryz.ntmps68
  go_wp2
  go_loop [5, 6] (fun a i => ∃ ka ki : Nat, a = .int .i64 ka ∧ i = .int .i64 ki ∧ Hid (OneAt s.toList v.toList ka ki) ∧ ki ≤ v.size + 1) (fun _ i => v.size + 1 - (intOf i).toNat)
  case atStart => exact ⟨0, 0, rfl, rfl, Lib.hid (OneAt.start _ _), by omega⟩
  case round =>
    obtain ⟨ka, ki, rfl, rfl, HA, hki⟩ := hrel
    by_cases hle : ki ≤ v.size
    · have hak : ka ≤ ki := HA.out.le (by rw [HV.out]; exact hle)
      have hcut := cut_list v ka ki
      by_cases hend : ki = v.size
      · have hend1 : ((ki : Int) == (v.size : Int)) = true := beq_iff_eq.2 (by omega)
        have HE := Lib.hid hend
        clear hend
        by_cases heq : (v.toList.take ki).drop ka = s.toList
        · have hb : ((v.toList.take ki).drop ka == s.toList) = true := beq_iff_eq.2 heq
          have HR := Lib.hid (HA.out.hit (by rw [HV.out]; exact hle) (.inl (by rw [HV.out]; exact HE.out)) heq)
          clear heq
          go_wp2
          go_ret
          exact ⟨ret_bool HR.out.symm, rfl⟩
        · have hb : ((v.toList.take ki).drop ka == s.toList) = false := beq_eq_false_iff_ne.2 heq
          have HR := Lib.hid (HA.out.last (by rw [HV.out]; exact HE.out) heq (ki + 1))
          clear heq
          go_wp2
          go_round
          case rel => exact ⟨ki + 1, ki + 1, by go_num, by go_num, HR, by omega⟩
          case measure => simp [intOf]; omega
      · have hlt : ki < v.size := by omega
        have hend1 : ((ki : Int) == (v.size : Int)) = false := beq_eq_false_iff_ne.2 (by omega)
        have hg := tl_get v ki hlt
        by_cases h32 : v[ki] = 32
        · have hc1 : ((v[ki].toNat : Int) == 32) = true := by rw [h32]; rfl
          rw [h32] at hg
          have HG := Lib.hid hg
          clear hg h32 hend
          by_cases heq : (v.toList.take ki).drop ka = s.toList
          · have hb : ((v.toList.take ki).drop ka == s.toList) = true := beq_iff_eq.2 heq
            have HR := Lib.hid (HA.out.hit (by rw [HV.out]; exact hle) (.inr HG.out) heq)
            clear heq
            go_wp2
            go_ret
            exact ⟨ret_bool HR.out.symm, rfl⟩
          · have hb : ((v.toList.take ki).drop ka == s.toList) = false := beq_eq_false_iff_ne.2 heq
            have HR := Lib.hid (HA.out.blank HG.out heq)
            clear heq
            go_wp2
            go_round
            case rel => exact ⟨ki + 1, ki + 1, by go_num, by go_num, HR, by omega⟩
            case measure => simp [intOf]; omega
        · have hc1 : ((v[ki].toNat : Int) == 32) = false := beq_eq_false_iff_ne.2 (fun e => h32 (by
            apply UInt8.toNat_inj.1
            have : (32 : UInt8).toNat = 32 := rfl
            omega))
          have HR := Lib.hid (HA.out.sign hg h32)
          clear hg h32 hend
          go_wp2
          go_round
          case rel => exact ⟨ka, ki + 1, by go_num, by go_num, HR, by omega⟩
          case measure => simp [intOf]; omega
    · have HR := Lib.hid (HA.out.none (by rw [HV.out]; exact hle))
      go_wp2
      go_ret
      exact ⟨ret_bool HR.out.symm, rfl⟩
end Go.Proofs.YtkomeijlljcdgaaGreat
