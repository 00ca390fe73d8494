/- Texts joined in build order: TreeMath TreeRoot NamePure NameFacts Text0 SRows AttrPure ForestRow ForestRefs AttrRightMath ForestMath ForestShort ForestFns AttrEq. -/
import Derived.WalkKit
import Derived.Lib.Bytealg
import Derived.Lib.Strings
import Derived.Lib.Hide
import Derived.Below
import Derived.WalkSmall
import Derived.Maps.AppendAt
import Derived.Laws.AppendOwnNone
import Derived.Deep.AppendLies
import Derived.WideShapes
import Derived.Laws.OwnMore
import Derived.Laws.Rows
import Derived.Test.YtbgcpgpkhfbijaaGreatDoorChecked
import Derived.WalkLawsBesides
import Derived.Deep.QuietTactic
import Derived.BigQuiet
/- Trees as parents and children: holding, tree order. Plain mathematics, no program. -/
namespace Go.Proofs.YtbgcpgpkhfbijaaGreatDoor
theorem flat_congr {α β : Type} {f g : α → List β} : ∀ {l : List α}, (∀ x ∈ l, f x = g x) → l.flatMap f = l.flatMap g
  | [], _ => rfl
  | x :: r, h => by
    rw [List.flatMap_cons, List.flatMap_cons, h x (by simp), flat_congr (fun y hy => h y (by simp [hy]))]
/-- Nodes 0 .. n-1, each with its parent, if any, and its children in order. -/
structure Tree (n : Nat) (par : Nat → Option Nat) (kids : Nat → List Nat) (rank : Nat → Nat) : Prop where
  kid_lt : ∀ i k, k ∈ kids i → k < n
  kid_par : ∀ i k, k ∈ kids i → par k = some i
  par_kid : ∀ i k, k < n → par k = some i → i < n ∧ k ∈ kids i
  nodup : ∀ i, (kids i).Nodup
  rank_up : ∀ i k, k < n → par k = some i → rank k = rank i + 1
  rank_le : ∀ i, i < n → rank i ≤ n + 1
section
variable {n : Nat} {par : Nat → Option Nat} {kids : Nat → List Nat} {rank : Nat → Nat}
/-- m steps up. -/
def upN (par : Nat → Option Nat) : Nat → Nat → Option Nat
  | 0, b => some b
  | m + 1, b => (par b).bind (upN par m)
/-- a is b, or the way up from b comes to a. -/
def holdsT (par : Nat → Option Nat) (a b : Nat) : Prop := ∃ m, upN par m b = some a
theorem holds_refl (a : Nat) : holdsT par a a := ⟨0, rfl⟩
theorem upN_add : ∀ (m k b c : Nat), upN par m b = some c → upN par (m + k) b = upN par k c
  | 0, k, b, c, h => by
    injection h with h
    subst h
    rw [Nat.zero_add]
  | m + 1, k, b, c, h => by
    rw [show m + 1 + k = (m + k) + 1 by omega]
    show (par b).bind (upN par (m + k)) = upN par k c
    unfold upN at h
    cases hp : par b with
    | none => rw [hp] at h; cases h
    | some p =>
      rw [hp] at h
      exact upN_add m k p c h
theorem holds_trans {a b c : Nat} (h1 : holdsT par a b) (h2 : holdsT par b c) : holdsT par a c := by
  obtain ⟨m1, h1⟩ := h1
  obtain ⟨m2, h2⟩ := h2
  exact ⟨m2 + m1, by rw [upN_add m2 m1 c b h2]; exact h1⟩
theorem holds_par {p b : Nat} (h : par b = some p) : holdsT par p b := ⟨1, by unfold upN; rw [h]; rfl⟩
/-- Of the holders of one node, one holds the other. -/
theorem holds_line {a b c : Nat} (h1 : holdsT par a c) (h2 : holdsT par b c) : holdsT par a b ∨ holdsT par b a := by
  obtain ⟨m1, h1⟩ := h1
  obtain ⟨m2, h2⟩ := h2
  rcases Nat.le_total m1 m2 with h | h
  · right
    refine ⟨m2 - m1, ?_⟩
    have := upN_add m1 (m2 - m1) c a h1
    rw [show m1 + (m2 - m1) = m2 by omega, h2] at this
    exact this.symm
  · left
    refine ⟨m1 - m2, ?_⟩
    have := upN_add m2 (m1 - m2) c b h2
    rw [show m2 + (m1 - m2) = m1 by omega, h1] at this
    exact this.symm
theorem holds_up {a b : Nat} (h : holdsT par a b) : a = b ∨ ∃ p, par b = some p ∧ holdsT par a p := by
  obtain ⟨m, h⟩ := h
  cases m with
  | zero => injection h with h; exact .inl h.symm
  | succ m =>
    unfold upN at h
    cases hp : par b with
    | none => rw [hp] at h; cases h
    | some p => rw [hp] at h; exact .inr ⟨p, rfl, m, h⟩
theorem Tree.up_lt (T : Tree n par kids rank) : ∀ (m b a : Nat), b < n → upN par m b = some a → a < n ∧ rank b = rank a + m
  | 0, b, a, hb, h => by
    injection h with h
    subst h
    exact ⟨hb, rfl⟩
  | m + 1, b, a, hb, h => by
    unfold upN at h
    cases hp : par b with
    | none => rw [hp] at h; cases h
    | some p =>
      rw [hp] at h
      obtain ⟨hpn, _⟩ := T.par_kid p b hb hp
      obtain ⟨h1, h2⟩ := T.up_lt m p a hpn h
      have := T.rank_up p b hb hp
      exact ⟨h1, by omega⟩
theorem Tree.holds_rank (T : Tree n par kids rank) {a b : Nat} (hb : b < n) (h : holdsT par a b) : a < n ∧ rank a ≤ rank b ∧ (rank a = rank b → a = b) := by
  obtain ⟨m, h⟩ := h
  obtain ⟨h1, h2⟩ := T.up_lt m b a hb h
  refine ⟨h1, by omega, fun e => ?_⟩
  have hm : m = 0 := by omega
  subst hm
  injection h with h
  exact h.symm
theorem Tree.holds_anti (T : Tree n par kids rank) {a b : Nat} (ha : a < n) (hb : b < n) (h1 : holdsT par a b) (h2 : holdsT par b a) : a = b := by
  have g1 := T.holds_rank hb h1
  have g2 := T.holds_rank ha h2
  exact g1.2.2 (by omega)
/-- Tree order, going down so often at most. -/
def ordN (kids : Nat → List Nat) : Nat → Nat → List Nat
  | 0, i => [i]
  | f + 1, i => i :: (kids i).flatMap (ordN kids f)
theorem ordN_head (f i : Nat) : ∃ r, ordN kids f i = i :: r := by
  cases f with
  | zero => exact ⟨_, rfl⟩
  | succ f => exact ⟨_, rfl⟩
theorem Tree.kid_rank (T : Tree n par kids rank) {i k : Nat} (hk : k ∈ kids i) : k < n ∧ rank k = rank i + 1 := ⟨T.kid_lt i k hk, T.rank_up i k (T.kid_lt i k hk) (T.kid_par i k hk)⟩
/-- Going down further finds nothing more. -/
theorem Tree.ord_more (T : Tree n par kids rank) : ∀ (f i : Nat), i < n → n + 1 ≤ rank i + f → ordN kids (f + 1) i = ordN kids f i
  | 0, i, hi, h => by
    have hk : kids i = [] := by
      cases hks : kids i with
      | nil => rfl
      | cons k r =>
        have hm : k ∈ kids i := by rw [hks]; simp
        obtain ⟨h1, h2⟩ := T.kid_rank hm
        have := T.rank_le k h1
        omega
    unfold ordN
    rw [hk]
    rfl
  | f + 1, i, hi, h => by
    rw [show ordN kids (f + 1 + 1) i = i :: (kids i).flatMap (ordN kids (f + 1)) from rfl, show ordN kids (f + 1) i = i :: (kids i).flatMap (ordN kids f) from rfl]
    congr 1
    refine flat_congr (fun k hk => ?_)
    obtain ⟨h1, h2⟩ := T.kid_rank hk
    exact T.ord_more f k h1 (by omega)
/-- Tree order has just what a node holds. -/
theorem Tree.mem_ord (T : Tree n par kids rank) : ∀ (f i : Nat), i < n → n + 1 ≤ rank i + f → ∀ b, b < n → (b ∈ ordN kids f i ↔ holdsT par i b)
  | 0, i, hi, h, b, hb => by
    unfold ordN
    rw [List.mem_singleton]
    constructor
    · rintro rfl
      exact holds_refl _
    · intro hh
      have g := T.holds_rank hb hh
      have := T.rank_le b hb
      exact (g.2.2 (by omega)).symm
  | f + 1, i, hi, h, b, hb => by
    unfold ordN
    rw [List.mem_cons, List.mem_flatMap]
    constructor
    · rintro (rfl | ⟨k, hk, hm⟩)
      · exact holds_refl _
      · obtain ⟨h1, h2⟩ := T.kid_rank hk
        exact holds_trans (holds_par (T.kid_par i k hk)) ((T.mem_ord f k h1 (by omega) b hb).1 hm)
    · rintro ⟨m, hm⟩
      cases m with
      | zero => injection hm with hm; exact .inl hm
      | succ m =>
        right
        -- the last step's child
        have key : ∀ (m b : Nat), b < n → upN par (m + 1) b = some i → ∃ k, k ∈ kids i ∧ holdsT par k b := by
          intro m
          induction m with
          | zero =>
            intro b hb hm
            unfold upN at hm
            cases hp : par b with
            | none => rw [hp] at hm; cases hm
            | some p =>
              rw [hp] at hm
              injection hm with hm
              subst hm
              exact ⟨b, (T.par_kid _ b hb hp).2, holds_refl _⟩
          | succ m ih =>
            intro b hb hm
            unfold upN at hm
            cases hp : par b with
            | none => rw [hp] at hm; cases hm
            | some p =>
              rw [hp] at hm
              obtain ⟨k, hk, hh⟩ := ih p (T.par_kid _ b hb hp).1 hm
              exact ⟨k, hk, holds_trans hh (holds_par hp)⟩
        obtain ⟨k, hk, hh⟩ := key m b hb hm
        obtain ⟨h1, h2⟩ := T.kid_rank hk
        exact ⟨k, hk, (T.mem_ord f k h1 (by omega) b hb).2 hh⟩
theorem Tree.ord_lt (T : Tree n par kids rank) : ∀ (f i : Nat), i < n → ∀ b ∈ ordN kids f i, b < n
  | 0, i, hi, b, hb => by
    unfold ordN at hb
    rw [List.mem_singleton] at hb
    omega
  | f + 1, i, hi, b, hb => by
    unfold ordN at hb
    rw [List.mem_cons, List.mem_flatMap] at hb
    rcases hb with rfl | ⟨k, hk, hm⟩
    · exact hi
    · exact T.ord_lt f k (T.kid_rank hk).1 b hm
/-- Two children of one node hold nobody both. -/
theorem Tree.kids_apart (T : Tree n par kids rank) {i k1 k2 b : Nat} (hk1 : k1 ∈ kids i) (hk2 : k2 ∈ kids i) (h1 : holdsT par k1 b) (h2 : holdsT par k2 b) : k1 = k2 := by
  obtain ⟨l1, r1⟩ := T.kid_rank hk1
  obtain ⟨l2, r2⟩ := T.kid_rank hk2
  rcases holds_line h1 h2 with h | h
  · exact (T.holds_rank l2 h).2.2 (by omega)
  · exact ((T.holds_rank l1 h).2.2 (by omega)).symm
theorem Tree.ord_nodup (T : Tree n par kids rank) : ∀ (f i : Nat), i < n → n + 1 ≤ rank i + f → (ordN kids f i).Nodup
  | 0, i, _, _ => by unfold ordN; simp
  | f + 1, i, hi, h => by
    unfold ordN
    rw [List.nodup_cons]
    refine ⟨fun hm => ?_, ?_⟩
    · obtain ⟨k, hk, hm⟩ := List.mem_flatMap.1 hm
      obtain ⟨h1, h2⟩ := T.kid_rank hk
      have := T.holds_rank hi ((T.mem_ord f k h1 (by omega) i hi).1 hm)
      omega
    · have key : ∀ (l : List Nat), l.Nodup → (∀ k ∈ l, k ∈ kids i) → (l.flatMap (ordN kids f)).Nodup := by
        intro l
        induction l with
        | nil => intro _ _; simp
        | cons k r ih =>
          intro hn hl
          rw [List.nodup_cons] at hn
          rw [List.flatMap_cons, List.nodup_append]
          obtain ⟨h1, h2⟩ := T.kid_rank (hl k (by simp))
          refine ⟨T.ord_nodup f k h1 (by omega), ih hn.2 (fun j hj => hl j (by simp [hj])), fun a ha b hbm e => ?_⟩
          subst e
          obtain ⟨k2, hk2, hm2⟩ := List.mem_flatMap.1 hbm
          obtain ⟨g1, g2⟩ := T.kid_rank (hl k2 (by simp [hk2]))
          have hbn := T.ord_lt f k h1 a ha
          have := T.kids_apart (hl k (by simp)) (hl k2 (by simp [hk2])) ((T.mem_ord f k h1 (by omega) a hbn).1 ha) ((T.mem_ord f k2 g1 (by omega) a hbn).1 hm2)
          subst this
          exact hn.1 hk2
      exact key (kids i) (T.nodup i) (fun k hk => hk)
/-- Each but the first has its parent ahead, and between them stands only what the parent holds, and not it itself. -/
def BetweenFrom (par : Nat → Option Nat) (s : Nat) (l : List Nat) : Prop :=
  ∀ i c, s ≤ i → l[i]? = some c → ∃ j p, j < i ∧ par c = some p ∧ l[j]? = some p ∧ ∀ k x, j < k → k < i → l[k]? = some x → holdsT par p x ∧ ¬ holdsT par c x
theorem Tree.between_kids (T : Tree n par kids rank) {f i : Nat} (hf : n + 1 ≤ rank i + (f + 1)) (ih : ∀ k ∈ kids i, BetweenFrom par 1 (ordN kids f k)) :
    ∀ (ks pre : List Nat), ks.Nodup → (∀ k ∈ ks, k ∈ kids i) → (∀ x ∈ pre, holdsT par i x ∧ ∀ k ∈ ks, ¬ holdsT par k x) → BetweenFrom par (1 + pre.length) ((i :: pre) ++ ks.flatMap (ordN kids f))
  | [], pre, _, _, _ => by
    intro t c ht hc
    have := (List.getElem?_eq_some_iff.1 hc).1
    simp at this
    omega
  | k :: r, pre, hn, hk, hpre => by
    intro t c ht hc
    rw [List.nodup_cons] at hn
    rw [List.flatMap_cons] at hc ⊢
    have hkk := hk k (by simp)
    obtain ⟨hkn, hkr⟩ := T.kid_rank hkk
    by_cases hin : t < 1 + pre.length + (ordN kids f k).length
    · -- in k's own block
      have hc2 : (ordN kids f k)[t - (1 + pre.length)]? = some c := by
        rw [List.getElem?_append_right (by simp; omega), List.getElem?_append_left (by simp; omega)] at hc
        rw [← hc]
        congr 1
        simp
        omega
      have shift : ∀ u, u < (ordN kids f k).length → ((i :: pre) ++ (ordN kids f k ++ r.flatMap (ordN kids f)))[1 + pre.length + u]? = (ordN kids f k)[u]? := fun u hu => by
        rw [List.getElem?_append_right (by simp; omega), List.getElem?_append_left (by simp; omega)]
        congr 1
        simp
        omega
      by_cases hu : t = 1 + pre.length
      · obtain ⟨rr, hr⟩ := ordN_head (kids := kids) f k
        have hck : c = k := by
          rw [hu, Nat.sub_self, hr] at hc2
          simpa using hc2.symm
        subst hck
        refine ⟨0, i, by omega, T.kid_par i c hkk, rfl, fun q x hq1 hq2 hx => ?_⟩
        have hxp : pre[q - 1]? = some x := by
          rw [List.getElem?_append_left (by simp; omega)] at hx
          obtain ⟨q', rfl⟩ : ∃ q', q = q' + 1 := ⟨q - 1, by omega⟩
          simpa using hx
        have := hpre x (List.mem_of_getElem? hxp)
        exact ⟨this.1, this.2 c (by simp)⟩
      · obtain ⟨j, p, hj, hp, hjp, hb⟩ := ih k hkk (t - (1 + pre.length)) c (by omega) hc2
        refine ⟨1 + pre.length + j, p, by omega, hp, by rw [shift j (by omega)]; exact hjp, fun q x hq1 hq2 hx => ?_⟩
        have hx2 : (ordN kids f k)[q - (1 + pre.length)]? = some x := by
          rw [← shift (q - (1 + pre.length)) (by omega), ← hx]
          congr 1
          omega
        exact hb (q - (1 + pre.length)) x (by omega) (by omega) hx2
    · -- behind it
      have e : (i :: pre) ++ (ordN kids f k ++ r.flatMap (ordN kids f)) = (i :: (pre ++ ordN kids f k)) ++ r.flatMap (ordN kids f) := by simp
      rw [e] at hc ⊢
      refine T.between_kids hf ih r (pre ++ ordN kids f k) hn.2 (fun j hj => hk j (by simp [hj])) (fun x hx => ?_) t c (by rw [List.length_append]; omega) hc
      rcases List.mem_append.1 hx with hx | hx
      · exact ⟨(hpre x hx).1, fun j hj => (hpre x hx).2 j (by simp [hj])⟩
      · have hxn := T.ord_lt f k hkn x hx
        have hh := (T.mem_ord f k hkn (by omega) x hxn).1 hx
        refine ⟨holds_trans (holds_par (T.kid_par i k hkk)) hh, fun j hj hjx => ?_⟩
        have := T.kids_apart (hk j (by simp [hj])) hkk hjx hh
        subst this
        exact hn.1 hj
theorem Tree.ord_between (T : Tree n par kids rank) : ∀ (f i : Nat), i < n → n + 1 ≤ rank i + f → BetweenFrom par 1 (ordN kids f i)
  | 0, i, _, _ => by
    intro t c ht hc
    have := (List.getElem?_eq_some_iff.1 hc).1
    unfold ordN at this
    simp at this
    omega
  | f + 1, i, hi, h => by
    have := T.between_kids (f := f) (i := i) (by omega) (fun k hk => T.ord_between f k (T.kid_rank hk).1 (by have := (T.kid_rank hk).2; omega)) (kids i) [] (T.nodup i) (fun k hk => hk) (by simp)
    exact this
/-- Where a node stands in a list. -/
def posN (l : List Nat) (x : Nat) : Nat := l.findIdx (fun y => y == x)
theorem posN_mem {l : List Nat} {x : Nat} (h : x ∈ l) : posN l x < l.length := List.findIdx_lt_length_of_exists ⟨x, h, by simp⟩
theorem posN_get {l : List Nat} {x : Nat} (h : x ∈ l) : l[posN l x]? = some x := by
  have h1 := posN_mem h
  have h2 : ((l[posN l x]'h1) == x) = true := List.findIdx_getElem (w := h1)
  rw [List.getElem?_eq_getElem h1, beq_iff_eq.1 h2]
theorem posN_at {l : List Nat} {x k : Nat} (hn : l.Nodup) (h : l[k]? = some x) : posN l x = k := by
  have h1 := posN_get (List.mem_of_getElem? h)
  have h2 := posN_mem (List.mem_of_getElem? h)
  obtain ⟨hk, hx⟩ := List.getElem?_eq_some_iff.1 h
  obtain ⟨hk2, hx2⟩ := List.getElem?_eq_some_iff.1 h1
  exact (List.getElem_inj hn).1 (hx2.trans hx.symm)
/-- Who is held stands behind who holds it. -/
theorem Tree.ord_ahead (T : Tree n par kids rank) {f r : Nat} (hr : r < n) (hf : n + 1 ≤ rank r + f) : ∀ (m a b : Nat), b ∈ ordN kids f r → upN par (m + 1) b = some a → a ∈ ordN kids f r → posN (ordN kids f r) a < posN (ordN kids f r) b
  | m, a, b, hb, hm, ha => by
    have hnd := T.ord_nodup f r hr hf
    unfold upN at hm
    cases hp : par b with
    | none => rw [hp] at hm; cases hm
    | some p =>
      rw [hp] at hm
      have hbp : posN (ordN kids f r) b ≠ 0 := by
        intro h0
        have h1 := posN_get hb
        obtain ⟨rr, hrr⟩ := ordN_head (kids := kids) f r
        rw [h0, hrr] at h1
        have e : r = b := by simpa using h1
        subst e
        -- r has a parent that is in its own order
        have hbn := T.ord_lt f r hr r hb
        have han := T.ord_lt f r hr a ha
        have g := T.holds_rank han ((T.mem_ord f r hr hf a han).1 ha)
        have g2 := T.up_lt (m + 1) r a hbn (by unfold upN; rw [hp]; exact hm)
        omega
      obtain ⟨j, p', hj, hp', hjp, _⟩ := T.ord_between f r hr hf (posN (ordN kids f r) b) b (by omega) (posN_get hb)
      rw [hp] at hp'
      injection hp' with hp'
      subst hp'
      have hpos := posN_at hnd hjp
      cases m with
      | zero =>
        injection hm with hm
        subst hm
        omega
      | succ m =>
        have := T.ord_ahead hr hf m a p (List.mem_of_getElem? hjp) hm ha
        omega
end
end Go.Proofs.YtbgcpgpkhfbijaaGreatDoor
/- Roots, and who is ahead of whom. Plain mathematics, no program. -/
namespace Go.Proofs.YtbgcpgpkhfbijaaGreatDoor
section
variable {n : Nat} {par : Nat → Option Nat} {kids : Nat → List Nat} {rank : Nat → Nat}
/-- Up as long as there is a parent, so often at most. -/
def rootN (par : Nat → Option Nat) : Nat → Nat → Nat
  | 0, i => i
  | f + 1, i => match par i with
    | none => i
    | some p => rootN par f p
theorem rootN_none {f i : Nat} (h : par i = none) : rootN par f i = i := by
  cases f with
  | zero => rfl
  | succ f => unfold rootN; rw [h]
theorem rootN_some {f i p : Nat} (h : par i = some p) : rootN par (f + 1) i = rootN par f p := by
  show (match par i with | none => i | some p => rootN par f p) = _
  rw [h]
theorem rootN_holds : ∀ (f i : Nat), holdsT par (rootN par f i) i
  | 0, i => holds_refl i
  | f + 1, i => by
    cases h : par i with
    | none => rw [rootN_none h]; exact holds_refl i
    | some p => rw [rootN_some h]; exact holds_trans (rootN_holds f p) (holds_par h)
theorem Tree.root_top (T : Tree n par kids rank) : ∀ (f i : Nat), i < n → rank i ≤ f → par (rootN par f i) = none
  | 0, i, hi, h => by
    cases hp : par i with
    | none => exact hp
    | some p => have := T.rank_up p i hi hp; omega
  | f + 1, i, hi, h => by
    cases hp : par i with
    | none => rw [rootN_none hp]; exact hp
    | some p =>
      rw [rootN_some hp]
      have := T.rank_up p i hi hp
      exact T.root_top f p (T.par_kid p i hi hp).1 (by omega)
/-- Whoever holds a node and has no parent is its root. -/
theorem Tree.root_of (T : Tree n par kids rank) {f a b : Nat} (hb : b < n) (hf : rank b ≤ f) (h : holdsT par a b) (hp : par a = none) : rootN par f b = a := by
  have h2 := T.root_top f b hb hf
  have h3 := rootN_holds (par := par) f b
  rcases holds_line h h3 with h4 | h4
  · rcases holds_up h4 with e | ⟨p, hp2, _⟩
    · exact e.symm
    · rw [h2] at hp2; cases hp2
  · rcases holds_up h4 with e | ⟨p, hp2, _⟩
    · exact e
    · rw [hp] at hp2; cases hp2
theorem Tree.root_held (T : Tree n par kids rank) {f a b : Nat} (hb : b < n) (hf : n + 1 ≤ f) (h : holdsT par a b) : rootN par f a = rootN par f b := by
  have ha := (T.holds_rank hb h).1
  have r1 := T.rank_le a ha
  have r2 := T.rank_le b hb
  exact (T.root_of hb (by omega) (holds_trans (rootN_holds f a) h) (T.root_top f a ha (by omega))).symm
theorem Tree.root_root (T : Tree n par kids rank) {f a : Nat} (ha : a < n) (hf : n + 1 ≤ f) : rootN par f (rootN par f a) = rootN par f a :=
  T.root_held ha hf (rootN_holds f a)
theorem Tree.root_lt (T : Tree n par kids rank) {f a : Nat} (ha : a < n) : rootN par f a < n := (T.holds_rank ha (rootN_holds f a)).1
/-- Each node stands in its root's order. -/
theorem Tree.in_root (T : Tree n par kids rank) {f g a : Nat} (ha : a < n) (hg : n + 1 ≤ g) : a ∈ ordN kids g (rootN par f a) :=
  (T.mem_ord g _ (T.root_lt ha) (by omega) a ha).2 (rootN_holds f a)
/-- Of two unlike nodes of one tree just one is ahead. -/
theorem Tree.ahead_one (T : Tree n par kids rank) {f g a b : Nat} (ha : a < n) (hb : b < n) (hg : n + 1 ≤ g) (h : rootN par f a = rootN par f b) (hne : a ≠ b) : posN (ordN kids g (rootN par f a)) a ≠ posN (ordN kids g (rootN par f a)) b := by
  intro e
  have h1 := posN_get (T.in_root (f := f) ha hg)
  have h2 := posN_get (T.in_root (f := f) hb hg)
  rw [← h, ← e, h1] at h2
  exact hne (Option.some.inj h2)
/-- Who holds another one is ahead of it. -/
theorem Tree.held_ahead (T : Tree n par kids rank) {f g a b : Nat} (hb : b < n) (hf : n + 1 ≤ f) (hg : n + 1 ≤ g) (h : holdsT par a b) (hne : a ≠ b) : posN (ordN kids g (rootN par f a)) a < posN (ordN kids g (rootN par f a)) b := by
  have ha := (T.holds_rank hb h).1
  obtain ⟨m, hm⟩ := h
  cases m with
  | zero => injection hm with hm; exact absurd hm.symm hne
  | succ m =>
    have hr := T.root_held hb hf ⟨m + 1, hm⟩
    have h1 := T.in_root (f := f) ha hg
    have h2 := T.in_root (f := f) hb hg
    rw [← hr] at h2
    exact T.ord_ahead (T.root_lt ha) (by omega) m a b h2 hm h1
end
/-! ### ways up that end -/
def endsZ (nxt : Int → Int) : Nat → Int → Bool
  | 0, i => i == -1
  | s + 1, i => i == -1 || endsZ nxt s (nxt i)
theorem endsZ_step {nxt : Int → Int} {s : Nat} {i : Int} (h : i ≠ -1) : endsZ nxt (s + 1) i = endsZ nxt s (nxt i) := by
  show (i == -1 || endsZ nxt s (nxt i)) = _
  rw [beq_eq_false_iff_ne.2 h, Bool.false_or]
/-- After how many steps a way up has ended. -/
def rankZ (nxt : Int → Int) (n : Nat) (i : Int) : Nat := (List.range (n + 2)).findIdx (fun s => endsZ nxt s i)
theorem rankZ_le {nxt : Int → Int} {n : Nat} {i : Int} {s : Nat} (h : endsZ nxt s i = true) : rankZ nxt n i ≤ s := by
  unfold rankZ
  rcases Nat.lt_or_ge s ((List.range (n + 2)).findIdx (fun s => endsZ nxt s i)) with h1 | h1
  · have := List.not_of_lt_findIdx h1
    rw [List.getElem_range] at this
    rw [h] at this
    cases this
  · exact h1
theorem rankZ_ends {nxt : Int → Int} {n : Nat} {i : Int} (h : endsZ nxt (n + 1) i = true) : endsZ nxt (rankZ nxt n i) i = true := by
  have hlt : rankZ nxt n i < (List.range (n + 2)).length := by
    have := rankZ_le (n := n) h
    rw [List.length_range]
    omega
  have := List.findIdx_getElem (xs := List.range (n + 2)) (p := fun s => endsZ nxt s i) (w := hlt)
  have h3 : (List.range (n + 2))[rankZ nxt n i]'hlt = rankZ nxt n i := by simp
  have h4 : endsZ nxt ((List.range (n + 2))[rankZ nxt n i]'hlt) i = true := this
  rwa [h3] at h4
theorem rankZ_up {nxt : Int → Int} {n : Nat} {i : Int} (hi : i ≠ -1) (h : endsZ nxt (n + 1) i = true) (hp : endsZ nxt (n + 1) (nxt i) = true) : rankZ nxt n i = rankZ nxt n (nxt i) + 1 := by
  have h1 := rankZ_ends h
  have h2 := rankZ_ends hp
  have h3 := rankZ_le (n := n) h
  cases hr : rankZ nxt n i with
  | zero =>
    rw [hr] at h1
    exact absurd (beq_iff_eq.1 h1) hi
  | succ s =>
    rw [hr, endsZ_step hi] at h1
    rw [hr] at h3
    have h4 := rankZ_le (n := n) h1
    have h5 : endsZ nxt (rankZ nxt n (nxt i) + 1) i = true := by rw [endsZ_step hi]; exact h2
    have h6 := rankZ_le (n := n) h5
    omega
end Go.Proofs.YtbgcpgpkhfbijaaGreatDoor
/- What package name's functions compute, said over lists of bytes: plain mathematics, no program. -/
namespace Go.Proofs.YtbgcpgpkhfbijaaGreatDoor
def lowI (n : Int) : Bool := decide (97 ≤ n ∧ n ≤ 122)
def capI (n : Int) : Bool := decide (65 ≤ n ∧ n ≤ 90)
def alphI (n : Int) : Bool := lowI n || capI n
def digI (n : Int) : Bool := decide (48 ≤ n ∧ n ≤ 57)
def signI (n : Int) : Bool := alphI n || digI n || decide (n = 45 ∨ n = 95 ∨ n = 46)
def headI (n : Int) : Bool := alphI n || decide (n = 95)
def signB (c : UInt8) : Bool := signI (c.toNat : Int)
def headB (c : UInt8) : Bool := headI (c.toNat : Int)
def smallB (c : UInt8) : UInt8 := if capI (c.toNat : Int) then c + 32 else c
def rightL (l : List UInt8) : Bool := decide (1 ≤ l.length ∧ l.length ≤ 40) && headB (l.headD 0) && l.all signB
def smallL (l : List UInt8) : List UInt8 := l.map smallB
def dashL (l : List UInt8) : Bool := l.contains 45
def reservedL (l : List UInt8) : Bool := ([[97, 110, 110, 111, 116, 97, 116, 105, 111, 110, 45, 120, 109, 108], [99, 111, 108, 111, 114, 45, 112, 114, 111, 102, 105, 108, 101], [102, 111, 110, 116, 45, 102, 97, 99, 101], [102, 111, 110, 116, 45, 102, 97, 99, 101, 45, 115, 114, 99], [102, 111, 110, 116, 45, 102, 97, 99, 101, 45, 117, 114, 105], [102, 111, 110, 116, 45, 102, 97, 99, 101, 45, 102, 111, 114, 109, 97, 116], [102, 111, 110, 116, 45, 102, 97, 99, 101, 45, 110, 97, 109, 101], [109, 105, 115, 115, 105, 110, 103, 45, 103, 108, 121, 112, 104]] : List (List UInt8)).contains l
def knownL (l : List UInt8) : Bool := ([[97], [98], [98, 117, 116, 116, 111, 110], [100, 105, 118], [102, 105, 101, 108, 100, 115, 101, 116], [102, 111, 114, 109], [105], [105, 110, 112, 117, 116], [108, 97, 98, 101, 108], [108, 101, 103, 101, 110, 100], [108, 105], [111, 112, 116, 105, 111, 110], [111, 117, 116, 112, 117, 116], [112], [115, 101, 108, 101, 99, 116], [115, 112, 97, 110], [116, 101, 109, 112, 108, 97, 116, 101], [116, 101, 120, 116, 97, 114, 101, 97], [117, 108]] : List (List UInt8)).contains l
def customL (l : List UInt8) : Bool := rightL l && (smallL l == l) && lowI ((l.headD 0).toNat : Int) && dashL l && !reservedL l
def kindL (l : List UInt8) : Int := if rightL l then (if customL l then 1 else if knownL l then 2 else 3) else 0
def ofL (l : List UInt8) : ByteArray := ⟨l.toArray⟩
end Go.Proofs.YtbgcpgpkhfbijaaGreatDoor
/- Plain facts on the lists of NamePure: small forms, known and custom names, kinds. -/
namespace Go.Proofs.YtbgcpgpkhfbijaaGreatDoor
theorem smallB_nat (c : UInt8) : ((smallB c).toNat : Int) = if capI (c.toNat : Int) then (c.toNat : Int) + 32 else (c.toNat : Int) := by
  unfold smallB
  by_cases h : capI (c.toNat : Int) = true
  · have hb := of_decide_eq_true h
    rw [if_pos h, if_pos h, UInt8.toNat_add]
    have : (32 : UInt8).toNat = 32 := rfl
    rw [this]
    omega
  · rw [if_neg h, if_neg h]
theorem sign_small (c : UInt8) : signB (smallB c) = signB c := by
  unfold signB
  rw [smallB_nat, Bool.eq_iff_iff]
  by_cases h : capI (c.toNat : Int) = true
  · rw [if_pos h]
    have hb := of_decide_eq_true h
    unfold signI alphI lowI capI digI; simp; omega
  · rw [if_neg h]
theorem head_small (c : UInt8) : headB (smallB c) = headB c := by
  unfold headB
  rw [smallB_nat, Bool.eq_iff_iff]
  by_cases h : capI (c.toNat : Int) = true
  · rw [if_pos h]
    have hb := of_decide_eq_true h
    unfold headI alphI lowI capI; simp; omega
  · rw [if_neg h]
theorem cap_small (c : UInt8) : capI ((smallB c).toNat : Int) = false := by
  rw [smallB_nat]
  by_cases h : capI (c.toNat : Int) = true
  · rw [if_pos h]
    have hb := of_decide_eq_true h
    unfold capI; simp; omega
  · rw [if_neg h]; simpa using h
theorem smallB_twice (c : UInt8) : smallB (smallB c) = smallB c := by
  have := cap_small c
  unfold smallB at *
  rw [if_neg (by rw [this]; decide)]
theorem smallL_twice (l : List UInt8) : smallL (smallL l) = smallL l := by
  unfold smallL
  rw [List.map_map]
  exact List.map_congr_left fun c _ => smallB_twice c
theorem smallL_length (l : List UInt8) : (smallL l).length = l.length := by simp [smallL]
theorem smallL_append (l m : List UInt8) : smallL (l ++ m) = smallL l ++ smallL m := by simp [smallL]
theorem all_small : ∀ l : List UInt8, (smallL l).all signB = l.all signB
  | [] => rfl
  | c :: l => by
    show (signB (smallB c) && (smallL l).all signB) = (signB c && l.all signB)
    rw [sign_small, all_small l]
theorem headD_small (l : List UInt8) : headB ((smallL l).headD 0) = headB (l.headD 0) := by
  cases l with
  | nil => rfl
  | cons c l => exact head_small c
theorem right_small (l : List UInt8) : rightL (smallL l) = rightL l := by
  unfold rightL
  rw [all_small, headD_small, smallL_length]
theorem of_known {l : List UInt8} {p : List UInt8 → Bool} (h : knownL l = true) (hp : ([[97], [98], [98, 117, 116, 116, 111, 110], [100, 105, 118], [102, 105, 101, 108, 100, 115, 101, 116], [102, 111, 114, 109], [105], [105, 110, 112, 117, 116], [108, 97, 98, 101, 108], [108, 101, 103, 101, 110, 100], [108, 105], [111, 112, 116, 105, 111, 110], [111, 117, 116, 112, 117, 116], [112], [115, 101, 108, 101, 99, 116], [115, 112, 97, 110], [116, 101, 109, 112, 108, 97, 116, 101], [116, 101, 120, 116, 97, 114, 101, 97], [117, 108]] : List (List UInt8)).all p = true) : p l = true :=
  List.all_eq_true.1 hp l (List.contains_iff_mem.1 h)
theorem of_reserved {l : List UInt8} {p : List UInt8 → Bool} (h : reservedL l = true) (hp : ([[97, 110, 110, 111, 116, 97, 116, 105, 111, 110, 45, 120, 109, 108], [99, 111, 108, 111, 114, 45, 112, 114, 111, 102, 105, 108, 101], [102, 111, 110, 116, 45, 102, 97, 99, 101], [102, 111, 110, 116, 45, 102, 97, 99, 101, 45, 115, 114, 99], [102, 111, 110, 116, 45, 102, 97, 99, 101, 45, 117, 114, 105], [102, 111, 110, 116, 45, 102, 97, 99, 101, 45, 102, 111, 114, 109, 97, 116], [102, 111, 110, 116, 45, 102, 97, 99, 101, 45, 110, 97, 109, 101], [109, 105, 115, 115, 105, 110, 103, 45, 103, 108, 121, 112, 104]] : List (List UInt8)).all p = true) : p l = true :=
  List.all_eq_true.1 hp l (List.contains_iff_mem.1 h)
theorem known_dash {l : List UInt8} (h : knownL l = true) : dashL l = false := by
  have := of_known (p := fun l => !dashL l) h (by decide)
  simpa using this
theorem known_small {l : List UInt8} (h : knownL l = true) : smallL l = l := by
  have := of_known (p := fun l => smallL l == l) h (by decide)
  simpa using this
theorem known_right {l : List UInt8} (h : knownL l = true) : rightL l = true := of_known (p := rightL) h (by decide)
theorem reserved_long {l : List UInt8} (h : reservedL l = true) : 9 ≤ l.length := by
  have := of_reserved (p := fun l => decide (9 ≤ l.length)) h (by decide)
  simpa using this
theorem custom_parts {l : List UInt8} (h : customL l = true) : rightL l = true ∧ smallL l = l ∧ lowI ((l.headD 0).toNat : Int) = true ∧ dashL l = true ∧ reservedL l = false := by
  unfold customL at h
  simpa [and_assoc] using h
theorem custom_known {l : List UInt8} (h : customL l = true) : knownL l = false := by
  by_cases hk : knownL l = true
  · have h1 := known_dash hk
    rw [(custom_parts h).2.2.2.1] at h1
    cases h1
  · simpa using hk
theorem kind_none {l : List UInt8} (h : rightL l = false) : kindL l = 0 := by unfold kindL; rw [if_neg (by rw [h]; decide)]
theorem kind_custom {l : List UInt8} (h : customL l = true) : kindL l = 1 := by unfold kindL; rw [if_pos (custom_parts h).1, if_pos h]
theorem kind_known {l : List UInt8} (h : knownL l = true) : kindL l = 2 := by
  have hc : customL l = false := by
    by_cases hc : customL l = true
    · rw [custom_known hc] at h; cases h
    · simpa using hc
  unfold kindL
  rw [if_pos (known_right h), if_neg (by rw [hc]; decide), if_pos h]
theorem kind_other {l : List UInt8} (h : rightL l = true) (hc : customL l = false) (hk : knownL l = false) : kindL l = 3 := by
  unfold kindL
  rw [if_pos h, if_neg (by rw [hc]; decide), if_neg (by rw [hk]; decide)]
end Go.Proofs.YtbgcpgpkhfbijaaGreatDoor
/- Texts as lists of bytes: plain facts, no program. -/
namespace Go.Proofs.YtbgcpgpkhfbijaaGreatDoor
open Go.RowKit
theorem ret_bool {a b : Bool} (h : a = b) : Ending.returned (.bool a) = .returned (.bool b) := by rw [h]
theorem ret_int {k : IntKind} {a b : Int} (h : a = b) : Ending.returned (.int k a) = .returned (.int k b) := by rw [h]
theorem ret_str {a b : ByteArray} (h : a = b) : Ending.returned (.string a) = .returned (.string b) := by rw [h]

theorem tl (s : ByteArray) : s.toList = s.data.toList := Lib.toList_data s
theorem tl_len (s : ByteArray) : s.toList.length = s.size := by rw [tl]; simp
theorem tl_get (s : ByteArray) (k : Nat) (h : k < s.size) : s.toList[k]? = some s[k] := by
  rw [tl, Array.getElem?_toList]
  exact Array.getElem?_eq_getElem h

theorem rightL_ends (l : List UInt8) (h : l.length < 1 ∨ 40 < l.length) : rightL l = false := by
  unfold rightL
  have : decide (1 ≤ l.length ∧ l.length ≤ 40) = false := by simp; omega
  rw [this]; rfl
theorem all_take_succ (l : List UInt8) (k : Nat) (c : UInt8) (hk : l[k]? = some c) (h : (l.take k).all signB = true) : (l.take (k + 1)).all signB = signB c := by
  obtain ⟨hl, he⟩ := List.getElem?_eq_some_iff.1 hk
  rw [List.take_succ_eq_append_getElem hl, List.all_append, h, he]
  simp
theorem rightL_stop (l : List UInt8) (k : Nat) (c : UInt8) (hk : l[k]? = some c) (h : signB c = false) : rightL l = false := by
  have : l.all signB = false := by
    rw [List.all_eq_false]
    exact ⟨c, List.mem_of_getElem? hk, by simp [h]⟩
  unfold rightL
  rw [this, Bool.and_false]
theorem rightL_head (l : List UInt8) (c : UInt8) (hk : l[0]? = some c) (h : headB c = false) : rightL l = false := by
  cases l with
  | nil => simp at hk
  | cons b r =>
    simp at hk; subst hk
    unfold rightL
    simp [h]
theorem rightL_full (l : List UInt8) (c : UInt8) (h1 : 1 ≤ l.length) (h2 : l.length ≤ 40) (hk : l[0]? = some c) (hh : headB c = true) (h : (l.take l.length).all signB = true) : rightL l = true := by
  cases l with
  | nil => simp at hk
  | cons b r =>
    simp at hk; subst hk
    rw [List.take_length] at h
    have h3 : decide (1 ≤ (b :: r).length ∧ (b :: r).length ≤ 40) = true := by simp at *; omega
    unfold rightL
    rw [h3, h]
    simp [hh]
theorem sign_of_head (c : UInt8) (h : headB c = true) : signB c = true := by
  unfold headB headI at h
  unfold signB signI
  rcases Bool.or_eq_true _ _ ▸ h with h | h
  · rw [h]; rfl
  · have h := of_decide_eq_true h
    have : decide ((c.toNat : Int) = 45 ∨ (c.toNat : Int) = 95 ∨ (c.toNat : Int) = 46) = true := by simp; omega
    rw [this]; simp

@[simp, go_sem] theorem toList_ofL (l : List UInt8) : (ofL l).toList = l := by unfold ofL; simp
@[simp, go_sem] theorem size_ofL (l : List UInt8) : (ofL l).size = l.length := by
  show l.toArray.size = _; simp
theorem add_ofL (s : ByteArray) (m : List UInt8) : s ++ ofL m = ofL (s.toList ++ m) := by
  obtain ⟨⟨l⟩⟩ := s
  unfold ofL
  rw [ByteArray.mk_append_mk, ByteArray.toList_mk]
theorem ofL_self (s : ByteArray) : ofL s.toList = s := by
  obtain ⟨⟨l⟩⟩ := s
  unfold ofL
  rw [ByteArray.toList_mk]
theorem add_any (s t : ByteArray) : s ++ t = ofL (s.toList ++ t.toList) := by
  rw [← add_ofL, ofL_self]
theorem get_ofL (l : List UInt8) (k : Nat) (c : UInt8) (h : l[k]? = some c) (hk : k < (ofL l).size) : (ofL l)[k]'hk = c := by
  have := tl_get (ofL l) k hk
  rw [toList_ofL, h] at this
  exact (Option.some.inj this).symm
theorem toList_inj {s t : ByteArray} (h : s.toList = t.toList) : s = t := by rw [← ofL_self s, ← ofL_self t, h]
end Go.Proofs.YtbgcpgpkhfbijaaGreatDoor
/- A slice in memory that reads as a list of data, each element a fixed number of cells: what it says, how it is kept, and append onto a slice of the call's own. No program. -/
namespace Go.Proofs.YtbgcpgpkhfbijaaGreatDoor
open Go.RowKit
/-- The slice value '.slice a len cap' reads in w as the list L, each element x as the cells 'enc x'. -/
structure SRow {α : Type} (enc : α → List Value) (size : Nat) (w : World) (a : Option Addr) (len cap : Nat) (L : List α) : Prop where
  hlen : L.length = len
  hcap : len ≤ cap
  hmax : cap ≤ maxLen
  henc : ∀ x ∈ L, (enc x).length = size
  cells : len = 0 ∨ ∃ b off, a = some ⟨b, off, none⟩ ∧ b < w.heap.size ∧ ∀ i x j v, L[i]? = some x → (enc x)[j]? = some v → w.cell? ⟨b, off + i * size + j, none⟩ = some v
section
variable {α : Type} {enc : α → List Value} {size : Nat} {w w' : World} {a : Option Addr} {len cap : Nat} {L : List α}
theorem SRow.below (h : SRow enc size w a len cap L) (hb : Below w.heap.size w w') : SRow enc size w' a len cap L := by
  refine ⟨h.hlen, h.hcap, h.hmax, h.henc, ?_⟩
  rcases h.cells with h0 | ⟨b, off, ha, hlt, hc⟩
  · exact .inl h0
  · refine .inr ⟨b, off, ha, Nat.lt_of_lt_of_le hlt hb.size, fun i x j v hx hv => ?_⟩
    rw [hb.cell (p := ⟨b, off + i * size + j, none⟩) hlt]
    exact hc i x j v hx hv
/-- The same below a smaller bound, where the block is known to lie below it. -/
theorem SRow.keep (h : SRow enc size w a len cap L) (hs : w.heap.size ≤ w'.heap.size) (hk : ∀ b off, a = some ⟨b, off, none⟩ → 0 < len → ∀ o, w'.cell? ⟨b, o, none⟩ = w.cell? ⟨b, o, none⟩) : SRow enc size w' a len cap L := by
  refine ⟨h.hlen, h.hcap, h.hmax, h.henc, ?_⟩
  rcases Nat.eq_zero_or_pos len with h0 | h0
  · exact .inl h0
  · rcases h.cells with h1 | ⟨b, off, ha, hlt, hc⟩
    · omega
    · refine .inr ⟨b, off, ha, Nat.lt_of_lt_of_le hlt hs, fun i x j v hx hv => ?_⟩
      rw [hk b off ha h0]
      exact hc i x j v hx hv
theorem SRow.drewN (h : SRow enc size w a len cap L) (n : Nat) : SRow enc size (w.drewN n) a len cap L := ⟨h.hlen, h.hcap, h.hmax, h.henc, h.cells⟩
theorem SRow.drew (h : SRow enc size w a len cap L) : SRow enc size w.drew a len cap L := ⟨h.hlen, h.hcap, h.hmax, h.henc, h.cells⟩
theorem SRow.len64 (h : SRow enc size w a len cap L) : len ≤ 9223372036854775807 := by
  have h1 := h.hcap; have h2 := h.hmax; unfold maxLen at h2; omega
theorem SRow.nil : SRow enc size w none 0 0 ([] : List α) := ⟨rfl, Nat.le_refl _, by unfold maxLen; omega, by simp, .inl rfl⟩
/-- One element. -/
theorem SRow.get (h : SRow enc size w a len cap L) {k : Nat} (hk : k < len) :
    ∃ b off x, a = some ⟨b, off, none⟩ ∧ b < w.heap.size ∧ L[k]? = some x ∧ (enc x).length = size ∧ ∀ j v, (enc x)[j]? = some v → w.cell? ⟨b, off + k * size + j, none⟩ = some v := by
  rcases h.cells with h0 | ⟨b, off, ha, hlt, hc⟩
  · omega
  · have hl : k < L.length := by rw [h.hlen]; exact hk
    have hg : L[k]? = some (L[k]'hl) := List.getElem?_eq_getElem hl
    exact ⟨b, off, _, ha, hlt, hg, h.henc _ (List.mem_of_getElem? hg), fun j v hv => hc k _ j v hg hv⟩
end
theorem flat_len {α : Type} {enc : α → List Value} {size : Nat} : ∀ {L : List α}, (∀ x ∈ L, (enc x).length = size) → (L.flatMap enc).length = L.length * size
  | [], _ => by simp
  | x :: r, h => by
    rw [List.flatMap_cons, List.length_append, h x (by simp), flat_len (fun y hy => h y (by simp [hy])), List.length_cons, Nat.add_mul]
    omega
theorem flat_get {α : Type} {enc : α → List Value} {size : Nat} : ∀ {L : List α} (_ : ∀ x ∈ L, (enc x).length = size) {i j : Nat} {x : α}, L[i]? = some x → j < size → (L.flatMap enc)[i * size + j]? = (enc x)[j]?
  | [], _, _, _, _, hx, _ => by simp at hx
  | y :: r, h, 0, j, x, hx, hj => by
    simp at hx; subst hx
    rw [List.flatMap_cons, List.getElem?_append_left (by rw [h y (by simp)]; omega)]
    congr 1
    omega
  | y :: r, h, i + 1, j, x, hx, hj => by
    have hy := h y (by simp)
    rw [List.flatMap_cons, List.getElem?_append_right (by rw [hy, Nat.add_mul]; omega), hy]
    have : (i + 1) * size + j - size = i * size + j := by rw [Nat.add_mul]; omega
    rw [this]
    exact flat_get (fun z hz => h z (by simp [hz])) (by simpa using hx) hj
theorem flat_at {α : Type} {enc : α → List Value} {size : Nat} : ∀ {L : List α} (_ : ∀ x ∈ L, (enc x).length = size) {k : Nat} {u : Value}, (L.flatMap enc)[k]? = some u → ∃ i j x, k = i * size + j ∧ j < size ∧ L[i]? = some x ∧ (enc x)[j]? = some u
  | [], _, _, _, hu => by simp at hu
  | y :: r, h, k, u, hu => by
    have hy := h y (by simp)
    rw [List.flatMap_cons] at hu
    by_cases hk : k < size
    · rw [List.getElem?_append_left (by omega)] at hu
      exact ⟨0, k, y, by omega, hk, rfl, hu⟩
    · rw [List.getElem?_append_right (by omega), hy] at hu
      obtain ⟨i, j, x, e, hj, hx, hv⟩ := flat_at (fun z hz => h z (by simp [hz])) hu
      exact ⟨i + 1, j, x, by rw [Nat.add_mul]; omega, hj, by simpa using hx, hv⟩
section
variable {α : Type} {enc : α → List Value} {size : Nat} {w w' : World} {a : Option Addr} {len cap : Nat} {L : List α}
theorem SRow.flat {b off : Nat} (h : SRow enc size w (some ⟨b, off, none⟩) len cap L) : ∀ k u, (L.flatMap enc)[k]? = some u → w.cell? ((⟨b, off, none⟩ : Addr).add k) = some u := by
  intro k u hu
  obtain ⟨i, j, x, rfl, hj, hx, hv⟩ := flat_at h.henc hu
  rw [Go.WideShapes.add_plain, ← Nat.add_assoc]
  rcases h.cells with h0 | ⟨b', off', ha, _, hc⟩
  · have := h.hlen
    obtain ⟨hl, _⟩ := List.getElem?_eq_some_iff.1 hx
    omega
  · injection ha with ha
    injection ha with h1 h2
    subst h1; subst h2
    exact hc i x j u hx hv
/-- What the call owns, read as a list. -/
theorem SRow.of_own {base : Nat} {e : TypeId} {v : Value} {n : Nat} (henc : ∀ x ∈ L, (enc x).length = size) (hl : L.length = n) (h : w.ownsRow base e size v n (L.flatMap enc)) :
    ∃ a cap, v = .slice a n cap ∧ SRow enc size w a n cap L ∧ (∀ b off, a = some ⟨b, off, none⟩ → base ≤ b) := by
  rcases h.2 with ⟨rfl, h0⟩ | ⟨g, cap, cur, rfl, hb, hg, hnc, hcm, hcs, htk⟩
  · subst h0
    have hL : L = [] := List.eq_nil_of_length_eq_zero hl
    subst hL
    exact ⟨none, 0, rfl, SRow.nil, fun b off hb => by cases hb⟩
  · refine ⟨_, cap, rfl, ⟨hl, hnc, hcm, henc, .inr ⟨g, 0, rfl, ?_, fun i x j v hx hv => ?_⟩⟩, fun b off h => by injection h with h; injection h with h1; omega⟩
    · rcases Nat.lt_or_ge g w.heap.size with h | h
      · exact h
      · rw [Array.getElem?_eq_none h] at hg; cases hg
    · have hj : j < size := by
        obtain ⟨hjl, _⟩ := List.getElem?_eq_some_iff.1 hv
        rw [henc x (List.mem_of_getElem? hx)] at hjl
        exact hjl
      have h1 := flat_get henc hx hj
      rw [hv] at h1
      have := h.cells (g := g) rfl (i * size + j) v h1
      rw [Go.WideShapes.add_plain] at this
      rw [Nat.zero_add] at this ⊢
      exact this
end
section
variable {P : Program} {α : Type} {enc : α → List Value}
/-- append(v, src...): v owned by the call, src any slice that reads as a list. -/
theorem run_append_rows (w : World) (t ty e : TypeId) (i : TypeInfo) (z : Value) (size bytes : Nat) (ht : P.underlying t = some (.slice e)) (hi : P.info? e = some i) (hz : i.zero = some z)
    (hsize : i.size = size) (hby : i.bytes = bytes) (hzs : z.cells.size = size) (hsz : 0 < size) (base : Nat)
    (v : Value) (n : Nat) (L M : List α) (hown : w.ownsRow base e size v n (L.flatMap enc)) (a : Option Addr) (m c : Nat) (hsrc : SRow enc size w a m c M) (h1 : ∀ x ∈ M, ∀ u ∈ enc x, u.oneCell' = true)
    (h63 : n + m ≤ maxLen) (hbytes : (n + m) * bytes ≤ 140737488355328) (hbase : base ≤ w.heap.size) (hnil : a = none → c = 0) :
    ∃ v' w', (Builtin.append_ #[t, t] ty #[v, .slice a m c]).run P w = .ok v' w' ∧ w'.ownsRow base e size v' (n + m) ((L ++ M).flatMap enc) ∧ w.grownBy w' v.ownBlock ∧ (v'.ownBlock = v.ownBlock ∨ v'.ownBlock = some w.heap.size) := by
  rw [List.flatMap_append]
  have hone : ∀ u ∈ M.flatMap enc, u.oneCell' = true := by
    intro u hu
    obtain ⟨x, hx, hxu⟩ := List.mem_flatMap.1 hu
    exact h1 x hx u hxu
  have hfl : (M.flatMap enc).length = m * size := by rw [flat_len hsrc.henc, hsrc.hlen]
  rcases a with _ | ad
  · have hm : m = 0 := by
      rcases hsrc.cells with h0 | ⟨b, off, ha, _⟩
      · exact h0
      · cases ha
    subst hm
    have hM : M = [] := List.eq_nil_of_length_eq_zero hsrc.hlen
    subst hM
    rw [hnil rfl]
    refine ⟨v, w, run_append_owned_none (P := P) (w := w) base t ty e i size ht hi v n _ hown, by simpa using hown, World.grownBy.refl w _, .inl rfl⟩
  · have hnews : ∀ j u, (M.flatMap enc)[j]? = some u → w.cell? (ad.add j) = some u := by
      rcases Nat.eq_zero_or_pos m with h0 | h0
      · intro j u hu
        have hM : M = [] := List.eq_nil_of_length_eq_zero (by rw [hsrc.hlen, h0])
        rw [hM] at hu
        simp at hu
      · rcases hsrc.cells with h' | ⟨b, off, ha, _⟩
        · omega
        · injection ha with ha
          subst ha
          exact hsrc.flat
    obtain ⟨v', w', hr, h2, h3, _, h5⟩ := run_append_own_at (P := P) w base t ty e i z size bytes ht hi hz hsize hby hzs hsz v n _ hown ad m c _ hfl hnews hone h63 hbytes hbase
    exact ⟨v', w', hr, h2, h3, h5⟩
/-- At the operation: for the walk. -/
theorem wpList_append_rows {w : World} {ops : Array Oper} {rest : List Oper} {o : Oper} {a : Act} {Q : Exit → Act → World → Prop} (hgd : o.guard = none) (s x : Operand) (t : TypeId)
    (ho : o.op = .call { callee := .builtin .append, args := #[s, x], argTypes := #[t, t] })
    (e : TypeId) (i : TypeInfo) (z : Value) (size bytes : Nat) (ht : P.underlying t = some (.slice e)) (hi : P.info? e = some i) (hz : i.zero = some z)
    (hsize : i.size = size) (hby : i.bytes = bytes) (hzs : z.cells.size = size) (hsz : 0 < size) (base : Nat)
    (v : Value) (n : Nat) (L M : List α) (hs : a.eval s = v) (hown : w.ownsRow base e size v n (L.flatMap enc)) (ad : Option Addr) (m c : Nat) (hx : a.eval x = .slice ad m c) (hsrc : SRow enc size w ad m c M) (h1 : ∀ x ∈ M, ∀ u ∈ enc x, u.oneCell' = true)
    (h63 : n + m ≤ maxLen) (hbytes : (n + m) * bytes ≤ 140737488355328) (hbase : base ≤ w.heap.size) (hnil : ad = none → c = 0)
    (h : ∀ v' w', w'.ownsRow base e size v' (n + m) ((L ++ M).flatMap enc) → w.grownBy w' v.ownBlock → (v'.ownBlock = v.ownBlock ∨ v'.ownBlock = some w.heap.size) → wpList P ops Q rest (a.put o.dst v') w') :
    wpList P ops Q (o :: rest) a w := by
  refine wpList_plain hgd fun K hK => ?_
  obtain ⟨v', w', hr, h2, h3, h4⟩ := run_append_rows (P := P) w t o.type e i z size bytes ht hi hz hsize hby hzs hsz base v n L M hown ad m c hsrc h1 h63 hbytes hbase hnil
  unfold Oper.wp execOp
  simp only [ho, resolve, invoke, builtin, Sem.run_bind, Sem.run_pure, Result.andThen_ok, List.map_toArray, List.map_cons, List.map_nil, hs, hx, hr]
  exact hK _ _ (h v' w' h2 h3 h4)
end
/-- Behind an append onto a slice that was just made. -/
theorem below_new {w W W1 : World} {o : Obj} {n c : Nat} (h : Below w.heap.size w W) (hg : (W.alloc o).grownBy W1 (Value.ownBlock (.slice (some ⟨W.heap.size, 0, none⟩) n c))) : Below w.heap.size w W1 :=
  (h.alloc h.size o).grown hg (by have := h.size; simp; omega) (fun k hk => by
    have e : W.heap.size = k := by injection hk
    have := h.size
    omega)
/-- Behind an append onto a slice of the call's own. -/
theorem below_own {w W W1 : World} {o : Obj} {e : TypeId} {size n : Nat} {v : Value} {xs : List Value} (h : Below w.heap.size w W) (hown : W.ownsRow w.heap.size e size v n xs) (hg : (W.alloc o).grownBy W1 v.ownBlock) : Below w.heap.size w W1 :=
  (h.alloc h.size o).grown hg (by have := h.size; simp; omega) (fun k hk => (hown.lt k hk).1)
/-- A slice of the call's own, behind a callee that makes new memory alone. -/
theorem own_below {W W1 : World} {base : Nat} {e : TypeId} {size n : Nat} {v : Value} {xs : List Value} (hown : W.ownsRow base e size v n xs) (hb : Below W.heap.size W W1) : W1.ownsRow base e size v n xs := by
  refine ⟨hown.1, ?_⟩
  rcases hown.2 with h | ⟨g, cap, cur, hv, hbg, hg, h1, h2, h3, h4⟩
  · exact .inl h
  · have hlt : g < W.heap.size := by
      rcases Nat.lt_or_ge g W.heap.size with h | h
      · exact h
      · rw [Array.getElem?_eq_none h] at hg; cases hg
    exact .inr ⟨g, cap, cur, hv, hbg, (hb.block g hlt).trans hg, h1, h2, h3, h4⟩
theorem own_empty {α : Type} {enc : α → List Value} {size : Nat} (w : World) (base : Nat) (e : TypeId) (h : base ≤ w.heap.size) : (w.alloc (.cells #[] e)).ownsRow base e size (.slice (some ⟨w.heap.size, 0, none⟩) 0 0) 0 (([] : List α).flatMap enc) := by
  have := World.ownsRow_lit (base := base) (e := e) (size := size) w #[] 0 h (by unfold maxLen; omega) (by simp)
  simpa using this
theorem own_one {α : Type} {enc : α → List Value} {size : Nat} (w : World) (e : TypeId) (x : α) (cs : Array Value) (hx : enc x = cs.toList) (hs : cs.size = size) : SRow enc size (w.alloc (.cells cs e)) (some ⟨w.heap.size, 0, none⟩) 1 1 [x] := by
  refine ⟨rfl, Nat.le_refl _, by unfold maxLen; omega, fun y hy => ?_, .inr ⟨_, _, rfl, by simp, fun i y j v hy hv => ?_⟩⟩
  · simp at hy; subst hy
    rw [hx, Array.length_toList, hs]
  · obtain ⟨hl, hg⟩ := List.getElem?_eq_some_iff.1 hy
    have hi : i = 0 := by simpa using hl
    subst hi
    simp at hg; subst hg
    rw [hx, Array.getElem?_toList] at hv
    rw [cell_of_row (w.alloc (.cells cs e)) w.heap.size (0 + 0 * size + j) cs e (0, 0) (heap_alloc_new w _)]
    simpa using hv
end Go.Proofs.YtbgcpgpkhfbijaaGreatDoor
/- Lists of attributes as data: what package attr computes, said over lists of pairs of byte arrays. -/
namespace Go.Proofs.YtbgcpgpkhfbijaaGreatDoor
open Go.RowKit
abbrev AL := List (ByteArray × ByteArray)
/-- An attribute's two cells. -/
def encA (x : ByteArray × ByteArray) : List Value := [.string x.1, .string x.2]
theorem encA_len (x : ByteArray × ByteArray) : (encA x).length = 2 := rfl
theorem encA_one (x : ByteArray × ByteArray) : ∀ u ∈ encA x, u.oneCell' = true := by
  intro u hu
  simp [encA] at hu
  rcases hu with rfl | rfl <;> rfl
/-- What lies behind a slice of attributes. -/
structure AttrRow (w : World) (a : Option Addr) (len cap : Nat) (L : AL) : Prop where
  row : SRow encA 2 w a len cap L
  small : ∀ x ∈ L, x.1.size ≤ maxLen ∧ x.2.size ≤ maxLen
  hnil : a = none → cap = 0
theorem AttrRow.hlen {w : World} {a : Option Addr} {len cap : Nat} {L : AL} (h : AttrRow w a len cap L) : L.length = len := h.row.hlen
theorem AttrRow.below {w w' : World} {a : Option Addr} {len cap : Nat} {L : AL} (h : AttrRow w a len cap L) (hb : Below w.heap.size w w') : AttrRow w' a len cap L := ⟨h.row.below hb, h.small, h.hnil⟩
theorem AttrRow.drewN {w : World} {a : Option Addr} {len cap : Nat} {L : AL} (h : AttrRow w a len cap L) (n : Nat) : AttrRow (w.drewN n) a len cap L := ⟨h.row.drewN n, h.small, h.hnil⟩
theorem AttrRow.drew {w : World} {a : Option Addr} {len cap : Nat} {L : AL} (h : AttrRow w a len cap L) : AttrRow w.drew a len cap L := ⟨h.row.drew, h.small, h.hnil⟩
/-- One element of the row. -/
theorem AttrRow.get {w : World} {a : Option Addr} {len cap : Nat} {L : AL} (h : AttrRow w a len cap L) {k : Nat} (hk : k < len) :
    ∃ b off n v, a = some ⟨b, off, none⟩ ∧ b < w.heap.size ∧ L[k]? = some (n, v) ∧ w.cell? ⟨b, off + k * 2, none⟩ = some (.string n) ∧ w.cell? ⟨b, off + k * 2 + 1, none⟩ = some (.string v) ∧ n.size ≤ maxLen ∧ v.size ≤ maxLen := by
  obtain ⟨b, off, x, ha, hlt, hg, _, hc⟩ := h.row.get hk
  have hs := h.small _ (List.mem_of_getElem? hg)
  exact ⟨b, off, x.1, x.2, ha, hlt, hg, hc 0 _ rfl, hc 1 _ rfl, hs.1, hs.2⟩
theorem AttrRow.len64 {w : World} {a : Option Addr} {len cap : Nat} {L : AL} (h : AttrRow w a len cap L) : len ≤ 9223372036854775807 := h.row.len64
def keyIs (n : List UInt8) (x : ByteArray × ByteArray) : Bool := x.1.toList == n
/-- The place of a name; the length: it isn't there. -/
def atN (L : AL) (n : List UInt8) : Nat := L.findIdx (keyIs n)
def atL (L : AL) (n : List UInt8) : Int := if atN L n < L.length then (atN L n : Int) else -1
theorem atN_le (L : AL) (n : List UInt8) : atN L n ≤ L.length := List.findIdx_le_length
theorem atN_step {L : AL} {n : List UInt8} {k : Nat} {x : ByteArray × ByteArray} (h : k ≤ atN L n) (hk : L[k]? = some x) (hx : keyIs n x = false) : k + 1 ≤ atN L n := by
  obtain ⟨hl, hg⟩ := List.getElem?_eq_some_iff.1 hk
  by_cases e : k = atN L n
  · have h1 : atN L n < L.length := by omega
    have h2 : keyIs n (L[atN L n]'h1) = true := List.findIdx_getElem (w := h1)
    have h3 : (L[atN L n]'h1) = x := by
      rw [← hg]; congr 1; exact e.symm
    rw [h3, hx] at h2
    cases h2
  · omega
theorem atN_here {L : AL} {n : List UInt8} {k : Nat} {x : ByteArray × ByteArray} (h : k ≤ atN L n) (hk : L[k]? = some x) (hx : keyIs n x = true) : atN L n = k := by
  obtain ⟨hl, hg⟩ := List.getElem?_eq_some_iff.1 hk
  by_cases e : k < atN L n
  · have := List.not_of_lt_findIdx e
    rw [hg, hx] at this
    cases this
  · omega
theorem atL_here {L : AL} {n : List UInt8} {k : Nat} {x : ByteArray × ByteArray} (h : k ≤ atN L n) (hk : L[k]? = some x) (hx : keyIs n x = true) : atL L n = (k : Int) := by
  have := atN_here h hk hx
  obtain ⟨hl, hg⟩ := List.getElem?_eq_some_iff.1 hk
  unfold atL
  rw [this, if_pos hl]
theorem atL_none {L : AL} {n : List UInt8} {k : Nat} (h : k ≤ atN L n) (hk : L.length ≤ k) : atL L n = -1 := by
  unfold atL
  rw [if_neg (by omega)]
def pairB (x y : ByteArray × ByteArray) : Bool := (x.1.toList == y.1.toList) && (x.2.toList == y.2.toList)
theorem pairB_eq {x y : ByteArray × ByteArray} : pairB x y = true ↔ x = y := by
  unfold pairB
  constructor
  · intro h
    simp at h
    exact Prod.ext (toList_inj h.1) (toList_inj h.2)
  · rintro rfl; simp
end Go.Proofs.YtbgcpgpkhfbijaaGreatDoor
/- Forests as data, and what lies behind them in memory. -/
namespace Go.Proofs.YtbgcpgpkhfbijaaGreatDoor
open Go.RowKit
/-- A number of the machine. -/
def In64 (z : Int) : Prop := -9223372036854775808 ≤ z ∧ z ≤ 9223372036854775807
def encZ (z : Int) : List Value := [.int .i64 z]
theorem encZ_len (z : Int) : (encZ z).length = 1 := rfl
theorem encZ_one (z : Int) : ∀ u ∈ encZ z, u.oneCell' = true := by
  intro u hu
  simp [encZ] at hu
  rw [hu]
  rfl
/-- What lies behind a slice of numbers. -/
structure IntRow (w : World) (a : Option Addr) (len cap : Nat) (L : List Int) : Prop where
  row : SRow encZ 1 w a len cap L
  inb : ∀ z ∈ L, In64 z
  hnil : a = none → cap = 0
section
variable {w w' : World} {a : Option Addr} {len cap : Nat} {L : List Int}
theorem IntRow.hlen (h : IntRow w a len cap L) : L.length = len := h.row.hlen
theorem IntRow.len64 (h : IntRow w a len cap L) : len ≤ 9223372036854775807 := h.row.len64
theorem IntRow.below (h : IntRow w a len cap L) (hb : Below w.heap.size w w') : IntRow w' a len cap L := ⟨h.row.below hb, h.inb, h.hnil⟩
theorem IntRow.drewN (h : IntRow w a len cap L) (n : Nat) : IntRow (w.drewN n) a len cap L := ⟨h.row.drewN n, h.inb, h.hnil⟩
theorem IntRow.get (h : IntRow w a len cap L) {k : Nat} (hk : k < len) : ∃ b off z, a = some ⟨b, off, none⟩ ∧ b < w.heap.size ∧ L[k]? = some z ∧ w.cell? ⟨b, off + k, none⟩ = some (.int .i64 z) ∧ In64 z := by
  obtain ⟨b, off, x, ha, hlt, hg, _, hc⟩ := h.row.get hk
  have h0 := hc 0 _ rfl
  rw [Nat.mul_one, Nat.add_zero] at h0
  exact ⟨b, off, x, ha, hlt, hg, h0, h.inb _ (List.mem_of_getElem? hg)⟩
end
/-- A node, as data. -/
structure Core where
  kind : Int
  name : ByteArray
  is : ByteArray
  data : ByteArray
  attrs : AL
  parent : Int
  kids : List Int
  host : Int
  under : Int
  doc : Int
deriving DecidableEq
/-- A node in memory: its data, and the two slices' headers. -/
structure NodeD where
  core : Core
  aA : Option Addr
  aN : Nat
  aC : Nat
  kA : Option Addr
  kN : Nat
  kC : Nat
def encN (x : NodeD) : List Value := [.int .i64 x.core.kind, .string x.core.name, .string x.core.is, .string x.core.data, .slice x.aA x.aN x.aC, .int .i64 x.core.parent, .slice x.kA x.kN x.kC, .int .i64 x.core.host, .int .i64 x.core.under, .int .i64 x.core.doc]
theorem encN_len (x : NodeD) : (encN x).length = 10 := rfl
theorem encN_one (x : NodeD) : ∀ u ∈ encN x, u.oneCell' = true := by
  intro u hu
  simp [encN] at hu
  rcases hu with rfl | rfl | rfl | rfl | rfl | rfl | rfl | rfl | rfl | rfl <;> rfl
/-- What lies behind a node. -/
structure NodeOk (w : World) (x : NodeD) : Prop where
  attrs : AttrRow w x.aA x.aN x.aC x.core.attrs
  kids : IntRow w x.kA x.kN x.kC x.core.kids
  name : x.core.name.size ≤ maxLen
  is : x.core.is.size ≤ maxLen
  data : x.core.data.size ≤ maxLen
  kind : In64 x.core.kind
  parent : In64 x.core.parent
  host : In64 x.core.host
  under : In64 x.core.under
  doc : In64 x.core.doc
theorem NodeOk.below {w w' : World} {x : NodeD} (h : NodeOk w x) (hb : Below w.heap.size w w') : NodeOk w' x := ⟨h.attrs.below hb, h.kids.below hb, h.name, h.is, h.data, h.kind, h.parent, h.host, h.under, h.doc⟩
theorem NodeOk.drewN {w : World} {x : NodeD} (h : NodeOk w x) (n : Nat) : NodeOk (w.drewN n) x := ⟨h.attrs.drewN n, h.kids.drewN n, h.name, h.is, h.data, h.kind, h.parent, h.host, h.under, h.doc⟩
/-- What lies behind a slice of nodes. -/
structure NodeRow (w : World) (a : Option Addr) (len cap : Nat) (L : List NodeD) : Prop where
  row : SRow encN 10 w a len cap L
  ok : ∀ x ∈ L, NodeOk w x
  hnil : a = none → cap = 0
section
variable {w w' : World} {a : Option Addr} {len cap : Nat} {L : List NodeD}
theorem NodeRow.hlen (h : NodeRow w a len cap L) : L.length = len := h.row.hlen
theorem NodeRow.len64 (h : NodeRow w a len cap L) : len ≤ 9223372036854775807 := h.row.len64
theorem NodeRow.below (h : NodeRow w a len cap L) (hb : Below w.heap.size w w') : NodeRow w' a len cap L := ⟨h.row.below hb, fun x hx => (h.ok x hx).below hb, h.hnil⟩
theorem NodeRow.drewN (h : NodeRow w a len cap L) (n : Nat) : NodeRow (w.drewN n) a len cap L := ⟨h.row.drewN n, fun x hx => (h.ok x hx).drewN n, h.hnil⟩
/-- One node's ten cells. -/
structure NodeAt (w : World) (b o : Nat) (x : NodeD) : Prop where
  c0 : w.cell? ⟨b, o, none⟩ = some (.int .i64 x.core.kind)
  c1 : w.cell? ⟨b, o + 1, none⟩ = some (.string x.core.name)
  c2 : w.cell? ⟨b, o + 2, none⟩ = some (.string x.core.is)
  c3 : w.cell? ⟨b, o + 3, none⟩ = some (.string x.core.data)
  c4 : w.cell? ⟨b, o + 4, none⟩ = some (.slice x.aA x.aN x.aC)
  c5 : w.cell? ⟨b, o + 5, none⟩ = some (.int .i64 x.core.parent)
  c6 : w.cell? ⟨b, o + 6, none⟩ = some (.slice x.kA x.kN x.kC)
  c7 : w.cell? ⟨b, o + 7, none⟩ = some (.int .i64 x.core.host)
  c8 : w.cell? ⟨b, o + 8, none⟩ = some (.int .i64 x.core.under)
  c9 : w.cell? ⟨b, o + 9, none⟩ = some (.int .i64 x.core.doc)
theorem NodeAt.below {b o : Nat} {x : NodeD} (h : NodeAt w b o x) (hlt : b < w.heap.size) (hb : Below w.heap.size w w') : NodeAt w' b o x := by
  have e : ∀ o', w'.cell? ⟨b, o', none⟩ = w.cell? ⟨b, o', none⟩ := fun o' => hb.cell (p := ⟨b, o', none⟩) hlt
  exact ⟨(e _).trans h.c0, (e _).trans h.c1, (e _).trans h.c2, (e _).trans h.c3, (e _).trans h.c4, (e _).trans h.c5, (e _).trans h.c6, (e _).trans h.c7, (e _).trans h.c8, (e _).trans h.c9⟩
theorem NodeRow.get (h : NodeRow w a len cap L) {k : Nat} (hk : k < len) : ∃ b off x, a = some ⟨b, off, none⟩ ∧ b < w.heap.size ∧ L[k]? = some x ∧ NodeAt w b (off + k * 10) x ∧ NodeOk w x := by
  obtain ⟨b, off, x, ha, hlt, hg, _, hc⟩ := h.row.get hk
  have h0 := hc 0 _ rfl
  rw [Nat.add_zero] at h0
  exact ⟨b, off, x, ha, hlt, hg, ⟨h0, hc 1 _ rfl, hc 2 _ rfl, hc 3 _ rfl, hc 4 _ rfl, hc 5 _ rfl, hc 6 _ rfl, hc 7 _ rfl, hc 8 _ rfl, hc 9 _ rfl⟩, h.ok _ (List.mem_of_getElem? hg)⟩
end
/-- A forest as data: its nodes. -/
def coreL (L : List NodeD) : List Core := L.map (·.core)
end Go.Proofs.YtbgcpgpkhfbijaaGreatDoor
/- instarref03's small functions: Has, Find, Ints. -/
namespace Go.Proofs.YtbgcpgpkhfbijaaGreatDoor
open Go.RowKit
def hasZ (L : List Int) (n : Int) : Nat := L.countP (fun z => z == n)
def findN (L : List Int) (n : Int) : Nat := L.findIdx (fun z => z == n)
def findZ (L : List Int) (n : Int) : Int := if findN L n < L.length then (findN L n : Int) else -1
theorem hasZ_step {L : List Int} {n z : Int} {k : Nat} (h : L[k]? = some z) : hasZ (L.take (k + 1)) n = hasZ (L.take k) n + if z == n then 1 else 0 := by
  obtain ⟨hl, hg⟩ := List.getElem?_eq_some_iff.1 h
  unfold hasZ
  rw [List.take_succ_eq_append_getElem hl, hg, List.countP_append]
  simp [List.countP_cons]
theorem hasZ_le (L : List Int) (n : Int) (k : Nat) : hasZ (L.take k) n ≤ k := Nat.le_trans (List.countP_le_length) (List.length_take_le _ _)
theorem findN_here {L : List Int} {n z : Int} {k : Nat} (h : k ≤ findN L n) (hk : L[k]? = some z) (hz : (z == n) = true) : findN L n = k := by
  obtain ⟨hl, hg⟩ := List.getElem?_eq_some_iff.1 hk
  by_cases e : k < findN L n
  · have := List.not_of_lt_findIdx e
    rw [hg, hz] at this
    cases this
  · omega
theorem findN_step {L : List Int} {n z : Int} {k : Nat} (h : k ≤ findN L n) (hk : L[k]? = some z) (hz : (z == n) = false) : k + 1 ≤ findN L n := by
  obtain ⟨hl, hg⟩ := List.getElem?_eq_some_iff.1 hk
  by_cases e : k = findN L n
  · have h1 : findN L n < L.length := by omega
    have h2 : ((L[findN L n]'h1) == n) = true := List.findIdx_getElem (w := h1)
    have h3 : (L[findN L n]'h1) = z := by rw [← hg]; congr 1; exact e.symm
    rw [h3, hz] at h2
    cases h2
  · omega
theorem refhas_any (a : Option Addr) (len cap : Nat) (L : List Int) (n : Int) (w : World) (h : IntRow w a len cap L) :
    Calls Tryz.prog 37 #[.slice a len cap, .int .i64 n] w fun e w' => e = .returned (.int .i64 (hasZ L n)) ∧ w = w' := by
  have hl := h.len64
  go_enter Tryz.func37, Tryz.ntmps37
  go_wp2
  go_loop [5, 6] (fun m i => ∃ k : Nat, k ≤ len ∧ i = .int .i64 k ∧ m = .int .i64 (hasZ (L.take k) n : Nat)) (fun _ i => len - (intOf i).toNat)
  case atStart => exact ⟨0, Nat.zero_le _, rfl, rfl⟩
  case round =>
    obtain ⟨k, hk, rfl, rfl⟩ := hrel
    have hle := hasZ_le L n k
    obtain ⟨m, hm⟩ : ∃ m, hasZ (L.take k) n = m := ⟨_, rfl⟩
    rw [hm] at hle ⊢
    by_cases hlt : k < len
    · obtain ⟨b, off, z, rfl, hb, hx, hc, _⟩ := h.get hlt
      have HS := Lib.hid (hasZ_step (n := n) hx)
      have HM := Lib.hid hm
      clear hx hm
      by_cases he : z = n
      · have e1 : (z == n) = true := beq_iff_eq.2 he
        have HE : Hid (hasZ (L.take (k + 1)) n = m + 1) := Lib.hid (by rw [HS.out, HM.out, e1]; rfl)
        clear he
        go_wp2
        go_round
        case rel => exact ⟨k + 1, by omega, by go_num, by rw [HE.out]; go_num⟩
        case measure => simp [intOf]; omega
      · have e1 : (z == n) = false := beq_eq_false_iff_ne.2 he
        have HE : Hid (hasZ (L.take (k + 1)) n = m) := Lib.hid (by rw [HS.out, HM.out, e1]; rfl)
        clear he
        go_wp2
        go_round
        case rel => exact ⟨k + 1, by omega, by go_num, by rw [HE.out]⟩
        case measure => simp [intOf]; omega
    · have HR : Hid (m = hasZ L n) := Lib.hid (by rw [← hm, List.take_of_length_le (by have := h.hlen; omega)])
      clear hm
      go_wp2
      go_ret
      exact ⟨ret_int (by rw [HR.out]), rfl⟩
theorem reffind_any (a : Option Addr) (len cap : Nat) (L : List Int) (n : Int) (w : World) (h : IntRow w a len cap L) :
    Calls Tryz.prog 131 #[.slice a len cap, .int .i64 n] w fun e w' => e = .returned (.int .i64 (findZ L n)) ∧ w = w' := by
  have hl := h.len64
  go_enter Tryz.func131, Tryz.ntmps131
  go_wp2
  go_loop [5] (fun i => ∃ k : Nat, k ≤ len ∧ i = .int .i64 k ∧ k ≤ findN L n) (fun i => len - (intOf i).toNat)
  case atStart => exact ⟨0, Nat.zero_le _, rfl, Nat.zero_le _⟩
  case round =>
    obtain ⟨k, hk, rfl, hat⟩ := hrel
    by_cases hlt : k < len
    · obtain ⟨b, off, z, rfl, hb, hx, hc, _⟩ := h.get hlt
      have HX := Lib.hid hx
      clear hx
      by_cases he : z = n
      · have e1 : (z == n) = true := beq_iff_eq.2 he
        have HR : Hid (findZ L n = (k : Int)) := Lib.hid (by
          have := findN_here hat HX.out e1
          unfold findZ
          rw [this, if_pos (by rw [h.hlen]; exact hlt)])
        clear he
        go_wp2
        go_ret
        exact ⟨ret_int HR.out.symm, rfl⟩
      · have e1 : (z == n) = false := beq_eq_false_iff_ne.2 he
        have HR := findN_step hat HX.out e1
        clear he
        go_wp2
        go_round
        case rel => exact ⟨k + 1, by omega, by go_num, HR⟩
        case measure => simp [intOf]; omega
    · have HR : Hid (findZ L n = -1) := Lib.hid (by unfold findZ; rw [if_neg (by rw [h.hlen]; omega)])
      go_wp2
      go_ret
      exact ⟨ret_int HR.out.symm, rfl⟩
theorem refints_any (a a' : Option Addr) (len cap len' cap' : Nat) (L M : List Int) (w : World) (h : IntRow w a len cap L) (h' : IntRow w a' len' cap' M) :
    Calls Tryz.prog 38 #[.slice a len cap, .slice a' len' cap'] w fun e w' => e = .returned (.bool (decide (L = M))) ∧ ∃ n, w' = w.drewN n := by
  have hl := h.len64
  have hl' := h'.len64
  by_cases hll : len = len'
  rotate_left
  · have hr : Hid (decide (L = M) = false) := Lib.hid (decide_eq_false (fun e => hll (by rw [← h.hlen, ← h'.hlen, e])))
    have e1 : ((len : Int) == (len' : Int)) = false := beq_eq_false_iff_ne.2 (by omega)
    have e2 : ((len : Int) != (len' : Int)) = true := by unfold bne; rw [e1]; rfl
    clear hll
    go_enter Tryz.func38, Tryz.ntmps38
    go_wp2
    go_ret
    exact ⟨ret_bool hr.out.symm, 0, rfl⟩
  subst hll
  have e1 : ((len : Int) == (len : Int)) = true := beq_iff_eq.2 rfl
  have e2 : ((len : Int) != (len : Int)) = false := by unfold bne; rw [e1]; rfl
  go_enter Tryz.func38, Tryz.ntmps38
  go_wp2
  go_loopw [5] (fun i wr => ∃ k n : Nat, k ≤ len ∧ i = .int .i64 k ∧ wr = w.drewN n ∧ Hid (L.take k = M.take k)) (fun i _ => len - (intOf i).toNat)
  case atStart => exact ⟨0, 0, Nat.zero_le _, rfl, rfl, Lib.hid rfl⟩
  case round =>
    obtain ⟨k, n, hk, rfl, rfl, HT⟩ := hrel
    by_cases hlt : k < len
    · obtain ⟨b, off, x, rfl, hb, hx, hc1, _⟩ := h.get hlt
      obtain ⟨b', off', y, rfl, hb', hy, hd1, _⟩ := h'.get hlt
      have HX := Lib.hid hx
      have HY := Lib.hid hy
      clear hx hy
      by_cases he : x = y
      · have f1 : (x == y) = true := beq_iff_eq.2 he
        have f2 : (x != y) = false := by unfold bne; rw [f1]; rfl
        have HE := Lib.hid he
        clear he
        go_wp2
        go_quiet (fail)
        go_wp2
        go_roundw
        case rel =>
          refine ⟨k + 1, _, by omega, by go_num, by first | rfl | exact World.drewN_drewN _ _ _, Lib.hid ?_⟩
          obtain ⟨hl1, hg1⟩ := List.getElem?_eq_some_iff.1 HX.out
          obtain ⟨hl2, hg2⟩ := List.getElem?_eq_some_iff.1 HY.out
          rw [List.take_succ_eq_append_getElem hl1, List.take_succ_eq_append_getElem hl2, hg1, hg2, HT.out, HE.out]
        case measure => simp [intOf]; omega
      · have f1 : (x == y) = false := beq_eq_false_iff_ne.2 he
        have f2 : (x != y) = true := by unfold bne; rw [f1]; rfl
        have HR : Hid (decide (L = M) = false) := Lib.hid (decide_eq_false (fun e => he (by
          have h1 := HX.out
          rw [e, HY.out] at h1
          exact (Option.some.inj h1).symm)))
        clear he
        go_wp2
        go_quiet (fail)
        go_wp2
        go_ret
        exact ⟨ret_bool HR.out.symm, _, by first | rfl | exact World.drewN_drewN _ _ _⟩
    · have HR : Hid (decide (L = M) = true) := Lib.hid (decide_eq_true (by
        have h1 := HT.out
        rwa [List.take_of_length_le (by have := h.hlen; omega), List.take_of_length_le (by have := h'.hlen; omega)] at h1))
      go_wp2
      go_ret
      exact ⟨ret_bool HR.out.symm, n, rfl⟩
end Go.Proofs.YtbgcpgpkhfbijaaGreatDoor
/- Which lists of attributes are right: the property, and plain facts on it. -/
namespace Go.Proofs.YtbgcpgpkhfbijaaGreatDoor
open Go.RowKit
def okAt (L : AL) (k : Nat) (x : ByteArray × ByteArray) : Bool := rightL x.1.toList && (smallL x.1.toList == x.1.toList) && decide (x.2.size ≤ 200) && decide (atN L x.1.toList = k)
def rightA (L : AL) : Bool := decide (L.length ≤ 40) && L.zipIdx.all (fun p => okAt L p.2 p.1)
theorem rightA_iff (L : AL) : rightA L = true ↔ L.length ≤ 40 ∧ ∀ (k : Nat) x, L[k]? = some x → okAt L k x = true := by
  unfold rightA
  rw [Bool.and_eq_true, decide_eq_true_eq, List.all_eq_true]
  constructor
  · rintro ⟨h1, h2⟩
    refine ⟨h1, fun k x hx => ?_⟩
    exact h2 (x, k) (List.mk_mem_zipIdx_iff_getElem?.2 hx)
  · rintro ⟨h1, h2⟩
    refine ⟨h1, fun p hp => ?_⟩
    exact h2 p.2 p.1 (List.mk_mem_zipIdx_iff_getElem?.1 hp)
theorem rightA_stop {L : AL} {k : Nat} {x : ByteArray × ByteArray} (hx : L[k]? = some x) (h : okAt L k x = false) : rightA L = false := by
  by_cases hr : rightA L = true
  · have := ((rightA_iff L).1 hr).2 k x hx
    rw [h] at this; cases this
  · simpa using hr
theorem rightA_long {L : AL} (h : 40 < L.length) : rightA L = false := by
  unfold rightA
  rw [decide_eq_false (by omega)]
  rfl
theorem rightL_len {l : List UInt8} (h : rightL l = true) : l.length ≤ 40 := by
  by_cases hl : l.length < 1 ∨ 40 < l.length
  · rw [rightL_ends l hl] at h; cases h
  · omega
theorem atL_nat {L : AL} {n : List UInt8} {k : Nat} (h : atL L n = (k : Int)) : atN L n = k := by
  unfold atL at h
  split at h <;> omega
theorem atL_of_nat {L : AL} {n : List UInt8} {k : Nat} (h : atN L n = k) (hk : k < L.length) : atL L n = (k : Int) := by
  unfold atL
  rw [h, if_pos hk]
end Go.Proofs.YtbgcpgpkhfbijaaGreatDoor
/- Which forests are right, over data; a forest that is right is trees. Plain mathematics, no program. -/
namespace Go.Proofs.YtbgcpgpkhfbijaaGreatDoor
open Go.RowKit
/-- The node of a number, if there is one. -/
def getC (F : List Core) (i : Int) : Option Core := if 0 ≤ i then F[i.toNat]? else none
theorem getC_some {F : List Core} {i : Int} {c : Core} (h : getC F i = some c) : 0 ≤ i ∧ i.toNat < F.length ∧ F[i.toNat]? = some c := by
  unfold getC at h
  by_cases hi : 0 ≤ i
  · rw [if_pos hi] at h
    exact ⟨hi, (List.getElem?_eq_some_iff.1 h).1, h⟩
  · rw [if_neg hi] at h
    cases h
theorem getC_nat {F : List Core} {i : Nat} : getC F (i : Int) = F[i]? := by
  unfold getC
  rw [if_pos (by omega)]
  rfl
def parOk (F : List Core) (i : Nat) (x : Core) : Bool :=
  x.parent == -1 || ((x.kind == 1 || x.kind == 2) && match getC F x.parent with | some p => p.kind != 2 && hasZ p.kids i == 1 | none => false)
def kidOk (F : List Core) (i : Nat) (x : Core) (k : Int) : Bool :=
  hasZ x.kids k == 1 && match getC F k with | some c => (c.kind == 1 || c.kind == 2) && c.parent == (i : Int) && c.doc == x.doc | none => false
def kindK (F : List Core) (k : Int) : Int := match getC F k with | some c => c.kind | none => -1
def elemsK (F : List Core) (x : Core) : Nat := x.kids.countP (fun k => kindK F k == 1)
def docOk (F : List Core) (i : Nat) (x : Core) : Bool :=
  decide (0 ≤ x.kind) && decide (x.kind ≤ 4) && (match getC F x.doc with | some d => d.kind == 0 | none => false) && (x.kind != 0 || x.doc == (i : Int))
def shapeOk (F : List Core) (x : Core) : Bool := !(x.kind == 2 && decide (0 < x.kids.length)) && !(x.kind == 0 && (decide (1 < elemsK F x) || decide (elemsK F x < x.kids.length)))
def hostOk (F : List Core) (i : Nat) (x : Core) : Bool :=
  if x.kind = 4 then (match getC F x.host with | some h => h.kind == 1 && h.under == (i : Int) && h.doc == x.doc | none => false) else x.host == -1
def underOk (F : List Core) (i : Nat) (x : Core) : Bool :=
  x.under == -1 || (x.kind == 1 && match getC F x.under with | some u => u.kind == 4 && u.host == (i : Int) | none => false)
def textOk (x : Core) : Bool :=
  if x.kind = 1 then rightL x.name.toList && (smallL x.name.toList == x.name.toList) && (x.is.toList == [] || customL x.is.toList) && (x.data.toList == []) && rightA x.attrs
  else (x.name.toList == []) && (x.is.toList == []) && decide (x.attrs.length = 0) && (x.data.toList == [] || (x.kind == 2 && decide (x.data.size ≤ 200)))
def nodeOk (F : List Core) (i : Nat) (x : Core) : Bool := docOk F i x && parOk F i x && x.kids.all (kidOk F i x) && shapeOk F x && hostOk F i x && underOk F i x && textOk x
/-- One step up: to the parent, or else to the host. -/
def nextUp (F : List Core) (i : Int) : Int := match getC F i with | some c => if c.parent = -1 then c.host else c.parent | none => -1
def headDoc (F : List Core) : Bool := match F with | c :: _ => c.kind == 0 | [] => false
def rightF (most : Int) (F : List Core) : Bool :=
  decide (1 ≤ most) && decide (most ≤ 400) && decide ((F.length : Int) ≤ most) && headDoc F && F.zipIdx.all (fun p => nodeOk F p.2 p.1) && (List.range F.length).all (fun i => endsZ (nextUp F) (F.length + 1) (i : Int))
theorem rightF_iff (most : Int) (F : List Core) : rightF most F = true ↔ (1 ≤ most ∧ most ≤ 400 ∧ (F.length : Int) ≤ most ∧ headDoc F = true) ∧ (∀ (i : Nat) x, F[i]? = some x → nodeOk F i x = true) ∧ ∀ i : Nat, i < F.length → endsZ (nextUp F) (F.length + 1) (i : Int) = true := by
  unfold rightF
  simp only [Bool.and_eq_true, decide_eq_true_eq, List.all_eq_true]
  constructor
  · rintro ⟨⟨⟨⟨⟨h1, h2⟩, h3⟩, h4⟩, h5⟩, h6⟩
    exact ⟨⟨h1, h2, h3, h4⟩, fun i x hx => h5 (x, i) (List.mk_mem_zipIdx_iff_getElem?.2 hx), fun i hi => h6 i (List.mem_range.2 hi)⟩
  · rintro ⟨⟨h1, h2, h3, h4⟩, h5, h6⟩
    exact ⟨⟨⟨⟨⟨h1, h2⟩, h3⟩, h4⟩, fun p hp => h5 p.2 p.1 (List.mk_mem_zipIdx_iff_getElem?.1 hp)⟩, fun i hi => h6 i (List.mem_range.1 hi)⟩
/-! ### as trees -/
def parF (F : List Core) (i : Nat) : Option Nat := match F[i]? with | some c => if c.parent = -1 then none else some c.parent.toNat | none => none
def kidsF (F : List Core) (i : Nat) : List Nat := match F[i]? with | some c => c.kids.map Int.toNat | none => []
def rankF (F : List Core) (i : Nat) : Nat := rankZ (nextUp F) F.length (i : Int)
theorem hasZ_mem {L : List Int} {n : Int} (h : hasZ L n = 1) : n ∈ L := by
  have : 0 < L.countP (fun z => z == n) := by unfold hasZ at h; omega
  obtain ⟨z, hz, he⟩ := List.countP_pos_iff.1 this
  exact (beq_iff_eq.1 he) ▸ hz
theorem nodup_of_has : ∀ {L : List Int}, (∀ z ∈ L, hasZ L z = 1) → L.Nodup
  | [], _ => List.nodup_nil
  | a :: r, h => by
    have ha : hasZ (a :: r) a = 1 := h a (by simp)
    unfold hasZ at ha
    rw [List.countP_cons] at ha
    simp at ha
    rw [List.nodup_cons]
    refine ⟨fun hm => ?_, nodup_of_has (fun z hz => ?_)⟩
    · have : 0 < r.countP (fun z => z == a) := List.countP_pos_iff.2 ⟨a, hm, by simp⟩
      have h0 : r.countP (fun z => z == a) = 0 := by
        rw [List.countP_eq_zero]
        intro z hz
        have := ha z hz
        simpa using this
      omega
    · have h1 := h z (by simp [hz])
      unfold hasZ at h1 ⊢
      rw [List.countP_cons] at h1
      have : 0 < r.countP (fun y => y == z) := List.countP_pos_iff.2 ⟨z, hz, by simp⟩
      omega
theorem tree_of_right {most : Int} {F : List Core} (h : rightF most F = true) : Tree F.length (parF F) (kidsF F) (rankF F) := by
  obtain ⟨_, h2, h3⟩ := (rightF_iff most F).1 h
  have parts : ∀ (i : Nat) x, F[i]? = some x → parOk F i x = true ∧ (∀ k ∈ x.kids, kidOk F i x k = true) := fun i x hx => by
    have := h2 i x hx
    unfold nodeOk at this
    simp only [Bool.and_eq_true, List.all_eq_true] at this
    exact ⟨this.1.1.1.1.1.2, this.1.1.1.1.2⟩
  have kid : ∀ (i k : Nat), k ∈ kidsF F i → ∃ x c, F[i]? = some x ∧ F[k]? = some c ∧ (k : Int) ∈ x.kids ∧ c.parent = (i : Int) ∧ hasZ x.kids k = 1 := fun i k hk => by
    unfold kidsF at hk
    cases hx : F[i]? with
    | none => rw [hx] at hk; simp at hk
    | some x =>
      rw [hx] at hk
      obtain ⟨z, hz, rfl⟩ := List.mem_map.1 hk
      have g := (parts i x hx).2 z hz
      unfold kidOk at g
      cases hc : getC F z with
      | none => rw [hc] at g; simp at g
      | some c =>
        rw [hc] at g
        simp only [Bool.and_eq_true, beq_iff_eq] at g
        obtain ⟨e1, e2, e3⟩ := getC_some hc
        have hzz : ((z.toNat : Nat) : Int) = z := by omega
        exact ⟨x, c, rfl, e3, by rw [hzz]; exact hz, g.2.1.2, by rw [hzz]; exact g.1⟩
  have parent : ∀ (k i : Nat), parF F k = some i → ∃ c p, F[k]? = some c ∧ c.parent = (i : Int) ∧ F[i]? = some p ∧ (k : Int) ∈ p.kids := fun k i hp => by
    unfold parF at hp
    cases hc : F[k]? with
    | none => rw [hc] at hp; simp at hp
    | some c =>
      rw [hc] at hp
      dsimp only at hp
      by_cases he : c.parent = -1
      · rw [if_pos he] at hp; cases hp
      · rw [if_neg he] at hp
        injection hp with hp
        have g := (parts k c hc).1
        unfold parOk at g
        rw [beq_eq_false_iff_ne.2 he, Bool.false_or, Bool.and_eq_true] at g
        cases hg : getC F c.parent with
        | none => rw [hg] at g; simp at g
        | some p =>
          rw [hg] at g
          simp only [Bool.and_eq_true, beq_iff_eq] at g
          obtain ⟨e1, e2, e3⟩ := getC_some hg
          rw [hp] at e3
          exact ⟨c, p, rfl, by omega, e3, hasZ_mem g.2.2⟩
  refine ⟨fun i k hk => ?_, fun i k hk => ?_, fun i k hk hp => ?_, fun i => ?_, fun i k hk hp => ?_, fun i hi => ?_⟩
  · obtain ⟨x, c, _, hc, _⟩ := kid i k hk
    exact (List.getElem?_eq_some_iff.1 hc).1
  · obtain ⟨x, c, _, hc, _, hp, _⟩ := kid i k hk
    unfold parF
    rw [hc]
    dsimp only
    rw [if_neg (by omega), hp]
    rfl
  · obtain ⟨c, p, _, _, hpi, hm⟩ := parent k i hp
    refine ⟨(List.getElem?_eq_some_iff.1 hpi).1, ?_⟩
    unfold kidsF
    rw [hpi]
    exact List.mem_map.2 ⟨(k : Int), hm, by simp⟩
  · unfold kidsF
    cases hx : F[i]? with
    | none => simp
    | some x =>
      have hn : x.kids.Nodup := nodup_of_has (fun z hz => by
        have g := (parts i x hx).2 z hz
        unfold kidOk at g
        rw [Bool.and_eq_true, beq_iff_eq] at g
        exact g.1)
      have hpos : ∀ z ∈ x.kids, 0 ≤ z := fun z hz => by
        have g := (parts i x hx).2 z hz
        unfold kidOk at g
        cases hc : getC F z with
        | none => rw [hc] at g; simp at g
        | some c => exact (getC_some hc).1
      have key : ∀ l : List Int, l.Nodup → (∀ z ∈ l, 0 ≤ z) → (l.map Int.toNat).Nodup := by
        intro l
        induction l with
        | nil => intro _ _; simp
        | cons a r ih =>
          intro hl hp
          rw [List.nodup_cons] at hl
          rw [List.map_cons, List.nodup_cons]
          refine ⟨fun hm => ?_, ih hl.2 (fun z hz => hp z (by simp [hz]))⟩
          obtain ⟨z, hz, e⟩ := List.mem_map.1 hm
          have h1 := hp a (by simp)
          have h2 := hp z (by simp [hz])
          have : z = a := by omega
          exact hl.1 (this ▸ hz)
      exact key _ hn hpos
  · obtain ⟨c, p, hc, hpar, hpi, _⟩ := parent k i hp
    have hi := (List.getElem?_eq_some_iff.1 hpi).1
    have hnx : nextUp F (k : Int) = (i : Int) := by
      unfold nextUp
      rw [getC_nat, hc]
      dsimp only
      rw [if_neg (by omega), hpar]
    unfold rankF
    have := rankZ_up (nxt := nextUp F) (n := F.length) (i := (k : Int)) (by omega) (h3 k hk) (by rw [hnx]; exact h3 i hi)
    rw [this, hnx]
  · exact rankZ_le (n := F.length) (h3 i hi)
/-! ### what is asked of a forest that is right -/
def rootF (F : List Core) (a : Nat) : Nat := rootN (parF F) (F.length + 1) a
def ordF (F : List Core) (a : Nat) : List Nat := ordN (kidsF F) (F.length + 1) a
def holdsF (F : List Core) (a b : Nat) : Bool := decide (b ∈ ordF F a)
def placeF (F : List Core) (a : Nat) : Int := match parF F a with | some p => findZ (match F[p]? with | some c => c.kids | none => []) (a : Int) | none => -1
def aheadF (F : List Core) (a b : Nat) : Bool := decide (rootF F a = rootF F b) && decide (posN (ordF F (rootF F a)) a < posN (ordF F (rootF F a)) b)
end Go.Proofs.YtbgcpgpkhfbijaaGreatDoor
/- instarref03's Short. -/
namespace Go.Proofs.YtbgcpgpkhfbijaaGreatDoor
open Go.RowKit
/-- The value of a forest. -/
abbrev forV (a : Option Addr) (len cap : Nat) (m : Int) : Value := .agg #[.slice a len cap, .int .i64 m]
/-- The block in which a forest by value is boxed. -/
abbrev forB (a : Option Addr) (len cap : Nat) (m : Int) : Obj := .cells #[.slice a len cap, .int .i64 m] 24
def shortN (x : NodeD) : Bool := decide (x.core.kids.length ≤ 60) && decide (x.core.attrs.length ≤ 60) && decide (x.core.name.size ≤ 300)
def shortF (L : List NodeD) : Bool := decide (L.length ≤ 60) && L.all shortN
theorem below_box (w : World) (B : Obj) : Below w.heap.size w (w.alloc B) := (Below.refl _ _).alloc (Nat.le_refl _) B
set_option maxHeartbeats 4000000 in
set_option maxRecDepth 100000 in
theorem refshortF_any (a : Option Addr) (len cap : Nat) (m : Int) (L : List NodeD) (w : World) (h0 : NodeRow w a len cap L) :
    Calls Tryz.prog 14 #[forV a len cap m] w fun e w' => e = .returned (.bool (shortF L)) ∧ Below w.heap.size w w' := by
  have hl := h0.len64
  have HLN := Lib.hid h0.hlen
  have h := h0.below (below_box w (forB a len cap m))
  clear h0
  by_cases h60 : 60 < len
  · have HR : Hid (shortF L = false) := Lib.hid (by unfold shortF; rw [decide_eq_false (by rw [HLN.out]; omega)]; rfl)
    go_enter Tryz.func14, Tryz.ntmps14
    go_wp2
    go_ret
    exact ⟨ret_bool HR.out.symm, below_box _ _⟩
  go_enter Tryz.func14, Tryz.ntmps14
  go_wp2
  go_loop [3] (fun i => ∃ k : Nat, k ≤ len ∧ i = .int .i64 k ∧ Hid (∀ (j : Nat) x, j < k → L[j]? = some x → shortN x = true)) (fun i => len - (intOf i).toNat)
  case atStart => exact ⟨0, Nat.zero_le _, rfl, Lib.hid (fun j x hj _ => absurd hj (by omega))⟩
  case round =>
    obtain ⟨k, hk, rfl, HA⟩ := hrel
    by_cases hlt : k < len
    · obtain ⟨b, off, x, rfl, hb, hx, hc, hok⟩ := h.get hlt
      have hb2 : b < w.heap.size + 1 := by simpa using hb
      have c1 := hc.c1
      have c4 := hc.c4
      have c6 := hc.c6
      have HK := Lib.hid hok.kids.hlen
      have HAN := Lib.hid hok.attrs.hlen
      have hk6 := hok.kids.len64
      have ha6 := hok.attrs.len64
      have hn6 : x.core.name.size ≤ 9223372036854775807 := by have := hok.name; unfold maxLen at this; omega
      have HX := Lib.hid hx
      have stop : shortN x = false → shortF L = false := fun hs => by
        unfold shortF
        have : L.all shortN = false := by rw [List.all_eq_false]; exact ⟨x, List.mem_of_getElem? HX.out, by simp [hs]⟩
        rw [this, Bool.and_false]
      have STOP := Lib.hid stop
      clear hc hok hx stop
      by_cases q1 : (60 : Int) < (x.kN : Int)
      · have HR : Hid (shortF L = false) := Lib.hid (STOP.out (by unfold shortN; rw [decide_eq_false (by rw [HK.out]; omega)]; rfl))
        go_wp2
        go_ret
        exact ⟨ret_bool HR.out.symm, below_box _ _⟩
      by_cases q2 : (60 : Int) < (x.aN : Int)
      · have HR : Hid (shortF L = false) := Lib.hid (STOP.out (by unfold shortN; rw [decide_eq_false (show ¬ x.core.attrs.length ≤ 60 by rw [HAN.out]; omega)]; simp))
        go_wp2
        go_ret
        exact ⟨ret_bool HR.out.symm, below_box _ _⟩
      by_cases q3 : (300 : Int) < (x.core.name.size : Int)
      · have HR : Hid (shortF L = false) := Lib.hid (STOP.out (by unfold shortN; rw [decide_eq_false (show ¬ x.core.name.size ≤ 300 by omega)]; simp))
        go_wp2
        go_ret
        exact ⟨ret_bool HR.out.symm, below_box _ _⟩
      have HS : Hid (shortN x = true) := Lib.hid (by
        unfold shortN
        rw [decide_eq_true (show x.core.kids.length ≤ 60 by rw [HK.out]; omega), decide_eq_true (show x.core.attrs.length ≤ 60 by rw [HAN.out]; omega), decide_eq_true (show x.core.name.size ≤ 300 by omega)]
        rfl)
      go_wp2
      go_round
      case rel =>
        refine ⟨k + 1, by omega, by go_num, Lib.hid (fun j y hj hy => ?_)⟩
        by_cases e : j = k
        · subst e
          rw [HX.out] at hy
          rw [← Option.some.inj hy]
          exact HS.out
        · exact HA.out j y (by omega) hy
      case measure => simp [intOf]; omega
    · have HR : Hid (shortF L = true) := Lib.hid (by
        unfold shortF
        have : L.all shortN = true := by
          rw [List.all_eq_true]
          intro x hx
          obtain ⟨j, hj, he⟩ := List.mem_iff_getElem.1 hx
          exact HA.out j x (by rw [HLN.out] at hj; omega) (by rw [List.getElem?_eq_getElem hj, he])
        rw [this, decide_eq_true (by rw [HLN.out]; omega)]
        rfl)
      go_wp2
      go_ret
      exact ⟨ret_bool HR.out.symm, below_box _ _⟩
end Go.Proofs.YtbgcpgpkhfbijaaGreatDoor
/- What is asked of package forest's functions: their contracts, as one property. -/
namespace Go.Proofs.YtbgcpgpkhfbijaaGreatDoor
open Go.RowKit
/-- A node by value (the same as in ForestSame, where that is built, too). -/
abbrev nodVal (x : NodeD) : Value := .agg #[.int .i64 x.core.kind, .string x.core.name, .string x.core.is, .string x.core.data, .slice x.aA x.aN x.aC, .int .i64 x.core.parent, .slice x.kA x.kN x.kC, .int .i64 x.core.host, .int .i64 x.core.under, .int .i64 x.core.doc]
def smallN (x : NodeD) : Prop := x.core.kids.length ≤ 1000 ∧ x.core.attrs.length ≤ 1000 ∧ x.core.name.size ≤ 1000
/-- What a node given to Make keeps to (its children may be any: Make leaves them out). -/
def smallX (x : NodeD) : Prop := x.core.attrs.length ≤ 1000 ∧ x.core.name.size ≤ 1000
def smallF (L : List NodeD) : Prop := L.length ≤ 1000 ∧ ∀ x ∈ L, smallN x
theorem small_of_short {L : List NodeD} (h : shortF L = true) : smallF L := by
  unfold shortF at h
  simp only [Bool.and_eq_true, decide_eq_true_eq, List.all_eq_true] at h
  refine ⟨by omega, fun x hx => ?_⟩
  have := h.2 x hx
  unfold shortN at this
  simp only [Bool.and_eq_true, decide_eq_true_eq] at this
  exact ⟨by omega, by omega, by omega⟩
def docC : Core := ⟨0, ⟨#[]⟩, ⟨#[]⟩, ⟨#[]⟩, [], -1, [], -1, -1, 0⟩
def newOk (most : Int) : Bool := decide (1 ≤ most) && decide (most ≤ 400)
def newL (most : Int) : List Core := if newOk most then [docC] else []
def newM (most : Int) : Int := if newOk most then most else 0
def newE (most : Int) : Int := if newOk most then 0 else 1
/-- The node that Make makes. -/
def bareC (F : List Core) (x : Core) : Core := ⟨x.kind, x.name, x.is, x.data, x.attrs, -1, [], -1, -1, if x.kind = 0 then (F.length : Int) else x.doc⟩
def makeE (m : Int) (F : List Core) (x : Core) : Int :=
  if rightF m F && x.kind != 4 && nodeOk (F ++ [bareC F x]) F.length (bareC F x) then (if m ≤ (F.length : Int) then 8 else 0) else 1
def makeL (m : Int) (F : List Core) (x : Core) : List Core := if makeE m F x = 0 then F ++ [bareC F x] else F
def makeN (m : Int) (F : List Core) (x : Core) : Int := if makeE m F x = 0 then (F.length : Int) else -1
def thereF (m : Int) (F : List Core) (n : Int) : Bool := rightF m F && decide (0 ≤ n) && decide (n < (F.length : Int))
def rootZ (m : Int) (F : List Core) (n : Int) : Int := if thereF m F n then (rootF F n.toNat : Int) else -1
def ordZ (m : Int) (F : List Core) (n : Int) : List Int := if thereF m F n then (ordF F n.toNat).map Int.ofNat else []
def holdsZ (m : Int) (F : List Core) (a b : Int) : Bool := thereF m F a && thereF m F b && holdsF F a.toNat b.toNat
def placeZ (m : Int) (F : List Core) (n : Int) : Int := if thereF m F n then placeF F n.toNat else -1
def aheadZ (m : Int) (F : List Core) (a b : Int) : Bool := thereF m F a && thereF m F b && aheadF F a.toNat b.toNat
/-- A call that hands back a forest, and more. -/
def ForPost (w : World) (F : List Core) (m : Int) (rest : List Value) (e : Ending) (w' : World) : Prop :=
  ∃ a len cap L, e = .returned (.tuple (forV a len cap m :: rest).toArray) ∧ NodeRow w' a len cap L ∧ coreL L = F ∧ Below w.heap.size w w'
def OrdPost (w : World) (l : List Int) (e : Ending) (w' : World) : Prop := ∃ a len cap, e = .returned (.slice a len cap) ∧ IntRow w' a len cap l ∧ Below w.heap.size w w'
end Go.Proofs.YtbgcpgpkhfbijaaGreatDoor
/- '==' and '!=' on two attributes. -/
namespace Go.Proofs.YtbgcpgpkhfbijaaGreatDoor
open Go.RowKit
theorem attr_fields : Tryz.prog.underlying 160 = some (.struct (Tryz.prog.fieldsOf 160)) := by
  unfold Program.fieldsOf
  rw [Tryz.underlying160]
theorem attr_held : Tryz.prog.stoodInHeld 160 = false := by kernel_rfl
theorem attr_guard : Tryz.prog.eqGuardType Tryz.prog.depth 160 = false := by kernel_rfl
theorem attr_equal (xn xv yn yv : ByteArray) (W : World) :
    (Op.equalIn 10000 160 (.agg #[.string xn, .string xv]) (.agg #[.string yn, .string yv])).run Tryz.prog W = .ok (pairB (xn, xv) (yn, yv)) W := by
  have u9 := Tryz.underlying9
  have a9 := Tryz.isAgg9
  have z9 := Tryz.sizeOf9
  rw [show (10000 : Nat) = 9999 + 1 from rfl, run_equalIn_agg W 9999 160 _ _ attr_fields attr_held]
  simp only [Program.fieldsOf, Tryz.underlying160]
  go_simp
  unfold pairB
  by_cases h1 : xn.toList = yn.toList <;> by_cases h2 : xv.toList = yv.toList <;> simp [h1, h2]
theorem attr_neq (xn xv yn yv : ByteArray) (W : World) :
    (binOp .neq 160 (.agg #[.string xn, .string xv]) (.agg #[.string yn, .string yv])).run Tryz.prog W = .ok (.bool (!pairB (xn, xv) (yn, yv))) W := by
  rw [run_neq_struct, attr_equal]
  rfl
theorem attr_eql (xn xv yn yv : ByteArray) (W : World) :
    (binOp .eql 160 (.agg #[.string xn, .string xv]) (.agg #[.string yn, .string yv])).run Tryz.prog W = .ok (.bool (pairB (xn, xv) (yn, yv))) W := by
  rw [run_eql_struct, attr_equal]
  rfl
end Go.Proofs.YtbgcpgpkhfbijaaGreatDoor
