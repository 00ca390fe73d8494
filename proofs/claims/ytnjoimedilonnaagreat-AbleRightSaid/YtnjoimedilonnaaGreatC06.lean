/- Texts joined in build order: TreeMath TreeRoot ForestRow ForestRefs. -/
import Derived.WalkKit
import Derived.Test.YtnjoimedilonnaaGreatC05
import Derived.Test.YtnjoimedilonnaaGreatChecked
import Derived.WalkLawsBesides
import Derived.Lib.Hide
import Derived.Deep.QuietTactic
import Derived.BigQuiet
namespace Go.Proofs.YtnjoimedilonnaaGreat
theorem flat_congr {α β : Type} {f g : α → List β} : ∀ {l : List α}, (∀ x ∈ l, f x = g x) → l.flatMap f = l.flatMap g
  | [], _ => rfl
  | x :: r, h => by
    rw [List.flatMap_cons, List.flatMap_cons, h x (by simp), flat_congr (fun y hy => h y (by simp [hy]))]
structure Tree (n : Nat) (par : Nat → Option Nat) (kids : Nat → List Nat) (rank : Nat → Nat) : Prop where
  kid_lt : ∀ i k, k ∈ kids i → k < n
  kid_par : ∀ i k, k ∈ kids i → par k = some i
  par_kid : ∀ i k, k < n → par k = some i → i < n ∧ k ∈ kids i
  nodup : ∀ i, (kids i).Nodup
  rank_up : ∀ i k, k < n → par k = some i → rank k = rank i + 1
  rank_le : ∀ i, i < n → rank i ≤ n + 1
section
variable {n : Nat} {par : Nat → Option Nat} {kids : Nat → List Nat} {rank : Nat → Nat}
def upN (par : Nat → Option Nat) : Nat → Nat → Option Nat
  | 0, b => some b
  | m + 1, b => (par b).bind (upN par m)
def holdsT (par : Nat → Option Nat) (a b : Nat) : Prop := ∃ m, upN par m b = some a
theorem holds_refl (a : Nat) : holdsT par a a := ⟨0, rfl⟩
theorem upN_add : ∀ (m k b c : Nat), upN par m b = some c → upN par (m + k) b = upN par k c
  | 0, k, b, c, h => by
    injection h with h
    subst h
    rw [Nat.zero_add]
  | m + 1, k, b, c, h => by
    rw [show m + 1 + k = (m + k) + 1 by omega]
    show (par b).bind (upN par (m + k)) = upN par k c
    unfold upN at h
    cases hp : par b with
    | none => rw [hp] at h; cases h
    | some p =>
      rw [hp] at h
      exact upN_add m k p c h
theorem holds_trans {a b c : Nat} (h1 : holdsT par a b) (h2 : holdsT par b c) : holdsT par a c := by
  obtain ⟨m1, h1⟩ := h1
  obtain ⟨m2, h2⟩ := h2
  exact ⟨m2 + m1, by rw [upN_add m2 m1 c b h2]; exact h1⟩
theorem holds_par {p b : Nat} (h : par b = some p) : holdsT par p b := ⟨1, by unfold upN; rw [h]; rfl⟩
theorem holds_line {a b c : Nat} (h1 : holdsT par a c) (h2 : holdsT par b c) : holdsT par a b ∨ holdsT par b a := by
  obtain ⟨m1, h1⟩ := h1
  obtain ⟨m2, h2⟩ := h2
  rcases Nat.le_total m1 m2 with h | h
  · right
    refine ⟨m2 - m1, ?_⟩
    have := upN_add m1 (m2 - m1) c a h1
    rw [show m1 + (m2 - m1) = m2 by omega, h2] at this
    exact this.symm
  · left
    refine ⟨m1 - m2, ?_⟩
    have := upN_add m2 (m1 - m2) c b h2
    rw [show m2 + (m1 - m2) = m1 by omega, h1] at this
    exact this.symm
theorem holds_up {a b : Nat} (h : holdsT par a b) : a = b ∨ ∃ p, par b = some p ∧ holdsT par a p := by
  obtain ⟨m, h⟩ := h
  cases m with
  | zero => injection h with h; exact .inl h.symm
  | succ m =>
    unfold upN at h
    cases hp : par b with
    | none => rw [hp] at h; cases h
    | some p => rw [hp] at h; exact .inr ⟨p, rfl, m, h⟩
theorem Tree.up_lt (T : Tree n par kids rank) : ∀ (m b a : Nat), b < n → upN par m b = some a → a < n ∧ rank b = rank a + m
  | 0, b, a, hb, h => by
    injection h with h
    subst h
    exact ⟨hb, rfl⟩
  | m + 1, b, a, hb, h => by
    unfold upN at h
    cases hp : par b with
    | none => rw [hp] at h; cases h
    | some p =>
      rw [hp] at h
      obtain ⟨hpn, _⟩ := T.par_kid p b hb hp
      obtain ⟨h1, h2⟩ := T.up_lt m p a hpn h
      have := T.rank_up p b hb hp
      exact ⟨h1, by omega⟩
theorem Tree.holds_rank (T : Tree n par kids rank) {a b : Nat} (hb : b < n) (h : holdsT par a b) : a < n ∧ rank a ≤ rank b ∧ (rank a = rank b → a = b) := by
  obtain ⟨m, h⟩ := h
  obtain ⟨h1, h2⟩ := T.up_lt m b a hb h
  refine ⟨h1, by omega, fun e => ?_⟩
  have hm : m = 0 := by omega
  subst hm
  injection h with h
  exact h.symm
theorem Tree.holds_anti (T : Tree n par kids rank) {a b : Nat} (ha : a < n) (hb : b < n) (h1 : holdsT par a b) (h2 : holdsT par b a) : a = b := by
  have g1 := T.holds_rank hb h1
  have g2 := T.holds_rank ha h2
  exact g1.2.2 (by omega)
def ordN (kids : Nat → List Nat) : Nat → Nat → List Nat
  | 0, i => [i]
  | f + 1, i => i :: (kids i).flatMap (ordN kids f)
theorem ordN_head (f i : Nat) : ∃ r, ordN kids f i = i :: r := by
  cases f with
  | zero => exact ⟨_, rfl⟩
  | succ f => exact ⟨_, rfl⟩
theorem Tree.kid_rank (T : Tree n par kids rank) {i k : Nat} (hk : k ∈ kids i) : k < n ∧ rank k = rank i + 1 := ⟨T.kid_lt i k hk, T.rank_up i k (T.kid_lt i k hk) (T.kid_par i k hk)⟩
theorem Tree.ord_more (T : Tree n par kids rank) : ∀ (f i : Nat), i < n → n + 1 ≤ rank i + f → ordN kids (f + 1) i = ordN kids f i
  | 0, i, hi, h => by
    have hk : kids i = [] := by
      cases hks : kids i with
      | nil => rfl
      | cons k r =>
        have hm : k ∈ kids i := by rw [hks]; simp
        obtain ⟨h1, h2⟩ := T.kid_rank hm
        have := T.rank_le k h1
        omega
    unfold ordN
    rw [hk]
    rfl
  | f + 1, i, hi, h => by
    rw [show ordN kids (f + 1 + 1) i = i :: (kids i).flatMap (ordN kids (f + 1)) from rfl, show ordN kids (f + 1) i = i :: (kids i).flatMap (ordN kids f) from rfl]
    congr 1
    refine flat_congr (fun k hk => ?_)
    obtain ⟨h1, h2⟩ := T.kid_rank hk
    exact T.ord_more f k h1 (by omega)
theorem Tree.mem_ord (T : Tree n par kids rank) : ∀ (f i : Nat), i < n → n + 1 ≤ rank i + f → ∀ b, b < n → (b ∈ ordN kids f i ↔ holdsT par i b)
  | 0, i, hi, h, b, hb => by
    unfold ordN
    rw [List.mem_singleton]
    constructor
    · rintro rfl
      exact holds_refl _
    · intro hh
      have g := T.holds_rank hb hh
      have := T.rank_le b hb
      exact (g.2.2 (by omega)).symm
  | f + 1, i, hi, h, b, hb => by
    unfold ordN
    rw [List.mem_cons, List.mem_flatMap]
    constructor
    · rintro (rfl | ⟨k, hk, hm⟩)
      · exact holds_refl _
      · obtain ⟨h1, h2⟩ := T.kid_rank hk
        exact holds_trans (holds_par (T.kid_par i k hk)) ((T.mem_ord f k h1 (by omega) b hb).1 hm)
    · rintro ⟨m, hm⟩
      cases m with
      | zero => injection hm with hm; exact .inl hm
      | succ m =>
        right
        -- the last step's child
        have key : ∀ (m b : Nat), b < n → upN par (m + 1) b = some i → ∃ k, k ∈ kids i ∧ holdsT par k b := by
          intro m
          induction m with
          | zero =>
            intro b hb hm
            unfold upN at hm
            cases hp : par b with
            | none => rw [hp] at hm; cases hm
            | some p =>
              rw [hp] at hm
              injection hm with hm
              subst hm
              exact ⟨b, (T.par_kid _ b hb hp).2, holds_refl _⟩
          | succ m ih =>
            intro b hb hm
            unfold upN at hm
            cases hp : par b with
            | none => rw [hp] at hm; cases hm
            | some p =>
              rw [hp] at hm
              obtain ⟨k, hk, hh⟩ := ih p (T.par_kid _ b hb hp).1 hm
              exact ⟨k, hk, holds_trans hh (holds_par hp)⟩
        obtain ⟨k, hk, hh⟩ := key m b hb hm
        obtain ⟨h1, h2⟩ := T.kid_rank hk
        exact ⟨k, hk, (T.mem_ord f k h1 (by omega) b hb).2 hh⟩
theorem Tree.ord_lt (T : Tree n par kids rank) : ∀ (f i : Nat), i < n → ∀ b ∈ ordN kids f i, b < n
  | 0, i, hi, b, hb => by
    unfold ordN at hb
    rw [List.mem_singleton] at hb
    omega
  | f + 1, i, hi, b, hb => by
    unfold ordN at hb
    rw [List.mem_cons, List.mem_flatMap] at hb
    rcases hb with rfl | ⟨k, hk, hm⟩
    · exact hi
    · exact T.ord_lt f k (T.kid_rank hk).1 b hm
theorem Tree.kids_apart (T : Tree n par kids rank) {i k1 k2 b : Nat} (hk1 : k1 ∈ kids i) (hk2 : k2 ∈ kids i) (h1 : holdsT par k1 b) (h2 : holdsT par k2 b) : k1 = k2 := by
  obtain ⟨l1, r1⟩ := T.kid_rank hk1
  obtain ⟨l2, r2⟩ := T.kid_rank hk2
  rcases holds_line h1 h2 with h | h
  · exact (T.holds_rank l2 h).2.2 (by omega)
  · exact ((T.holds_rank l1 h).2.2 (by omega)).symm
theorem Tree.ord_nodup (T : Tree n par kids rank) : ∀ (f i : Nat), i < n → n + 1 ≤ rank i + f → (ordN kids f i).Nodup
  | 0, i, _, _ => by unfold ordN; simp
  | f + 1, i, hi, h => by
    unfold ordN
    rw [List.nodup_cons]
    refine ⟨fun hm => ?_, ?_⟩
    · obtain ⟨k, hk, hm⟩ := List.mem_flatMap.1 hm
      obtain ⟨h1, h2⟩ := T.kid_rank hk
      have := T.holds_rank hi ((T.mem_ord f k h1 (by omega) i hi).1 hm)
      omega
    · have key : ∀ (l : List Nat), l.Nodup → (∀ k ∈ l, k ∈ kids i) → (l.flatMap (ordN kids f)).Nodup := by
        intro l
        induction l with
        | nil => intro _ _; simp
        | cons k r ih =>
          intro hn hl
          rw [List.nodup_cons] at hn
          rw [List.flatMap_cons, List.nodup_append]
          obtain ⟨h1, h2⟩ := T.kid_rank (hl k (by simp))
          refine ⟨T.ord_nodup f k h1 (by omega), ih hn.2 (fun j hj => hl j (by simp [hj])), fun a ha b hbm e => ?_⟩
          subst e
          obtain ⟨k2, hk2, hm2⟩ := List.mem_flatMap.1 hbm
          obtain ⟨g1, g2⟩ := T.kid_rank (hl k2 (by simp [hk2]))
          have hbn := T.ord_lt f k h1 a ha
          have := T.kids_apart (hl k (by simp)) (hl k2 (by simp [hk2])) ((T.mem_ord f k h1 (by omega) a hbn).1 ha) ((T.mem_ord f k2 g1 (by omega) a hbn).1 hm2)
          subst this
          exact hn.1 hk2
      exact key (kids i) (T.nodup i) (fun k hk => hk)
def BetweenFrom (par : Nat → Option Nat) (s : Nat) (l : List Nat) : Prop :=
  ∀ i c, s ≤ i → l[i]? = some c → ∃ j p, j < i ∧ par c = some p ∧ l[j]? = some p ∧ ∀ k x, j < k → k < i → l[k]? = some x → holdsT par p x ∧ ¬ holdsT par c x
theorem Tree.between_kids (T : Tree n par kids rank) {f i : Nat} (hf : n + 1 ≤ rank i + (f + 1)) (ih : ∀ k ∈ kids i, BetweenFrom par 1 (ordN kids f k)) :
    ∀ (ks pre : List Nat), ks.Nodup → (∀ k ∈ ks, k ∈ kids i) → (∀ x ∈ pre, holdsT par i x ∧ ∀ k ∈ ks, ¬ holdsT par k x) → BetweenFrom par (1 + pre.length) ((i :: pre) ++ ks.flatMap (ordN kids f))
  | [], pre, _, _, _ => by
    intro t c ht hc
    have := (List.getElem?_eq_some_iff.1 hc).1
    simp at this
    omega
  | k :: r, pre, hn, hk, hpre => by
    intro t c ht hc
    rw [List.nodup_cons] at hn
    rw [List.flatMap_cons] at hc ⊢
    have hkk := hk k (by simp)
    obtain ⟨hkn, hkr⟩ := T.kid_rank hkk
    by_cases hin : t < 1 + pre.length + (ordN kids f k).length
    · -- in k's own block
      have hc2 : (ordN kids f k)[t - (1 + pre.length)]? = some c := by
        rw [List.getElem?_append_right (by simp; omega), List.getElem?_append_left (by simp; omega)] at hc
        rw [← hc]
        congr 1
        simp
        omega
      have shift : ∀ u, u < (ordN kids f k).length → ((i :: pre) ++ (ordN kids f k ++ r.flatMap (ordN kids f)))[1 + pre.length + u]? = (ordN kids f k)[u]? := fun u hu => by
        rw [List.getElem?_append_right (by simp; omega), List.getElem?_append_left (by simp; omega)]
        congr 1
        simp
        omega
      by_cases hu : t = 1 + pre.length
      · obtain ⟨rr, hr⟩ := ordN_head (kids := kids) f k
        have hck : c = k := by
          rw [hu, Nat.sub_self, hr] at hc2
          simpa using hc2.symm
        subst hck
        refine ⟨0, i, by omega, T.kid_par i c hkk, rfl, fun q x hq1 hq2 hx => ?_⟩
        have hxp : pre[q - 1]? = some x := by
          rw [List.getElem?_append_left (by simp; omega)] at hx
          obtain ⟨q', rfl⟩ : ∃ q', q = q' + 1 := ⟨q - 1, by omega⟩
          simpa using hx
        have := hpre x (List.mem_of_getElem? hxp)
        exact ⟨this.1, this.2 c (by simp)⟩
      · obtain ⟨j, p, hj, hp, hjp, hb⟩ := ih k hkk (t - (1 + pre.length)) c (by omega) hc2
        refine ⟨1 + pre.length + j, p, by omega, hp, by rw [shift j (by omega)]; exact hjp, fun q x hq1 hq2 hx => ?_⟩
        have hx2 : (ordN kids f k)[q - (1 + pre.length)]? = some x := by
          rw [← shift (q - (1 + pre.length)) (by omega), ← hx]
          congr 1
          omega
        exact hb (q - (1 + pre.length)) x (by omega) (by omega) hx2
    · -- behind it
      have e : (i :: pre) ++ (ordN kids f k ++ r.flatMap (ordN kids f)) = (i :: (pre ++ ordN kids f k)) ++ r.flatMap (ordN kids f) := by simp
      rw [e] at hc ⊢
      refine T.between_kids hf ih r (pre ++ ordN kids f k) hn.2 (fun j hj => hk j (by simp [hj])) (fun x hx => ?_) t c (by rw [List.length_append]; omega) hc
      rcases List.mem_append.1 hx with hx | hx
      · exact ⟨(hpre x hx).1, fun j hj => (hpre x hx).2 j (by simp [hj])⟩
      · have hxn := T.ord_lt f k hkn x hx
        have hh := (T.mem_ord f k hkn (by omega) x hxn).1 hx
        refine ⟨holds_trans (holds_par (T.kid_par i k hkk)) hh, fun j hj hjx => ?_⟩
        have := T.kids_apart (hk j (by simp [hj])) hkk hjx hh
        subst this
        exact hn.1 hj
theorem Tree.ord_between (T : Tree n par kids rank) : ∀ (f i : Nat), i < n → n + 1 ≤ rank i + f → BetweenFrom par 1 (ordN kids f i)
  | 0, i, _, _ => by
    intro t c ht hc
    have := (List.getElem?_eq_some_iff.1 hc).1
    unfold ordN at this
    simp at this
    omega
  | f + 1, i, hi, h => by
    have := T.between_kids (f := f) (i := i) (by omega) (fun k hk => T.ord_between f k (T.kid_rank hk).1 (by have := (T.kid_rank hk).2; omega)) (kids i) [] (T.nodup i) (fun k hk => hk) (by simp)
    exact this
end
end Go.Proofs.YtnjoimedilonnaaGreat
namespace Go.Proofs.YtnjoimedilonnaaGreat
section
variable {n : Nat} {par : Nat → Option Nat} {kids : Nat → List Nat} {rank : Nat → Nat}
def rootN (par : Nat → Option Nat) : Nat → Nat → Nat
  | 0, i => i
  | f + 1, i => match par i with
    | none => i
    | some p => rootN par f p
theorem rootN_none {f i : Nat} (h : par i = none) : rootN par f i = i := by
  cases f with
  | zero => rfl
  | succ f => unfold rootN; rw [h]
theorem rootN_some {f i p : Nat} (h : par i = some p) : rootN par (f + 1) i = rootN par f p := by
  show (match par i with | none => i | some p => rootN par f p) = _
  rw [h]
theorem rootN_holds : ∀ (f i : Nat), holdsT par (rootN par f i) i
  | 0, i => holds_refl i
  | f + 1, i => by
    cases h : par i with
    | none => rw [rootN_none h]; exact holds_refl i
    | some p => rw [rootN_some h]; exact holds_trans (rootN_holds f p) (holds_par h)
theorem Tree.root_top (T : Tree n par kids rank) : ∀ (f i : Nat), i < n → rank i ≤ f → par (rootN par f i) = none
  | 0, i, hi, h => by
    cases hp : par i with
    | none => exact hp
    | some p => have := T.rank_up p i hi hp; omega
  | f + 1, i, hi, h => by
    cases hp : par i with
    | none => rw [rootN_none hp]; exact hp
    | some p =>
      rw [rootN_some hp]
      have := T.rank_up p i hi hp
      exact T.root_top f p (T.par_kid p i hi hp).1 (by omega)
theorem Tree.root_of (T : Tree n par kids rank) {f a b : Nat} (hb : b < n) (hf : rank b ≤ f) (h : holdsT par a b) (hp : par a = none) : rootN par f b = a := by
  have h2 := T.root_top f b hb hf
  have h3 := rootN_holds (par := par) f b
  rcases holds_line h h3 with h4 | h4
  · rcases holds_up h4 with e | ⟨p, hp2, _⟩
    · exact e.symm
    · rw [h2] at hp2; cases hp2
  · rcases holds_up h4 with e | ⟨p, hp2, _⟩
    · exact e
    · rw [hp] at hp2; cases hp2
theorem Tree.root_held (T : Tree n par kids rank) {f a b : Nat} (hb : b < n) (hf : n + 1 ≤ f) (h : holdsT par a b) : rootN par f a = rootN par f b := by
  have ha := (T.holds_rank hb h).1
  have r1 := T.rank_le a ha
  have r2 := T.rank_le b hb
  exact (T.root_of hb (by omega) (holds_trans (rootN_holds f a) h) (T.root_top f a ha (by omega))).symm
theorem Tree.root_lt (T : Tree n par kids rank) {f a : Nat} (ha : a < n) : rootN par f a < n := (T.holds_rank ha (rootN_holds f a)).1
theorem Tree.in_root (T : Tree n par kids rank) {f g a : Nat} (ha : a < n) (hg : n + 1 ≤ g) : a ∈ ordN kids g (rootN par f a) :=
  (T.mem_ord g _ (T.root_lt ha) (by omega) a ha).2 (rootN_holds f a)
end
def endsZ (nxt : Int → Int) : Nat → Int → Bool
  | 0, i => i == -1
  | s + 1, i => i == -1 || endsZ nxt s (nxt i)
theorem endsZ_step {nxt : Int → Int} {s : Nat} {i : Int} (h : i ≠ -1) : endsZ nxt (s + 1) i = endsZ nxt s (nxt i) := by
  show (i == -1 || endsZ nxt s (nxt i)) = _
  rw [beq_eq_false_iff_ne.2 h, Bool.false_or]
def rankZ (nxt : Int → Int) (n : Nat) (i : Int) : Nat := (List.range (n + 2)).findIdx (fun s => endsZ nxt s i)
theorem rankZ_le {nxt : Int → Int} {n : Nat} {i : Int} {s : Nat} (h : endsZ nxt s i = true) : rankZ nxt n i ≤ s := by
  unfold rankZ
  rcases Nat.lt_or_ge s ((List.range (n + 2)).findIdx (fun s => endsZ nxt s i)) with h1 | h1
  · have := List.not_of_lt_findIdx h1
    rw [List.getElem_range] at this
    rw [h] at this
    cases this
  · exact h1
theorem rankZ_ends {nxt : Int → Int} {n : Nat} {i : Int} (h : endsZ nxt (n + 1) i = true) : endsZ nxt (rankZ nxt n i) i = true := by
  have hlt : rankZ nxt n i < (List.range (n + 2)).length := by
    have := rankZ_le (n := n) h
    rw [List.length_range]
    omega
  have := List.findIdx_getElem (xs := List.range (n + 2)) (p := fun s => endsZ nxt s i) (w := hlt)
  have h3 : (List.range (n + 2))[rankZ nxt n i]'hlt = rankZ nxt n i := by simp
  have h4 : endsZ nxt ((List.range (n + 2))[rankZ nxt n i]'hlt) i = true := this
  rwa [h3] at h4
theorem rankZ_up {nxt : Int → Int} {n : Nat} {i : Int} (hi : i ≠ -1) (h : endsZ nxt (n + 1) i = true) (hp : endsZ nxt (n + 1) (nxt i) = true) : rankZ nxt n i = rankZ nxt n (nxt i) + 1 := by
  have h1 := rankZ_ends h
  have h2 := rankZ_ends hp
  have h3 := rankZ_le (n := n) h
  cases hr : rankZ nxt n i with
  | zero =>
    rw [hr] at h1
    exact absurd (beq_iff_eq.1 h1) hi
  | succ s =>
    rw [hr, endsZ_step hi] at h1
    rw [hr] at h3
    have h4 := rankZ_le (n := n) h1
    have h5 : endsZ nxt (rankZ nxt n (nxt i) + 1) i = true := by rw [endsZ_step hi]; exact h2
    have h6 := rankZ_le (n := n) h5
    omega
end Go.Proofs.YtnjoimedilonnaaGreat
namespace Go.Proofs.YtnjoimedilonnaaGreat
open Go.RowKit
def In64 (z : Int) : Prop := -9223372036854775808 ≤ z ∧ z ≤ 9223372036854775807
def encZ (z : Int) : List Value := [.int .i64 z]
theorem encZ_len (z : Int) : (encZ z).length = 1 := rfl
theorem encZ_one (z : Int) : ∀ u ∈ encZ z, u.oneCell' = true := by
  intro u hu
  simp [encZ] at hu
  rw [hu]
  rfl
structure IntRow (w : World) (a : Option Addr) (len cap : Nat) (L : List Int) : Prop where
  row : SRow encZ 1 w a len cap L
  inb : ∀ z ∈ L, In64 z
  hnil : a = none → cap = 0
section
variable {w w' : World} {a : Option Addr} {len cap : Nat} {L : List Int}
theorem IntRow.hlen (h : IntRow w a len cap L) : L.length = len := h.row.hlen
theorem IntRow.len64 (h : IntRow w a len cap L) : len ≤ 9223372036854775807 := h.row.len64
theorem IntRow.below (h : IntRow w a len cap L) (hb : Below w.heap.size w w') : IntRow w' a len cap L := ⟨h.row.below hb, h.inb, h.hnil⟩
theorem IntRow.drewN (h : IntRow w a len cap L) (n : Nat) : IntRow (w.drewN n) a len cap L := ⟨h.row.drewN n, h.inb, h.hnil⟩
theorem IntRow.get (h : IntRow w a len cap L) {k : Nat} (hk : k < len) : ∃ b off z, a = some ⟨b, off, none⟩ ∧ b < w.heap.size ∧ L[k]? = some z ∧ w.cell? ⟨b, off + k, none⟩ = some (.int .i64 z) ∧ In64 z := by
  obtain ⟨b, off, x, ha, hlt, hg, _, hc⟩ := h.row.get hk
  have h0 := hc 0 _ rfl
  rw [Nat.mul_one, Nat.add_zero] at h0
  exact ⟨b, off, x, ha, hlt, hg, h0, h.inb _ (List.mem_of_getElem? hg)⟩
end
structure Core where
  kind : Int
  name : ByteArray
  is : ByteArray
  data : ByteArray
  attrs : AL
  parent : Int
  kids : List Int
  host : Int
  under : Int
  doc : Int
deriving DecidableEq
structure NodeD where
  core : Core
  aA : Option Addr
  aN : Nat
  aC : Nat
  kA : Option Addr
  kN : Nat
  kC : Nat
def encN (x : NodeD) : List Value := [.int .i64 x.core.kind, .string x.core.name, .string x.core.is, .string x.core.data, .slice x.aA x.aN x.aC, .int .i64 x.core.parent, .slice x.kA x.kN x.kC, .int .i64 x.core.host, .int .i64 x.core.under, .int .i64 x.core.doc]
theorem encN_len (x : NodeD) : (encN x).length = 10 := rfl
theorem encN_one (x : NodeD) : ∀ u ∈ encN x, u.oneCell' = true := by
  intro u hu
  simp [encN] at hu
  rcases hu with rfl | rfl | rfl | rfl | rfl | rfl | rfl | rfl | rfl | rfl <;> rfl
structure NodeOk (w : World) (x : NodeD) : Prop where
  attrs : AttrRow w x.aA x.aN x.aC x.core.attrs
  kids : IntRow w x.kA x.kN x.kC x.core.kids
  name : x.core.name.size ≤ maxLen
  is : x.core.is.size ≤ maxLen
  data : x.core.data.size ≤ maxLen
  kind : In64 x.core.kind
  parent : In64 x.core.parent
  host : In64 x.core.host
  under : In64 x.core.under
  doc : In64 x.core.doc
theorem NodeOk.below {w w' : World} {x : NodeD} (h : NodeOk w x) (hb : Below w.heap.size w w') : NodeOk w' x := ⟨h.attrs.below hb, h.kids.below hb, h.name, h.is, h.data, h.kind, h.parent, h.host, h.under, h.doc⟩
theorem NodeOk.drewN {w : World} {x : NodeD} (h : NodeOk w x) (n : Nat) : NodeOk (w.drewN n) x := ⟨h.attrs.drewN n, h.kids.drewN n, h.name, h.is, h.data, h.kind, h.parent, h.host, h.under, h.doc⟩
structure NodeRow (w : World) (a : Option Addr) (len cap : Nat) (L : List NodeD) : Prop where
  row : SRow encN 10 w a len cap L
  ok : ∀ x ∈ L, NodeOk w x
  hnil : a = none → cap = 0
section
variable {w w' : World} {a : Option Addr} {len cap : Nat} {L : List NodeD}
theorem NodeRow.hlen (h : NodeRow w a len cap L) : L.length = len := h.row.hlen
theorem NodeRow.len64 (h : NodeRow w a len cap L) : len ≤ 9223372036854775807 := h.row.len64
theorem NodeRow.below (h : NodeRow w a len cap L) (hb : Below w.heap.size w w') : NodeRow w' a len cap L := ⟨h.row.below hb, fun x hx => (h.ok x hx).below hb, h.hnil⟩
theorem NodeRow.drewN (h : NodeRow w a len cap L) (n : Nat) : NodeRow (w.drewN n) a len cap L := ⟨h.row.drewN n, fun x hx => (h.ok x hx).drewN n, h.hnil⟩
structure NodeAt (w : World) (b o : Nat) (x : NodeD) : Prop where
  c0 : w.cell? ⟨b, o, none⟩ = some (.int .i64 x.core.kind)
  c1 : w.cell? ⟨b, o + 1, none⟩ = some (.string x.core.name)
  c2 : w.cell? ⟨b, o + 2, none⟩ = some (.string x.core.is)
  c3 : w.cell? ⟨b, o + 3, none⟩ = some (.string x.core.data)
  c4 : w.cell? ⟨b, o + 4, none⟩ = some (.slice x.aA x.aN x.aC)
  c5 : w.cell? ⟨b, o + 5, none⟩ = some (.int .i64 x.core.parent)
  c6 : w.cell? ⟨b, o + 6, none⟩ = some (.slice x.kA x.kN x.kC)
  c7 : w.cell? ⟨b, o + 7, none⟩ = some (.int .i64 x.core.host)
  c8 : w.cell? ⟨b, o + 8, none⟩ = some (.int .i64 x.core.under)
  c9 : w.cell? ⟨b, o + 9, none⟩ = some (.int .i64 x.core.doc)
theorem NodeAt.below {b o : Nat} {x : NodeD} (h : NodeAt w b o x) (hlt : b < w.heap.size) (hb : Below w.heap.size w w') : NodeAt w' b o x := by
  have e : ∀ o', w'.cell? ⟨b, o', none⟩ = w.cell? ⟨b, o', none⟩ := fun o' => hb.cell (p := ⟨b, o', none⟩) hlt
  exact ⟨(e _).trans h.c0, (e _).trans h.c1, (e _).trans h.c2, (e _).trans h.c3, (e _).trans h.c4, (e _).trans h.c5, (e _).trans h.c6, (e _).trans h.c7, (e _).trans h.c8, (e _).trans h.c9⟩
theorem NodeRow.get (h : NodeRow w a len cap L) {k : Nat} (hk : k < len) : ∃ b off x, a = some ⟨b, off, none⟩ ∧ b < w.heap.size ∧ L[k]? = some x ∧ NodeAt w b (off + k * 10) x ∧ NodeOk w x := by
  obtain ⟨b, off, x, ha, hlt, hg, _, hc⟩ := h.row.get hk
  have h0 := hc 0 _ rfl
  rw [Nat.add_zero] at h0
  exact ⟨b, off, x, ha, hlt, hg, ⟨h0, hc 1 _ rfl, hc 2 _ rfl, hc 3 _ rfl, hc 4 _ rfl, hc 5 _ rfl, hc 6 _ rfl, hc 7 _ rfl, hc 8 _ rfl, hc 9 _ rfl⟩, h.ok _ (List.mem_of_getElem? hg)⟩
end
def coreL (L : List NodeD) : List Core := L.map (·.core)
end Go.Proofs.YtnjoimedilonnaaGreat
namespace Go.Proofs.YtnjoimedilonnaaGreat
open Go.RowKit
def hasZ (L : List Int) (n : Int) : Nat := L.countP (fun z => z == n)
def findN (L : List Int) (n : Int) : Nat := L.findIdx (fun z => z == n)
def findZ (L : List Int) (n : Int) : Int := if findN L n < L.length then (findN L n : Int) else -1
theorem hasZ_step {L : List Int} {n z : Int} {k : Nat} (h : L[k]? = some z) : hasZ (L.take (k + 1)) n = hasZ (L.take k) n + if z == n then 1 else 0 := by
  obtain ⟨hl, hg⟩ := List.getElem?_eq_some_iff.1 h
  unfold hasZ
  rw [List.take_succ_eq_append_getElem hl, hg, List.countP_append]
  simp [List.countP_cons]
theorem hasZ_le (L : List Int) (n : Int) (k : Nat) : hasZ (L.take k) n ≤ k := Nat.le_trans (List.countP_le_length) (List.length_take_le _ _)
theorem findN_here {L : List Int} {n z : Int} {k : Nat} (h : k ≤ findN L n) (hk : L[k]? = some z) (hz : (z == n) = true) : findN L n = k := by
  obtain ⟨hl, hg⟩ := List.getElem?_eq_some_iff.1 hk
  by_cases e : k < findN L n
  · have := List.not_of_lt_findIdx e
    rw [hg, hz] at this
    cases this
  · omega
theorem findN_step {L : List Int} {n z : Int} {k : Nat} (h : k ≤ findN L n) (hk : L[k]? = some z) (hz : (z == n) = false) : k + 1 ≤ findN L n := by
  obtain ⟨hl, hg⟩ := List.getElem?_eq_some_iff.1 hk
  by_cases e : k = findN L n
  · have h1 : findN L n < L.length := by omega
    have h2 : ((L[findN L n]'h1) == n) = true := List.findIdx_getElem (w := h1)
    have h3 : (L[findN L n]'h1) = z := by rw [← hg]; congr 1; exact e.symm
    rw [h3, hz] at h2
    cases h2
  · omega
theorem refhas_any (a : Option Addr) (len cap : Nat) (L : List Int) (n : Int) (w : World) (h : IntRow w a len cap L) :
    Calls Tryz.prog 30 #[.slice a len cap, .int .i64 n] w fun e w' => e = .returned (.int .i64 (hasZ L n)) ∧ w = w' := by
  have hl := h.len64
  go_enter Tryz.func30, Tryz.ntmps30
  go_wp2
  go_loop [5, 6] (fun m i => ∃ k : Nat, k ≤ len ∧ i = .int .i64 k ∧ m = .int .i64 (hasZ (L.take k) n : Nat)) (fun _ i => len - (intOf i).toNat)
  case atStart => exact ⟨0, Nat.zero_le _, rfl, rfl⟩
  case round =>
    obtain ⟨k, hk, rfl, rfl⟩ := hrel
    have hle := hasZ_le L n k
    obtain ⟨m, hm⟩ : ∃ m, hasZ (L.take k) n = m := ⟨_, rfl⟩
    rw [hm] at hle ⊢
    by_cases hlt : k < len
    · obtain ⟨b, off, z, rfl, hb, hx, hc, _⟩ := h.get hlt
      have HS := Lib.hid (hasZ_step (n := n) hx)
      have HM := Lib.hid hm
      clear hx hm
      by_cases he : z = n
      · have e1 : (z == n) = true := beq_iff_eq.2 he
        have HE : Hid (hasZ (L.take (k + 1)) n = m + 1) := Lib.hid (by rw [HS.out, HM.out, e1]; rfl)
        clear he
        go_wp2
        go_round
        case rel => exact ⟨k + 1, by omega, by go_num, by rw [HE.out]; go_num⟩
        case measure => simp [intOf]; omega
      · have e1 : (z == n) = false := beq_eq_false_iff_ne.2 he
        have HE : Hid (hasZ (L.take (k + 1)) n = m) := Lib.hid (by rw [HS.out, HM.out, e1]; rfl)
        clear he
        go_wp2
        go_round
        case rel => exact ⟨k + 1, by omega, by go_num, by rw [HE.out]⟩
        case measure => simp [intOf]; omega
    · have HR : Hid (m = hasZ L n) := Lib.hid (by rw [← hm, List.take_of_length_le (by have := h.hlen; omega)])
      clear hm
      go_wp2
      go_ret
      exact ⟨ret_int (by rw [HR.out]), rfl⟩
theorem refints_any (a a' : Option Addr) (len cap len' cap' : Nat) (L M : List Int) (w : World) (h : IntRow w a len cap L) (h' : IntRow w a' len' cap' M) :
    Calls Tryz.prog 13 #[.slice a len cap, .slice a' len' cap'] w fun e w' => e = .returned (.bool (decide (L = M))) ∧ ∃ n, w' = w.drewN n := by
  have hl := h.len64
  have hl' := h'.len64
  by_cases hll : len = len'
  rotate_left
  · have hr : Hid (decide (L = M) = false) := Lib.hid (decide_eq_false (fun e => hll (by rw [← h.hlen, ← h'.hlen, e])))
    have e1 : ((len : Int) == (len' : Int)) = false := beq_eq_false_iff_ne.2 (by omega)
    have e2 : ((len : Int) != (len' : Int)) = true := by unfold bne; rw [e1]; rfl
    clear hll
    go_enter Tryz.func13, Tryz.ntmps13
    go_wp2
    go_ret
    exact ⟨ret_bool hr.out.symm, 0, rfl⟩
  subst hll
  have e1 : ((len : Int) == (len : Int)) = true := beq_iff_eq.2 rfl
  have e2 : ((len : Int) != (len : Int)) = false := by unfold bne; rw [e1]; rfl
  go_enter Tryz.func13, Tryz.ntmps13
  go_wp2
  go_loopw [5] (fun i wr => ∃ k n : Nat, k ≤ len ∧ i = .int .i64 k ∧ wr = w.drewN n ∧ Hid (L.take k = M.take k)) (fun i _ => len - (intOf i).toNat)
  case atStart => exact ⟨0, 0, Nat.zero_le _, rfl, rfl, Lib.hid rfl⟩
  case round =>
    obtain ⟨k, n, hk, rfl, rfl, HT⟩ := hrel
    by_cases hlt : k < len
    · obtain ⟨b, off, x, rfl, hb, hx, hc1, _⟩ := h.get hlt
      obtain ⟨b', off', y, rfl, hb', hy, hd1, _⟩ := h'.get hlt
      have HX := Lib.hid hx
      have HY := Lib.hid hy
      clear hx hy
      by_cases he : x = y
      · have f1 : (x == y) = true := beq_iff_eq.2 he
        have f2 : (x != y) = false := by unfold bne; rw [f1]; rfl
        have HE := Lib.hid he
        clear he
        go_wp2
        go_quiet (fail)
        go_wp2
        go_roundw
        case rel =>
          refine ⟨k + 1, _, by omega, by go_num, by first | rfl | exact World.drewN_drewN _ _ _, Lib.hid ?_⟩
          obtain ⟨hl1, hg1⟩ := List.getElem?_eq_some_iff.1 HX.out
          obtain ⟨hl2, hg2⟩ := List.getElem?_eq_some_iff.1 HY.out
          rw [List.take_succ_eq_append_getElem hl1, List.take_succ_eq_append_getElem hl2, hg1, hg2, HT.out, HE.out]
        case measure => simp [intOf]; omega
      · have f1 : (x == y) = false := beq_eq_false_iff_ne.2 he
        have f2 : (x != y) = true := by unfold bne; rw [f1]; rfl
        have HR : Hid (decide (L = M) = false) := Lib.hid (decide_eq_false (fun e => he (by
          have h1 := HX.out
          rw [e, HY.out] at h1
          exact (Option.some.inj h1).symm)))
        clear he
        go_wp2
        go_quiet (fail)
        go_wp2
        go_ret
        exact ⟨ret_bool HR.out.symm, _, by first | rfl | exact World.drewN_drewN _ _ _⟩
    · have HR : Hid (decide (L = M) = true) := Lib.hid (decide_eq_true (by
        have h1 := HT.out
        rwa [List.take_of_length_le (by have := h.hlen; omega), List.take_of_length_le (by have := h'.hlen; omega)] at h1))
      go_wp2
      go_ret
      exact ⟨ret_bool HR.out.symm, n, rfl⟩
end Go.Proofs.YtnjoimedilonnaaGreat
