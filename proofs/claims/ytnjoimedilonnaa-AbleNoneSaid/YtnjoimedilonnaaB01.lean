/- Texts joined in build order: TreeMath SRows. -/
import Derived.WalkKit
import Derived.Below
import Derived.WalkSmall
import Derived.Maps.AppendAt
import Derived.Laws.AppendOwnNone
import Derived.Deep.AppendLies
import Derived.WideShapes
import Derived.Laws.OwnMore
import Derived.Laws.Rows
namespace Go.Proofs.Ytnjoimedilonnaa
theorem flat_congr {α β : Type} {f g : α → List β} : ∀ {l : List α}, (∀ x ∈ l, f x = g x) → l.flatMap f = l.flatMap g
  | [], _ => rfl
  | x :: r, h => by
    rw [List.flatMap_cons, List.flatMap_cons, h x (by simp), flat_congr (fun y hy => h y (by simp [hy]))]
structure Tree (n : Nat) (par : Nat → Option Nat) (kids : Nat → List Nat) (rank : Nat → Nat) : Prop where
  kid_lt : ∀ i k, k ∈ kids i → k < n
  kid_par : ∀ i k, k ∈ kids i → par k = some i
  par_kid : ∀ i k, k < n → par k = some i → i < n ∧ k ∈ kids i
  nodup : ∀ i, (kids i).Nodup
  rank_up : ∀ i k, k < n → par k = some i → rank k = rank i + 1
  rank_le : ∀ i, i < n → rank i ≤ n + 1
section
variable {n : Nat} {par : Nat → Option Nat} {kids : Nat → List Nat} {rank : Nat → Nat}
def upN (par : Nat → Option Nat) : Nat → Nat → Option Nat
  | 0, b => some b
  | m + 1, b => (par b).bind (upN par m)
def holdsT (par : Nat → Option Nat) (a b : Nat) : Prop := ∃ m, upN par m b = some a
theorem holds_refl (a : Nat) : holdsT par a a := ⟨0, rfl⟩
theorem upN_add : ∀ (m k b c : Nat), upN par m b = some c → upN par (m + k) b = upN par k c
  | 0, k, b, c, h => by
    injection h with h
    subst h
    rw [Nat.zero_add]
  | m + 1, k, b, c, h => by
    rw [show m + 1 + k = (m + k) + 1 by omega]
    show (par b).bind (upN par (m + k)) = upN par k c
    unfold upN at h
    cases hp : par b with
    | none => rw [hp] at h; cases h
    | some p =>
      rw [hp] at h
      exact upN_add m k p c h
theorem holds_trans {a b c : Nat} (h1 : holdsT par a b) (h2 : holdsT par b c) : holdsT par a c := by
  obtain ⟨m1, h1⟩ := h1
  obtain ⟨m2, h2⟩ := h2
  exact ⟨m2 + m1, by rw [upN_add m2 m1 c b h2]; exact h1⟩
theorem holds_par {p b : Nat} (h : par b = some p) : holdsT par p b := ⟨1, by unfold upN; rw [h]; rfl⟩
theorem holds_line {a b c : Nat} (h1 : holdsT par a c) (h2 : holdsT par b c) : holdsT par a b ∨ holdsT par b a := by
  obtain ⟨m1, h1⟩ := h1
  obtain ⟨m2, h2⟩ := h2
  rcases Nat.le_total m1 m2 with h | h
  · right
    refine ⟨m2 - m1, ?_⟩
    have := upN_add m1 (m2 - m1) c a h1
    rw [show m1 + (m2 - m1) = m2 by omega, h2] at this
    exact this.symm
  · left
    refine ⟨m1 - m2, ?_⟩
    have := upN_add m2 (m1 - m2) c b h2
    rw [show m2 + (m1 - m2) = m1 by omega, h1] at this
    exact this.symm
theorem holds_up {a b : Nat} (h : holdsT par a b) : a = b ∨ ∃ p, par b = some p ∧ holdsT par a p := by
  obtain ⟨m, h⟩ := h
  cases m with
  | zero => injection h with h; exact .inl h.symm
  | succ m =>
    unfold upN at h
    cases hp : par b with
    | none => rw [hp] at h; cases h
    | some p => rw [hp] at h; exact .inr ⟨p, rfl, m, h⟩
theorem Tree.up_lt (T : Tree n par kids rank) : ∀ (m b a : Nat), b < n → upN par m b = some a → a < n ∧ rank b = rank a + m
  | 0, b, a, hb, h => by
    injection h with h
    subst h
    exact ⟨hb, rfl⟩
  | m + 1, b, a, hb, h => by
    unfold upN at h
    cases hp : par b with
    | none => rw [hp] at h; cases h
    | some p =>
      rw [hp] at h
      obtain ⟨hpn, _⟩ := T.par_kid p b hb hp
      obtain ⟨h1, h2⟩ := T.up_lt m p a hpn h
      have := T.rank_up p b hb hp
      exact ⟨h1, by omega⟩
theorem Tree.holds_rank (T : Tree n par kids rank) {a b : Nat} (hb : b < n) (h : holdsT par a b) : a < n ∧ rank a ≤ rank b ∧ (rank a = rank b → a = b) := by
  obtain ⟨m, h⟩ := h
  obtain ⟨h1, h2⟩ := T.up_lt m b a hb h
  refine ⟨h1, by omega, fun e => ?_⟩
  have hm : m = 0 := by omega
  subst hm
  injection h with h
  exact h.symm
theorem Tree.holds_anti (T : Tree n par kids rank) {a b : Nat} (ha : a < n) (hb : b < n) (h1 : holdsT par a b) (h2 : holdsT par b a) : a = b := by
  have g1 := T.holds_rank hb h1
  have g2 := T.holds_rank ha h2
  exact g1.2.2 (by omega)
def ordN (kids : Nat → List Nat) : Nat → Nat → List Nat
  | 0, i => [i]
  | f + 1, i => i :: (kids i).flatMap (ordN kids f)
theorem ordN_head (f i : Nat) : ∃ r, ordN kids f i = i :: r := by
  cases f with
  | zero => exact ⟨_, rfl⟩
  | succ f => exact ⟨_, rfl⟩
theorem Tree.kid_rank (T : Tree n par kids rank) {i k : Nat} (hk : k ∈ kids i) : k < n ∧ rank k = rank i + 1 := ⟨T.kid_lt i k hk, T.rank_up i k (T.kid_lt i k hk) (T.kid_par i k hk)⟩
theorem Tree.ord_more (T : Tree n par kids rank) : ∀ (f i : Nat), i < n → n + 1 ≤ rank i + f → ordN kids (f + 1) i = ordN kids f i
  | 0, i, hi, h => by
    have hk : kids i = [] := by
      cases hks : kids i with
      | nil => rfl
      | cons k r =>
        have hm : k ∈ kids i := by rw [hks]; simp
        obtain ⟨h1, h2⟩ := T.kid_rank hm
        have := T.rank_le k h1
        omega
    unfold ordN
    rw [hk]
    rfl
  | f + 1, i, hi, h => by
    rw [show ordN kids (f + 1 + 1) i = i :: (kids i).flatMap (ordN kids (f + 1)) from rfl, show ordN kids (f + 1) i = i :: (kids i).flatMap (ordN kids f) from rfl]
    congr 1
    refine flat_congr (fun k hk => ?_)
    obtain ⟨h1, h2⟩ := T.kid_rank hk
    exact T.ord_more f k h1 (by omega)
theorem Tree.mem_ord (T : Tree n par kids rank) : ∀ (f i : Nat), i < n → n + 1 ≤ rank i + f → ∀ b, b < n → (b ∈ ordN kids f i ↔ holdsT par i b)
  | 0, i, hi, h, b, hb => by
    unfold ordN
    rw [List.mem_singleton]
    constructor
    · rintro rfl
      exact holds_refl _
    · intro hh
      have g := T.holds_rank hb hh
      have := T.rank_le b hb
      exact (g.2.2 (by omega)).symm
  | f + 1, i, hi, h, b, hb => by
    unfold ordN
    rw [List.mem_cons, List.mem_flatMap]
    constructor
    · rintro (rfl | ⟨k, hk, hm⟩)
      · exact holds_refl _
      · obtain ⟨h1, h2⟩ := T.kid_rank hk
        exact holds_trans (holds_par (T.kid_par i k hk)) ((T.mem_ord f k h1 (by omega) b hb).1 hm)
    · rintro ⟨m, hm⟩
      cases m with
      | zero => injection hm with hm; exact .inl hm
      | succ m =>
        right
        -- the last step's child
        have key : ∀ (m b : Nat), b < n → upN par (m + 1) b = some i → ∃ k, k ∈ kids i ∧ holdsT par k b := by
          intro m
          induction m with
          | zero =>
            intro b hb hm
            unfold upN at hm
            cases hp : par b with
            | none => rw [hp] at hm; cases hm
            | some p =>
              rw [hp] at hm
              injection hm with hm
              subst hm
              exact ⟨b, (T.par_kid _ b hb hp).2, holds_refl _⟩
          | succ m ih =>
            intro b hb hm
            unfold upN at hm
            cases hp : par b with
            | none => rw [hp] at hm; cases hm
            | some p =>
              rw [hp] at hm
              obtain ⟨k, hk, hh⟩ := ih p (T.par_kid _ b hb hp).1 hm
              exact ⟨k, hk, holds_trans hh (holds_par hp)⟩
        obtain ⟨k, hk, hh⟩ := key m b hb hm
        obtain ⟨h1, h2⟩ := T.kid_rank hk
        exact ⟨k, hk, (T.mem_ord f k h1 (by omega) b hb).2 hh⟩
theorem Tree.ord_lt (T : Tree n par kids rank) : ∀ (f i : Nat), i < n → ∀ b ∈ ordN kids f i, b < n
  | 0, i, hi, b, hb => by
    unfold ordN at hb
    rw [List.mem_singleton] at hb
    omega
  | f + 1, i, hi, b, hb => by
    unfold ordN at hb
    rw [List.mem_cons, List.mem_flatMap] at hb
    rcases hb with rfl | ⟨k, hk, hm⟩
    · exact hi
    · exact T.ord_lt f k (T.kid_rank hk).1 b hm
theorem Tree.kids_apart (T : Tree n par kids rank) {i k1 k2 b : Nat} (hk1 : k1 ∈ kids i) (hk2 : k2 ∈ kids i) (h1 : holdsT par k1 b) (h2 : holdsT par k2 b) : k1 = k2 := by
  obtain ⟨l1, r1⟩ := T.kid_rank hk1
  obtain ⟨l2, r2⟩ := T.kid_rank hk2
  rcases holds_line h1 h2 with h | h
  · exact (T.holds_rank l2 h).2.2 (by omega)
  · exact ((T.holds_rank l1 h).2.2 (by omega)).symm
theorem Tree.ord_nodup (T : Tree n par kids rank) : ∀ (f i : Nat), i < n → n + 1 ≤ rank i + f → (ordN kids f i).Nodup
  | 0, i, _, _ => by unfold ordN; simp
  | f + 1, i, hi, h => by
    unfold ordN
    rw [List.nodup_cons]
    refine ⟨fun hm => ?_, ?_⟩
    · obtain ⟨k, hk, hm⟩ := List.mem_flatMap.1 hm
      obtain ⟨h1, h2⟩ := T.kid_rank hk
      have := T.holds_rank hi ((T.mem_ord f k h1 (by omega) i hi).1 hm)
      omega
    · have key : ∀ (l : List Nat), l.Nodup → (∀ k ∈ l, k ∈ kids i) → (l.flatMap (ordN kids f)).Nodup := by
        intro l
        induction l with
        | nil => intro _ _; simp
        | cons k r ih =>
          intro hn hl
          rw [List.nodup_cons] at hn
          rw [List.flatMap_cons, List.nodup_append]
          obtain ⟨h1, h2⟩ := T.kid_rank (hl k (by simp))
          refine ⟨T.ord_nodup f k h1 (by omega), ih hn.2 (fun j hj => hl j (by simp [hj])), fun a ha b hbm e => ?_⟩
          subst e
          obtain ⟨k2, hk2, hm2⟩ := List.mem_flatMap.1 hbm
          obtain ⟨g1, g2⟩ := T.kid_rank (hl k2 (by simp [hk2]))
          have hbn := T.ord_lt f k h1 a ha
          have := T.kids_apart (hl k (by simp)) (hl k2 (by simp [hk2])) ((T.mem_ord f k h1 (by omega) a hbn).1 ha) ((T.mem_ord f k2 g1 (by omega) a hbn).1 hm2)
          subst this
          exact hn.1 hk2
      exact key (kids i) (T.nodup i) (fun k hk => hk)
def BetweenFrom (par : Nat → Option Nat) (s : Nat) (l : List Nat) : Prop :=
  ∀ i c, s ≤ i → l[i]? = some c → ∃ j p, j < i ∧ par c = some p ∧ l[j]? = some p ∧ ∀ k x, j < k → k < i → l[k]? = some x → holdsT par p x ∧ ¬ holdsT par c x
theorem Tree.between_kids (T : Tree n par kids rank) {f i : Nat} (hf : n + 1 ≤ rank i + (f + 1)) (ih : ∀ k ∈ kids i, BetweenFrom par 1 (ordN kids f k)) :
    ∀ (ks pre : List Nat), ks.Nodup → (∀ k ∈ ks, k ∈ kids i) → (∀ x ∈ pre, holdsT par i x ∧ ∀ k ∈ ks, ¬ holdsT par k x) → BetweenFrom par (1 + pre.length) ((i :: pre) ++ ks.flatMap (ordN kids f))
  | [], pre, _, _, _ => by
    intro t c ht hc
    have := (List.getElem?_eq_some_iff.1 hc).1
    simp at this
    omega
  | k :: r, pre, hn, hk, hpre => by
    intro t c ht hc
    rw [List.nodup_cons] at hn
    rw [List.flatMap_cons] at hc ⊢
    have hkk := hk k (by simp)
    obtain ⟨hkn, hkr⟩ := T.kid_rank hkk
    by_cases hin : t < 1 + pre.length + (ordN kids f k).length
    · -- in k's own block
      have hc2 : (ordN kids f k)[t - (1 + pre.length)]? = some c := by
        rw [List.getElem?_append_right (by simp; omega), List.getElem?_append_left (by simp; omega)] at hc
        rw [← hc]
        congr 1
        simp
        omega
      have shift : ∀ u, u < (ordN kids f k).length → ((i :: pre) ++ (ordN kids f k ++ r.flatMap (ordN kids f)))[1 + pre.length + u]? = (ordN kids f k)[u]? := fun u hu => by
        rw [List.getElem?_append_right (by simp; omega), List.getElem?_append_left (by simp; omega)]
        congr 1
        simp
        omega
      by_cases hu : t = 1 + pre.length
      · obtain ⟨rr, hr⟩ := ordN_head (kids := kids) f k
        have hck : c = k := by
          rw [hu, Nat.sub_self, hr] at hc2
          simpa using hc2.symm
        subst hck
        refine ⟨0, i, by omega, T.kid_par i c hkk, rfl, fun q x hq1 hq2 hx => ?_⟩
        have hxp : pre[q - 1]? = some x := by
          rw [List.getElem?_append_left (by simp; omega)] at hx
          obtain ⟨q', rfl⟩ : ∃ q', q = q' + 1 := ⟨q - 1, by omega⟩
          simpa using hx
        have := hpre x (List.mem_of_getElem? hxp)
        exact ⟨this.1, this.2 c (by simp)⟩
      · obtain ⟨j, p, hj, hp, hjp, hb⟩ := ih k hkk (t - (1 + pre.length)) c (by omega) hc2
        refine ⟨1 + pre.length + j, p, by omega, hp, by rw [shift j (by omega)]; exact hjp, fun q x hq1 hq2 hx => ?_⟩
        have hx2 : (ordN kids f k)[q - (1 + pre.length)]? = some x := by
          rw [← shift (q - (1 + pre.length)) (by omega), ← hx]
          congr 1
          omega
        exact hb (q - (1 + pre.length)) x (by omega) (by omega) hx2
    · -- behind it
      have e : (i :: pre) ++ (ordN kids f k ++ r.flatMap (ordN kids f)) = (i :: (pre ++ ordN kids f k)) ++ r.flatMap (ordN kids f) := by simp
      rw [e] at hc ⊢
      refine T.between_kids hf ih r (pre ++ ordN kids f k) hn.2 (fun j hj => hk j (by simp [hj])) (fun x hx => ?_) t c (by rw [List.length_append]; omega) hc
      rcases List.mem_append.1 hx with hx | hx
      · exact ⟨(hpre x hx).1, fun j hj => (hpre x hx).2 j (by simp [hj])⟩
      · have hxn := T.ord_lt f k hkn x hx
        have hh := (T.mem_ord f k hkn (by omega) x hxn).1 hx
        refine ⟨holds_trans (holds_par (T.kid_par i k hkk)) hh, fun j hj hjx => ?_⟩
        have := T.kids_apart (hk j (by simp [hj])) hkk hjx hh
        subst this
        exact hn.1 hj
theorem Tree.ord_between (T : Tree n par kids rank) : ∀ (f i : Nat), i < n → n + 1 ≤ rank i + f → BetweenFrom par 1 (ordN kids f i)
  | 0, i, _, _ => by
    intro t c ht hc
    have := (List.getElem?_eq_some_iff.1 hc).1
    unfold ordN at this
    simp at this
    omega
  | f + 1, i, hi, h => by
    have := T.between_kids (f := f) (i := i) (by omega) (fun k hk => T.ord_between f k (T.kid_rank hk).1 (by have := (T.kid_rank hk).2; omega)) (kids i) [] (T.nodup i) (fun k hk => hk) (by simp)
    exact this
end
end Go.Proofs.Ytnjoimedilonnaa
namespace Go.Proofs.Ytnjoimedilonnaa
open Go.RowKit
structure SRow {α : Type} (enc : α → List Value) (size : Nat) (w : World) (a : Option Addr) (len cap : Nat) (L : List α) : Prop where
  hlen : L.length = len
  hcap : len ≤ cap
  hmax : cap ≤ maxLen
  henc : ∀ x ∈ L, (enc x).length = size
  cells : len = 0 ∨ ∃ b off, a = some ⟨b, off, none⟩ ∧ b < w.heap.size ∧ ∀ i x j v, L[i]? = some x → (enc x)[j]? = some v → w.cell? ⟨b, off + i * size + j, none⟩ = some v
section
variable {α : Type} {enc : α → List Value} {size : Nat} {w w' : World} {a : Option Addr} {len cap : Nat} {L : List α}
theorem SRow.below (h : SRow enc size w a len cap L) (hb : Below w.heap.size w w') : SRow enc size w' a len cap L := by
  refine ⟨h.hlen, h.hcap, h.hmax, h.henc, ?_⟩
  rcases h.cells with h0 | ⟨b, off, ha, hlt, hc⟩
  · exact .inl h0
  · refine .inr ⟨b, off, ha, Nat.lt_of_lt_of_le hlt hb.size, fun i x j v hx hv => ?_⟩
    rw [hb.cell (p := ⟨b, off + i * size + j, none⟩) hlt]
    exact hc i x j v hx hv
theorem SRow.keep (h : SRow enc size w a len cap L) (hs : w.heap.size ≤ w'.heap.size) (hk : ∀ b off, a = some ⟨b, off, none⟩ → 0 < len → ∀ o, w'.cell? ⟨b, o, none⟩ = w.cell? ⟨b, o, none⟩) : SRow enc size w' a len cap L := by
  refine ⟨h.hlen, h.hcap, h.hmax, h.henc, ?_⟩
  rcases Nat.eq_zero_or_pos len with h0 | h0
  · exact .inl h0
  · rcases h.cells with h1 | ⟨b, off, ha, hlt, hc⟩
    · omega
    · refine .inr ⟨b, off, ha, Nat.lt_of_lt_of_le hlt hs, fun i x j v hx hv => ?_⟩
      rw [hk b off ha h0]
      exact hc i x j v hx hv
theorem SRow.drewN (h : SRow enc size w a len cap L) (n : Nat) : SRow enc size (w.drewN n) a len cap L := ⟨h.hlen, h.hcap, h.hmax, h.henc, h.cells⟩
theorem SRow.drew (h : SRow enc size w a len cap L) : SRow enc size w.drew a len cap L := ⟨h.hlen, h.hcap, h.hmax, h.henc, h.cells⟩
theorem SRow.len64 (h : SRow enc size w a len cap L) : len ≤ 9223372036854775807 := by
  have h1 := h.hcap; have h2 := h.hmax; unfold maxLen at h2; omega
theorem SRow.nil : SRow enc size w none 0 0 ([] : List α) := ⟨rfl, Nat.le_refl _, by unfold maxLen; omega, by simp, .inl rfl⟩
theorem SRow.get (h : SRow enc size w a len cap L) {k : Nat} (hk : k < len) :
    ∃ b off x, a = some ⟨b, off, none⟩ ∧ b < w.heap.size ∧ L[k]? = some x ∧ (enc x).length = size ∧ ∀ j v, (enc x)[j]? = some v → w.cell? ⟨b, off + k * size + j, none⟩ = some v := by
  rcases h.cells with h0 | ⟨b, off, ha, hlt, hc⟩
  · omega
  · have hl : k < L.length := by rw [h.hlen]; exact hk
    have hg : L[k]? = some (L[k]'hl) := List.getElem?_eq_getElem hl
    exact ⟨b, off, _, ha, hlt, hg, h.henc _ (List.mem_of_getElem? hg), fun j v hv => hc k _ j v hg hv⟩
end
theorem flat_len {α : Type} {enc : α → List Value} {size : Nat} : ∀ {L : List α}, (∀ x ∈ L, (enc x).length = size) → (L.flatMap enc).length = L.length * size
  | [], _ => by simp
  | x :: r, h => by
    rw [List.flatMap_cons, List.length_append, h x (by simp), flat_len (fun y hy => h y (by simp [hy])), List.length_cons, Nat.add_mul]
    omega
theorem flat_get {α : Type} {enc : α → List Value} {size : Nat} : ∀ {L : List α} (_ : ∀ x ∈ L, (enc x).length = size) {i j : Nat} {x : α}, L[i]? = some x → j < size → (L.flatMap enc)[i * size + j]? = (enc x)[j]?
  | [], _, _, _, _, hx, _ => by simp at hx
  | y :: r, h, 0, j, x, hx, hj => by
    simp at hx; subst hx
    rw [List.flatMap_cons, List.getElem?_append_left (by rw [h y (by simp)]; omega)]
    congr 1
    omega
  | y :: r, h, i + 1, j, x, hx, hj => by
    have hy := h y (by simp)
    rw [List.flatMap_cons, List.getElem?_append_right (by rw [hy, Nat.add_mul]; omega), hy]
    have : (i + 1) * size + j - size = i * size + j := by rw [Nat.add_mul]; omega
    rw [this]
    exact flat_get (fun z hz => h z (by simp [hz])) (by simpa using hx) hj
theorem flat_at {α : Type} {enc : α → List Value} {size : Nat} : ∀ {L : List α} (_ : ∀ x ∈ L, (enc x).length = size) {k : Nat} {u : Value}, (L.flatMap enc)[k]? = some u → ∃ i j x, k = i * size + j ∧ j < size ∧ L[i]? = some x ∧ (enc x)[j]? = some u
  | [], _, _, _, hu => by simp at hu
  | y :: r, h, k, u, hu => by
    have hy := h y (by simp)
    rw [List.flatMap_cons] at hu
    by_cases hk : k < size
    · rw [List.getElem?_append_left (by omega)] at hu
      exact ⟨0, k, y, by omega, hk, rfl, hu⟩
    · rw [List.getElem?_append_right (by omega), hy] at hu
      obtain ⟨i, j, x, e, hj, hx, hv⟩ := flat_at (fun z hz => h z (by simp [hz])) hu
      exact ⟨i + 1, j, x, by rw [Nat.add_mul]; omega, hj, by simpa using hx, hv⟩
section
variable {α : Type} {enc : α → List Value} {size : Nat} {w w' : World} {a : Option Addr} {len cap : Nat} {L : List α}
theorem SRow.flat {b off : Nat} (h : SRow enc size w (some ⟨b, off, none⟩) len cap L) : ∀ k u, (L.flatMap enc)[k]? = some u → w.cell? ((⟨b, off, none⟩ : Addr).add k) = some u := by
  intro k u hu
  obtain ⟨i, j, x, rfl, hj, hx, hv⟩ := flat_at h.henc hu
  rw [Go.WideShapes.add_plain, ← Nat.add_assoc]
  rcases h.cells with h0 | ⟨b', off', ha, _, hc⟩
  · have := h.hlen
    obtain ⟨hl, _⟩ := List.getElem?_eq_some_iff.1 hx
    omega
  · injection ha with ha
    injection ha with h1 h2
    subst h1; subst h2
    exact hc i x j u hx hv
theorem SRow.of_own {base : Nat} {e : TypeId} {v : Value} {n : Nat} (henc : ∀ x ∈ L, (enc x).length = size) (hl : L.length = n) (h : w.ownsRow base e size v n (L.flatMap enc)) :
    ∃ a cap, v = .slice a n cap ∧ SRow enc size w a n cap L ∧ (∀ b off, a = some ⟨b, off, none⟩ → base ≤ b) := by
  rcases h.2 with ⟨rfl, h0⟩ | ⟨g, cap, cur, rfl, hb, hg, hnc, hcm, hcs, htk⟩
  · subst h0
    have hL : L = [] := List.eq_nil_of_length_eq_zero hl
    subst hL
    exact ⟨none, 0, rfl, SRow.nil, fun b off hb => by cases hb⟩
  · refine ⟨_, cap, rfl, ⟨hl, hnc, hcm, henc, .inr ⟨g, 0, rfl, ?_, fun i x j v hx hv => ?_⟩⟩, fun b off h => by injection h with h; injection h with h1; omega⟩
    · rcases Nat.lt_or_ge g w.heap.size with h | h
      · exact h
      · rw [Array.getElem?_eq_none h] at hg; cases hg
    · have hj : j < size := by
        obtain ⟨hjl, _⟩ := List.getElem?_eq_some_iff.1 hv
        rw [henc x (List.mem_of_getElem? hx)] at hjl
        exact hjl
      have h1 := flat_get henc hx hj
      rw [hv] at h1
      have := h.cells (g := g) rfl (i * size + j) v h1
      rw [Go.WideShapes.add_plain] at this
      rw [Nat.zero_add] at this ⊢
      exact this
end
section
variable {P : Program} {α : Type} {enc : α → List Value}
theorem run_append_rows (w : World) (t ty e : TypeId) (i : TypeInfo) (z : Value) (size bytes : Nat) (ht : P.underlying t = some (.slice e)) (hi : P.info? e = some i) (hz : i.zero = some z)
    (hsize : i.size = size) (hby : i.bytes = bytes) (hzs : z.cells.size = size) (hsz : 0 < size) (base : Nat)
    (v : Value) (n : Nat) (L M : List α) (hown : w.ownsRow base e size v n (L.flatMap enc)) (a : Option Addr) (m c : Nat) (hsrc : SRow enc size w a m c M) (h1 : ∀ x ∈ M, ∀ u ∈ enc x, u.oneCell' = true)
    (h63 : n + m ≤ maxLen) (hbytes : (n + m) * bytes ≤ 140737488355328) (hbase : base ≤ w.heap.size) (hnil : a = none → c = 0) :
    ∃ v' w', (Builtin.append_ #[t, t] ty #[v, .slice a m c]).run P w = .ok v' w' ∧ w'.ownsRow base e size v' (n + m) ((L ++ M).flatMap enc) ∧ w.grownBy w' v.ownBlock ∧ (v'.ownBlock = v.ownBlock ∨ v'.ownBlock = some w.heap.size) := by
  rw [List.flatMap_append]
  have hone : ∀ u ∈ M.flatMap enc, u.oneCell' = true := by
    intro u hu
    obtain ⟨x, hx, hxu⟩ := List.mem_flatMap.1 hu
    exact h1 x hx u hxu
  have hfl : (M.flatMap enc).length = m * size := by rw [flat_len hsrc.henc, hsrc.hlen]
  rcases a with _ | ad
  · have hm : m = 0 := by
      rcases hsrc.cells with h0 | ⟨b, off, ha, _⟩
      · exact h0
      · cases ha
    subst hm
    have hM : M = [] := List.eq_nil_of_length_eq_zero hsrc.hlen
    subst hM
    rw [hnil rfl]
    refine ⟨v, w, run_append_owned_none (P := P) (w := w) base t ty e i size ht hi v n _ hown, by simpa using hown, World.grownBy.refl w _, .inl rfl⟩
  · have hnews : ∀ j u, (M.flatMap enc)[j]? = some u → w.cell? (ad.add j) = some u := by
      rcases Nat.eq_zero_or_pos m with h0 | h0
      · intro j u hu
        have hM : M = [] := List.eq_nil_of_length_eq_zero (by rw [hsrc.hlen, h0])
        rw [hM] at hu
        simp at hu
      · rcases hsrc.cells with h' | ⟨b, off, ha, _⟩
        · omega
        · injection ha with ha
          subst ha
          exact hsrc.flat
    obtain ⟨v', w', hr, h2, h3, _, h5⟩ := run_append_own_at (P := P) w base t ty e i z size bytes ht hi hz hsize hby hzs hsz v n _ hown ad m c _ hfl hnews hone h63 hbytes hbase
    exact ⟨v', w', hr, h2, h3, h5⟩
theorem wpList_append_rows {w : World} {ops : Array Oper} {rest : List Oper} {o : Oper} {a : Act} {Q : Exit → Act → World → Prop} (hgd : o.guard = none) (s x : Operand) (t : TypeId)
    (ho : o.op = .call { callee := .builtin .append, args := #[s, x], argTypes := #[t, t] })
    (e : TypeId) (i : TypeInfo) (z : Value) (size bytes : Nat) (ht : P.underlying t = some (.slice e)) (hi : P.info? e = some i) (hz : i.zero = some z)
    (hsize : i.size = size) (hby : i.bytes = bytes) (hzs : z.cells.size = size) (hsz : 0 < size) (base : Nat)
    (v : Value) (n : Nat) (L M : List α) (hs : a.eval s = v) (hown : w.ownsRow base e size v n (L.flatMap enc)) (ad : Option Addr) (m c : Nat) (hx : a.eval x = .slice ad m c) (hsrc : SRow enc size w ad m c M) (h1 : ∀ x ∈ M, ∀ u ∈ enc x, u.oneCell' = true)
    (h63 : n + m ≤ maxLen) (hbytes : (n + m) * bytes ≤ 140737488355328) (hbase : base ≤ w.heap.size) (hnil : ad = none → c = 0)
    (h : ∀ v' w', w'.ownsRow base e size v' (n + m) ((L ++ M).flatMap enc) → w.grownBy w' v.ownBlock → (v'.ownBlock = v.ownBlock ∨ v'.ownBlock = some w.heap.size) → wpList P ops Q rest (a.put o.dst v') w') :
    wpList P ops Q (o :: rest) a w := by
  refine wpList_plain hgd fun K hK => ?_
  obtain ⟨v', w', hr, h2, h3, h4⟩ := run_append_rows (P := P) w t o.type e i z size bytes ht hi hz hsize hby hzs hsz base v n L M hown ad m c hsrc h1 h63 hbytes hbase hnil
  unfold Oper.wp execOp
  simp only [ho, resolve, invoke, builtin, Sem.run_bind, Sem.run_pure, Result.andThen_ok, List.map_toArray, List.map_cons, List.map_nil, hs, hx, hr]
  exact hK _ _ (h v' w' h2 h3 h4)
end
theorem below_new {w W W1 : World} {o : Obj} {n c : Nat} (h : Below w.heap.size w W) (hg : (W.alloc o).grownBy W1 (Value.ownBlock (.slice (some ⟨W.heap.size, 0, none⟩) n c))) : Below w.heap.size w W1 :=
  (h.alloc h.size o).grown hg (by have := h.size; simp; omega) (fun k hk => by
    have e : W.heap.size = k := by injection hk
    have := h.size
    omega)
theorem below_own {w W W1 : World} {o : Obj} {e : TypeId} {size n : Nat} {v : Value} {xs : List Value} (h : Below w.heap.size w W) (hown : W.ownsRow w.heap.size e size v n xs) (hg : (W.alloc o).grownBy W1 v.ownBlock) : Below w.heap.size w W1 :=
  (h.alloc h.size o).grown hg (by have := h.size; simp; omega) (fun k hk => (hown.lt k hk).1)
theorem own_below {W W1 : World} {base : Nat} {e : TypeId} {size n : Nat} {v : Value} {xs : List Value} (hown : W.ownsRow base e size v n xs) (hb : Below W.heap.size W W1) : W1.ownsRow base e size v n xs := by
  refine ⟨hown.1, ?_⟩
  rcases hown.2 with h | ⟨g, cap, cur, hv, hbg, hg, h1, h2, h3, h4⟩
  · exact .inl h
  · have hlt : g < W.heap.size := by
      rcases Nat.lt_or_ge g W.heap.size with h | h
      · exact h
      · rw [Array.getElem?_eq_none h] at hg; cases hg
    exact .inr ⟨g, cap, cur, hv, hbg, (hb.block g hlt).trans hg, h1, h2, h3, h4⟩
theorem own_empty {α : Type} {enc : α → List Value} {size : Nat} (w : World) (base : Nat) (e : TypeId) (h : base ≤ w.heap.size) : (w.alloc (.cells #[] e)).ownsRow base e size (.slice (some ⟨w.heap.size, 0, none⟩) 0 0) 0 (([] : List α).flatMap enc) := by
  have := World.ownsRow_lit (base := base) (e := e) (size := size) w #[] 0 h (by unfold maxLen; omega) (by simp)
  simpa using this
theorem own_one {α : Type} {enc : α → List Value} {size : Nat} (w : World) (e : TypeId) (x : α) (cs : Array Value) (hx : enc x = cs.toList) (hs : cs.size = size) : SRow enc size (w.alloc (.cells cs e)) (some ⟨w.heap.size, 0, none⟩) 1 1 [x] := by
  refine ⟨rfl, Nat.le_refl _, by unfold maxLen; omega, fun y hy => ?_, .inr ⟨_, _, rfl, by simp, fun i y j v hy hv => ?_⟩⟩
  · simp at hy; subst hy
    rw [hx, Array.length_toList, hs]
  · obtain ⟨hl, hg⟩ := List.getElem?_eq_some_iff.1 hy
    have hi : i = 0 := by simpa using hl
    subst hi
    simp at hg; subst hg
    rw [hx, Array.getElem?_toList] at hv
    rw [cell_of_row (w.alloc (.cells cs e)) w.heap.size (0 + 0 * size + j) cs e (0, 0) (heap_alloc_new w _)]
    simpa using hv
end Go.Proofs.Ytnjoimedilonnaa
