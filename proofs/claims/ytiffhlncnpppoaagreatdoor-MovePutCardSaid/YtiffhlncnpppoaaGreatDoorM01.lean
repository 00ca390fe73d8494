/- Texts joined in build order: TreeMath TreeRoot NamePure NameFacts Text0 SRows AttrPure ForestRow ForestRefs AttrRightMath ForestMath ForestShort ForestFns AttrEq AttrRefSame ForestSame Ext ForestAwake. -/
import Derived.WalkKit
import Derived.Lib.Bytealg
import Derived.Lib.Strings
import Derived.Lib.Hide
import Derived.Below
import Derived.WalkSmall
import Derived.Maps.AppendAt
import Derived.Laws.AppendOwnNone
import Derived.Deep.AppendLies
import Derived.WideShapes
import Derived.Laws.OwnMore
import Derived.Laws.Rows
import Derived.Test.YtiffhlncnpppoaaGreatDoorChecked
import Derived.WalkLawsBesides
import Derived.Deep.QuietTactic
import Derived.BigQuiet
namespace Go.Proofs.YtiffhlncnpppoaaGreatDoor
theorem flat_congr {α β : Type} {f g : α → List β} : ∀ {l : List α}, (∀ x ∈ l, f x = g x) → l.flatMap f = l.flatMap g
  | [], _ => rfl
  | x :: r, h => by
    rw [List.flatMap_cons, List.flatMap_cons, h x (by simp), flat_congr (fun y hy => h y (by simp [hy]))]
structure Tree (n : Nat) (par : Nat → Option Nat) (kids : Nat → List Nat) (rank : Nat → Nat) : Prop where
  kid_lt : ∀ i k, k ∈ kids i → k < n
  kid_par : ∀ i k, k ∈ kids i → par k = some i
  par_kid : ∀ i k, k < n → par k = some i → i < n ∧ k ∈ kids i
  nodup : ∀ i, (kids i).Nodup
  rank_up : ∀ i k, k < n → par k = some i → rank k = rank i + 1
  rank_le : ∀ i, i < n → rank i ≤ n + 1
section
variable {n : Nat} {par : Nat → Option Nat} {kids : Nat → List Nat} {rank : Nat → Nat}
def upN (par : Nat → Option Nat) : Nat → Nat → Option Nat
  | 0, b => some b
  | m + 1, b => (par b).bind (upN par m)
def holdsT (par : Nat → Option Nat) (a b : Nat) : Prop := ∃ m, upN par m b = some a
theorem holds_refl (a : Nat) : holdsT par a a := ⟨0, rfl⟩
theorem upN_add : ∀ (m k b c : Nat), upN par m b = some c → upN par (m + k) b = upN par k c
  | 0, k, b, c, h => by
    injection h with h
    subst h
    rw [Nat.zero_add]
  | m + 1, k, b, c, h => by
    rw [show m + 1 + k = (m + k) + 1 by omega]
    show (par b).bind (upN par (m + k)) = upN par k c
    unfold upN at h
    cases hp : par b with
    | none => rw [hp] at h; cases h
    | some p =>
      rw [hp] at h
      exact upN_add m k p c h
theorem holds_trans {a b c : Nat} (h1 : holdsT par a b) (h2 : holdsT par b c) : holdsT par a c := by
  obtain ⟨m1, h1⟩ := h1
  obtain ⟨m2, h2⟩ := h2
  exact ⟨m2 + m1, by rw [upN_add m2 m1 c b h2]; exact h1⟩
theorem holds_par {p b : Nat} (h : par b = some p) : holdsT par p b := ⟨1, by unfold upN; rw [h]; rfl⟩
theorem holds_line {a b c : Nat} (h1 : holdsT par a c) (h2 : holdsT par b c) : holdsT par a b ∨ holdsT par b a := by
  obtain ⟨m1, h1⟩ := h1
  obtain ⟨m2, h2⟩ := h2
  rcases Nat.le_total m1 m2 with h | h
  · right
    refine ⟨m2 - m1, ?_⟩
    have := upN_add m1 (m2 - m1) c a h1
    rw [show m1 + (m2 - m1) = m2 by omega, h2] at this
    exact this.symm
  · left
    refine ⟨m1 - m2, ?_⟩
    have := upN_add m2 (m1 - m2) c b h2
    rw [show m2 + (m1 - m2) = m1 by omega, h1] at this
    exact this.symm
theorem holds_up {a b : Nat} (h : holdsT par a b) : a = b ∨ ∃ p, par b = some p ∧ holdsT par a p := by
  obtain ⟨m, h⟩ := h
  cases m with
  | zero => injection h with h; exact .inl h.symm
  | succ m =>
    unfold upN at h
    cases hp : par b with
    | none => rw [hp] at h; cases h
    | some p => rw [hp] at h; exact .inr ⟨p, rfl, m, h⟩
theorem Tree.up_lt (T : Tree n par kids rank) : ∀ (m b a : Nat), b < n → upN par m b = some a → a < n ∧ rank b = rank a + m
  | 0, b, a, hb, h => by
    injection h with h
    subst h
    exact ⟨hb, rfl⟩
  | m + 1, b, a, hb, h => by
    unfold upN at h
    cases hp : par b with
    | none => rw [hp] at h; cases h
    | some p =>
      rw [hp] at h
      obtain ⟨hpn, _⟩ := T.par_kid p b hb hp
      obtain ⟨h1, h2⟩ := T.up_lt m p a hpn h
      have := T.rank_up p b hb hp
      exact ⟨h1, by omega⟩
theorem Tree.holds_rank (T : Tree n par kids rank) {a b : Nat} (hb : b < n) (h : holdsT par a b) : a < n ∧ rank a ≤ rank b ∧ (rank a = rank b → a = b) := by
  obtain ⟨m, h⟩ := h
  obtain ⟨h1, h2⟩ := T.up_lt m b a hb h
  refine ⟨h1, by omega, fun e => ?_⟩
  have hm : m = 0 := by omega
  subst hm
  injection h with h
  exact h.symm
theorem Tree.holds_anti (T : Tree n par kids rank) {a b : Nat} (ha : a < n) (hb : b < n) (h1 : holdsT par a b) (h2 : holdsT par b a) : a = b := by
  have g1 := T.holds_rank hb h1
  have g2 := T.holds_rank ha h2
  exact g1.2.2 (by omega)
def ordN (kids : Nat → List Nat) : Nat → Nat → List Nat
  | 0, i => [i]
  | f + 1, i => i :: (kids i).flatMap (ordN kids f)
theorem ordN_head (f i : Nat) : ∃ r, ordN kids f i = i :: r := by
  cases f with
  | zero => exact ⟨_, rfl⟩
  | succ f => exact ⟨_, rfl⟩
theorem Tree.kid_rank (T : Tree n par kids rank) {i k : Nat} (hk : k ∈ kids i) : k < n ∧ rank k = rank i + 1 := ⟨T.kid_lt i k hk, T.rank_up i k (T.kid_lt i k hk) (T.kid_par i k hk)⟩
theorem Tree.ord_more (T : Tree n par kids rank) : ∀ (f i : Nat), i < n → n + 1 ≤ rank i + f → ordN kids (f + 1) i = ordN kids f i
  | 0, i, hi, h => by
    have hk : kids i = [] := by
      cases hks : kids i with
      | nil => rfl
      | cons k r =>
        have hm : k ∈ kids i := by rw [hks]; simp
        obtain ⟨h1, h2⟩ := T.kid_rank hm
        have := T.rank_le k h1
        omega
    unfold ordN
    rw [hk]
    rfl
  | f + 1, i, hi, h => by
    rw [show ordN kids (f + 1 + 1) i = i :: (kids i).flatMap (ordN kids (f + 1)) from rfl, show ordN kids (f + 1) i = i :: (kids i).flatMap (ordN kids f) from rfl]
    congr 1
    refine flat_congr (fun k hk => ?_)
    obtain ⟨h1, h2⟩ := T.kid_rank hk
    exact T.ord_more f k h1 (by omega)
theorem Tree.mem_ord (T : Tree n par kids rank) : ∀ (f i : Nat), i < n → n + 1 ≤ rank i + f → ∀ b, b < n → (b ∈ ordN kids f i ↔ holdsT par i b)
  | 0, i, hi, h, b, hb => by
    unfold ordN
    rw [List.mem_singleton]
    constructor
    · rintro rfl
      exact holds_refl _
    · intro hh
      have g := T.holds_rank hb hh
      have := T.rank_le b hb
      exact (g.2.2 (by omega)).symm
  | f + 1, i, hi, h, b, hb => by
    unfold ordN
    rw [List.mem_cons, List.mem_flatMap]
    constructor
    · rintro (rfl | ⟨k, hk, hm⟩)
      · exact holds_refl _
      · obtain ⟨h1, h2⟩ := T.kid_rank hk
        exact holds_trans (holds_par (T.kid_par i k hk)) ((T.mem_ord f k h1 (by omega) b hb).1 hm)
    · rintro ⟨m, hm⟩
      cases m with
      | zero => injection hm with hm; exact .inl hm
      | succ m =>
        right
        -- the last step's child
        have key : ∀ (m b : Nat), b < n → upN par (m + 1) b = some i → ∃ k, k ∈ kids i ∧ holdsT par k b := by
          intro m
          induction m with
          | zero =>
            intro b hb hm
            unfold upN at hm
            cases hp : par b with
            | none => rw [hp] at hm; cases hm
            | some p =>
              rw [hp] at hm
              injection hm with hm
              subst hm
              exact ⟨b, (T.par_kid _ b hb hp).2, holds_refl _⟩
          | succ m ih =>
            intro b hb hm
            unfold upN at hm
            cases hp : par b with
            | none => rw [hp] at hm; cases hm
            | some p =>
              rw [hp] at hm
              obtain ⟨k, hk, hh⟩ := ih p (T.par_kid _ b hb hp).1 hm
              exact ⟨k, hk, holds_trans hh (holds_par hp)⟩
        obtain ⟨k, hk, hh⟩ := key m b hb hm
        obtain ⟨h1, h2⟩ := T.kid_rank hk
        exact ⟨k, hk, (T.mem_ord f k h1 (by omega) b hb).2 hh⟩
theorem Tree.ord_lt (T : Tree n par kids rank) : ∀ (f i : Nat), i < n → ∀ b ∈ ordN kids f i, b < n
  | 0, i, hi, b, hb => by
    unfold ordN at hb
    rw [List.mem_singleton] at hb
    omega
  | f + 1, i, hi, b, hb => by
    unfold ordN at hb
    rw [List.mem_cons, List.mem_flatMap] at hb
    rcases hb with rfl | ⟨k, hk, hm⟩
    · exact hi
    · exact T.ord_lt f k (T.kid_rank hk).1 b hm
theorem Tree.kids_apart (T : Tree n par kids rank) {i k1 k2 b : Nat} (hk1 : k1 ∈ kids i) (hk2 : k2 ∈ kids i) (h1 : holdsT par k1 b) (h2 : holdsT par k2 b) : k1 = k2 := by
  obtain ⟨l1, r1⟩ := T.kid_rank hk1
  obtain ⟨l2, r2⟩ := T.kid_rank hk2
  rcases holds_line h1 h2 with h | h
  · exact (T.holds_rank l2 h).2.2 (by omega)
  · exact ((T.holds_rank l1 h).2.2 (by omega)).symm
theorem Tree.ord_nodup (T : Tree n par kids rank) : ∀ (f i : Nat), i < n → n + 1 ≤ rank i + f → (ordN kids f i).Nodup
  | 0, i, _, _ => by unfold ordN; simp
  | f + 1, i, hi, h => by
    unfold ordN
    rw [List.nodup_cons]
    refine ⟨fun hm => ?_, ?_⟩
    · obtain ⟨k, hk, hm⟩ := List.mem_flatMap.1 hm
      obtain ⟨h1, h2⟩ := T.kid_rank hk
      have := T.holds_rank hi ((T.mem_ord f k h1 (by omega) i hi).1 hm)
      omega
    · have key : ∀ (l : List Nat), l.Nodup → (∀ k ∈ l, k ∈ kids i) → (l.flatMap (ordN kids f)).Nodup := by
        intro l
        induction l with
        | nil => intro _ _; simp
        | cons k r ih =>
          intro hn hl
          rw [List.nodup_cons] at hn
          rw [List.flatMap_cons, List.nodup_append]
          obtain ⟨h1, h2⟩ := T.kid_rank (hl k (by simp))
          refine ⟨T.ord_nodup f k h1 (by omega), ih hn.2 (fun j hj => hl j (by simp [hj])), fun a ha b hbm e => ?_⟩
          subst e
          obtain ⟨k2, hk2, hm2⟩ := List.mem_flatMap.1 hbm
          obtain ⟨g1, g2⟩ := T.kid_rank (hl k2 (by simp [hk2]))
          have hbn := T.ord_lt f k h1 a ha
          have := T.kids_apart (hl k (by simp)) (hl k2 (by simp [hk2])) ((T.mem_ord f k h1 (by omega) a hbn).1 ha) ((T.mem_ord f k2 g1 (by omega) a hbn).1 hm2)
          subst this
          exact hn.1 hk2
      exact key (kids i) (T.nodup i) (fun k hk => hk)
end
end Go.Proofs.YtiffhlncnpppoaaGreatDoor
namespace Go.Proofs.YtiffhlncnpppoaaGreatDoor
section
variable {n : Nat} {par : Nat → Option Nat} {kids : Nat → List Nat} {rank : Nat → Nat}
def rootN (par : Nat → Option Nat) : Nat → Nat → Nat
  | 0, i => i
  | f + 1, i => match par i with
    | none => i
    | some p => rootN par f p
theorem rootN_none {f i : Nat} (h : par i = none) : rootN par f i = i := by
  cases f with
  | zero => rfl
  | succ f => unfold rootN; rw [h]
theorem rootN_some {f i p : Nat} (h : par i = some p) : rootN par (f + 1) i = rootN par f p := by
  show (match par i with | none => i | some p => rootN par f p) = _
  rw [h]
theorem rootN_holds : ∀ (f i : Nat), holdsT par (rootN par f i) i
  | 0, i => holds_refl i
  | f + 1, i => by
    cases h : par i with
    | none => rw [rootN_none h]; exact holds_refl i
    | some p => rw [rootN_some h]; exact holds_trans (rootN_holds f p) (holds_par h)
theorem Tree.root_top (T : Tree n par kids rank) : ∀ (f i : Nat), i < n → rank i ≤ f → par (rootN par f i) = none
  | 0, i, hi, h => by
    cases hp : par i with
    | none => exact hp
    | some p => have := T.rank_up p i hi hp; omega
  | f + 1, i, hi, h => by
    cases hp : par i with
    | none => rw [rootN_none hp]; exact hp
    | some p =>
      rw [rootN_some hp]
      have := T.rank_up p i hi hp
      exact T.root_top f p (T.par_kid p i hi hp).1 (by omega)
theorem Tree.root_of (T : Tree n par kids rank) {f a b : Nat} (hb : b < n) (hf : rank b ≤ f) (h : holdsT par a b) (hp : par a = none) : rootN par f b = a := by
  have h2 := T.root_top f b hb hf
  have h3 := rootN_holds (par := par) f b
  rcases holds_line h h3 with h4 | h4
  · rcases holds_up h4 with e | ⟨p, hp2, _⟩
    · exact e.symm
    · rw [h2] at hp2; cases hp2
  · rcases holds_up h4 with e | ⟨p, hp2, _⟩
    · exact e
    · rw [hp] at hp2; cases hp2
theorem Tree.root_held (T : Tree n par kids rank) {f a b : Nat} (hb : b < n) (hf : n + 1 ≤ f) (h : holdsT par a b) : rootN par f a = rootN par f b := by
  have ha := (T.holds_rank hb h).1
  have r1 := T.rank_le a ha
  have r2 := T.rank_le b hb
  exact (T.root_of hb (by omega) (holds_trans (rootN_holds f a) h) (T.root_top f a ha (by omega))).symm
theorem Tree.root_lt (T : Tree n par kids rank) {f a : Nat} (ha : a < n) : rootN par f a < n := (T.holds_rank ha (rootN_holds f a)).1
end
def endsZ (nxt : Int → Int) : Nat → Int → Bool
  | 0, i => i == -1
  | s + 1, i => i == -1 || endsZ nxt s (nxt i)
theorem endsZ_step {nxt : Int → Int} {s : Nat} {i : Int} (h : i ≠ -1) : endsZ nxt (s + 1) i = endsZ nxt s (nxt i) := by
  show (i == -1 || endsZ nxt s (nxt i)) = _
  rw [beq_eq_false_iff_ne.2 h, Bool.false_or]
def rankZ (nxt : Int → Int) (n : Nat) (i : Int) : Nat := (List.range (n + 2)).findIdx (fun s => endsZ nxt s i)
theorem rankZ_le {nxt : Int → Int} {n : Nat} {i : Int} {s : Nat} (h : endsZ nxt s i = true) : rankZ nxt n i ≤ s := by
  unfold rankZ
  rcases Nat.lt_or_ge s ((List.range (n + 2)).findIdx (fun s => endsZ nxt s i)) with h1 | h1
  · have := List.not_of_lt_findIdx h1
    rw [List.getElem_range] at this
    rw [h] at this
    cases this
  · exact h1
theorem rankZ_ends {nxt : Int → Int} {n : Nat} {i : Int} (h : endsZ nxt (n + 1) i = true) : endsZ nxt (rankZ nxt n i) i = true := by
  have hlt : rankZ nxt n i < (List.range (n + 2)).length := by
    have := rankZ_le (n := n) h
    rw [List.length_range]
    omega
  have := List.findIdx_getElem (xs := List.range (n + 2)) (p := fun s => endsZ nxt s i) (w := hlt)
  have h3 : (List.range (n + 2))[rankZ nxt n i]'hlt = rankZ nxt n i := by simp
  have h4 : endsZ nxt ((List.range (n + 2))[rankZ nxt n i]'hlt) i = true := this
  rwa [h3] at h4
theorem rankZ_up {nxt : Int → Int} {n : Nat} {i : Int} (hi : i ≠ -1) (h : endsZ nxt (n + 1) i = true) (hp : endsZ nxt (n + 1) (nxt i) = true) : rankZ nxt n i = rankZ nxt n (nxt i) + 1 := by
  have h1 := rankZ_ends h
  have h2 := rankZ_ends hp
  have h3 := rankZ_le (n := n) h
  cases hr : rankZ nxt n i with
  | zero =>
    rw [hr] at h1
    exact absurd (beq_iff_eq.1 h1) hi
  | succ s =>
    rw [hr, endsZ_step hi] at h1
    rw [hr] at h3
    have h4 := rankZ_le (n := n) h1
    have h5 : endsZ nxt (rankZ nxt n (nxt i) + 1) i = true := by rw [endsZ_step hi]; exact h2
    have h6 := rankZ_le (n := n) h5
    omega
end Go.Proofs.YtiffhlncnpppoaaGreatDoor
namespace Go.Proofs.YtiffhlncnpppoaaGreatDoor
def lowI (n : Int) : Bool := decide (97 ≤ n ∧ n ≤ 122)
def capI (n : Int) : Bool := decide (65 ≤ n ∧ n ≤ 90)
def alphI (n : Int) : Bool := lowI n || capI n
def digI (n : Int) : Bool := decide (48 ≤ n ∧ n ≤ 57)
def signI (n : Int) : Bool := alphI n || digI n || decide (n = 45 ∨ n = 95 ∨ n = 46)
def headI (n : Int) : Bool := alphI n || decide (n = 95)
def signB (c : UInt8) : Bool := signI (c.toNat : Int)
def headB (c : UInt8) : Bool := headI (c.toNat : Int)
def smallB (c : UInt8) : UInt8 := if capI (c.toNat : Int) then c + 32 else c
def rightL (l : List UInt8) : Bool := decide (1 ≤ l.length ∧ l.length ≤ 40) && headB (l.headD 0) && l.all signB
def smallL (l : List UInt8) : List UInt8 := l.map smallB
def dashL (l : List UInt8) : Bool := l.contains 45
def reservedL (l : List UInt8) : Bool := ([[97, 110, 110, 111, 116, 97, 116, 105, 111, 110, 45, 120, 109, 108], [99, 111, 108, 111, 114, 45, 112, 114, 111, 102, 105, 108, 101], [102, 111, 110, 116, 45, 102, 97, 99, 101], [102, 111, 110, 116, 45, 102, 97, 99, 101, 45, 115, 114, 99], [102, 111, 110, 116, 45, 102, 97, 99, 101, 45, 117, 114, 105], [102, 111, 110, 116, 45, 102, 97, 99, 101, 45, 102, 111, 114, 109, 97, 116], [102, 111, 110, 116, 45, 102, 97, 99, 101, 45, 110, 97, 109, 101], [109, 105, 115, 115, 105, 110, 103, 45, 103, 108, 121, 112, 104]] : List (List UInt8)).contains l
def customL (l : List UInt8) : Bool := rightL l && (smallL l == l) && lowI ((l.headD 0).toNat : Int) && dashL l && !reservedL l
def ofL (l : List UInt8) : ByteArray := ⟨l.toArray⟩
end Go.Proofs.YtiffhlncnpppoaaGreatDoor
namespace Go.Proofs.YtiffhlncnpppoaaGreatDoor
theorem smallB_nat (c : UInt8) : ((smallB c).toNat : Int) = if capI (c.toNat : Int) then (c.toNat : Int) + 32 else (c.toNat : Int) := by
  unfold smallB
  by_cases h : capI (c.toNat : Int) = true
  · have hb := of_decide_eq_true h
    rw [if_pos h, if_pos h, UInt8.toNat_add]
    have : (32 : UInt8).toNat = 32 := rfl
    rw [this]
    omega
  · rw [if_neg h, if_neg h]
theorem cap_small (c : UInt8) : capI ((smallB c).toNat : Int) = false := by
  rw [smallB_nat]
  by_cases h : capI (c.toNat : Int) = true
  · rw [if_pos h]
    have hb := of_decide_eq_true h
    unfold capI; simp; omega
  · rw [if_neg h]; simpa using h
theorem smallL_length (l : List UInt8) : (smallL l).length = l.length := by simp [smallL]
end Go.Proofs.YtiffhlncnpppoaaGreatDoor
namespace Go.Proofs.YtiffhlncnpppoaaGreatDoor
open Go.RowKit
theorem ret_bool {a b : Bool} (h : a = b) : Ending.returned (.bool a) = .returned (.bool b) := by rw [h]
theorem ret_int {k : IntKind} {a b : Int} (h : a = b) : Ending.returned (.int k a) = .returned (.int k b) := by rw [h]
theorem ret_str {a b : ByteArray} (h : a = b) : Ending.returned (.string a) = .returned (.string b) := by rw [h]
theorem tl (s : ByteArray) : s.toList = s.data.toList := Lib.toList_data s
theorem tl_len (s : ByteArray) : s.toList.length = s.size := by rw [tl]; simp
theorem tl_get (s : ByteArray) (k : Nat) (h : k < s.size) : s.toList[k]? = some s[k] := by
  rw [tl, Array.getElem?_toList]
  exact Array.getElem?_eq_getElem h
theorem rightL_ends (l : List UInt8) (h : l.length < 1 ∨ 40 < l.length) : rightL l = false := by
  unfold rightL
  have : decide (1 ≤ l.length ∧ l.length ≤ 40) = false := by simp; omega
  rw [this]; rfl
theorem all_take_succ (l : List UInt8) (k : Nat) (c : UInt8) (hk : l[k]? = some c) (h : (l.take k).all signB = true) : (l.take (k + 1)).all signB = signB c := by
  obtain ⟨hl, he⟩ := List.getElem?_eq_some_iff.1 hk
  rw [List.take_succ_eq_append_getElem hl, List.all_append, h, he]
  simp
theorem rightL_stop (l : List UInt8) (k : Nat) (c : UInt8) (hk : l[k]? = some c) (h : signB c = false) : rightL l = false := by
  have : l.all signB = false := by
    rw [List.all_eq_false]
    exact ⟨c, List.mem_of_getElem? hk, by simp [h]⟩
  unfold rightL
  rw [this, Bool.and_false]
theorem rightL_head (l : List UInt8) (c : UInt8) (hk : l[0]? = some c) (h : headB c = false) : rightL l = false := by
  cases l with
  | nil => simp at hk
  | cons b r =>
    simp at hk; subst hk
    unfold rightL
    simp [h]
theorem rightL_full (l : List UInt8) (c : UInt8) (h1 : 1 ≤ l.length) (h2 : l.length ≤ 40) (hk : l[0]? = some c) (hh : headB c = true) (h : (l.take l.length).all signB = true) : rightL l = true := by
  cases l with
  | nil => simp at hk
  | cons b r =>
    simp at hk; subst hk
    rw [List.take_length] at h
    have h3 : decide (1 ≤ (b :: r).length ∧ (b :: r).length ≤ 40) = true := by simp at *; omega
    unfold rightL
    rw [h3, h]
    simp [hh]
theorem sign_of_head (c : UInt8) (h : headB c = true) : signB c = true := by
  unfold headB headI at h
  unfold signB signI
  rcases Bool.or_eq_true _ _ ▸ h with h | h
  · rw [h]; rfl
  · have h := of_decide_eq_true h
    have : decide ((c.toNat : Int) = 45 ∨ (c.toNat : Int) = 95 ∨ (c.toNat : Int) = 46) = true := by simp; omega
    rw [this]; simp
@[simp, go_sem] theorem toList_ofL (l : List UInt8) : (ofL l).toList = l := by unfold ofL; simp
@[simp, go_sem] theorem size_ofL (l : List UInt8) : (ofL l).size = l.length := by
  show l.toArray.size = _; simp
theorem add_ofL (s : ByteArray) (m : List UInt8) : s ++ ofL m = ofL (s.toList ++ m) := by
  obtain ⟨⟨l⟩⟩ := s
  unfold ofL
  rw [ByteArray.mk_append_mk, ByteArray.toList_mk]
theorem ofL_self (s : ByteArray) : ofL s.toList = s := by
  obtain ⟨⟨l⟩⟩ := s
  unfold ofL
  rw [ByteArray.toList_mk]
theorem toList_inj {s t : ByteArray} (h : s.toList = t.toList) : s = t := by rw [← ofL_self s, ← ofL_self t, h]
end Go.Proofs.YtiffhlncnpppoaaGreatDoor
namespace Go.Proofs.YtiffhlncnpppoaaGreatDoor
open Go.RowKit
structure SRow {α : Type} (enc : α → List Value) (size : Nat) (w : World) (a : Option Addr) (len cap : Nat) (L : List α) : Prop where
  hlen : L.length = len
  hcap : len ≤ cap
  hmax : cap ≤ maxLen
  henc : ∀ x ∈ L, (enc x).length = size
  cells : len = 0 ∨ ∃ b off, a = some ⟨b, off, none⟩ ∧ b < w.heap.size ∧ ∀ i x j v, L[i]? = some x → (enc x)[j]? = some v → w.cell? ⟨b, off + i * size + j, none⟩ = some v
section
variable {α : Type} {enc : α → List Value} {size : Nat} {w w' : World} {a : Option Addr} {len cap : Nat} {L : List α}
theorem SRow.below (h : SRow enc size w a len cap L) (hb : Below w.heap.size w w') : SRow enc size w' a len cap L := by
  refine ⟨h.hlen, h.hcap, h.hmax, h.henc, ?_⟩
  rcases h.cells with h0 | ⟨b, off, ha, hlt, hc⟩
  · exact .inl h0
  · refine .inr ⟨b, off, ha, Nat.lt_of_lt_of_le hlt hb.size, fun i x j v hx hv => ?_⟩
    rw [hb.cell (p := ⟨b, off + i * size + j, none⟩) hlt]
    exact hc i x j v hx hv
theorem SRow.keep (h : SRow enc size w a len cap L) (hs : w.heap.size ≤ w'.heap.size) (hk : ∀ b off, a = some ⟨b, off, none⟩ → 0 < len → ∀ o, w'.cell? ⟨b, o, none⟩ = w.cell? ⟨b, o, none⟩) : SRow enc size w' a len cap L := by
  refine ⟨h.hlen, h.hcap, h.hmax, h.henc, ?_⟩
  rcases Nat.eq_zero_or_pos len with h0 | h0
  · exact .inl h0
  · rcases h.cells with h1 | ⟨b, off, ha, hlt, hc⟩
    · omega
    · refine .inr ⟨b, off, ha, Nat.lt_of_lt_of_le hlt hs, fun i x j v hx hv => ?_⟩
      rw [hk b off ha h0]
      exact hc i x j v hx hv
theorem SRow.drewN (h : SRow enc size w a len cap L) (n : Nat) : SRow enc size (w.drewN n) a len cap L := ⟨h.hlen, h.hcap, h.hmax, h.henc, h.cells⟩
theorem SRow.drew (h : SRow enc size w a len cap L) : SRow enc size w.drew a len cap L := ⟨h.hlen, h.hcap, h.hmax, h.henc, h.cells⟩
theorem SRow.len64 (h : SRow enc size w a len cap L) : len ≤ 9223372036854775807 := by
  have h1 := h.hcap; have h2 := h.hmax; unfold maxLen at h2; omega
theorem SRow.nil : SRow enc size w none 0 0 ([] : List α) := ⟨rfl, Nat.le_refl _, by unfold maxLen; omega, by simp, .inl rfl⟩
theorem SRow.get (h : SRow enc size w a len cap L) {k : Nat} (hk : k < len) :
    ∃ b off x, a = some ⟨b, off, none⟩ ∧ b < w.heap.size ∧ L[k]? = some x ∧ (enc x).length = size ∧ ∀ j v, (enc x)[j]? = some v → w.cell? ⟨b, off + k * size + j, none⟩ = some v := by
  rcases h.cells with h0 | ⟨b, off, ha, hlt, hc⟩
  · omega
  · have hl : k < L.length := by rw [h.hlen]; exact hk
    have hg : L[k]? = some (L[k]'hl) := List.getElem?_eq_getElem hl
    exact ⟨b, off, _, ha, hlt, hg, h.henc _ (List.mem_of_getElem? hg), fun j v hv => hc k _ j v hg hv⟩
end
theorem flat_len {α : Type} {enc : α → List Value} {size : Nat} : ∀ {L : List α}, (∀ x ∈ L, (enc x).length = size) → (L.flatMap enc).length = L.length * size
  | [], _ => by simp
  | x :: r, h => by
    rw [List.flatMap_cons, List.length_append, h x (by simp), flat_len (fun y hy => h y (by simp [hy])), List.length_cons, Nat.add_mul]
    omega
theorem flat_get {α : Type} {enc : α → List Value} {size : Nat} : ∀ {L : List α} (_ : ∀ x ∈ L, (enc x).length = size) {i j : Nat} {x : α}, L[i]? = some x → j < size → (L.flatMap enc)[i * size + j]? = (enc x)[j]?
  | [], _, _, _, _, hx, _ => by simp at hx
  | y :: r, h, 0, j, x, hx, hj => by
    simp at hx; subst hx
    rw [List.flatMap_cons, List.getElem?_append_left (by rw [h y (by simp)]; omega)]
    congr 1
    omega
  | y :: r, h, i + 1, j, x, hx, hj => by
    have hy := h y (by simp)
    rw [List.flatMap_cons, List.getElem?_append_right (by rw [hy, Nat.add_mul]; omega), hy]
    have : (i + 1) * size + j - size = i * size + j := by rw [Nat.add_mul]; omega
    rw [this]
    exact flat_get (fun z hz => h z (by simp [hz])) (by simpa using hx) hj
theorem flat_at {α : Type} {enc : α → List Value} {size : Nat} : ∀ {L : List α} (_ : ∀ x ∈ L, (enc x).length = size) {k : Nat} {u : Value}, (L.flatMap enc)[k]? = some u → ∃ i j x, k = i * size + j ∧ j < size ∧ L[i]? = some x ∧ (enc x)[j]? = some u
  | [], _, _, _, hu => by simp at hu
  | y :: r, h, k, u, hu => by
    have hy := h y (by simp)
    rw [List.flatMap_cons] at hu
    by_cases hk : k < size
    · rw [List.getElem?_append_left (by omega)] at hu
      exact ⟨0, k, y, by omega, hk, rfl, hu⟩
    · rw [List.getElem?_append_right (by omega), hy] at hu
      obtain ⟨i, j, x, e, hj, hx, hv⟩ := flat_at (fun z hz => h z (by simp [hz])) hu
      exact ⟨i + 1, j, x, by rw [Nat.add_mul]; omega, hj, by simpa using hx, hv⟩
section
variable {α : Type} {enc : α → List Value} {size : Nat} {w w' : World} {a : Option Addr} {len cap : Nat} {L : List α}
theorem SRow.flat {b off : Nat} (h : SRow enc size w (some ⟨b, off, none⟩) len cap L) : ∀ k u, (L.flatMap enc)[k]? = some u → w.cell? ((⟨b, off, none⟩ : Addr).add k) = some u := by
  intro k u hu
  obtain ⟨i, j, x, rfl, hj, hx, hv⟩ := flat_at h.henc hu
  rw [Go.WideShapes.add_plain, ← Nat.add_assoc]
  rcases h.cells with h0 | ⟨b', off', ha, _, hc⟩
  · have := h.hlen
    obtain ⟨hl, _⟩ := List.getElem?_eq_some_iff.1 hx
    omega
  · injection ha with ha
    injection ha with h1 h2
    subst h1; subst h2
    exact hc i x j u hx hv
theorem SRow.of_own {base : Nat} {e : TypeId} {v : Value} {n : Nat} (henc : ∀ x ∈ L, (enc x).length = size) (hl : L.length = n) (h : w.ownsRow base e size v n (L.flatMap enc)) :
    ∃ a cap, v = .slice a n cap ∧ SRow enc size w a n cap L ∧ (∀ b off, a = some ⟨b, off, none⟩ → base ≤ b) := by
  rcases h.2 with ⟨rfl, h0⟩ | ⟨g, cap, cur, rfl, hb, hg, hnc, hcm, hcs, htk⟩
  · subst h0
    have hL : L = [] := List.eq_nil_of_length_eq_zero hl
    subst hL
    exact ⟨none, 0, rfl, SRow.nil, fun b off hb => by cases hb⟩
  · refine ⟨_, cap, rfl, ⟨hl, hnc, hcm, henc, .inr ⟨g, 0, rfl, ?_, fun i x j v hx hv => ?_⟩⟩, fun b off h => by injection h with h; injection h with h1; omega⟩
    · rcases Nat.lt_or_ge g w.heap.size with h | h
      · exact h
      · rw [Array.getElem?_eq_none h] at hg; cases hg
    · have hj : j < size := by
        obtain ⟨hjl, _⟩ := List.getElem?_eq_some_iff.1 hv
        rw [henc x (List.mem_of_getElem? hx)] at hjl
        exact hjl
      have h1 := flat_get henc hx hj
      rw [hv] at h1
      have := h.cells (g := g) rfl (i * size + j) v h1
      rw [Go.WideShapes.add_plain] at this
      rw [Nat.zero_add] at this ⊢
      exact this
end
section
variable {P : Program} {α : Type} {enc : α → List Value}
theorem run_append_rows (w : World) (t ty e : TypeId) (i : TypeInfo) (z : Value) (size bytes : Nat) (ht : P.underlying t = some (.slice e)) (hi : P.info? e = some i) (hz : i.zero = some z)
    (hsize : i.size = size) (hby : i.bytes = bytes) (hzs : z.cells.size = size) (hsz : 0 < size) (base : Nat)
    (v : Value) (n : Nat) (L M : List α) (hown : w.ownsRow base e size v n (L.flatMap enc)) (a : Option Addr) (m c : Nat) (hsrc : SRow enc size w a m c M) (h1 : ∀ x ∈ M, ∀ u ∈ enc x, u.oneCell' = true)
    (h63 : n + m ≤ maxLen) (hbytes : (n + m) * bytes ≤ 140737488355328) (hbase : base ≤ w.heap.size) (hnil : a = none → c = 0) :
    ∃ v' w', (Builtin.append_ #[t, t] ty #[v, .slice a m c]).run P w = .ok v' w' ∧ w'.ownsRow base e size v' (n + m) ((L ++ M).flatMap enc) ∧ w.grownBy w' v.ownBlock ∧ (v'.ownBlock = v.ownBlock ∨ v'.ownBlock = some w.heap.size) := by
  rw [List.flatMap_append]
  have hone : ∀ u ∈ M.flatMap enc, u.oneCell' = true := by
    intro u hu
    obtain ⟨x, hx, hxu⟩ := List.mem_flatMap.1 hu
    exact h1 x hx u hxu
  have hfl : (M.flatMap enc).length = m * size := by rw [flat_len hsrc.henc, hsrc.hlen]
  rcases a with _ | ad
  · have hm : m = 0 := by
      rcases hsrc.cells with h0 | ⟨b, off, ha, _⟩
      · exact h0
      · cases ha
    subst hm
    have hM : M = [] := List.eq_nil_of_length_eq_zero hsrc.hlen
    subst hM
    rw [hnil rfl]
    refine ⟨v, w, run_append_owned_none (P := P) (w := w) base t ty e i size ht hi v n _ hown, by simpa using hown, World.grownBy.refl w _, .inl rfl⟩
  · have hnews : ∀ j u, (M.flatMap enc)[j]? = some u → w.cell? (ad.add j) = some u := by
      rcases Nat.eq_zero_or_pos m with h0 | h0
      · intro j u hu
        have hM : M = [] := List.eq_nil_of_length_eq_zero (by rw [hsrc.hlen, h0])
        rw [hM] at hu
        simp at hu
      · rcases hsrc.cells with h' | ⟨b, off, ha, _⟩
        · omega
        · injection ha with ha
          subst ha
          exact hsrc.flat
    obtain ⟨v', w', hr, h2, h3, _, h5⟩ := run_append_own_at (P := P) w base t ty e i z size bytes ht hi hz hsize hby hzs hsz v n _ hown ad m c _ hfl hnews hone h63 hbytes hbase
    exact ⟨v', w', hr, h2, h3, h5⟩
theorem wpList_append_rows {w : World} {ops : Array Oper} {rest : List Oper} {o : Oper} {a : Act} {Q : Exit → Act → World → Prop} (hgd : o.guard = none) (s x : Operand) (t : TypeId)
    (ho : o.op = .call { callee := .builtin .append, args := #[s, x], argTypes := #[t, t] })
    (e : TypeId) (i : TypeInfo) (z : Value) (size bytes : Nat) (ht : P.underlying t = some (.slice e)) (hi : P.info? e = some i) (hz : i.zero = some z)
    (hsize : i.size = size) (hby : i.bytes = bytes) (hzs : z.cells.size = size) (hsz : 0 < size) (base : Nat)
    (v : Value) (n : Nat) (L M : List α) (hs : a.eval s = v) (hown : w.ownsRow base e size v n (L.flatMap enc)) (ad : Option Addr) (m c : Nat) (hx : a.eval x = .slice ad m c) (hsrc : SRow enc size w ad m c M) (h1 : ∀ x ∈ M, ∀ u ∈ enc x, u.oneCell' = true)
    (h63 : n + m ≤ maxLen) (hbytes : (n + m) * bytes ≤ 140737488355328) (hbase : base ≤ w.heap.size) (hnil : ad = none → c = 0)
    (h : ∀ v' w', w'.ownsRow base e size v' (n + m) ((L ++ M).flatMap enc) → w.grownBy w' v.ownBlock → (v'.ownBlock = v.ownBlock ∨ v'.ownBlock = some w.heap.size) → wpList P ops Q rest (a.put o.dst v') w') :
    wpList P ops Q (o :: rest) a w := by
  refine wpList_plain hgd fun K hK => ?_
  obtain ⟨v', w', hr, h2, h3, h4⟩ := run_append_rows (P := P) w t o.type e i z size bytes ht hi hz hsize hby hzs hsz base v n L M hown ad m c hsrc h1 h63 hbytes hbase hnil
  unfold Oper.wp execOp
  simp only [ho, resolve, invoke, builtin, Sem.run_bind, Sem.run_pure, Result.andThen_ok, List.map_toArray, List.map_cons, List.map_nil, hs, hx, hr]
  exact hK _ _ (h v' w' h2 h3 h4)
end
theorem below_new {w W W1 : World} {o : Obj} {n c : Nat} (h : Below w.heap.size w W) (hg : (W.alloc o).grownBy W1 (Value.ownBlock (.slice (some ⟨W.heap.size, 0, none⟩) n c))) : Below w.heap.size w W1 :=
  (h.alloc h.size o).grown hg (by have := h.size; simp; omega) (fun k hk => by
    have e : W.heap.size = k := by injection hk
    have := h.size
    omega)
theorem below_own {w W W1 : World} {o : Obj} {e : TypeId} {size n : Nat} {v : Value} {xs : List Value} (h : Below w.heap.size w W) (hown : W.ownsRow w.heap.size e size v n xs) (hg : (W.alloc o).grownBy W1 v.ownBlock) : Below w.heap.size w W1 :=
  (h.alloc h.size o).grown hg (by have := h.size; simp; omega) (fun k hk => (hown.lt k hk).1)
theorem own_below {W W1 : World} {base : Nat} {e : TypeId} {size n : Nat} {v : Value} {xs : List Value} (hown : W.ownsRow base e size v n xs) (hb : Below W.heap.size W W1) : W1.ownsRow base e size v n xs := by
  refine ⟨hown.1, ?_⟩
  rcases hown.2 with h | ⟨g, cap, cur, hv, hbg, hg, h1, h2, h3, h4⟩
  · exact .inl h
  · have hlt : g < W.heap.size := by
      rcases Nat.lt_or_ge g W.heap.size with h | h
      · exact h
      · rw [Array.getElem?_eq_none h] at hg; cases hg
    exact .inr ⟨g, cap, cur, hv, hbg, (hb.block g hlt).trans hg, h1, h2, h3, h4⟩
theorem own_empty {α : Type} {enc : α → List Value} {size : Nat} (w : World) (base : Nat) (e : TypeId) (h : base ≤ w.heap.size) : (w.alloc (.cells #[] e)).ownsRow base e size (.slice (some ⟨w.heap.size, 0, none⟩) 0 0) 0 (([] : List α).flatMap enc) := by
  have := World.ownsRow_lit (base := base) (e := e) (size := size) w #[] 0 h (by unfold maxLen; omega) (by simp)
  simpa using this
theorem own_one {α : Type} {enc : α → List Value} {size : Nat} (w : World) (e : TypeId) (x : α) (cs : Array Value) (hx : enc x = cs.toList) (hs : cs.size = size) : SRow enc size (w.alloc (.cells cs e)) (some ⟨w.heap.size, 0, none⟩) 1 1 [x] := by
  refine ⟨rfl, Nat.le_refl _, by unfold maxLen; omega, fun y hy => ?_, .inr ⟨_, _, rfl, by simp, fun i y j v hy hv => ?_⟩⟩
  · simp at hy; subst hy
    rw [hx, Array.length_toList, hs]
  · obtain ⟨hl, hg⟩ := List.getElem?_eq_some_iff.1 hy
    have hi : i = 0 := by simpa using hl
    subst hi
    simp at hg; subst hg
    rw [hx, Array.getElem?_toList] at hv
    rw [cell_of_row (w.alloc (.cells cs e)) w.heap.size (0 + 0 * size + j) cs e (0, 0) (heap_alloc_new w _)]
    simpa using hv
end Go.Proofs.YtiffhlncnpppoaaGreatDoor
namespace Go.Proofs.YtiffhlncnpppoaaGreatDoor
open Go.RowKit
abbrev AL := List (ByteArray × ByteArray)
def encA (x : ByteArray × ByteArray) : List Value := [.string x.1, .string x.2]
theorem encA_len (x : ByteArray × ByteArray) : (encA x).length = 2 := rfl
theorem encA_one (x : ByteArray × ByteArray) : ∀ u ∈ encA x, u.oneCell' = true := by
  intro u hu
  simp [encA] at hu
  rcases hu with rfl | rfl <;> rfl
structure AttrRow (w : World) (a : Option Addr) (len cap : Nat) (L : AL) : Prop where
  row : SRow encA 2 w a len cap L
  small : ∀ x ∈ L, x.1.size ≤ maxLen ∧ x.2.size ≤ maxLen
  hnil : a = none → cap = 0
theorem AttrRow.hlen {w : World} {a : Option Addr} {len cap : Nat} {L : AL} (h : AttrRow w a len cap L) : L.length = len := h.row.hlen
theorem AttrRow.below {w w' : World} {a : Option Addr} {len cap : Nat} {L : AL} (h : AttrRow w a len cap L) (hb : Below w.heap.size w w') : AttrRow w' a len cap L := ⟨h.row.below hb, h.small, h.hnil⟩
theorem AttrRow.drewN {w : World} {a : Option Addr} {len cap : Nat} {L : AL} (h : AttrRow w a len cap L) (n : Nat) : AttrRow (w.drewN n) a len cap L := ⟨h.row.drewN n, h.small, h.hnil⟩
theorem AttrRow.drew {w : World} {a : Option Addr} {len cap : Nat} {L : AL} (h : AttrRow w a len cap L) : AttrRow w.drew a len cap L := ⟨h.row.drew, h.small, h.hnil⟩
theorem AttrRow.get {w : World} {a : Option Addr} {len cap : Nat} {L : AL} (h : AttrRow w a len cap L) {k : Nat} (hk : k < len) :
    ∃ b off n v, a = some ⟨b, off, none⟩ ∧ b < w.heap.size ∧ L[k]? = some (n, v) ∧ w.cell? ⟨b, off + k * 2, none⟩ = some (.string n) ∧ w.cell? ⟨b, off + k * 2 + 1, none⟩ = some (.string v) ∧ n.size ≤ maxLen ∧ v.size ≤ maxLen := by
  obtain ⟨b, off, x, ha, hlt, hg, _, hc⟩ := h.row.get hk
  have hs := h.small _ (List.mem_of_getElem? hg)
  exact ⟨b, off, x.1, x.2, ha, hlt, hg, hc 0 _ rfl, hc 1 _ rfl, hs.1, hs.2⟩
theorem AttrRow.len64 {w : World} {a : Option Addr} {len cap : Nat} {L : AL} (h : AttrRow w a len cap L) : len ≤ 9223372036854775807 := h.row.len64
def keyIs (n : List UInt8) (x : ByteArray × ByteArray) : Bool := x.1.toList == n
def atN (L : AL) (n : List UInt8) : Nat := L.findIdx (keyIs n)
def atL (L : AL) (n : List UInt8) : Int := if atN L n < L.length then (atN L n : Int) else -1
theorem atN_step {L : AL} {n : List UInt8} {k : Nat} {x : ByteArray × ByteArray} (h : k ≤ atN L n) (hk : L[k]? = some x) (hx : keyIs n x = false) : k + 1 ≤ atN L n := by
  obtain ⟨hl, hg⟩ := List.getElem?_eq_some_iff.1 hk
  by_cases e : k = atN L n
  · have h1 : atN L n < L.length := by omega
    have h2 : keyIs n (L[atN L n]'h1) = true := List.findIdx_getElem (w := h1)
    have h3 : (L[atN L n]'h1) = x := by
      rw [← hg]; congr 1; exact e.symm
    rw [h3, hx] at h2
    cases h2
  · omega
theorem atN_here {L : AL} {n : List UInt8} {k : Nat} {x : ByteArray × ByteArray} (h : k ≤ atN L n) (hk : L[k]? = some x) (hx : keyIs n x = true) : atN L n = k := by
  obtain ⟨hl, hg⟩ := List.getElem?_eq_some_iff.1 hk
  by_cases e : k < atN L n
  · have := List.not_of_lt_findIdx e
    rw [hg, hx] at this
    cases this
  · omega
theorem atL_here {L : AL} {n : List UInt8} {k : Nat} {x : ByteArray × ByteArray} (h : k ≤ atN L n) (hk : L[k]? = some x) (hx : keyIs n x = true) : atL L n = (k : Int) := by
  have := atN_here h hk hx
  obtain ⟨hl, hg⟩ := List.getElem?_eq_some_iff.1 hk
  unfold atL
  rw [this, if_pos hl]
theorem atL_none {L : AL} {n : List UInt8} {k : Nat} (h : k ≤ atN L n) (hk : L.length ≤ k) : atL L n = -1 := by
  unfold atL
  rw [if_neg (by omega)]
def pairB (x y : ByteArray × ByteArray) : Bool := (x.1.toList == y.1.toList) && (x.2.toList == y.2.toList)
theorem pairB_eq {x y : ByteArray × ByteArray} : pairB x y = true ↔ x = y := by
  unfold pairB
  constructor
  · intro h
    simp at h
    exact Prod.ext (toList_inj h.1) (toList_inj h.2)
  · rintro rfl; simp
end Go.Proofs.YtiffhlncnpppoaaGreatDoor
namespace Go.Proofs.YtiffhlncnpppoaaGreatDoor
open Go.RowKit
def In64 (z : Int) : Prop := -9223372036854775808 ≤ z ∧ z ≤ 9223372036854775807
def encZ (z : Int) : List Value := [.int .i64 z]
theorem encZ_len (z : Int) : (encZ z).length = 1 := rfl
theorem encZ_one (z : Int) : ∀ u ∈ encZ z, u.oneCell' = true := by
  intro u hu
  simp [encZ] at hu
  rw [hu]
  rfl
structure IntRow (w : World) (a : Option Addr) (len cap : Nat) (L : List Int) : Prop where
  row : SRow encZ 1 w a len cap L
  inb : ∀ z ∈ L, In64 z
  hnil : a = none → cap = 0
section
variable {w w' : World} {a : Option Addr} {len cap : Nat} {L : List Int}
theorem IntRow.hlen (h : IntRow w a len cap L) : L.length = len := h.row.hlen
theorem IntRow.len64 (h : IntRow w a len cap L) : len ≤ 9223372036854775807 := h.row.len64
theorem IntRow.below (h : IntRow w a len cap L) (hb : Below w.heap.size w w') : IntRow w' a len cap L := ⟨h.row.below hb, h.inb, h.hnil⟩
theorem IntRow.drewN (h : IntRow w a len cap L) (n : Nat) : IntRow (w.drewN n) a len cap L := ⟨h.row.drewN n, h.inb, h.hnil⟩
theorem IntRow.get (h : IntRow w a len cap L) {k : Nat} (hk : k < len) : ∃ b off z, a = some ⟨b, off, none⟩ ∧ b < w.heap.size ∧ L[k]? = some z ∧ w.cell? ⟨b, off + k, none⟩ = some (.int .i64 z) ∧ In64 z := by
  obtain ⟨b, off, x, ha, hlt, hg, _, hc⟩ := h.row.get hk
  have h0 := hc 0 _ rfl
  rw [Nat.mul_one, Nat.add_zero] at h0
  exact ⟨b, off, x, ha, hlt, hg, h0, h.inb _ (List.mem_of_getElem? hg)⟩
end
structure Core where
  kind : Int
  name : ByteArray
  is : ByteArray
  data : ByteArray
  attrs : AL
  parent : Int
  kids : List Int
  host : Int
  under : Int
  doc : Int
deriving DecidableEq
structure NodeD where
  core : Core
  aA : Option Addr
  aN : Nat
  aC : Nat
  kA : Option Addr
  kN : Nat
  kC : Nat
def encN (x : NodeD) : List Value := [.int .i64 x.core.kind, .string x.core.name, .string x.core.is, .string x.core.data, .slice x.aA x.aN x.aC, .int .i64 x.core.parent, .slice x.kA x.kN x.kC, .int .i64 x.core.host, .int .i64 x.core.under, .int .i64 x.core.doc]
theorem encN_len (x : NodeD) : (encN x).length = 10 := rfl
theorem encN_one (x : NodeD) : ∀ u ∈ encN x, u.oneCell' = true := by
  intro u hu
  simp [encN] at hu
  rcases hu with rfl | rfl | rfl | rfl | rfl | rfl | rfl | rfl | rfl | rfl <;> rfl
structure NodeOk (w : World) (x : NodeD) : Prop where
  attrs : AttrRow w x.aA x.aN x.aC x.core.attrs
  kids : IntRow w x.kA x.kN x.kC x.core.kids
  name : x.core.name.size ≤ maxLen
  is : x.core.is.size ≤ maxLen
  data : x.core.data.size ≤ maxLen
  kind : In64 x.core.kind
  parent : In64 x.core.parent
  host : In64 x.core.host
  under : In64 x.core.under
  doc : In64 x.core.doc
theorem NodeOk.below {w w' : World} {x : NodeD} (h : NodeOk w x) (hb : Below w.heap.size w w') : NodeOk w' x := ⟨h.attrs.below hb, h.kids.below hb, h.name, h.is, h.data, h.kind, h.parent, h.host, h.under, h.doc⟩
theorem NodeOk.drewN {w : World} {x : NodeD} (h : NodeOk w x) (n : Nat) : NodeOk (w.drewN n) x := ⟨h.attrs.drewN n, h.kids.drewN n, h.name, h.is, h.data, h.kind, h.parent, h.host, h.under, h.doc⟩
structure NodeRow (w : World) (a : Option Addr) (len cap : Nat) (L : List NodeD) : Prop where
  row : SRow encN 10 w a len cap L
  ok : ∀ x ∈ L, NodeOk w x
  hnil : a = none → cap = 0
section
variable {w w' : World} {a : Option Addr} {len cap : Nat} {L : List NodeD}
theorem NodeRow.hlen (h : NodeRow w a len cap L) : L.length = len := h.row.hlen
theorem NodeRow.len64 (h : NodeRow w a len cap L) : len ≤ 9223372036854775807 := h.row.len64
theorem NodeRow.below (h : NodeRow w a len cap L) (hb : Below w.heap.size w w') : NodeRow w' a len cap L := ⟨h.row.below hb, fun x hx => (h.ok x hx).below hb, h.hnil⟩
theorem NodeRow.drewN (h : NodeRow w a len cap L) (n : Nat) : NodeRow (w.drewN n) a len cap L := ⟨h.row.drewN n, fun x hx => (h.ok x hx).drewN n, h.hnil⟩
structure NodeAt (w : World) (b o : Nat) (x : NodeD) : Prop where
  c0 : w.cell? ⟨b, o, none⟩ = some (.int .i64 x.core.kind)
  c1 : w.cell? ⟨b, o + 1, none⟩ = some (.string x.core.name)
  c2 : w.cell? ⟨b, o + 2, none⟩ = some (.string x.core.is)
  c3 : w.cell? ⟨b, o + 3, none⟩ = some (.string x.core.data)
  c4 : w.cell? ⟨b, o + 4, none⟩ = some (.slice x.aA x.aN x.aC)
  c5 : w.cell? ⟨b, o + 5, none⟩ = some (.int .i64 x.core.parent)
  c6 : w.cell? ⟨b, o + 6, none⟩ = some (.slice x.kA x.kN x.kC)
  c7 : w.cell? ⟨b, o + 7, none⟩ = some (.int .i64 x.core.host)
  c8 : w.cell? ⟨b, o + 8, none⟩ = some (.int .i64 x.core.under)
  c9 : w.cell? ⟨b, o + 9, none⟩ = some (.int .i64 x.core.doc)
theorem NodeAt.below {b o : Nat} {x : NodeD} (h : NodeAt w b o x) (hlt : b < w.heap.size) (hb : Below w.heap.size w w') : NodeAt w' b o x := by
  have e : ∀ o', w'.cell? ⟨b, o', none⟩ = w.cell? ⟨b, o', none⟩ := fun o' => hb.cell (p := ⟨b, o', none⟩) hlt
  exact ⟨(e _).trans h.c0, (e _).trans h.c1, (e _).trans h.c2, (e _).trans h.c3, (e _).trans h.c4, (e _).trans h.c5, (e _).trans h.c6, (e _).trans h.c7, (e _).trans h.c8, (e _).trans h.c9⟩
theorem NodeRow.get (h : NodeRow w a len cap L) {k : Nat} (hk : k < len) : ∃ b off x, a = some ⟨b, off, none⟩ ∧ b < w.heap.size ∧ L[k]? = some x ∧ NodeAt w b (off + k * 10) x ∧ NodeOk w x := by
  obtain ⟨b, off, x, ha, hlt, hg, _, hc⟩ := h.row.get hk
  have h0 := hc 0 _ rfl
  rw [Nat.add_zero] at h0
  exact ⟨b, off, x, ha, hlt, hg, ⟨h0, hc 1 _ rfl, hc 2 _ rfl, hc 3 _ rfl, hc 4 _ rfl, hc 5 _ rfl, hc 6 _ rfl, hc 7 _ rfl, hc 8 _ rfl, hc 9 _ rfl⟩, h.ok _ (List.mem_of_getElem? hg)⟩
end
def coreL (L : List NodeD) : List Core := L.map (·.core)
end Go.Proofs.YtiffhlncnpppoaaGreatDoor
namespace Go.Proofs.YtiffhlncnpppoaaGreatDoor
open Go.RowKit
def hasZ (L : List Int) (n : Int) : Nat := L.countP (fun z => z == n)
def findN (L : List Int) (n : Int) : Nat := L.findIdx (fun z => z == n)
def findZ (L : List Int) (n : Int) : Int := if findN L n < L.length then (findN L n : Int) else -1
theorem hasZ_step {L : List Int} {n z : Int} {k : Nat} (h : L[k]? = some z) : hasZ (L.take (k + 1)) n = hasZ (L.take k) n + if z == n then 1 else 0 := by
  obtain ⟨hl, hg⟩ := List.getElem?_eq_some_iff.1 h
  unfold hasZ
  rw [List.take_succ_eq_append_getElem hl, hg, List.countP_append]
  simp [List.countP_cons]
theorem hasZ_le (L : List Int) (n : Int) (k : Nat) : hasZ (L.take k) n ≤ k := Nat.le_trans (List.countP_le_length) (List.length_take_le _ _)
theorem findN_here {L : List Int} {n z : Int} {k : Nat} (h : k ≤ findN L n) (hk : L[k]? = some z) (hz : (z == n) = true) : findN L n = k := by
  obtain ⟨hl, hg⟩ := List.getElem?_eq_some_iff.1 hk
  by_cases e : k < findN L n
  · have := List.not_of_lt_findIdx e
    rw [hg, hz] at this
    cases this
  · omega
theorem findN_step {L : List Int} {n z : Int} {k : Nat} (h : k ≤ findN L n) (hk : L[k]? = some z) (hz : (z == n) = false) : k + 1 ≤ findN L n := by
  obtain ⟨hl, hg⟩ := List.getElem?_eq_some_iff.1 hk
  by_cases e : k = findN L n
  · have h1 : findN L n < L.length := by omega
    have h2 : ((L[findN L n]'h1) == n) = true := List.findIdx_getElem (w := h1)
    have h3 : (L[findN L n]'h1) = z := by rw [← hg]; congr 1; exact e.symm
    rw [h3, hz] at h2
    cases h2
  · omega
theorem refhas_any (a : Option Addr) (len cap : Nat) (L : List Int) (n : Int) (w : World) (h : IntRow w a len cap L) :
    Calls Tryz.prog 37 #[.slice a len cap, .int .i64 n] w fun e w' => e = .returned (.int .i64 (hasZ L n)) ∧ w = w' := by
  have hl := h.len64
  go_enter Tryz.func37, Tryz.ntmps37
  go_wp2
  go_loop [5, 6] (fun m i => ∃ k : Nat, k ≤ len ∧ i = .int .i64 k ∧ m = .int .i64 (hasZ (L.take k) n : Nat)) (fun _ i => len - (intOf i).toNat)
  case atStart => exact ⟨0, Nat.zero_le _, rfl, rfl⟩
  case round =>
    obtain ⟨k, hk, rfl, rfl⟩ := hrel
    have hle := hasZ_le L n k
    obtain ⟨m, hm⟩ : ∃ m, hasZ (L.take k) n = m := ⟨_, rfl⟩
    rw [hm] at hle ⊢
    by_cases hlt : k < len
    · obtain ⟨b, off, z, rfl, hb, hx, hc, _⟩ := h.get hlt
      have HS := Lib.hid (hasZ_step (n := n) hx)
      have HM := Lib.hid hm
      clear hx hm
      by_cases he : z = n
      · have e1 : (z == n) = true := beq_iff_eq.2 he
        have HE : Hid (hasZ (L.take (k + 1)) n = m + 1) := Lib.hid (by rw [HS.out, HM.out, e1]; rfl)
        clear he
        go_wp2
        go_round
        case rel => exact ⟨k + 1, by omega, by go_num, by rw [HE.out]; go_num⟩
        case measure => simp [intOf]; omega
      · have e1 : (z == n) = false := beq_eq_false_iff_ne.2 he
        have HE : Hid (hasZ (L.take (k + 1)) n = m) := Lib.hid (by rw [HS.out, HM.out, e1]; rfl)
        clear he
        go_wp2
        go_round
        case rel => exact ⟨k + 1, by omega, by go_num, by rw [HE.out]⟩
        case measure => simp [intOf]; omega
    · have HR : Hid (m = hasZ L n) := Lib.hid (by rw [← hm, List.take_of_length_le (by have := h.hlen; omega)])
      clear hm
      go_wp2
      go_ret
      exact ⟨ret_int (by rw [HR.out]), rfl⟩
theorem refints_any (a a' : Option Addr) (len cap len' cap' : Nat) (L M : List Int) (w : World) (h : IntRow w a len cap L) (h' : IntRow w a' len' cap' M) :
    Calls Tryz.prog 38 #[.slice a len cap, .slice a' len' cap'] w fun e w' => e = .returned (.bool (decide (L = M))) ∧ ∃ n, w' = w.drewN n := by
  have hl := h.len64
  have hl' := h'.len64
  by_cases hll : len = len'
  rotate_left
  · have hr : Hid (decide (L = M) = false) := Lib.hid (decide_eq_false (fun e => hll (by rw [← h.hlen, ← h'.hlen, e])))
    have e1 : ((len : Int) == (len' : Int)) = false := beq_eq_false_iff_ne.2 (by omega)
    have e2 : ((len : Int) != (len' : Int)) = true := by unfold bne; rw [e1]; rfl
    clear hll
    go_enter Tryz.func38, Tryz.ntmps38
    go_wp2
    go_ret
    exact ⟨ret_bool hr.out.symm, 0, rfl⟩
  subst hll
  have e1 : ((len : Int) == (len : Int)) = true := beq_iff_eq.2 rfl
  have e2 : ((len : Int) != (len : Int)) = false := by unfold bne; rw [e1]; rfl
  go_enter Tryz.func38, Tryz.ntmps38
  go_wp2
  go_loopw [5] (fun i wr => ∃ k n : Nat, k ≤ len ∧ i = .int .i64 k ∧ wr = w.drewN n ∧ Hid (L.take k = M.take k)) (fun i _ => len - (intOf i).toNat)
  case atStart => exact ⟨0, 0, Nat.zero_le _, rfl, rfl, Lib.hid rfl⟩
  case round =>
    obtain ⟨k, n, hk, rfl, rfl, HT⟩ := hrel
    by_cases hlt : k < len
    · obtain ⟨b, off, x, rfl, hb, hx, hc1, _⟩ := h.get hlt
      obtain ⟨b', off', y, rfl, hb', hy, hd1, _⟩ := h'.get hlt
      have HX := Lib.hid hx
      have HY := Lib.hid hy
      clear hx hy
      by_cases he : x = y
      · have f1 : (x == y) = true := beq_iff_eq.2 he
        have f2 : (x != y) = false := by unfold bne; rw [f1]; rfl
        have HE := Lib.hid he
        clear he
        go_wp2
        go_quiet (fail)
        go_wp2
        go_roundw
        case rel =>
          refine ⟨k + 1, _, by omega, by go_num, by first | rfl | exact World.drewN_drewN _ _ _, Lib.hid ?_⟩
          obtain ⟨hl1, hg1⟩ := List.getElem?_eq_some_iff.1 HX.out
          obtain ⟨hl2, hg2⟩ := List.getElem?_eq_some_iff.1 HY.out
          rw [List.take_succ_eq_append_getElem hl1, List.take_succ_eq_append_getElem hl2, hg1, hg2, HT.out, HE.out]
        case measure => simp [intOf]; omega
      · have f1 : (x == y) = false := beq_eq_false_iff_ne.2 he
        have f2 : (x != y) = true := by unfold bne; rw [f1]; rfl
        have HR : Hid (decide (L = M) = false) := Lib.hid (decide_eq_false (fun e => he (by
          have h1 := HX.out
          rw [e, HY.out] at h1
          exact (Option.some.inj h1).symm)))
        clear he
        go_wp2
        go_quiet (fail)
        go_wp2
        go_ret
        exact ⟨ret_bool HR.out.symm, _, by first | rfl | exact World.drewN_drewN _ _ _⟩
    · have HR : Hid (decide (L = M) = true) := Lib.hid (decide_eq_true (by
        have h1 := HT.out
        rwa [List.take_of_length_le (by have := h.hlen; omega), List.take_of_length_le (by have := h'.hlen; omega)] at h1))
      go_wp2
      go_ret
      exact ⟨ret_bool HR.out.symm, n, rfl⟩
end Go.Proofs.YtiffhlncnpppoaaGreatDoor
namespace Go.Proofs.YtiffhlncnpppoaaGreatDoor
open Go.RowKit
def okAt (L : AL) (k : Nat) (x : ByteArray × ByteArray) : Bool := rightL x.1.toList && (smallL x.1.toList == x.1.toList) && decide (x.2.size ≤ 200) && decide (atN L x.1.toList = k)
def rightA (L : AL) : Bool := decide (L.length ≤ 40) && L.zipIdx.all (fun p => okAt L p.2 p.1)
theorem rightA_iff (L : AL) : rightA L = true ↔ L.length ≤ 40 ∧ ∀ (k : Nat) x, L[k]? = some x → okAt L k x = true := by
  unfold rightA
  rw [Bool.and_eq_true, decide_eq_true_eq, List.all_eq_true]
  constructor
  · rintro ⟨h1, h2⟩
    refine ⟨h1, fun k x hx => ?_⟩
    exact h2 (x, k) (List.mk_mem_zipIdx_iff_getElem?.2 hx)
  · rintro ⟨h1, h2⟩
    refine ⟨h1, fun p hp => ?_⟩
    exact h2 p.2 p.1 (List.mk_mem_zipIdx_iff_getElem?.1 hp)
theorem rightA_stop {L : AL} {k : Nat} {x : ByteArray × ByteArray} (hx : L[k]? = some x) (h : okAt L k x = false) : rightA L = false := by
  by_cases hr : rightA L = true
  · have := ((rightA_iff L).1 hr).2 k x hx
    rw [h] at this; cases this
  · simpa using hr
theorem rightA_long {L : AL} (h : 40 < L.length) : rightA L = false := by
  unfold rightA
  rw [decide_eq_false (by omega)]
  rfl
theorem rightL_len {l : List UInt8} (h : rightL l = true) : l.length ≤ 40 := by
  by_cases hl : l.length < 1 ∨ 40 < l.length
  · rw [rightL_ends l hl] at h; cases h
  · omega
theorem atL_nat {L : AL} {n : List UInt8} {k : Nat} (h : atL L n = (k : Int)) : atN L n = k := by
  unfold atL at h
  split at h <;> omega
theorem atL_of_nat {L : AL} {n : List UInt8} {k : Nat} (h : atN L n = k) (hk : k < L.length) : atL L n = (k : Int) := by
  unfold atL
  rw [h, if_pos hk]
end Go.Proofs.YtiffhlncnpppoaaGreatDoor
namespace Go.Proofs.YtiffhlncnpppoaaGreatDoor
open Go.RowKit
def getC (F : List Core) (i : Int) : Option Core := if 0 ≤ i then F[i.toNat]? else none
theorem getC_some {F : List Core} {i : Int} {c : Core} (h : getC F i = some c) : 0 ≤ i ∧ i.toNat < F.length ∧ F[i.toNat]? = some c := by
  unfold getC at h
  by_cases hi : 0 ≤ i
  · rw [if_pos hi] at h
    exact ⟨hi, (List.getElem?_eq_some_iff.1 h).1, h⟩
  · rw [if_neg hi] at h
    cases h
theorem getC_nat {F : List Core} {i : Nat} : getC F (i : Int) = F[i]? := by
  unfold getC
  rw [if_pos (by omega)]
  rfl
def parOk (F : List Core) (i : Nat) (x : Core) : Bool :=
  x.parent == -1 || ((x.kind == 1 || x.kind == 2) && match getC F x.parent with | some p => p.kind != 2 && hasZ p.kids i == 1 | none => false)
def kidOk (F : List Core) (i : Nat) (x : Core) (k : Int) : Bool :=
  hasZ x.kids k == 1 && match getC F k with | some c => (c.kind == 1 || c.kind == 2) && c.parent == (i : Int) && c.doc == x.doc | none => false
def kindK (F : List Core) (k : Int) : Int := match getC F k with | some c => c.kind | none => -1
def elemsK (F : List Core) (x : Core) : Nat := x.kids.countP (fun k => kindK F k == 1)
def docOk (F : List Core) (i : Nat) (x : Core) : Bool :=
  decide (0 ≤ x.kind) && decide (x.kind ≤ 4) && (match getC F x.doc with | some d => d.kind == 0 | none => false) && (x.kind != 0 || x.doc == (i : Int))
def shapeOk (F : List Core) (x : Core) : Bool := !(x.kind == 2 && decide (0 < x.kids.length)) && !(x.kind == 0 && (decide (1 < elemsK F x) || decide (elemsK F x < x.kids.length)))
def hostOk (F : List Core) (i : Nat) (x : Core) : Bool :=
  if x.kind = 4 then (match getC F x.host with | some h => h.kind == 1 && h.under == (i : Int) && h.doc == x.doc | none => false) else x.host == -1
def underOk (F : List Core) (i : Nat) (x : Core) : Bool :=
  x.under == -1 || (x.kind == 1 && match getC F x.under with | some u => u.kind == 4 && u.host == (i : Int) | none => false)
def textOk (x : Core) : Bool :=
  if x.kind = 1 then rightL x.name.toList && (smallL x.name.toList == x.name.toList) && (x.is.toList == [] || customL x.is.toList) && (x.data.toList == []) && rightA x.attrs
  else (x.name.toList == []) && (x.is.toList == []) && decide (x.attrs.length = 0) && (x.data.toList == [] || (x.kind == 2 && decide (x.data.size ≤ 200)))
def nodeOk (F : List Core) (i : Nat) (x : Core) : Bool := docOk F i x && parOk F i x && x.kids.all (kidOk F i x) && shapeOk F x && hostOk F i x && underOk F i x && textOk x
def nextUp (F : List Core) (i : Int) : Int := match getC F i with | some c => if c.parent = -1 then c.host else c.parent | none => -1
def headDoc (F : List Core) : Bool := match F with | c :: _ => c.kind == 0 | [] => false
def rightF (most : Int) (F : List Core) : Bool :=
  decide (1 ≤ most) && decide (most ≤ 400) && decide ((F.length : Int) ≤ most) && headDoc F && F.zipIdx.all (fun p => nodeOk F p.2 p.1) && (List.range F.length).all (fun i => endsZ (nextUp F) (F.length + 1) (i : Int))
theorem rightF_iff (most : Int) (F : List Core) : rightF most F = true ↔ (1 ≤ most ∧ most ≤ 400 ∧ (F.length : Int) ≤ most ∧ headDoc F = true) ∧ (∀ (i : Nat) x, F[i]? = some x → nodeOk F i x = true) ∧ ∀ i : Nat, i < F.length → endsZ (nextUp F) (F.length + 1) (i : Int) = true := by
  unfold rightF
  simp only [Bool.and_eq_true, decide_eq_true_eq, List.all_eq_true]
  constructor
  · rintro ⟨⟨⟨⟨⟨h1, h2⟩, h3⟩, h4⟩, h5⟩, h6⟩
    exact ⟨⟨h1, h2, h3, h4⟩, fun i x hx => h5 (x, i) (List.mk_mem_zipIdx_iff_getElem?.2 hx), fun i hi => h6 i (List.mem_range.2 hi)⟩
  · rintro ⟨⟨h1, h2, h3, h4⟩, h5, h6⟩
    exact ⟨⟨⟨⟨⟨h1, h2⟩, h3⟩, h4⟩, fun p hp => h5 p.2 p.1 (List.mk_mem_zipIdx_iff_getElem?.1 hp)⟩, fun i hi => h6 i (List.mem_range.1 hi)⟩
def parF (F : List Core) (i : Nat) : Option Nat := match F[i]? with | some c => if c.parent = -1 then none else some c.parent.toNat | none => none
def kidsF (F : List Core) (i : Nat) : List Nat := match F[i]? with | some c => c.kids.map Int.toNat | none => []
def rankF (F : List Core) (i : Nat) : Nat := rankZ (nextUp F) F.length (i : Int)
theorem hasZ_mem {L : List Int} {n : Int} (h : hasZ L n = 1) : n ∈ L := by
  have : 0 < L.countP (fun z => z == n) := by unfold hasZ at h; omega
  obtain ⟨z, hz, he⟩ := List.countP_pos_iff.1 this
  exact (beq_iff_eq.1 he) ▸ hz
theorem nodup_of_has : ∀ {L : List Int}, (∀ z ∈ L, hasZ L z = 1) → L.Nodup
  | [], _ => List.nodup_nil
  | a :: r, h => by
    have ha : hasZ (a :: r) a = 1 := h a (by simp)
    unfold hasZ at ha
    rw [List.countP_cons] at ha
    simp at ha
    rw [List.nodup_cons]
    refine ⟨fun hm => ?_, nodup_of_has (fun z hz => ?_)⟩
    · have : 0 < r.countP (fun z => z == a) := List.countP_pos_iff.2 ⟨a, hm, by simp⟩
      have h0 : r.countP (fun z => z == a) = 0 := by
        rw [List.countP_eq_zero]
        intro z hz
        have := ha z hz
        simpa using this
      omega
    · have h1 := h z (by simp [hz])
      unfold hasZ at h1 ⊢
      rw [List.countP_cons] at h1
      have : 0 < r.countP (fun y => y == z) := List.countP_pos_iff.2 ⟨z, hz, by simp⟩
      omega
theorem tree_of_right {most : Int} {F : List Core} (h : rightF most F = true) : Tree F.length (parF F) (kidsF F) (rankF F) := by
  obtain ⟨_, h2, h3⟩ := (rightF_iff most F).1 h
  have parts : ∀ (i : Nat) x, F[i]? = some x → parOk F i x = true ∧ (∀ k ∈ x.kids, kidOk F i x k = true) := fun i x hx => by
    have := h2 i x hx
    unfold nodeOk at this
    simp only [Bool.and_eq_true, List.all_eq_true] at this
    exact ⟨this.1.1.1.1.1.2, this.1.1.1.1.2⟩
  have kid : ∀ (i k : Nat), k ∈ kidsF F i → ∃ x c, F[i]? = some x ∧ F[k]? = some c ∧ (k : Int) ∈ x.kids ∧ c.parent = (i : Int) ∧ hasZ x.kids k = 1 := fun i k hk => by
    unfold kidsF at hk
    cases hx : F[i]? with
    | none => rw [hx] at hk; simp at hk
    | some x =>
      rw [hx] at hk
      obtain ⟨z, hz, rfl⟩ := List.mem_map.1 hk
      have g := (parts i x hx).2 z hz
      unfold kidOk at g
      cases hc : getC F z with
      | none => rw [hc] at g; simp at g
      | some c =>
        rw [hc] at g
        simp only [Bool.and_eq_true, beq_iff_eq] at g
        obtain ⟨e1, e2, e3⟩ := getC_some hc
        have hzz : ((z.toNat : Nat) : Int) = z := by omega
        exact ⟨x, c, rfl, e3, by rw [hzz]; exact hz, g.2.1.2, by rw [hzz]; exact g.1⟩
  have parent : ∀ (k i : Nat), parF F k = some i → ∃ c p, F[k]? = some c ∧ c.parent = (i : Int) ∧ F[i]? = some p ∧ (k : Int) ∈ p.kids := fun k i hp => by
    unfold parF at hp
    cases hc : F[k]? with
    | none => rw [hc] at hp; simp at hp
    | some c =>
      rw [hc] at hp
      dsimp only at hp
      by_cases he : c.parent = -1
      · rw [if_pos he] at hp; cases hp
      · rw [if_neg he] at hp
        injection hp with hp
        have g := (parts k c hc).1
        unfold parOk at g
        rw [beq_eq_false_iff_ne.2 he, Bool.false_or, Bool.and_eq_true] at g
        cases hg : getC F c.parent with
        | none => rw [hg] at g; simp at g
        | some p =>
          rw [hg] at g
          simp only [Bool.and_eq_true, beq_iff_eq] at g
          obtain ⟨e1, e2, e3⟩ := getC_some hg
          rw [hp] at e3
          exact ⟨c, p, rfl, by omega, e3, hasZ_mem g.2.2⟩
  refine ⟨fun i k hk => ?_, fun i k hk => ?_, fun i k hk hp => ?_, fun i => ?_, fun i k hk hp => ?_, fun i hi => ?_⟩
  · obtain ⟨x, c, _, hc, _⟩ := kid i k hk
    exact (List.getElem?_eq_some_iff.1 hc).1
  · obtain ⟨x, c, _, hc, _, hp, _⟩ := kid i k hk
    unfold parF
    rw [hc]
    dsimp only
    rw [if_neg (by omega), hp]
    rfl
  · obtain ⟨c, p, _, _, hpi, hm⟩ := parent k i hp
    refine ⟨(List.getElem?_eq_some_iff.1 hpi).1, ?_⟩
    unfold kidsF
    rw [hpi]
    exact List.mem_map.2 ⟨(k : Int), hm, by simp⟩
  · unfold kidsF
    cases hx : F[i]? with
    | none => simp
    | some x =>
      have hn : x.kids.Nodup := nodup_of_has (fun z hz => by
        have g := (parts i x hx).2 z hz
        unfold kidOk at g
        rw [Bool.and_eq_true, beq_iff_eq] at g
        exact g.1)
      have hpos : ∀ z ∈ x.kids, 0 ≤ z := fun z hz => by
        have g := (parts i x hx).2 z hz
        unfold kidOk at g
        cases hc : getC F z with
        | none => rw [hc] at g; simp at g
        | some c => exact (getC_some hc).1
      have key : ∀ l : List Int, l.Nodup → (∀ z ∈ l, 0 ≤ z) → (l.map Int.toNat).Nodup := by
        intro l
        induction l with
        | nil => intro _ _; simp
        | cons a r ih =>
          intro hl hp
          rw [List.nodup_cons] at hl
          rw [List.map_cons, List.nodup_cons]
          refine ⟨fun hm => ?_, ih hl.2 (fun z hz => hp z (by simp [hz]))⟩
          obtain ⟨z, hz, e⟩ := List.mem_map.1 hm
          have h1 := hp a (by simp)
          have h2 := hp z (by simp [hz])
          have : z = a := by omega
          exact hl.1 (this ▸ hz)
      exact key _ hn hpos
  · obtain ⟨c, p, hc, hpar, hpi, _⟩ := parent k i hp
    have hi := (List.getElem?_eq_some_iff.1 hpi).1
    have hnx : nextUp F (k : Int) = (i : Int) := by
      unfold nextUp
      rw [getC_nat, hc]
      dsimp only
      rw [if_neg (by omega), hpar]
    unfold rankF
    have := rankZ_up (nxt := nextUp F) (n := F.length) (i := (k : Int)) (by omega) (h3 k hk) (by rw [hnx]; exact h3 i hi)
    rw [this, hnx]
  · exact rankZ_le (n := F.length) (h3 i hi)
def rootF (F : List Core) (a : Nat) : Nat := rootN (parF F) (F.length + 1) a
def ordF (F : List Core) (a : Nat) : List Nat := ordN (kidsF F) (F.length + 1) a
def placeF (F : List Core) (a : Nat) : Int := match parF F a with | some p => findZ (match F[p]? with | some c => c.kids | none => []) (a : Int) | none => -1
end Go.Proofs.YtiffhlncnpppoaaGreatDoor
namespace Go.Proofs.YtiffhlncnpppoaaGreatDoor
open Go.RowKit
abbrev forV (a : Option Addr) (len cap : Nat) (m : Int) : Value := .agg #[.slice a len cap, .int .i64 m]
abbrev forB (a : Option Addr) (len cap : Nat) (m : Int) : Obj := .cells #[.slice a len cap, .int .i64 m] 24
def shortN (x : NodeD) : Bool := decide (x.core.kids.length ≤ 60) && decide (x.core.attrs.length ≤ 60) && decide (x.core.name.size ≤ 300)
def shortF (L : List NodeD) : Bool := decide (L.length ≤ 60) && L.all shortN
theorem below_box (w : World) (B : Obj) : Below w.heap.size w (w.alloc B) := (Below.refl _ _).alloc (Nat.le_refl _) B
set_option maxHeartbeats 4000000 in
set_option maxRecDepth 100000 in
theorem refshortF_any (a : Option Addr) (len cap : Nat) (m : Int) (L : List NodeD) (w : World) (h0 : NodeRow w a len cap L) :
    Calls Tryz.prog 14 #[forV a len cap m] w fun e w' => e = .returned (.bool (shortF L)) ∧ Below w.heap.size w w' := by
  have hl := h0.len64
  have HLN := Lib.hid h0.hlen
  have h := h0.below (below_box w (forB a len cap m))
  clear h0
  by_cases h60 : 60 < len
  · have HR : Hid (shortF L = false) := Lib.hid (by unfold shortF; rw [decide_eq_false (by rw [HLN.out]; omega)]; rfl)
    go_enter Tryz.func14, Tryz.ntmps14
    go_wp2
    go_ret
    exact ⟨ret_bool HR.out.symm, below_box _ _⟩
  go_enter Tryz.func14, Tryz.ntmps14
  go_wp2
  go_loop [3] (fun i => ∃ k : Nat, k ≤ len ∧ i = .int .i64 k ∧ Hid (∀ (j : Nat) x, j < k → L[j]? = some x → shortN x = true)) (fun i => len - (intOf i).toNat)
  case atStart => exact ⟨0, Nat.zero_le _, rfl, Lib.hid (fun j x hj _ => absurd hj (by omega))⟩
  case round =>
    obtain ⟨k, hk, rfl, HA⟩ := hrel
    by_cases hlt : k < len
    · obtain ⟨b, off, x, rfl, hb, hx, hc, hok⟩ := h.get hlt
      have hb2 : b < w.heap.size + 1 := by simpa using hb
      have c1 := hc.c1
      have c4 := hc.c4
      have c6 := hc.c6
      have HK := Lib.hid hok.kids.hlen
      have HAN := Lib.hid hok.attrs.hlen
      have hk6 := hok.kids.len64
      have ha6 := hok.attrs.len64
      have hn6 : x.core.name.size ≤ 9223372036854775807 := by have := hok.name; unfold maxLen at this; omega
      have HX := Lib.hid hx
      have stop : shortN x = false → shortF L = false := fun hs => by
        unfold shortF
        have : L.all shortN = false := by rw [List.all_eq_false]; exact ⟨x, List.mem_of_getElem? HX.out, by simp [hs]⟩
        rw [this, Bool.and_false]
      have STOP := Lib.hid stop
      clear hc hok hx stop
      by_cases q1 : (60 : Int) < (x.kN : Int)
      · have HR : Hid (shortF L = false) := Lib.hid (STOP.out (by unfold shortN; rw [decide_eq_false (by rw [HK.out]; omega)]; rfl))
        go_wp2
        go_ret
        exact ⟨ret_bool HR.out.symm, below_box _ _⟩
      by_cases q2 : (60 : Int) < (x.aN : Int)
      · have HR : Hid (shortF L = false) := Lib.hid (STOP.out (by unfold shortN; rw [decide_eq_false (show ¬ x.core.attrs.length ≤ 60 by rw [HAN.out]; omega)]; simp))
        go_wp2
        go_ret
        exact ⟨ret_bool HR.out.symm, below_box _ _⟩
      by_cases q3 : (300 : Int) < (x.core.name.size : Int)
      · have HR : Hid (shortF L = false) := Lib.hid (STOP.out (by unfold shortN; rw [decide_eq_false (show ¬ x.core.name.size ≤ 300 by omega)]; simp))
        go_wp2
        go_ret
        exact ⟨ret_bool HR.out.symm, below_box _ _⟩
      have HS : Hid (shortN x = true) := Lib.hid (by
        unfold shortN
        rw [decide_eq_true (show x.core.kids.length ≤ 60 by rw [HK.out]; omega), decide_eq_true (show x.core.attrs.length ≤ 60 by rw [HAN.out]; omega), decide_eq_true (show x.core.name.size ≤ 300 by omega)]
        rfl)
      go_wp2
      go_round
      case rel =>
        refine ⟨k + 1, by omega, by go_num, Lib.hid (fun j y hj hy => ?_)⟩
        by_cases e : j = k
        · subst e
          rw [HX.out] at hy
          rw [← Option.some.inj hy]
          exact HS.out
        · exact HA.out j y (by omega) hy
      case measure => simp [intOf]; omega
    · have HR : Hid (shortF L = true) := Lib.hid (by
        unfold shortF
        have : L.all shortN = true := by
          rw [List.all_eq_true]
          intro x hx
          obtain ⟨j, hj, he⟩ := List.mem_iff_getElem.1 hx
          exact HA.out j x (by rw [HLN.out] at hj; omega) (by rw [List.getElem?_eq_getElem hj, he])
        rw [this, decide_eq_true (by rw [HLN.out]; omega)]
        rfl)
      go_wp2
      go_ret
      exact ⟨ret_bool HR.out.symm, below_box _ _⟩
end Go.Proofs.YtiffhlncnpppoaaGreatDoor
namespace Go.Proofs.YtiffhlncnpppoaaGreatDoor
open Go.RowKit
abbrev nodVal (x : NodeD) : Value := .agg #[.int .i64 x.core.kind, .string x.core.name, .string x.core.is, .string x.core.data, .slice x.aA x.aN x.aC, .int .i64 x.core.parent, .slice x.kA x.kN x.kC, .int .i64 x.core.host, .int .i64 x.core.under, .int .i64 x.core.doc]
def smallN (x : NodeD) : Prop := x.core.kids.length ≤ 1000 ∧ x.core.attrs.length ≤ 1000 ∧ x.core.name.size ≤ 1000
def smallX (x : NodeD) : Prop := x.core.attrs.length ≤ 1000 ∧ x.core.name.size ≤ 1000
def smallF (L : List NodeD) : Prop := L.length ≤ 1000 ∧ ∀ x ∈ L, smallN x
theorem small_of_short {L : List NodeD} (h : shortF L = true) : smallF L := by
  unfold shortF at h
  simp only [Bool.and_eq_true, decide_eq_true_eq, List.all_eq_true] at h
  refine ⟨by omega, fun x hx => ?_⟩
  have := h.2 x hx
  unfold shortN at this
  simp only [Bool.and_eq_true, decide_eq_true_eq] at this
  exact ⟨by omega, by omega, by omega⟩
def docC : Core := ⟨0, ⟨#[]⟩, ⟨#[]⟩, ⟨#[]⟩, [], -1, [], -1, -1, 0⟩
def newOk (most : Int) : Bool := decide (1 ≤ most) && decide (most ≤ 400)
def newL (most : Int) : List Core := if newOk most then [docC] else []
def newM (most : Int) : Int := if newOk most then most else 0
def newE (most : Int) : Int := if newOk most then 0 else 1
def bareC (F : List Core) (x : Core) : Core := ⟨x.kind, x.name, x.is, x.data, x.attrs, -1, [], -1, -1, if x.kind = 0 then (F.length : Int) else x.doc⟩
def makeE (m : Int) (F : List Core) (x : Core) : Int :=
  if rightF m F && x.kind != 4 && nodeOk (F ++ [bareC F x]) F.length (bareC F x) then (if m ≤ (F.length : Int) then 8 else 0) else 1
def makeL (m : Int) (F : List Core) (x : Core) : List Core := if makeE m F x = 0 then F ++ [bareC F x] else F
def makeN (m : Int) (F : List Core) (x : Core) : Int := if makeE m F x = 0 then (F.length : Int) else -1
def thereF (m : Int) (F : List Core) (n : Int) : Bool := rightF m F && decide (0 ≤ n) && decide (n < (F.length : Int))
def rootZ (m : Int) (F : List Core) (n : Int) : Int := if thereF m F n then (rootF F n.toNat : Int) else -1
def placeZ (m : Int) (F : List Core) (n : Int) : Int := if thereF m F n then placeF F n.toNat else -1
def ForPost (w : World) (F : List Core) (m : Int) (rest : List Value) (e : Ending) (w' : World) : Prop :=
  ∃ a len cap L, e = .returned (.tuple (forV a len cap m :: rest).toArray) ∧ NodeRow w' a len cap L ∧ coreL L = F ∧ Below w.heap.size w w'
def OrdPost (w : World) (l : List Int) (e : Ending) (w' : World) : Prop := ∃ a len cap, e = .returned (.slice a len cap) ∧ IntRow w' a len cap l ∧ Below w.heap.size w w'
end Go.Proofs.YtiffhlncnpppoaaGreatDoor
namespace Go.Proofs.YtiffhlncnpppoaaGreatDoor
open Go.RowKit
theorem attr_fields : Tryz.prog.underlying 160 = some (.struct (Tryz.prog.fieldsOf 160)) := by
  unfold Program.fieldsOf
  rw [Tryz.underlying160]
theorem attr_held : Tryz.prog.stoodInHeld 160 = false := by kernel_rfl
theorem attr_guard : Tryz.prog.eqGuardType Tryz.prog.depth 160 = false := by kernel_rfl
theorem attr_equal (xn xv yn yv : ByteArray) (W : World) :
    (Op.equalIn 10000 160 (.agg #[.string xn, .string xv]) (.agg #[.string yn, .string yv])).run Tryz.prog W = .ok (pairB (xn, xv) (yn, yv)) W := by
  have u9 := Tryz.underlying9
  have a9 := Tryz.isAgg9
  have z9 := Tryz.sizeOf9
  rw [show (10000 : Nat) = 9999 + 1 from rfl, run_equalIn_agg W 9999 160 _ _ attr_fields attr_held]
  simp only [Program.fieldsOf, Tryz.underlying160]
  go_simp
  unfold pairB
  by_cases h1 : xn.toList = yn.toList <;> by_cases h2 : xv.toList = yv.toList <;> simp [h1, h2]
theorem attr_neq (xn xv yn yv : ByteArray) (W : World) :
    (binOp .neq 160 (.agg #[.string xn, .string xv]) (.agg #[.string yn, .string yv])).run Tryz.prog W = .ok (.bool (!pairB (xn, xv) (yn, yv))) W := by
  rw [run_neq_struct, attr_equal]
  rfl
end Go.Proofs.YtiffhlncnpppoaaGreatDoor
namespace Go.Proofs.YtiffhlncnpppoaaGreatDoor
open Go.RowKit
def sameL (L M : AL) : Bool := decide (L = M)
theorem refsame_any (a a' : Option Addr) (len cap len' cap' : Nat) (L M : AL) (w : World) (h : AttrRow w a len cap L) (h' : AttrRow w a' len' cap' M) :
    Calls Tryz.prog 110 #[.slice a len cap, .slice a' len' cap'] w fun e w' => e = .returned (.bool (sameL L M)) ∧ ∃ n, w' = w.drewN n := by
  have hl := h.len64
  have hl' := h'.len64
  by_cases hll : len = len'
  rotate_left
  · have hr : Hid (sameL L M = false) := Lib.hid (decide_eq_false (fun e => hll (by rw [← h.hlen, ← h'.hlen, e])))
    have e1 : ((len : Int) == (len' : Int)) = false := beq_eq_false_iff_ne.2 (by omega)
    have e2 : ((len : Int) != (len' : Int)) = true := by unfold bne; rw [e1]; rfl
    clear hll
    go_enter Tryz.func110, Tryz.ntmps110
    go_wp2
    go_ret
    exact ⟨ret_bool hr.out.symm, 0, rfl⟩
  subst hll
  have e1 : ((len : Int) == (len : Int)) = true := beq_iff_eq.2 rfl
  have e2 : ((len : Int) != (len : Int)) = false := by unfold bne; rw [e1]; rfl
  go_enter Tryz.func110, Tryz.ntmps110
  go_wp2
  go_loopw [5] (fun i wr => ∃ k n : Nat, k ≤ len ∧ i = .int .i64 k ∧ wr = w.drewN n ∧ Hid (L.take k = M.take k)) (fun i _ => len - (intOf i).toNat)
  case atStart => exact ⟨0, 0, Nat.zero_le _, rfl, rfl, Lib.hid rfl⟩
  case round =>
    obtain ⟨k, n, hk, rfl, rfl, HT⟩ := hrel
    by_cases hlt : k < len
    · obtain ⟨b, off, xn, xv, rfl, hb, hx, hc1, hc2, _, _⟩ := h.get hlt
      obtain ⟨b', off', yn, yv, rfl, hb', hy, hd1, hd2, _, _⟩ := h'.get hlt
      have HX := Lib.hid hx
      have HY := Lib.hid hy
      have hneq := fun W => attr_neq xn xv yn yv W
      have hgd := attr_guard
      clear hx hy
      by_cases he : pairB (xn, xv) (yn, yv) = true
      · have HE := Lib.hid (pairB_eq.1 he)
        go_wp2
        go_quiet (fail)
        go_wp2
        go_roundw
        case rel =>
          refine ⟨k + 1, _, by omega, by go_num, by first | rfl | exact World.drewN_drewN _ _ _, Lib.hid ?_⟩
          obtain ⟨hl1, hg1⟩ := List.getElem?_eq_some_iff.1 HX.out
          obtain ⟨hl2, hg2⟩ := List.getElem?_eq_some_iff.1 HY.out
          rw [List.take_succ_eq_append_getElem hl1, List.take_succ_eq_append_getElem hl2, hg1, hg2, HT.out, HE.out]
        case measure => simp [intOf]; omega
      · have he : pairB (xn, xv) (yn, yv) = false := by simpa using he
        have HR : Hid (sameL L M = false) := Lib.hid (decide_eq_false (fun e => by
          have h1 := HX.out
          rw [e, HY.out] at h1
          have := Option.some.inj h1
          rw [this, pairB_eq.2 rfl] at he
          cases he))
        go_wp2
        go_quiet (fail)
        go_wp2
        go_ret
        exact ⟨ret_bool HR.out.symm, _, by first | rfl | exact World.drewN_drewN _ _ _⟩
    · have HR : Hid (sameL L M = true) := Lib.hid (decide_eq_true (by
        have h1 := HT.out
        rwa [List.take_of_length_le (by have := h.hlen; omega), List.take_of_length_le (by have := h'.hlen; omega)] at h1))
      go_wp2
      go_ret
      exact ⟨ret_bool HR.out.symm, n, rfl⟩
end Go.Proofs.YtiffhlncnpppoaaGreatDoor
namespace Go.Proofs.YtiffhlncnpppoaaGreatDoor
open Go.RowKit
abbrev nodV (x : NodeD) : Value := .agg #[.int .i64 x.core.kind, .string x.core.name, .string x.core.is, .string x.core.data, .slice x.aA x.aN x.aC, .int .i64 x.core.parent, .slice x.kA x.kN x.kC, .int .i64 x.core.host, .int .i64 x.core.under, .int .i64 x.core.doc]
set_option maxHeartbeats 8000000 in
set_option maxRecDepth 100000 in
theorem refone_any (x y : NodeD) (w : World) (hx : NodeOk w x) (hy : NodeOk w y) :
    Calls Tryz.prog 53 #[nodV x, nodV y] w fun e w' => e = .returned (.bool (decide (x.core = y.core))) ∧ Below w.heap.size w w' := by
  have BX : Hid (∀ B C, Below w.heap.size w ((w.alloc B).alloc C)) := Lib.hid (fun B C => (below_box w B).alloc (by simp) C)
  have S1 : Hid (∀ B C, Calls Tryz.prog 110 #[.slice x.aA x.aN x.aC, .slice y.aA y.aN y.aC] ((w.alloc B).alloc C) fun e w' => e = .returned (.bool (decide (x.core.attrs = y.core.attrs))) ∧ ∃ n, w' = ((w.alloc B).alloc C).drewN n) := Lib.hid (fun B C => refsame_any _ _ _ _ _ _ _ _ _ (hx.attrs.below (BX.out B C)) (hy.attrs.below (BX.out B C)))
  have S2 : Hid (∀ B C n, Calls Tryz.prog 38 #[.slice x.kA x.kN x.kC, .slice y.kA y.kN y.kC] (((w.alloc B).alloc C).drewN n) fun e w' => e = .returned (.bool (decide (x.core.kids = y.core.kids))) ∧ ∃ n, Below w.heap.size w w' ∧ ((w.alloc B).alloc C).drewN n = w') := Lib.hid (fun B C n =>
    (refints_any _ _ _ _ _ _ _ _ _ ((hx.kids.below (BX.out B C)).drewN n) ((hy.kids.below (BX.out B C)).drewN n)).mono fun e w' ⟨he, m, hw⟩ => ⟨he, n + m, by rw [hw]; exact below_drewN (below_drewN (BX.out B C) n) m, by rw [hw, World.drewN_drewN]⟩)
  clear hx hy
  obtain ⟨⟨k1, n1, i1, d1, A1, p1, K1, h1, u1, o1⟩, aA, aN, aC, kA, kN, kC⟩ := x
  obtain ⟨⟨k2, n2, i2, d2, A2, p2, K2, h2, u2, o2⟩, bA, bN, bC, lA, lN, lC⟩ := y
  dsimp only at S1 S2 ⊢
  obtain ⟨r, hr⟩ : ∃ r, decide ((⟨k1, n1, i1, d1, A1, p1, K1, h1, u1, o1⟩ : Core) = ⟨k2, n2, i2, d2, A2, p2, K2, h2, u2, o2⟩) = r := ⟨_, rfl⟩
  rw [hr]
  have HR : Hid (r = (k1 == k2 && n1.toList == n2.toList && i1.toList == i2.toList && d1.toList == d2.toList && decide (A1 = A2) && p1 == p2 && decide (K1 = K2) && h1 == h2 && u1 == u2 && o1 == o2)) := Lib.hid (by
    rw [← hr, Bool.eq_iff_iff, decide_eq_true_eq, Core.mk.injEq]
    simp only [Bool.and_eq_true, beq_iff_eq, decide_eq_true_eq]
    constructor
    · rintro ⟨rfl, rfl, rfl, rfl, rfl, rfl, rfl, rfl, rfl, rfl⟩
      simp
    · rintro ⟨⟨⟨⟨⟨⟨⟨⟨⟨e1, e2⟩, e3⟩, e4⟩, e5⟩, e6⟩, e7⟩, e8⟩, e9⟩, e10⟩
      exact ⟨e1, toList_inj e2, toList_inj e3, toList_inj e4, e5, e6, e7, e8, e9, e10⟩)
  clear hr
  obtain ⟨sa, hsa⟩ : ∃ z, decide (A1 = A2) = z := ⟨_, rfl⟩
  obtain ⟨sk, hsk⟩ : ∃ z, decide (K1 = K2) = z := ⟨_, rfl⟩
  rw [hsa] at S1 HR
  rw [hsk] at S2 HR
  clear hsa hsk
  cases ek : (k1 == k2)
  · have HZ : Hid (r = false) := Lib.hid (by rw [HR.out, ek]; simp)
    clear HR
    go_enter Tryz.func53, Tryz.ntmps53
    go_wp2_with (first
      | (go_at_call 110; refine (S1.out _ _).mono ?_; rintro e w' ⟨rfl, m, rfl⟩)
      | (go_at_call 38; refine (S2.out _ _ _).mono ?_; rintro e w' ⟨rfl, m, hb, rfl⟩; clear hb))
    go_ret
    exact ⟨ret_bool HZ.out.symm, by first | exact BX.out _ _ | exact below_drewN (BX.out _ _) _⟩
  cases en : (n1.toList == n2.toList)
  · have HZ : Hid (r = false) := Lib.hid (by rw [HR.out, ek, en]; simp)
    clear HR
    go_enter Tryz.func53, Tryz.ntmps53
    go_wp2_with (first
      | (go_at_call 110; refine (S1.out _ _).mono ?_; rintro e w' ⟨rfl, m, rfl⟩)
      | (go_at_call 38; refine (S2.out _ _ _).mono ?_; rintro e w' ⟨rfl, m, hb, rfl⟩; clear hb))
    go_ret
    exact ⟨ret_bool HZ.out.symm, by first | exact BX.out _ _ | exact below_drewN (BX.out _ _) _⟩
  cases ei : (i1.toList == i2.toList)
  · have HZ : Hid (r = false) := Lib.hid (by rw [HR.out, ek, en, ei]; simp)
    clear HR
    go_enter Tryz.func53, Tryz.ntmps53
    go_wp2_with (first
      | (go_at_call 110; refine (S1.out _ _).mono ?_; rintro e w' ⟨rfl, m, rfl⟩)
      | (go_at_call 38; refine (S2.out _ _ _).mono ?_; rintro e w' ⟨rfl, m, hb, rfl⟩; clear hb))
    go_ret
    exact ⟨ret_bool HZ.out.symm, by first | exact BX.out _ _ | exact below_drewN (BX.out _ _) _⟩
  cases ed : (d1.toList == d2.toList)
  · have HZ : Hid (r = false) := Lib.hid (by rw [HR.out, ek, en, ei, ed]; simp)
    clear HR
    go_enter Tryz.func53, Tryz.ntmps53
    go_wp2_with (first
      | (go_at_call 110; refine (S1.out _ _).mono ?_; rintro e w' ⟨rfl, m, rfl⟩)
      | (go_at_call 38; refine (S2.out _ _ _).mono ?_; rintro e w' ⟨rfl, m, hb, rfl⟩; clear hb))
    go_ret
    exact ⟨ret_bool HZ.out.symm, by first | exact BX.out _ _ | exact below_drewN (BX.out _ _) _⟩
  cases sa
  · have HZ : Hid (r = false) := Lib.hid (by rw [HR.out, ek, en, ei, ed]; simp)
    clear HR
    go_enter Tryz.func53, Tryz.ntmps53
    go_wp2_with (first
      | (go_at_call 110; refine (S1.out _ _).mono ?_; rintro e w' ⟨rfl, m, rfl⟩)
      | (go_at_call 38; refine (S2.out _ _ _).mono ?_; rintro e w' ⟨rfl, m, hb, rfl⟩; clear hb))
    go_ret
    exact ⟨ret_bool HZ.out.symm, by first | exact BX.out _ _ | exact below_drewN (BX.out _ _) _⟩
  cases ep : (p1 == p2)
  · have HZ : Hid (r = false) := Lib.hid (by rw [HR.out, ek, en, ei, ed, ep]; simp)
    clear HR
    go_enter Tryz.func53, Tryz.ntmps53
    go_wp2_with (first
      | (go_at_call 110; refine (S1.out _ _).mono ?_; rintro e w' ⟨rfl, m, rfl⟩)
      | (go_at_call 38; refine (S2.out _ _ _).mono ?_; rintro e w' ⟨rfl, m, hb, rfl⟩; clear hb))
    go_ret
    exact ⟨ret_bool HZ.out.symm, by first | exact BX.out _ _ | exact below_drewN (BX.out _ _) _⟩
  cases sk
  · have HZ : Hid (r = false) := Lib.hid (by rw [HR.out, ek, en, ei, ed, ep]; simp)
    clear HR
    go_enter Tryz.func53, Tryz.ntmps53
    go_wp2_with (first
      | (go_at_call 110; refine (S1.out _ _).mono ?_; rintro e w' ⟨rfl, m, rfl⟩)
      | (go_at_call 38; refine (S2.out _ _ _).mono ?_; rintro e w' ⟨rfl, m, hb, rfl⟩; clear hb))
    go_ret
    exact ⟨ret_bool HZ.out.symm, by first | exact BX.out _ _ | exact below_drewN (BX.out _ _) _⟩
  cases eh : (h1 == h2)
  · have HZ : Hid (r = false) := Lib.hid (by rw [HR.out, ek, en, ei, ed, ep, eh]; simp)
    clear HR
    go_enter Tryz.func53, Tryz.ntmps53
    go_wp2_with (first
      | (go_at_call 110; refine (S1.out _ _).mono ?_; rintro e w' ⟨rfl, m, rfl⟩)
      | (go_at_call 38; refine (S2.out _ _ _).mono ?_; rintro e w' ⟨rfl, m, hb, rfl⟩; clear hb))
    go_ret
    exact ⟨ret_bool HZ.out.symm, by first | exact BX.out _ _ | exact below_drewN (BX.out _ _) _⟩
  cases eu : (u1 == u2)
  · have HZ : Hid (r = false) := Lib.hid (by rw [HR.out, ek, en, ei, ed, ep, eh, eu]; simp)
    clear HR
    go_enter Tryz.func53, Tryz.ntmps53
    go_wp2_with (first
      | (go_at_call 110; refine (S1.out _ _).mono ?_; rintro e w' ⟨rfl, m, rfl⟩)
      | (go_at_call 38; refine (S2.out _ _ _).mono ?_; rintro e w' ⟨rfl, m, hb, rfl⟩; clear hb))
    go_ret
    exact ⟨ret_bool HZ.out.symm, by first | exact BX.out _ _ | exact below_drewN (BX.out _ _) _⟩
  cases eo : (o1 == o2)
  · have HZ : Hid (r = false) := Lib.hid (by rw [HR.out, ek, en, ei, ed, ep, eh, eu, eo]; simp)
    clear HR
    go_enter Tryz.func53, Tryz.ntmps53
    go_wp2_with (first
      | (go_at_call 110; refine (S1.out _ _).mono ?_; rintro e w' ⟨rfl, m, rfl⟩)
      | (go_at_call 38; refine (S2.out _ _ _).mono ?_; rintro e w' ⟨rfl, m, hb, rfl⟩; clear hb))
    go_ret
    exact ⟨ret_bool HZ.out.symm, by first | exact BX.out _ _ | exact below_drewN (BX.out _ _) _⟩
  have HZ : Hid (r = true) := Lib.hid (by rw [HR.out, ek, en, ei, ed, ep, eh, eu, eo]; rfl)
  clear HR
  go_enter Tryz.func53, Tryz.ntmps53
  go_wp2_with (first
    | (go_at_call 110; refine (S1.out _ _).mono ?_; rintro e w' ⟨rfl, m, rfl⟩)
    | (go_at_call 38; refine (S2.out _ _ _).mono ?_; rintro e w' ⟨rfl, m, hb, rfl⟩; clear hb))
  go_ret
  exact ⟨ret_bool HZ.out.symm, by first | exact BX.out _ _ | exact below_drewN (BX.out _ _) _⟩
end Go.Proofs.YtiffhlncnpppoaaGreatDoor
namespace Go.Proofs.YtiffhlncnpppoaaGreatDoor
open Go.RowKit
structure Ext (w : World) where
  v : World
  below : Below w.heap.size w v
instance extNonempty (w : World) : Nonempty (Ext w) := ⟨⟨w, Below.refl _ _⟩⟩
theorem Ext.cell {w : World} {p : Addr} {v : Option Value} (h : w.cell? p = v) (hp : p.block < w.heap.size) : ∀ x : Ext w, x.v.cell? p = v := fun x => (x.below.cell hp).trans h
theorem Ext.call_same {P : Program} {f : FuncId} {args : Array Value} {w : World} {x : Ext w} {v : Value}
    (h : Calls P f args x.v fun e w' => e = .returned v ∧ x.v = w') : Calls P f args x.v fun e w'' => e = .returned v ∧ ∃ y : Ext w, w'' = y.v :=
  h.mono fun _ _ ⟨he, hm⟩ => ⟨he, x, hm.symm⟩
theorem Ext.call_below {P : Program} {f : FuncId} {args : Array Value} {w : World} {x : Ext w} {v : Value}
    (h : Calls P f args x.v fun e w' => e = .returned v ∧ Below x.v.heap.size x.v w') : Calls P f args x.v fun e w'' => e = .returned v ∧ ∃ y : Ext w, w'' = y.v :=
  h.mono fun _ w' ⟨he, hm⟩ => ⟨he, ⟨w', x.below.trans (hm.mono x.below.size)⟩, rfl⟩
theorem wp_region_ext {P : Program} {id : Nat} {Q : Exit → Act → World → Prop} {a : Act} {w : World} {l : List Oper} (hm : P.follows .mixedOrders = true) (hB : Region.lexB .any l.toArray = true)
    (h : wpQuiet P l.toArray (fun w' => ∃ x : Ext w, w' = x.v) (fun a' => ∀ w', (∃ x : Ext w, w' = x.v) → Q .normal a' w') l a) : (Code.region id l.toArray true).wp P Q a w :=
  wp_region_quiet (C := fun w' => ∃ x : Ext w, w' = x.v) hm hB ⟨⟨_, (Below.refl _ _).drew⟩, rfl⟩ (by simpa using h)
end Go.Proofs.YtiffhlncnpppoaaGreatDoor
namespace Go.Proofs.YtiffhlncnpppoaaGreatDoor
open Go.RowKit
def pC (b : UInt8) : Core := ⟨1, ⟨#[b]⟩, ⟨#[]⟩, ⟨#[]⟩, [], 0, [], 0, 0, 0⟩
def pD (b : UInt8) : NodeD := ⟨pC b, none, 0, 0, none, 0, 0⟩
def f2 : List Core := [docC, ⟨1, ⟨#[112]⟩, ⟨#[]⟩, ⟨#[]⟩, [], -1, [], -1, -1, 0⟩]
theorem fa2 : makeE 5 [docC] (pC 112) = 0 ∧ makeN 5 [docC] (pC 112) = 1 ∧ makeL 5 [docC] (pC 112) = f2 := by decide +kernel
theorem pD_ok (w : World) (b : UInt8) : NodeOk w (pD b) := by
  refine ⟨⟨SRow.nil, (fun z hz => by cases hz), fun _ => rfl⟩, ⟨SRow.nil, (fun z hz => by cases hz), fun _ => rfl⟩, ?_, ?_, ?_, ?_, ?_, ?_, ?_, ?_⟩
  · show 1 ≤ maxLen; decide
  · show 0 ≤ maxLen; decide
  · show 0 ≤ maxLen; decide
  · exact ⟨by show (_ : Int) ≤ 1; decide, by show (1 : Int) ≤ _; decide⟩
  all_goals exact ⟨by show (_ : Int) ≤ 0; decide, by show (0 : Int) ≤ _; decide⟩
theorem pD_small (b : UInt8) : smallX (pD b) := ⟨Nat.zero_le _, by show 1 ≤ 1000; decide⟩
theorem small2 {L : List NodeD} (h : coreL L = f2) : smallF L := by
  unfold coreL f2 at h
  have hl : L.length = 2 := by
    have := congrArg List.length h
    simpa using this
  refine ⟨by omega, fun x hx => ?_⟩
  have hm : x.core ∈ L.map (·.core) := List.mem_map.2 ⟨x, hx, rfl⟩
  rw [h] at hm
  simp at hm
  rcases hm with e | e <;> (unfold smallN; rw [e]; exact ⟨by decide, by decide, by decide⟩)
abbrev pV (b : UInt8) : Value := .agg #[.int .i64 1, .string ⟨#[b]⟩, .string ⟨#[]⟩, .string ⟨#[]⟩, .slice none 0 0, .int .i64 0, .slice none 0 0, .int .i64 0, .int .i64 0, .int .i64 0]
theorem in5 : In64 5 := ⟨by decide, by decide⟩
theorem in1 : In64 1 := ⟨by decide, by decide⟩
theorem in0 : In64 0 := ⟨by decide, by decide⟩
theorem row_free {w : World} {g : Nat} {cs : Array Value} {t : TypeId} (h : w.heap[g]? = some (.cells cs t (0, 0))) (j : Nat) : w.frozen? ⟨g, j, none⟩ = false := by simp [World.frozen?, h]
theorem box_notext {w1 w2 : World} {a : Option Addr} {len cap : Nat} {m : Int} {j : Nat} {s : ByteArray} (hb : Below (w1.alloc (forB a len cap m)).heap.size (w1.alloc (forB a len cap m)) w2) : w2.cell? ⟨w1.heap.size, j, none⟩ ≠ some (.string s) := by
  rw [hb.cell (p := ⟨w1.heap.size, j, none⟩) (by simp), cell_of_row (w1.alloc (forB a len cap m)) w1.heap.size j _ 24 (0, 0) (heap_alloc_new w1 _)]
  match j with
  | 0 => simp
  | 1 => simp
  | j + 2 => simp
theorem NodeRow.setBox {w : World} {a : Option Addr} {len cap : Nat} {L : List NodeD} {g o : Nat} (h : NodeRow w a len cap L) (hno : ∀ j s, w.cell? ⟨g, j, none⟩ ≠ some (.string s)) (hk : ∀ x ∈ L, x.core.kids = [] ∧ x.core.attrs = []) (u : Value) : NodeRow (w.setCell ⟨g, o, none⟩ u) a len cap L := by
  have hs : w.heap.size ≤ (w.setCell ⟨g, o, none⟩ u).heap.size := by simp [World.setCell]
  refine ⟨h.row.keep hs (fun b off ha hpos o' => ?_), fun x hx => ?_, h.hnil⟩
  · obtain ⟨b', off', x, ha', _, _, hat, _⟩ := h.get hpos
    rw [ha] at ha'
    injection ha' with ha'
    injection ha' with e1 e2
    subst e1
    refine World.cell?_setCell_other _ _ _ _ (fun e => ?_)
    injection e with e _
    have := hat.c1
    rw [← e] at this
    exact hno _ _ this
  · have hx2 := h.ok x hx
    have h1 := hk x hx
    have k0 : x.kN = 0 := by rw [← hx2.kids.hlen, h1.1]; rfl
    have a0 : x.aN = 0 := by rw [← hx2.attrs.hlen, h1.2]; rfl
    exact ⟨⟨hx2.attrs.row.keep hs (fun _ _ _ hp _ => by omega), hx2.attrs.small, hx2.attrs.hnil⟩, ⟨hx2.kids.row.keep hs (fun _ _ _ hp _ => by omega), hx2.kids.inb, hx2.kids.hnil⟩, hx2.name, hx2.is, hx2.data, hx2.kind, hx2.parent, hx2.host, hx2.under, hx2.doc⟩
theorem bare2 {L : List NodeD} (h : coreL L = f2) : ∀ x ∈ L, x.core.kids = [] ∧ x.core.attrs = [] := fun x hx => by
  have hm : x.core ∈ coreL L := List.mem_map.2 ⟨x, hx, rfl⟩
  rw [h] at hm
  unfold f2 docC at hm
  simp at hm
  rcases hm with e | e <;> rw [e] <;> exact ⟨rfl, rfl⟩
theorem notext_set {w : World} {g o : Nat} {u v : Value} (h : ∀ j s, w.cell? ⟨g, j, none⟩ ≠ some (.string s)) (hc : w.cell? ⟨g, o, none⟩ = some v) (hu : ∀ s, u ≠ .string s) : ∀ j s, (w.setCell ⟨g, o, none⟩ u).cell? ⟨g, j, none⟩ ≠ some (.string s) := fun j s e => by
  by_cases hj : o = j
  · subst hj
    rw [World.cell?_setCell_same _ _ _ hc] at e
    injection e with e
    exact hu s e
  · rw [World.cell?_setCell_other _ _ _ _ (fun e2 => by injection e2 with _ e2; exact hj e2)] at e
    exact h j s e
structure Box (w W : World) (g : Nat) (a : Option Addr) (len cap : Nat) (m : Int) (L : List NodeD) (F : List Core) : Prop where
  row : NodeRow W a len cap L
  core : coreL L = F
  low : w.heap.size ≤ g
  lt : g < W.heap.size
  c0 : W.cell? ⟨g, 0, none⟩ = some (.slice a len cap)
  c1 : W.cell? ⟨g, 1, none⟩ = some (.int .i64 m)
  below : Below w.heap.size w W
theorem Box.keep {w W W2 : World} {g : Nat} {a : Option Addr} {len cap : Nat} {m : Int} {L : List NodeD} {F : List Core} (h : Box w W g a len cap m L F) (hb : Below W.heap.size W W2) : Box w W2 g a len cap m L F :=
  ⟨h.row.below hb, h.core, h.low, Nat.lt_of_lt_of_le h.lt hb.size, (hb.cell (p := ⟨g, 0, none⟩) h.lt).trans h.c0, (hb.cell (p := ⟨g, 1, none⟩) h.lt).trans h.c1, h.below.trans (hb.mono h.below.size)⟩
end Go.Proofs.YtiffhlncnpppoaaGreatDoor
