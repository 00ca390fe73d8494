/- Texts joined in build order: RefOne TreeMath TreeRoot Ext AttrRef1 AppendKeep AttrOpen. -/
import Derived.Test.YtkomeijlljcdgaaGreatChecked
import Derived.Test.YtkomeijlljcdgaaGreatP01
import Derived.WalkLawsBesides
import Derived.Lib.Hide
import Derived.Test.YtkomeijlljcdgaaGreatP03
import Derived.Lib.IndexBytes
import Derived.WalkKit
import Derived.BigQuiet
import Derived.Deep.QuietTactic
import Derived.Below
import Derived.WalkSmall
import Derived.Deep.AppendLies
import Derived.Deep.SlicePairs
import Derived.ProofKit
/- The document's own answer One: is a text one of some words, with blanks between? -/
namespace Go.Proofs.YtkomeijlljcdgaaGreat
open Go.RowKit
def splitL : List UInt8 → List UInt8 → List (List UInt8)
  | cur, [] => [cur]
  | cur, c :: r => if c == 32 then cur :: splitL [] r else splitL (cur ++ [c]) r
def oneGo (s : List UInt8) : List UInt8 → List UInt8 → Bool
  | cur, [] => cur == s
  | cur, c :: r => if c == 32 then (cur == s) || oneGo s [] r else oneGo s (cur ++ [c]) r
def oneL (s v : List UInt8) : Bool := oneGo s [] v
theorem oneGo_split (s : List UInt8) : ∀ (v cur : List UInt8), oneGo s cur v = (splitL cur v).contains s
  | [], cur => by
    unfold oneGo splitL
    rw [BEq.comm (a := cur), List.contains_cons]
    simp only [List.contains_nil, Bool.or_false]
  | c :: r, cur => by
    unfold oneGo splitL
    by_cases h : (c == 32) = true
    · rw [if_pos h, if_pos h, List.contains_cons, oneGo_split s r []]
      rw [BEq.comm (a := cur)]
    · rw [if_neg h, if_neg h]
      exact oneGo_split s r _
theorem one_split (s v : List UInt8) : oneL s v = (splitL [] v).contains s := oneGo_split s v []

/-- What holds at the head of a round: the part of the words that is left decides. -/
def OneAt (s v : List UInt8) (a i : Nat) : Prop := (a ≤ i ∧ i ≤ v.length ∧ oneGo s ((v.take i).drop a) (v.drop i) = oneL s v) ∨ (i = v.length + 1 ∧ oneL s v = false)
theorem OneAt.start (s v : List UInt8) : OneAt s v 0 0 := .inl ⟨Nat.le_refl _, Nat.zero_le _, by simp [oneL]⟩
theorem OneAt.hit {s v : List UInt8} {a i : Nat} (h : OneAt s v a i) (hi : i ≤ v.length) (hc : i = v.length ∨ v[i]? = some 32) (he : (v.take i).drop a = s) : oneL s v = true := by
  rcases h with ⟨h1, h2, h3⟩ | ⟨h1, _⟩
  · rw [← h3]
    rcases hc with hc | hc
    · have : v.drop i = [] := by rw [hc]; simp
      rw [this]
      unfold oneGo
      rw [he]; simp
    · obtain ⟨hl, hg⟩ := List.getElem?_eq_some_iff.1 hc
      rw [List.drop_eq_getElem_cons hl, hg]
      unfold oneGo
      rw [he]; simp
  · omega
theorem OneAt.last {s v : List UInt8} {a i : Nat} (h : OneAt s v a i) (hi : i = v.length) (he : ¬ (v.take i).drop a = s) (b : Nat) : OneAt s v b (i + 1) := by
  rcases h with ⟨h1, h2, h3⟩ | ⟨h1, _⟩
  · refine .inr ⟨by omega, ?_⟩
    rw [← h3]
    have : v.drop i = [] := by rw [hi]; simp
    rw [this]
    unfold oneGo
    simpa using he
  · omega
theorem OneAt.blank {s v : List UInt8} {a i : Nat} (h : OneAt s v a i) (hc : v[i]? = some 32) (he : ¬ (v.take i).drop a = s) : OneAt s v (i + 1) (i + 1) := by
  obtain ⟨hl, hg⟩ := List.getElem?_eq_some_iff.1 hc
  rcases h with ⟨h1, h2, h3⟩ | ⟨h1, _⟩
  · refine .inl ⟨Nat.le_refl _, by omega, ?_⟩
    rw [← h3, List.drop_eq_getElem_cons hl, hg]
    have : (v.take (i + 1)).drop (i + 1) = [] := by simp
    rw [this]
    conv => rhs; unfold oneGo
    simp [he]
  · omega
theorem OneAt.sign {s v : List UInt8} {a i : Nat} (h : OneAt s v a i) {c : UInt8} (hc : v[i]? = some c) (h32 : ¬ c = 32) : OneAt s v a (i + 1) := by
  obtain ⟨hl, hg⟩ := List.getElem?_eq_some_iff.1 hc
  rcases h with ⟨h1, h2, h3⟩ | ⟨h1, _⟩
  · refine .inl ⟨by omega, by omega, ?_⟩
    rw [← h3, List.drop_eq_getElem_cons hl, hg]
    have : (v.take (i + 1)).drop a = (v.take i).drop a ++ [c] := by
      rw [List.take_succ_eq_append_getElem hl, hg, List.drop_append_of_le_length (by rw [List.length_take]; omega)]
    rw [this]
    conv => rhs; unfold oneGo
    simp [h32]
  · omega
theorem OneAt.none {s v : List UInt8} {a i : Nat} (h : OneAt s v a i) (hi : ¬ i ≤ v.length) : oneL s v = false := by
  rcases h with ⟨h1, h2, h3⟩ | ⟨_, h⟩
  · omega
  · exact h
theorem OneAt.le {s v : List UInt8} {a i : Nat} (h : OneAt s v a i) (hi : i ≤ v.length) : a ≤ i := by
  rcases h with ⟨h1, _, _⟩ | ⟨h1, _⟩
  · exact h1
  · omega
theorem OneAt.bound {s v : List UInt8} {a i : Nat} (h : OneAt s v a i) : i ≤ v.length + 1 := by
  rcases h with ⟨h1, _, _⟩ | ⟨h1, _⟩ <;> omega
theorem cut_list (v : ByteArray) (a i : Nat) : (v.extract a i).toList = (v.toList.take i).drop a := by
  rw [tl, tl, Lib.extract_data]
  first
    | rfl
    | (rw [List.take_drop]; congr 1; omega)
    | simp [List.drop_take]

set_option maxHeartbeats 4000000 in
set_option maxRecDepth 100000 in
theorem one_any (s v : ByteArray) (w : World) (hv : v.size ≤ 1000000) :
    Calls Tryz.prog 68 #[.string s, .string v] w fun e w' => e = .returned (.bool (oneL s.toList v.toList)) ∧ w = w' := by
  have HV := Lib.hid (tl_len v)
  go_enter Tryz.func68, Tryz.ntmps68
  go_wp2
  go_loop [5, 6] (fun a i => ∃ ka ki : Nat, a = .int .i64 ka ∧ i = .int .i64 ki ∧ Hid (OneAt s.toList v.toList ka ki) ∧ ki ≤ v.size + 1) (fun _ i => v.size + 1 - (intOf i).toNat)
  case atStart => exact ⟨0, 0, rfl, rfl, Lib.hid (OneAt.start _ _), by omega⟩
  case round =>
    obtain ⟨ka, ki, rfl, rfl, HA, hki⟩ := hrel
    by_cases hle : ki ≤ v.size
    · have hak : ka ≤ ki := HA.out.le (by rw [HV.out]; exact hle)
      have hcut := cut_list v ka ki
      by_cases hend : ki = v.size
      · have hend1 : ((ki : Int) == (v.size : Int)) = true := beq_iff_eq.2 (by omega)
        have HE := Lib.hid hend
        clear hend
        by_cases heq : (v.toList.take ki).drop ka = s.toList
        · have hb : ((v.toList.take ki).drop ka == s.toList) = true := beq_iff_eq.2 heq
          have HR := Lib.hid (HA.out.hit (by rw [HV.out]; exact hle) (.inl (by rw [HV.out]; exact HE.out)) heq)
          clear heq
          go_wp2
          go_ret
          exact ⟨ret_bool HR.out.symm, rfl⟩
        · have hb : ((v.toList.take ki).drop ka == s.toList) = false := beq_eq_false_iff_ne.2 heq
          have HR := Lib.hid (HA.out.last (by rw [HV.out]; exact HE.out) heq (ki + 1))
          clear heq
          go_wp2
          go_round
          case rel => exact ⟨ki + 1, ki + 1, by go_num, by go_num, HR, by omega⟩
          case measure => simp [intOf]; omega
      · have hlt : ki < v.size := by omega
        have hend1 : ((ki : Int) == (v.size : Int)) = false := beq_eq_false_iff_ne.2 (by omega)
        have hg := tl_get v ki hlt
        by_cases h32 : v[ki] = 32
        · have hc1 : ((v[ki].toNat : Int) == 32) = true := by rw [h32]; rfl
          rw [h32] at hg
          have HG := Lib.hid hg
          clear hg h32 hend
          by_cases heq : (v.toList.take ki).drop ka = s.toList
          · have hb : ((v.toList.take ki).drop ka == s.toList) = true := beq_iff_eq.2 heq
            have HR := Lib.hid (HA.out.hit (by rw [HV.out]; exact hle) (.inr HG.out) heq)
            clear heq
            go_wp2
            go_ret
            exact ⟨ret_bool HR.out.symm, rfl⟩
          · have hb : ((v.toList.take ki).drop ka == s.toList) = false := beq_eq_false_iff_ne.2 heq
            have HR := Lib.hid (HA.out.blank HG.out heq)
            clear heq
            go_wp2
            go_round
            case rel => exact ⟨ki + 1, ki + 1, by go_num, by go_num, HR, by omega⟩
            case measure => simp [intOf]; omega
        · have hc1 : ((v[ki].toNat : Int) == 32) = false := beq_eq_false_iff_ne.2 (fun e => h32 (by
            apply UInt8.toNat_inj.1
            have : (32 : UInt8).toNat = 32 := rfl
            omega))
          have HR := Lib.hid (HA.out.sign hg h32)
          clear hg h32 hend
          go_wp2
          go_round
          case rel => exact ⟨ka, ki + 1, by go_num, by go_num, HR, by omega⟩
          case measure => simp [intOf]; omega
    · have HR := Lib.hid (HA.out.none (by rw [HV.out]; exact hle))
      go_wp2
      go_ret
      exact ⟨ret_bool HR.out.symm, rfl⟩
end Go.Proofs.YtkomeijlljcdgaaGreat
/- Trees as parents and children: holding, tree order. Plain mathematics, no program. -/
namespace Go.Proofs.YtkomeijlljcdgaaGreat
theorem flat_congr {α β : Type} {f g : α → List β} : ∀ {l : List α}, (∀ x ∈ l, f x = g x) → l.flatMap f = l.flatMap g
  | [], _ => rfl
  | x :: r, h => by
    rw [List.flatMap_cons, List.flatMap_cons, h x (by simp), flat_congr (fun y hy => h y (by simp [hy]))]
/-- Nodes 0 .. n-1, each with its parent, if any, and its children in order. -/
structure Tree (n : Nat) (par : Nat → Option Nat) (kids : Nat → List Nat) (rank : Nat → Nat) : Prop where
  kid_lt : ∀ i k, k ∈ kids i → k < n
  kid_par : ∀ i k, k ∈ kids i → par k = some i
  par_kid : ∀ i k, k < n → par k = some i → i < n ∧ k ∈ kids i
  nodup : ∀ i, (kids i).Nodup
  rank_up : ∀ i k, k < n → par k = some i → rank k = rank i + 1
  rank_le : ∀ i, i < n → rank i ≤ n + 1
section
variable {n : Nat} {par : Nat → Option Nat} {kids : Nat → List Nat} {rank : Nat → Nat}
/-- m steps up. -/
def upN (par : Nat → Option Nat) : Nat → Nat → Option Nat
  | 0, b => some b
  | m + 1, b => (par b).bind (upN par m)
/-- a is b, or the way up from b comes to a. -/
def holdsT (par : Nat → Option Nat) (a b : Nat) : Prop := ∃ m, upN par m b = some a
theorem holds_refl (a : Nat) : holdsT par a a := ⟨0, rfl⟩
theorem upN_add : ∀ (m k b c : Nat), upN par m b = some c → upN par (m + k) b = upN par k c
  | 0, k, b, c, h => by
    injection h with h
    subst h
    rw [Nat.zero_add]
  | m + 1, k, b, c, h => by
    rw [show m + 1 + k = (m + k) + 1 by omega]
    show (par b).bind (upN par (m + k)) = upN par k c
    unfold upN at h
    cases hp : par b with
    | none => rw [hp] at h; cases h
    | some p =>
      rw [hp] at h
      exact upN_add m k p c h
theorem holds_trans {a b c : Nat} (h1 : holdsT par a b) (h2 : holdsT par b c) : holdsT par a c := by
  obtain ⟨m1, h1⟩ := h1
  obtain ⟨m2, h2⟩ := h2
  exact ⟨m2 + m1, by rw [upN_add m2 m1 c b h2]; exact h1⟩
theorem holds_par {p b : Nat} (h : par b = some p) : holdsT par p b := ⟨1, by unfold upN; rw [h]; rfl⟩
/-- Of the holders of one node, one holds the other. -/
theorem holds_line {a b c : Nat} (h1 : holdsT par a c) (h2 : holdsT par b c) : holdsT par a b ∨ holdsT par b a := by
  obtain ⟨m1, h1⟩ := h1
  obtain ⟨m2, h2⟩ := h2
  rcases Nat.le_total m1 m2 with h | h
  · right
    refine ⟨m2 - m1, ?_⟩
    have := upN_add m1 (m2 - m1) c a h1
    rw [show m1 + (m2 - m1) = m2 by omega, h2] at this
    exact this.symm
  · left
    refine ⟨m1 - m2, ?_⟩
    have := upN_add m2 (m1 - m2) c b h2
    rw [show m2 + (m1 - m2) = m1 by omega, h1] at this
    exact this.symm
theorem holds_up {a b : Nat} (h : holdsT par a b) : a = b ∨ ∃ p, par b = some p ∧ holdsT par a p := by
  obtain ⟨m, h⟩ := h
  cases m with
  | zero => injection h with h; exact .inl h.symm
  | succ m =>
    unfold upN at h
    cases hp : par b with
    | none => rw [hp] at h; cases h
    | some p => rw [hp] at h; exact .inr ⟨p, rfl, m, h⟩
theorem Tree.up_lt (T : Tree n par kids rank) : ∀ (m b a : Nat), b < n → upN par m b = some a → a < n ∧ rank b = rank a + m
  | 0, b, a, hb, h => by
    injection h with h
    subst h
    exact ⟨hb, rfl⟩
  | m + 1, b, a, hb, h => by
    unfold upN at h
    cases hp : par b with
    | none => rw [hp] at h; cases h
    | some p =>
      rw [hp] at h
      obtain ⟨hpn, _⟩ := T.par_kid p b hb hp
      obtain ⟨h1, h2⟩ := T.up_lt m p a hpn h
      have := T.rank_up p b hb hp
      exact ⟨h1, by omega⟩
theorem Tree.holds_rank (T : Tree n par kids rank) {a b : Nat} (hb : b < n) (h : holdsT par a b) : a < n ∧ rank a ≤ rank b ∧ (rank a = rank b → a = b) := by
  obtain ⟨m, h⟩ := h
  obtain ⟨h1, h2⟩ := T.up_lt m b a hb h
  refine ⟨h1, by omega, fun e => ?_⟩
  have hm : m = 0 := by omega
  subst hm
  injection h with h
  exact h.symm
theorem Tree.holds_anti (T : Tree n par kids rank) {a b : Nat} (ha : a < n) (hb : b < n) (h1 : holdsT par a b) (h2 : holdsT par b a) : a = b := by
  have g1 := T.holds_rank hb h1
  have g2 := T.holds_rank ha h2
  exact g1.2.2 (by omega)
/-- Tree order, going down so often at most. -/
def ordN (kids : Nat → List Nat) : Nat → Nat → List Nat
  | 0, i => [i]
  | f + 1, i => i :: (kids i).flatMap (ordN kids f)
theorem ordN_head (f i : Nat) : ∃ r, ordN kids f i = i :: r := by
  cases f with
  | zero => exact ⟨_, rfl⟩
  | succ f => exact ⟨_, rfl⟩
theorem Tree.kid_rank (T : Tree n par kids rank) {i k : Nat} (hk : k ∈ kids i) : k < n ∧ rank k = rank i + 1 := ⟨T.kid_lt i k hk, T.rank_up i k (T.kid_lt i k hk) (T.kid_par i k hk)⟩
/-- Going down further finds nothing more. -/
theorem Tree.ord_more (T : Tree n par kids rank) : ∀ (f i : Nat), i < n → n + 1 ≤ rank i + f → ordN kids (f + 1) i = ordN kids f i
  | 0, i, hi, h => by
    have hk : kids i = [] := by
      cases hks : kids i with
      | nil => rfl
      | cons k r =>
        have hm : k ∈ kids i := by rw [hks]; simp
        obtain ⟨h1, h2⟩ := T.kid_rank hm
        have := T.rank_le k h1
        omega
    unfold ordN
    rw [hk]
    rfl
  | f + 1, i, hi, h => by
    rw [show ordN kids (f + 1 + 1) i = i :: (kids i).flatMap (ordN kids (f + 1)) from rfl, show ordN kids (f + 1) i = i :: (kids i).flatMap (ordN kids f) from rfl]
    congr 1
    refine flat_congr (fun k hk => ?_)
    obtain ⟨h1, h2⟩ := T.kid_rank hk
    exact T.ord_more f k h1 (by omega)
/-- Tree order has just what a node holds. -/
theorem Tree.mem_ord (T : Tree n par kids rank) : ∀ (f i : Nat), i < n → n + 1 ≤ rank i + f → ∀ b, b < n → (b ∈ ordN kids f i ↔ holdsT par i b)
  | 0, i, hi, h, b, hb => by
    unfold ordN
    rw [List.mem_singleton]
    constructor
    · rintro rfl
      exact holds_refl _
    · intro hh
      have g := T.holds_rank hb hh
      have := T.rank_le b hb
      exact (g.2.2 (by omega)).symm
  | f + 1, i, hi, h, b, hb => by
    unfold ordN
    rw [List.mem_cons, List.mem_flatMap]
    constructor
    · rintro (rfl | ⟨k, hk, hm⟩)
      · exact holds_refl _
      · obtain ⟨h1, h2⟩ := T.kid_rank hk
        exact holds_trans (holds_par (T.kid_par i k hk)) ((T.mem_ord f k h1 (by omega) b hb).1 hm)
    · rintro ⟨m, hm⟩
      cases m with
      | zero => injection hm with hm; exact .inl hm
      | succ m =>
        right
        -- the last step's child
        have key : ∀ (m b : Nat), b < n → upN par (m + 1) b = some i → ∃ k, k ∈ kids i ∧ holdsT par k b := by
          intro m
          induction m with
          | zero =>
            intro b hb hm
            unfold upN at hm
            cases hp : par b with
            | none => rw [hp] at hm; cases hm
            | some p =>
              rw [hp] at hm
              injection hm with hm
              subst hm
              exact ⟨b, (T.par_kid _ b hb hp).2, holds_refl _⟩
          | succ m ih =>
            intro b hb hm
            unfold upN at hm
            cases hp : par b with
            | none => rw [hp] at hm; cases hm
            | some p =>
              rw [hp] at hm
              obtain ⟨k, hk, hh⟩ := ih p (T.par_kid _ b hb hp).1 hm
              exact ⟨k, hk, holds_trans hh (holds_par hp)⟩
        obtain ⟨k, hk, hh⟩ := key m b hb hm
        obtain ⟨h1, h2⟩ := T.kid_rank hk
        exact ⟨k, hk, (T.mem_ord f k h1 (by omega) b hb).2 hh⟩
theorem Tree.ord_lt (T : Tree n par kids rank) : ∀ (f i : Nat), i < n → ∀ b ∈ ordN kids f i, b < n
  | 0, i, hi, b, hb => by
    unfold ordN at hb
    rw [List.mem_singleton] at hb
    omega
  | f + 1, i, hi, b, hb => by
    unfold ordN at hb
    rw [List.mem_cons, List.mem_flatMap] at hb
    rcases hb with rfl | ⟨k, hk, hm⟩
    · exact hi
    · exact T.ord_lt f k (T.kid_rank hk).1 b hm
/-- Two children of one node hold nobody both. -/
theorem Tree.kids_apart (T : Tree n par kids rank) {i k1 k2 b : Nat} (hk1 : k1 ∈ kids i) (hk2 : k2 ∈ kids i) (h1 : holdsT par k1 b) (h2 : holdsT par k2 b) : k1 = k2 := by
  obtain ⟨l1, r1⟩ := T.kid_rank hk1
  obtain ⟨l2, r2⟩ := T.kid_rank hk2
  rcases holds_line h1 h2 with h | h
  · exact (T.holds_rank l2 h).2.2 (by omega)
  · exact ((T.holds_rank l1 h).2.2 (by omega)).symm
theorem Tree.ord_nodup (T : Tree n par kids rank) : ∀ (f i : Nat), i < n → n + 1 ≤ rank i + f → (ordN kids f i).Nodup
  | 0, i, _, _ => by unfold ordN; simp
  | f + 1, i, hi, h => by
    unfold ordN
    rw [List.nodup_cons]
    refine ⟨fun hm => ?_, ?_⟩
    · obtain ⟨k, hk, hm⟩ := List.mem_flatMap.1 hm
      obtain ⟨h1, h2⟩ := T.kid_rank hk
      have := T.holds_rank hi ((T.mem_ord f k h1 (by omega) i hi).1 hm)
      omega
    · have key : ∀ (l : List Nat), l.Nodup → (∀ k ∈ l, k ∈ kids i) → (l.flatMap (ordN kids f)).Nodup := by
        intro l
        induction l with
        | nil => intro _ _; simp
        | cons k r ih =>
          intro hn hl
          rw [List.nodup_cons] at hn
          rw [List.flatMap_cons, List.nodup_append]
          obtain ⟨h1, h2⟩ := T.kid_rank (hl k (by simp))
          refine ⟨T.ord_nodup f k h1 (by omega), ih hn.2 (fun j hj => hl j (by simp [hj])), fun a ha b hbm e => ?_⟩
          subst e
          obtain ⟨k2, hk2, hm2⟩ := List.mem_flatMap.1 hbm
          obtain ⟨g1, g2⟩ := T.kid_rank (hl k2 (by simp [hk2]))
          have hbn := T.ord_lt f k h1 a ha
          have := T.kids_apart (hl k (by simp)) (hl k2 (by simp [hk2])) ((T.mem_ord f k h1 (by omega) a hbn).1 ha) ((T.mem_ord f k2 g1 (by omega) a hbn).1 hm2)
          subst this
          exact hn.1 hk2
      exact key (kids i) (T.nodup i) (fun k hk => hk)
/-- Each but the first has its parent ahead, and between them stands only what the parent holds, and not it itself. -/
def BetweenFrom (par : Nat → Option Nat) (s : Nat) (l : List Nat) : Prop :=
  ∀ i c, s ≤ i → l[i]? = some c → ∃ j p, j < i ∧ par c = some p ∧ l[j]? = some p ∧ ∀ k x, j < k → k < i → l[k]? = some x → holdsT par p x ∧ ¬ holdsT par c x
theorem Tree.between_kids (T : Tree n par kids rank) {f i : Nat} (hf : n + 1 ≤ rank i + (f + 1)) (ih : ∀ k ∈ kids i, BetweenFrom par 1 (ordN kids f k)) :
    ∀ (ks pre : List Nat), ks.Nodup → (∀ k ∈ ks, k ∈ kids i) → (∀ x ∈ pre, holdsT par i x ∧ ∀ k ∈ ks, ¬ holdsT par k x) → BetweenFrom par (1 + pre.length) ((i :: pre) ++ ks.flatMap (ordN kids f))
  | [], pre, _, _, _ => by
    intro t c ht hc
    have := (List.getElem?_eq_some_iff.1 hc).1
    simp at this
    omega
  | k :: r, pre, hn, hk, hpre => by
    intro t c ht hc
    rw [List.nodup_cons] at hn
    rw [List.flatMap_cons] at hc ⊢
    have hkk := hk k (by simp)
    obtain ⟨hkn, hkr⟩ := T.kid_rank hkk
    by_cases hin : t < 1 + pre.length + (ordN kids f k).length
    · -- in k's own block
      have hc2 : (ordN kids f k)[t - (1 + pre.length)]? = some c := by
        rw [List.getElem?_append_right (by simp; omega), List.getElem?_append_left (by simp; omega)] at hc
        rw [← hc]
        congr 1
        simp
        omega
      have shift : ∀ u, u < (ordN kids f k).length → ((i :: pre) ++ (ordN kids f k ++ r.flatMap (ordN kids f)))[1 + pre.length + u]? = (ordN kids f k)[u]? := fun u hu => by
        rw [List.getElem?_append_right (by simp; omega), List.getElem?_append_left (by simp; omega)]
        congr 1
        simp
        omega
      by_cases hu : t = 1 + pre.length
      · obtain ⟨rr, hr⟩ := ordN_head (kids := kids) f k
        have hck : c = k := by
          rw [hu, Nat.sub_self, hr] at hc2
          simpa using hc2.symm
        subst hck
        refine ⟨0, i, by omega, T.kid_par i c hkk, rfl, fun q x hq1 hq2 hx => ?_⟩
        have hxp : pre[q - 1]? = some x := by
          rw [List.getElem?_append_left (by simp; omega)] at hx
          obtain ⟨q', rfl⟩ : ∃ q', q = q' + 1 := ⟨q - 1, by omega⟩
          simpa using hx
        have := hpre x (List.mem_of_getElem? hxp)
        exact ⟨this.1, this.2 c (by simp)⟩
      · obtain ⟨j, p, hj, hp, hjp, hb⟩ := ih k hkk (t - (1 + pre.length)) c (by omega) hc2
        refine ⟨1 + pre.length + j, p, by omega, hp, by rw [shift j (by omega)]; exact hjp, fun q x hq1 hq2 hx => ?_⟩
        have hx2 : (ordN kids f k)[q - (1 + pre.length)]? = some x := by
          rw [← shift (q - (1 + pre.length)) (by omega), ← hx]
          congr 1
          omega
        exact hb (q - (1 + pre.length)) x (by omega) (by omega) hx2
    · -- behind it
      have e : (i :: pre) ++ (ordN kids f k ++ r.flatMap (ordN kids f)) = (i :: (pre ++ ordN kids f k)) ++ r.flatMap (ordN kids f) := by simp
      rw [e] at hc ⊢
      refine T.between_kids hf ih r (pre ++ ordN kids f k) hn.2 (fun j hj => hk j (by simp [hj])) (fun x hx => ?_) t c (by rw [List.length_append]; omega) hc
      rcases List.mem_append.1 hx with hx | hx
      · exact ⟨(hpre x hx).1, fun j hj => (hpre x hx).2 j (by simp [hj])⟩
      · have hxn := T.ord_lt f k hkn x hx
        have hh := (T.mem_ord f k hkn (by omega) x hxn).1 hx
        refine ⟨holds_trans (holds_par (T.kid_par i k hkk)) hh, fun j hj hjx => ?_⟩
        have := T.kids_apart (hk j (by simp [hj])) hkk hjx hh
        subst this
        exact hn.1 hj
theorem Tree.ord_between (T : Tree n par kids rank) : ∀ (f i : Nat), i < n → n + 1 ≤ rank i + f → BetweenFrom par 1 (ordN kids f i)
  | 0, i, _, _ => by
    intro t c ht hc
    have := (List.getElem?_eq_some_iff.1 hc).1
    unfold ordN at this
    simp at this
    omega
  | f + 1, i, hi, h => by
    have := T.between_kids (f := f) (i := i) (by omega) (fun k hk => T.ord_between f k (T.kid_rank hk).1 (by have := (T.kid_rank hk).2; omega)) (kids i) [] (T.nodup i) (fun k hk => hk) (by simp)
    exact this
/-- Where a node stands in a list. -/
def posN (l : List Nat) (x : Nat) : Nat := l.findIdx (fun y => y == x)
theorem posN_mem {l : List Nat} {x : Nat} (h : x ∈ l) : posN l x < l.length := List.findIdx_lt_length_of_exists ⟨x, h, by simp⟩
theorem posN_get {l : List Nat} {x : Nat} (h : x ∈ l) : l[posN l x]? = some x := by
  have h1 := posN_mem h
  have h2 : ((l[posN l x]'h1) == x) = true := List.findIdx_getElem (w := h1)
  rw [List.getElem?_eq_getElem h1, beq_iff_eq.1 h2]
theorem posN_at {l : List Nat} {x k : Nat} (hn : l.Nodup) (h : l[k]? = some x) : posN l x = k := by
  have h1 := posN_get (List.mem_of_getElem? h)
  have h2 := posN_mem (List.mem_of_getElem? h)
  obtain ⟨hk, hx⟩ := List.getElem?_eq_some_iff.1 h
  obtain ⟨hk2, hx2⟩ := List.getElem?_eq_some_iff.1 h1
  exact (List.getElem_inj hn).1 (hx2.trans hx.symm)
/-- Who is held stands behind who holds it. -/
theorem Tree.ord_ahead (T : Tree n par kids rank) {f r : Nat} (hr : r < n) (hf : n + 1 ≤ rank r + f) : ∀ (m a b : Nat), b ∈ ordN kids f r → upN par (m + 1) b = some a → a ∈ ordN kids f r → posN (ordN kids f r) a < posN (ordN kids f r) b
  | m, a, b, hb, hm, ha => by
    have hnd := T.ord_nodup f r hr hf
    unfold upN at hm
    cases hp : par b with
    | none => rw [hp] at hm; cases hm
    | some p =>
      rw [hp] at hm
      have hbp : posN (ordN kids f r) b ≠ 0 := by
        intro h0
        have h1 := posN_get hb
        obtain ⟨rr, hrr⟩ := ordN_head (kids := kids) f r
        rw [h0, hrr] at h1
        have e : r = b := by simpa using h1
        subst e
        -- r has a parent that is in its own order
        have hbn := T.ord_lt f r hr r hb
        have han := T.ord_lt f r hr a ha
        have g := T.holds_rank han ((T.mem_ord f r hr hf a han).1 ha)
        have g2 := T.up_lt (m + 1) r a hbn (by unfold upN; rw [hp]; exact hm)
        omega
      obtain ⟨j, p', hj, hp', hjp, _⟩ := T.ord_between f r hr hf (posN (ordN kids f r) b) b (by omega) (posN_get hb)
      rw [hp] at hp'
      injection hp' with hp'
      subst hp'
      have hpos := posN_at hnd hjp
      cases m with
      | zero =>
        injection hm with hm
        subst hm
        omega
      | succ m =>
        have := T.ord_ahead hr hf m a p (List.mem_of_getElem? hjp) hm ha
        omega
end
end Go.Proofs.YtkomeijlljcdgaaGreat
/- Roots, and who is ahead of whom. Plain mathematics, no program. -/
namespace Go.Proofs.YtkomeijlljcdgaaGreat
section
variable {n : Nat} {par : Nat → Option Nat} {kids : Nat → List Nat} {rank : Nat → Nat}
/-- Up as long as there is a parent, so often at most. -/
def rootN (par : Nat → Option Nat) : Nat → Nat → Nat
  | 0, i => i
  | f + 1, i => match par i with
    | none => i
    | some p => rootN par f p
theorem rootN_none {f i : Nat} (h : par i = none) : rootN par f i = i := by
  cases f with
  | zero => rfl
  | succ f => unfold rootN; rw [h]
theorem rootN_some {f i p : Nat} (h : par i = some p) : rootN par (f + 1) i = rootN par f p := by
  show (match par i with | none => i | some p => rootN par f p) = _
  rw [h]
theorem rootN_holds : ∀ (f i : Nat), holdsT par (rootN par f i) i
  | 0, i => holds_refl i
  | f + 1, i => by
    cases h : par i with
    | none => rw [rootN_none h]; exact holds_refl i
    | some p => rw [rootN_some h]; exact holds_trans (rootN_holds f p) (holds_par h)
theorem Tree.root_top (T : Tree n par kids rank) : ∀ (f i : Nat), i < n → rank i ≤ f → par (rootN par f i) = none
  | 0, i, hi, h => by
    cases hp : par i with
    | none => exact hp
    | some p => have := T.rank_up p i hi hp; omega
  | f + 1, i, hi, h => by
    cases hp : par i with
    | none => rw [rootN_none hp]; exact hp
    | some p =>
      rw [rootN_some hp]
      have := T.rank_up p i hi hp
      exact T.root_top f p (T.par_kid p i hi hp).1 (by omega)
/-- Whoever holds a node and has no parent is its root. -/
theorem Tree.root_of (T : Tree n par kids rank) {f a b : Nat} (hb : b < n) (hf : rank b ≤ f) (h : holdsT par a b) (hp : par a = none) : rootN par f b = a := by
  have h2 := T.root_top f b hb hf
  have h3 := rootN_holds (par := par) f b
  rcases holds_line h h3 with h4 | h4
  · rcases holds_up h4 with e | ⟨p, hp2, _⟩
    · exact e.symm
    · rw [h2] at hp2; cases hp2
  · rcases holds_up h4 with e | ⟨p, hp2, _⟩
    · exact e
    · rw [hp] at hp2; cases hp2
theorem Tree.root_held (T : Tree n par kids rank) {f a b : Nat} (hb : b < n) (hf : n + 1 ≤ f) (h : holdsT par a b) : rootN par f a = rootN par f b := by
  have ha := (T.holds_rank hb h).1
  have r1 := T.rank_le a ha
  have r2 := T.rank_le b hb
  exact (T.root_of hb (by omega) (holds_trans (rootN_holds f a) h) (T.root_top f a ha (by omega))).symm
theorem Tree.root_root (T : Tree n par kids rank) {f a : Nat} (ha : a < n) (hf : n + 1 ≤ f) : rootN par f (rootN par f a) = rootN par f a :=
  T.root_held ha hf (rootN_holds f a)
theorem Tree.root_lt (T : Tree n par kids rank) {f a : Nat} (ha : a < n) : rootN par f a < n := (T.holds_rank ha (rootN_holds f a)).1
/-- Each node stands in its root's order. -/
theorem Tree.in_root (T : Tree n par kids rank) {f g a : Nat} (ha : a < n) (hg : n + 1 ≤ g) : a ∈ ordN kids g (rootN par f a) :=
  (T.mem_ord g _ (T.root_lt ha) (by omega) a ha).2 (rootN_holds f a)
/-- Of two unlike nodes of one tree just one is ahead. -/
theorem Tree.ahead_one (T : Tree n par kids rank) {f g a b : Nat} (ha : a < n) (hb : b < n) (hg : n + 1 ≤ g) (h : rootN par f a = rootN par f b) (hne : a ≠ b) : posN (ordN kids g (rootN par f a)) a ≠ posN (ordN kids g (rootN par f a)) b := by
  intro e
  have h1 := posN_get (T.in_root (f := f) ha hg)
  have h2 := posN_get (T.in_root (f := f) hb hg)
  rw [← h, ← e, h1] at h2
  exact hne (Option.some.inj h2)
/-- Who holds another one is ahead of it. -/
theorem Tree.held_ahead (T : Tree n par kids rank) {f g a b : Nat} (hb : b < n) (hf : n + 1 ≤ f) (hg : n + 1 ≤ g) (h : holdsT par a b) (hne : a ≠ b) : posN (ordN kids g (rootN par f a)) a < posN (ordN kids g (rootN par f a)) b := by
  have ha := (T.holds_rank hb h).1
  obtain ⟨m, hm⟩ := h
  cases m with
  | zero => injection hm with hm; exact absurd hm.symm hne
  | succ m =>
    have hr := T.root_held hb hf ⟨m + 1, hm⟩
    have h1 := T.in_root (f := f) ha hg
    have h2 := T.in_root (f := f) hb hg
    rw [← hr] at h2
    exact T.ord_ahead (T.root_lt ha) (by omega) m a b h2 hm h1
end
/-! ### ways up that end -/
def endsZ (nxt : Int → Int) : Nat → Int → Bool
  | 0, i => i == -1
  | s + 1, i => i == -1 || endsZ nxt s (nxt i)
theorem endsZ_step {nxt : Int → Int} {s : Nat} {i : Int} (h : i ≠ -1) : endsZ nxt (s + 1) i = endsZ nxt s (nxt i) := by
  show (i == -1 || endsZ nxt s (nxt i)) = _
  rw [beq_eq_false_iff_ne.2 h, Bool.false_or]
/-- After how many steps a way up has ended. -/
def rankZ (nxt : Int → Int) (n : Nat) (i : Int) : Nat := (List.range (n + 2)).findIdx (fun s => endsZ nxt s i)
theorem rankZ_le {nxt : Int → Int} {n : Nat} {i : Int} {s : Nat} (h : endsZ nxt s i = true) : rankZ nxt n i ≤ s := by
  unfold rankZ
  rcases Nat.lt_or_ge s ((List.range (n + 2)).findIdx (fun s => endsZ nxt s i)) with h1 | h1
  · have := List.not_of_lt_findIdx h1
    rw [List.getElem_range] at this
    rw [h] at this
    cases this
  · exact h1
theorem rankZ_ends {nxt : Int → Int} {n : Nat} {i : Int} (h : endsZ nxt (n + 1) i = true) : endsZ nxt (rankZ nxt n i) i = true := by
  have hlt : rankZ nxt n i < (List.range (n + 2)).length := by
    have := rankZ_le (n := n) h
    rw [List.length_range]
    omega
  have := List.findIdx_getElem (xs := List.range (n + 2)) (p := fun s => endsZ nxt s i) (w := hlt)
  have h3 : (List.range (n + 2))[rankZ nxt n i]'hlt = rankZ nxt n i := by simp
  have h4 : endsZ nxt ((List.range (n + 2))[rankZ nxt n i]'hlt) i = true := this
  rwa [h3] at h4
theorem rankZ_up {nxt : Int → Int} {n : Nat} {i : Int} (hi : i ≠ -1) (h : endsZ nxt (n + 1) i = true) (hp : endsZ nxt (n + 1) (nxt i) = true) : rankZ nxt n i = rankZ nxt n (nxt i) + 1 := by
  have h1 := rankZ_ends h
  have h2 := rankZ_ends hp
  have h3 := rankZ_le (n := n) h
  cases hr : rankZ nxt n i with
  | zero =>
    rw [hr] at h1
    exact absurd (beq_iff_eq.1 h1) hi
  | succ s =>
    rw [hr, endsZ_step hi] at h1
    rw [hr] at h3
    have h4 := rankZ_le (n := n) h1
    have h5 : endsZ nxt (rankZ nxt n (nxt i) + 1) i = true := by rw [endsZ_step hi]; exact h2
    have h6 := rankZ_le (n := n) h5
    omega
end Go.Proofs.YtkomeijlljcdgaaGreat
/- A region that draws its order, whose operations read old memory and whose callees may make new memory: one walk of the text's order serves every order. The class of worlds: all that leave what lay below as it was. -/
namespace Go.Proofs.YtkomeijlljcdgaaGreat
open Go.RowKit
/-- A later world, below which all is as it was. -/
structure Ext (w : World) where
  v : World
  below : Below w.heap.size w v
instance extNonempty (w : World) : Nonempty (Ext w) := ⟨⟨w, Below.refl _ _⟩⟩
theorem Ext.cell {w : World} {p : Addr} {v : Option Value} (h : w.cell? p = v) (hp : p.block < w.heap.size) : ∀ x : Ext w, x.v.cell? p = v := fun x => (x.below.cell hp).trans h
theorem Ext.call_same {P : Program} {f : FuncId} {args : Array Value} {w : World} {x : Ext w} {v : Value}
    (h : Calls P f args x.v fun e w' => e = .returned v ∧ x.v = w') : Calls P f args x.v fun e w'' => e = .returned v ∧ ∃ y : Ext w, w'' = y.v :=
  h.mono fun _ _ ⟨he, hm⟩ => ⟨he, x, hm.symm⟩
theorem Ext.call_below {P : Program} {f : FuncId} {args : Array Value} {w : World} {x : Ext w} {v : Value}
    (h : Calls P f args x.v fun e w' => e = .returned v ∧ Below x.v.heap.size x.v w') : Calls P f args x.v fun e w'' => e = .returned v ∧ ∃ y : Ext w, w'' = y.v :=
  h.mono fun _ w' ⟨he, hm⟩ => ⟨he, ⟨w', x.below.trans (hm.mono x.below.size)⟩, rfl⟩
theorem Ext.call_drew {P : Program} {f : FuncId} {args : Array Value} {w : World} {x : Ext w} {v : Value}
    (h : Calls P f args x.v fun e w' => e = .returned v ∧ ∃ n, w' = x.v.drewN n) : Calls P f args x.v fun e w'' => e = .returned v ∧ ∃ y : Ext w, w'' = y.v :=
  h.mono fun _ w' ⟨he, n, hm⟩ => ⟨he, ⟨w', by rw [hm]; exact below_drewN x.below n⟩, rfl⟩
theorem wp_region_ext {P : Program} {id : Nat} {Q : Exit → Act → World → Prop} {a : Act} {w : World} {l : List Oper} (hm : P.follows .mixedOrders = true) (hB : Region.lexB .any l.toArray = true)
    (h : wpQuiet P l.toArray (fun w' => ∃ x : Ext w, w' = x.v) (fun a' => ∀ w', (∃ x : Ext w, w' = x.v) → Q .normal a' w') l a) : (Code.region id l.toArray true).wp P Q a w :=
  wp_region_quiet (C := fun w' => ∃ x : Ext w, w' = x.v) hm hB ⟨⟨_, (Below.refl _ _).drew⟩, rfl⟩ (by simpa using h)
end Go.Proofs.YtkomeijlljcdgaaGreat
/- instarref02's At. -/
namespace Go.Proofs.YtkomeijlljcdgaaGreat
open Go.RowKit
theorem refat_any (a : Option Addr) (len cap : Nat) (L : AL) (n : ByteArray) (w : World) (h : AttrRow w a len cap L) :
    Calls Tryz.prog 98 #[.slice a len cap, .string n] w fun e w' => e = .returned (.int .i64 (atL L n.toList)) ∧ w = w' := by
  have hl := h.len64
  go_enter Tryz.func98, Tryz.ntmps98
  go_wp2
  go_loop [5] (fun i => ∃ k : Nat, k ≤ len ∧ i = .int .i64 k ∧ k ≤ atN L n.toList) (fun i => len - (intOf i).toNat)
  case atStart => exact ⟨0, Nat.zero_le _, rfl, Nat.zero_le _⟩
  case round =>
    obtain ⟨k, hk, rfl, hat⟩ := hrel
    by_cases hlt : k < len
    · obtain ⟨b, off, xn, xv, rfl, hb, hx, hc1, hc2, _, _⟩ := h.get hlt
      have HX := Lib.hid hx
      clear hx
      by_cases he : xn.toList = n.toList
      · have e1 : (xn.toList == n.toList) = true := beq_iff_eq.2 he
        have HR := Lib.hid (atL_here hat HX.out (show keyIs n.toList (xn, xv) = true from e1))
        clear he
        go_wp2
        go_ret
        exact ⟨ret_int HR.out.symm, rfl⟩
      · have e1 : (xn.toList == n.toList) = false := beq_eq_false_iff_ne.2 he
        have HR := atN_step hat HX.out (show keyIs n.toList (xn, xv) = false from e1)
        clear he
        go_wp2
        go_round
        case rel => exact ⟨k + 1, by omega, by go_num, HR⟩
        case measure => simp [intOf]; omega
    · have HR := Lib.hid (atL_none hat (by have := h.hlen; omega))
      go_wp2
      go_ret
      exact ⟨ret_int HR.out.symm, rfl⟩
end Go.Proofs.YtkomeijlljcdgaaGreat
/- append onto a slice of the call's own: the old slice reads as before, too. No program. -/
namespace Go.Proofs.YtkomeijlljcdgaaGreat
open Go.RowKit
section
variable {P : Program}
/-- Whatever append has done, the slice that it was given reads as it did. -/
theorem append_keeps {w w' : World} {v' : Value} {t ty : TypeId} {base : Nat} {e : TypeId} {i : TypeInfo} {z : Value} {size bytes : Nat} (ht : P.underlying t = some (.slice e)) (hi : P.info? e = some i) (hz : i.zero = some z)
    (hsize : i.size = size) (hby : i.bytes = bytes) {v : Value} {n : Nat} {xs : List Value} (hown : w.ownsRow base e size v n xs)
    {ad : Addr} {m c : Nat} {news : List Value} (hl : news.length = m * size) (hnews : ∀ j u, news[j]? = some u → w.cell? (ad.add j) = some u) (h1 : ∀ u ∈ news, u.oneCell' = true)
    (h63 : n + m ≤ maxLen) (hbytes : (n + m) * bytes ≤ 140737488355328)
    (hr : (Builtin.append_ #[t, t] ty #[v, .slice (some ad) m c]).run P w = .ok v' w') : w'.ownsRow base e size v n xs := by
  subst hsize
  subst hby
  have hsmall : n + m ≤ 9223372036854775807 := by simp only [maxLen] at h63; omega
  rcases hown.2 with ⟨rfl, rfl⟩ | ⟨g, cap, cur, rfl, hbg, hg, hnc, hcm, hcs, htake⟩
  · exact ⟨hown.1, .inl ⟨rfl, rfl⟩⟩
  · by_cases hroom : n + m ≤ cap
    · have hfit : n * i.size + news.length ≤ cur.size := by rw [hl, hcs, ← Nat.add_mul]; exact Nat.mul_le_mul_right _ hroom
      have hr2 := run_append_room (P := P) w t ty e i ht hi g n cap cur hg ad m c news hl hnews h1 hroom hfit
      rw [hr] at hr2
      injection hr2 with _ hw
      subst hw
      refine ⟨hown.1, .inr ⟨g, cap, _, rfl, hbg, setRow_heap w g cur _ e _ hg, hnc, hcm, ?_, ?_⟩⟩
      · simp only [List.size_toArray, List.length_append, List.length_take, List.length_drop, Array.length_toList]
        omega
      · have hlen : xs.length = n * i.size := hown.1
        rw [htake, List.append_assoc, ← hlen]
        exact List.take_left
    · have holds : ∀ j u, xs[j]? = some u → w.cell? ((⟨g, 0, none⟩ : Addr).add j) = some u := hown.cells (g := g) rfl
      have hr2 := run_append_grow (P := P) w t ty e i z ht hi hz ⟨g, 0, none⟩ n cap xs hown.1 holds ad m c news hl hnews (by omega) (by omega) (growslice_fits (by omega) hbytes)
      rw [hr] at hr2
      injection hr2 with _ hw
      subst hw
      exact World.ownsRow.alloc (w := w.drew) hown _
theorem run_append_keep (w : World) (t ty : TypeId) (base : Nat) (e : TypeId) (i : TypeInfo) (z : Value) (size bytes : Nat) (ht : P.underlying t = some (.slice e)) (hi : P.info? e = some i) (hz : i.zero = some z)
    (hsize : i.size = size) (hby : i.bytes = bytes) (hzs : z.cells.size = size) (hsz : 0 < size)
    (v : Value) (n : Nat) (xs : List Value) (hown : w.ownsRow base e size v n xs)
    (ad : Addr) (m c : Nat) (news : List Value) (hl : news.length = m * size) (hnews : ∀ j u, news[j]? = some u → w.cell? (ad.add j) = some u) (h1 : ∀ u ∈ news, u.oneCell' = true)
    (hm : 0 < m) (h63 : n + m ≤ maxLen) (hbytes : (n + m) * bytes ≤ 140737488355328) (hbase : base ≤ w.heap.size) :
    ∃ g cap w', (Builtin.append_ #[t, t] ty #[v, .slice (some ad) m c]).run P w = .ok (.slice (some ⟨g, 0, none⟩) (n + m) cap) w' ∧
      w'.ownsRow base e size (.slice (some ⟨g, 0, none⟩) (n + m) cap) (n + m) (xs ++ news) ∧ w'.ownsRow base e size v n xs ∧ w.grownBy w' v.ownBlock ∧ (v.ownBlock = some g ∨ g = w.heap.size) ∧ g < w'.heap.size := by
  obtain ⟨g, cap, w', hr, h2, h3, h4, h5⟩ := run_append_lies (P := P) w t ty base e i z size bytes ht hi hz hsize hby hzs hsz v n xs hown ad m c news hl hnews h1 hm h63 hbytes hbase w.heap.size rfl
  exact ⟨g, cap, w', hr, h2, append_keeps ht hi hz hsize hby hown hl hnews h1 h63 hbytes hr, h3, h4, h5⟩
/-- At a step of a region that draws its order. -/
theorem step_append_keep {w : World} {ops : Array Oper} {o : Oper} {a : Act} {K : Act → World → Prop} {Q : Exit → Act → World → Prop} {E : Prop} (hgd : o.guard = none) (s x : Operand) (t : TypeId)
    (ho : o.op = .call { callee := .builtin .append, args := #[s, x], argTypes := #[t, t] })
    (base : Nat) (e : TypeId) (i : TypeInfo) (z : Value) (size bytes : Nat) (ht : P.underlying t = some (.slice e)) (hi : P.info? e = some i) (hz : i.zero = some z)
    (hsize : i.size = size) (hby : i.bytes = bytes) (hzs : z.cells.size = size) (hsz : 0 < size)
    (v : Value) (n : Nat) (xs : List Value) (hs : a.eval s = v) (hown : w.ownsRow base e size v n xs)
    (ad : Addr) (m c : Nat) (news : List Value) (hx : a.eval x = .slice (some ad) m c) (hl : news.length = m * size) (hnews : ∀ j u, news[j]? = some u → w.cell? (ad.add j) = some u) (h1 : ∀ u ∈ news, u.oneCell' = true)
    (hm : 0 < m) (h63 : n + m ≤ maxLen) (hbytes : (n + m) * bytes ≤ 140737488355328) (hbase : base ≤ w.heap.size)
    (h : ∀ g cap w', w'.ownsRow base e size (.slice (some ⟨g, 0, none⟩) (n + m) cap) (n + m) (xs ++ news) → w'.ownsRow base e size v n xs → w.grownBy w' v.ownBlock → (v.ownBlock = some g ∨ g = w.heap.size) → g < w'.heap.size → K (a.put o.dst (.slice (some ⟨g, 0, none⟩) (n + m) cap)) w') :
    if Region.wanted o (yielded ops a.tmps) = true then Oper.wp P o a w K Q else E := by
  have hw : Region.wanted o (yielded ops a.tmps) = true := by simp [Region.wanted, hgd]
  rw [if_pos hw]
  obtain ⟨g, cap, w', hr, h2, h3, h4, h5, h6⟩ := run_append_keep (P := P) w t o.type base e i z size bytes ht hi hz hsize hby hzs hsz v n xs hown ad m c news hl hnews h1 hm h63 hbytes hbase
  unfold Oper.wp execOp
  simp only [ho, resolve, invoke, builtin, Sem.run_bind, Sem.run_pure, Result.andThen_ok, List.map_toArray, List.map_cons, List.map_nil, hs, hx, hr]
  exact h g cap w' h2 h3 h4 h5 h6
end
end Go.Proofs.YtkomeijlljcdgaaGreat
/- An argument that is a list of attributes, opened. -/
namespace Go.Proofs.YtkomeijlljcdgaaGreat
open Go.RowKit Go.Deep Go.ChangeShapes Go.WideShapes
theorem block_lt {W : World} {p : Addr} {v : Value} (h : W.cell? p = some v) : p.block < W.heap.size := by
  rcases Nat.lt_or_ge p.block W.heap.size with h1 | h1
  · exact h1
  · unfold World.cell? at h
    rw [Array.getElem?_eq_none h1] at h
    simp at h
theorem open_attrs {H : Type} {enc : TypeId × Value → H} {W : World} {a : Option Addr} {len cap : Nat} {d : DataW H} {p : List MemPlace}
    (h : DataW.Trod enc Tryz.prog W 0 (fun _ => true) true 45 (.slice a len cap) d p) : ∃ L, AttrRow W a len cap L := by
  obtain ⟨fuel, hf⟩ := h
  rcases open_slice_pairs Tryz.underlying45 Tryz.underlying109 (by kernel_rfl) rfl rfl (by kernel_rfl) (by kernel_rfl) hf with ⟨hcs, _⟩ | ⟨ad, l, c, m, n, V0, V1, D0, D1, P0, P1, hcs, _, hl, hm, hmm, _, hi⟩
  · simp [Value.cells] at hcs
    obtain ⟨rfl, rfl, rfl⟩ := hcs
    exact ⟨[], SRow.nil, by simp, fun _ => rfl⟩
  · simp [Value.cells] at hcs
    obtain ⟨rfl, rfl, rfl⟩ := hcs
    have hml : len ≤ m := by rw [hmm]; simpa using hl
    have each : ∀ i, i < len → ∃ x : ByteArray × ByteArray, W.cell? (ad.add (i * 2)) = some (.string x.1) ∧ W.cell? (ad.add (i * 2 + 1)) = some (.string x.2) ∧ x.1.size ≤ maxLen ∧ x.2.size ≤ maxLen := by
      intro i hil
      obtain ⟨h1, h2, h3, h4⟩ := hi i (by omega)
      obtain ⟨s, hs, _, hs3⟩ := DataW.trod_string Tryz.underlying9 h3
      obtain ⟨t, ht, _, ht3⟩ := DataW.trod_string Tryz.underlying9 h4
      simp at hs ht
      exact ⟨(s, t), by rw [h1, hs], by rw [h2, ht], hs3, ht3⟩
    obtain ⟨q, hq⟩ := choose_lt each
    refine ⟨(List.range len).map q, ⟨by simp, hl, hm, fun x _ => encA_len x, ?_⟩, ?_, fun h => by cases h⟩
    · rcases Nat.eq_zero_or_pos len with h0 | h0
      · exact .inl h0
      · obtain ⟨b, off, spot⟩ := ad
        have hc := (hq 0 h0).1
        have hspot : spot = none := by simpa [Addr.add] using World.cell?_spot hc
        subst hspot
        refine .inr ⟨b, off, rfl, ?_, ?_⟩
        · have := block_lt hc
          rwa [add_plain] at this
        · intro i x j v hx hv
          obtain ⟨hil, hgx⟩ := List.getElem?_eq_some_iff.1 hx
          have hil' : i < len := by simpa using hil
          simp at hgx
          obtain ⟨h1, h2, _⟩ := hq i hil'
          rw [add_plain] at h1 h2
          rw [hgx] at h1 h2
          obtain ⟨hjl, hgv⟩ := List.getElem?_eq_some_iff.1 hv
          match j, hjl with
          | 0, _ => simp [encA] at hgv; subst hgv; exact h1
          | 1, _ => simp [encA] at hgv; subst hgv; simpa [Nat.add_assoc] using h2
    · intro x hx
      obtain ⟨i, hi1, rfl⟩ := List.mem_map.1 hx
      have := hq i (List.mem_range.1 hi1)
      exact ⟨this.2.2.1, this.2.2.2⟩
end Go.Proofs.YtkomeijlljcdgaaGreat
