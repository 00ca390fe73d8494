/- Texts joined in build order: ShadeFacts ForestProp ForestEdit ForestAsk2 AttrRef1 RefRight RefSmall AttrRight AttrOps AttrRef2 AttrSet. -/
import Derived.Test.YtbgcpgpkhfbijaaGreatDoorK04
import Derived.Test.YtbgcpgpkhfbijaaGreatDoorChecked
import Derived.Test.YtbgcpgpkhfbijaaGreatDoorK01
import Derived.WalkLawsBesides
import Derived.WalkSmall
import Derived.Lib.Hide
import Derived.Deep.QuietTactic
import Derived.BigQuiet
import Derived.Below
import Derived.WideShapes
import Derived.Laws.IdiomStrings
import Derived.Lib.IndexBytes
import Derived.Test.YtbgcpgpkhfbijaaGreatDoorK02
import Derived.OwnWalk
import Derived.Laws.OwnMore
/- What the laws of layer 4 ask, over data: facts of forests that are right. Plain mathematics, no program. -/
namespace Go.Proofs.YtbgcpgpkhfbijaaGreatDoor
open Go.RowKit
/-! ### ShadeOver -/
/-- What is asked of three nodes. -/
structure OverFacts (m : Int) (F : List Core) (x y z : Nat) (c : Core) : Prop where
  self : overZ m F x x = true
  trans : overZ m F x y = true → overZ m F y z = true → overZ m F x z = true
  anti : x ≠ y → overZ m F x y = true → overZ m F y x = false
  held : holdsZ m F x y = true → overZ m F x y = true
  doc : c.kind = 0 → connZ m F x = true ∧ topZ m F x = x
  par : c.kind ≠ 0 → c.parent ≠ -1 → ∃ p : Nat, c.parent = p ∧ p < F.length ∧ connZ m F x = connZ m F p ∧ topZ m F x = topZ m F p
  host : c.kind ≠ 0 → c.parent = -1 → c.host ≠ -1 → ∃ p : Nat, c.host = p ∧ p < F.length ∧ connZ m F x = connZ m F p ∧ topZ m F x = topZ m F p
  alone : c.kind ≠ 0 → c.parent = -1 → c.host = -1 → connZ m F x = false ∧ topZ m F x = x
theorem connZ_eq {m : Int} {F : List Core} (h : rightF m F = true) {a : Nat} (ha : a < F.length) : connZ m F (a : Int) = (kindK F (topZ m F a) == 0) := by
  unfold connZ
  rw [thereF_of h ha, Bool.true_and]
theorem holds_over {m : Int} {F : List Core} (h : rightF m F = true) {a b : Nat} (hb : b < F.length) (hh : holdsT (parF F) a b) : holdsT (parS F) a b := by
  obtain ⟨k, hk⟩ := hh
  have T := tree_of_right h
  have key : ∀ (k b : Nat), b < F.length → upN (parF F) k b = some a → upN (parS F) k b = some a := by
    intro k
    induction k with
    | zero => intro b _ h; exact h
    | succ k ih =>
      intro b hb hu
      unfold upN at hu ⊢
      cases hp : parF F b with
      | none => rw [hp] at hu; cases hu
      | some p =>
        rw [hp] at hu
        have hx : F[b]? = some F[b] := List.getElem?_eq_getElem hb
        have hpar : F[b].parent ≠ -1 := fun e => by rw [right_top hx e] at hp; cases hp
        obtain ⟨q, e1, e2, e3⟩ := right_par h hx hpar
        rw [hp] at e3
        injection e3 with e3
        subst e3
        rw [parS_some ((next_par hx hpar).trans e1)]
        exact ih p e2 hu
  exact ⟨k, key k b hb hk⟩
theorem over_facts {m : Int} {F : List Core} (h : rightF m F = true) {x y z : Nat} {c : Core} (hx : x < F.length) (hy : y < F.length) (hz : z < F.length) (hc : F[x]? = some c) : OverFacts m F x y z c := by
  have T := treeS h
  have upto : ∀ p : Nat, nextUp F (x : Int) = p → p < F.length → connZ m F x = connZ m F p ∧ topZ m F x = topZ m F p := fun p hn hp => by
    have e : topZ m F x = topZ m F p := by
      rw [topZ_eq h hx, topZ_eq h hp]
      unfold topF
      rw [T.root_held hx (Nat.le_refl _) (holds_par (parS_some hn))]
    rw [connZ_eq h hx, connZ_eq h hp, e]
    exact ⟨rfl, rfl⟩
  have top : nextUp F (x : Int) = -1 → topZ m F x = x := fun hn => by
    rw [topZ_eq h hx]
    unfold topF
    rw [rootN_none (parS_none hn)]
  have kind : kindK F (x : Int) = c.kind := by unfold kindK; rw [getC_nat, hc]
  refine ⟨(overZ_iff h hx hx).2 (holds_refl x), fun h1 h2 => ?_, fun hne h1 => ?_, fun h1 => ?_, fun hk => ?_, fun hk hp => ?_, fun hk hp hh => ?_, fun hk hp hh => ?_⟩
  · exact (overZ_iff h hx hz).2 (holds_trans ((overZ_iff h hx hy).1 h1) ((overZ_iff h hy hz).1 h2))
  · cases h2 : overZ m F y x with
    | false => rfl
    | true => exact absurd (T.holds_anti hx hy ((overZ_iff h hx hy).1 h1) ((overZ_iff h hy hx).1 h2)) hne
  · exact (overZ_iff h hx hy).2 (holds_over h hy ((holdsZ_iff h hx hy).1 h1))
  · have hp : c.parent = -1 := by
      by_cases hp : c.parent = -1
      · exact hp
      · rcases right_held h hc hp with e | e <;> omega
    have hh : c.host = -1 := by
      by_cases hh : c.host = -1
      · exact hh
      · have := (right_host h hc hh).1
        omega
    have ht := top ((next_host hc hp).trans hh)
    rw [connZ_eq h hx, ht, kind, hk]
    exact ⟨rfl, rfl⟩
  · obtain ⟨p, e1, e2, _⟩ := right_par h hc hp
    obtain ⟨h1, h2⟩ := upto p ((next_par hc hp).trans e1) e2
    exact ⟨p, e1, e2, h1, h2⟩
  · obtain ⟨_, p, y, e1, e2, _⟩ := right_host h hc hh
    have hl := (List.getElem?_eq_some_iff.1 e2).1
    obtain ⟨h1, h2⟩ := upto p ((next_host hc hp).trans e1) hl
    exact ⟨p, e1, hl, h1, h2⟩
  · have ht := top ((next_host hc hp).trans hh)
    rw [connZ_eq h hx, ht, kind]
    exact ⟨beq_eq_false_iff_ne.2 hk, rfl⟩
/-! ### ShadeAll -/
structure AllFacts (m : Int) (F : List Core) (x : Nat) (l o : List Int) : Prop where
  pos : l[0]? = some (x : Int)
  len : l.length ≤ F.length
  olen : o.length ≤ l.length
  num : ∀ (i : Nat) z, l[i]? = some z → ∃ n : Nat, z = (n : Int) ∧ n < F.length
  many : ∀ n : Nat, n < F.length → hasZ l (n : Int) = if overZ m F x n then 1 else 0
  tops : ∀ n : Nat, n < F.length → overZ m F x n = true → topZ m F n = topZ m F x
  inc : ∀ (i : Nat) a b, o[i]? = some a → o[i + 1]? = some b → findZ l a < findZ l b
  und : ∀ (i : Nat) (n : Nat) c, l[i]? = some (n : Int) → F[n]? = some c → c.under ≠ -1 → ∃ s : Nat, c.under = s ∧ s < F.length ∧ l[i + 1]? = some (s : Int) ∧ ∀ k0, c.kids[0]? = some k0 → findZ l k0 = (i : Int) + 1 + (allZ m F s).length
  conn : connZ m F x = (kindK F (topZ m F x) == 0)
  top : ∃ t : Nat, topZ m F x = t ∧ t < F.length
theorem mem_allI {F : List Core} {z : Int} {n : Nat} : (n : Int) ∈ allI F z ↔ n ∈ allF F z.toNat := by
  unfold allI
  constructor
  · intro hm
    obtain ⟨k, hk, e⟩ := List.mem_map.1 hm
    rwa [Int.ofNat.inj e] at hk
  · intro hm
    exact List.mem_map.2 ⟨n, hm, rfl⟩
theorem allI_nodup {m : Int} {F : List Core} (h : rightF m F = true) {x : Nat} (hx : x < F.length) : (allI F x).Nodup := by
  have hN : (allF F x).Nodup := (treeS h).ord_nodup _ _ hx (by omega)
  unfold allI
  rw [Int.toNat_natCast]
  exact List.Pairwise.map Int.ofNat (fun a b hab e => hab (Int.ofNat.inj e)) hN
theorem allI_num {m : Int} {F : List Core} (h : rightF m F = true) {x : Nat} (hx : x < F.length) {z : Int} (hz : z ∈ allI F x) : ∃ n : Nat, z = (n : Int) ∧ n < F.length := by
  unfold allI at hz
  rw [Int.toNat_natCast] at hz
  obtain ⟨n, hn, rfl⟩ := List.mem_map.1 hz
  exact ⟨n, rfl, (treeS h).ord_lt _ _ hx n hn⟩
theorem allI_len {m : Int} {F : List Core} (h : rightF m F = true) {x : Nat} (hx : x < F.length) : (allI F x).length ≤ F.length := by
  unfold allI
  rw [Int.toNat_natCast, List.length_map]
  exact nodup_sub _ _ ((treeS h).ord_nodup _ _ hx (by omega)) ((treeS h).ord_lt _ _ hx)
theorem hasZ_all {m : Int} {F : List Core} (h : rightF m F = true) {x n : Nat} (hx : x < F.length) (hn : n < F.length) : hasZ (allI F x) (n : Int) = if overZ m F x n then 1 else 0 := by
  rw [hasZ_nodup (allI_nodup h hx)]
  have e2 : overZ m F x n = decide (n ∈ allF F x) := by
    unfold overZ
    rw [thereF_of h hx, thereF_of h hn]
    rfl
  have e1 : ((n : Int) ∈ allI F x) ↔ n ∈ allF F x := by rw [mem_allI, Int.toNat_natCast]
  rw [e2]
  by_cases hm : n ∈ allF F x
  · rw [if_pos (e1.2 hm), decide_eq_true hm, if_pos rfl]
  · rw [if_neg (fun g => hm (e1.1 g)), decide_eq_false hm, if_neg (by decide)]
theorem top_over {m : Int} {F : List Core} (h : rightF m F = true) {x n : Nat} (hx : x < F.length) (hn : n < F.length) (ho : overZ m F x n = true) : topZ m F n = topZ m F x := by
  rw [topZ_eq h hx, topZ_eq h hn]
  unfold topF
  rw [(treeS h).root_held hn (Nat.le_refl _) ((overZ_iff h hx hn).1 ho)]
theorem findZ_app {pre l : List Int} {z : Int} (hn : (pre ++ l).Nodup) (hz : z ∈ l) : findZ (pre ++ l) z = (pre.length : Int) + findZ l z := by
  obtain ⟨k, h1, h2⟩ := find_at hz
  rw [h1, findZ_at hn (j := pre.length + k) (by rw [List.getElem?_append_right (by omega)]; rw [show pre.length + k - pre.length = k by omega]; exact h2)]
  omega
theorem all_facts {m : Int} {F : List Core} (h : rightF m F = true) {x : Nat} (hx : x < F.length) : AllFacts m F x (allZ m F x) (ordZ m F x) := by
  have T := treeS h
  have hN := allI_nodup h hx
  have hsub : ((ordF F x).map Int.ofNat).Sublist (allI F x) := by
    unfold allI ordF allF
    rw [Int.toNat_natCast]
    exact (ord_sub (fun i => List.sublist_append_right _ _) _ _).map _
  rw [allZ_eq h hx, ordZ_eq h hx]
  refine ⟨?_, allI_len h hx, hsub.length_le, fun i z e => allI_num h hx (List.mem_of_getElem? e), fun n hn => hasZ_all h hx hn, fun n hn ho => top_over h hx hn ho, fun i a b ha hb => ?_, fun i n c hi hc hu => ?_, connZ_eq h hx, ⟨topF F x, topZ_eq h hx, topF_lt h hx⟩⟩
  · rw [allI_open h (List.getElem?_eq_getElem hx)]
    rfl
  · have ma := hsub.subset (List.mem_of_getElem? ha)
    have mb := hsub.subset (List.mem_of_getElem? hb)
    rw [findZ_mem ma, findZ_mem mb]
    have := sub_find hsub hN i a b ha hb
    omega
  · obtain ⟨s, u, e1, e2, _⟩ := right_under h hc hu
    have hs := (List.getElem?_eq_some_iff.1 e2).1
    obtain ⟨pre, post, e3, e4⟩ : ∃ pre post, allI F x = pre ++ allI F n ++ post ∧ pre.length = i := by
      have hg : (ordN (kidsS F) (F.length + 1) x)[i]? = some n := by
        unfold allI allF at hi
        rw [Int.toNat_natCast, List.getElem?_map] at hi
        cases hq : (ordN (kidsS F) (F.length + 1) x)[i]? with
        | none => rw [hq] at hi; cases hi
        | some q =>
          rw [hq] at hi
          exact congrArg some (Int.ofNat.inj (Option.some.inj hi))
      obtain ⟨pre, post, e, hl⟩ := T.ord_block _ _ hx (by omega) i n hg
      refine ⟨pre.map Int.ofNat, post.map Int.ofNat, ?_, by rw [List.length_map, hl]⟩
      unfold allI allF
      rw [Int.toNat_natCast, Int.toNat_natCast, e, List.map_append, List.map_append]
    have e5 : allI F n = (n : Int) :: (allI F s ++ c.kids.flatMap (allI F)) := by
      rw [allI_open h hc, if_neg hu, e1]
    obtain ⟨r, hr⟩ : ∃ r, allI F (s : Int) = (s : Int) :: r := ⟨_, allI_open h e2⟩
    refine ⟨s, e1, hs, ?_, fun k0 hk0 => ?_⟩
    · rw [e3, e5, hr, ← e4, List.append_assoc, List.getElem?_append_right (by omega), show pre.length + 1 - pre.length = 1 by omega]
      rfl
    · rw [allZ_eq h hs]
      obtain ⟨ks, hks⟩ : ∃ ks, c.kids = k0 :: ks := by
        cases hq : c.kids with
        | nil => rw [hq] at hk0; cases hk0
        | cons a r => rw [hq] at hk0; exact ⟨r, by rw [show a = k0 by simpa using hk0]⟩
      have hk1 : kidOk F n c k0 = true := (nodeOk_iff.1 (((rightF_iff m F).1 h).2.1 n c hc)).2.2.1 k0 (by rw [hks]; simp)
      obtain ⟨d, hd, _⟩ := kidB_iff.1 (kidOk_iff.1 hk1).2
      obtain ⟨g1, g2, g3⟩ := getC_some hd
      obtain ⟨r0, hr0⟩ : ∃ r0, allI F k0 = k0 :: r0 := by
        have := allI_open h g3
        rw [show ((k0.toNat : Nat) : Int) = k0 by omega] at this
        exact ⟨_, this⟩
      have e6 : allI F x = (pre ++ ((n : Int) :: allI F s)) ++ (k0 :: (r0 ++ ks.flatMap (allI F) ++ post)) := by
        rw [e3, e5, hks, List.flatMap_cons, hr0]
        simp
      have e7 := findZ_app (z := k0) (by rw [← e6]; exact hN) (by simp)
      rw [← e6] at e7
      rw [e7, List.length_append, List.length_cons, e4]
      have : findZ (k0 :: (r0 ++ ks.flatMap (allI F) ++ post)) k0 = 0 := by
        unfold findZ
        rw [findN_cons, if_pos rfl, if_pos (by simp)]
        rfl
      rw [this]
      omega
end Go.Proofs.YtbgcpgpkhfbijaaGreatDoor
/- Forests that are right, said in words of each node; and how one is shown to be right. Plain mathematics, no program. -/
namespace Go.Proofs.YtbgcpgpkhfbijaaGreatDoor
open Go.RowKit
/-- What a node of a forest keeps to. -/
structure NodeP (F : List Core) (i : Nat) (x : Core) : Prop where
  kind : 0 ≤ x.kind ∧ x.kind ≤ 4
  doc : ∃ d, getC F x.doc = some d ∧ d.kind = 0
  own : x.kind = 0 → x.doc = (i : Int)
  par : x.parent = -1 ∨ ((x.kind = 1 ∨ x.kind = 2) ∧ ∃ p, getC F x.parent = some p ∧ p.kind ≠ 2 ∧ (i : Int) ∈ p.kids)
  once : x.kids.Nodup
  kids : ∀ k ∈ x.kids, ∃ c, getC F k = some c ∧ (c.kind = 1 ∨ c.kind = 2) ∧ c.parent = (i : Int) ∧ c.doc = x.doc
  leaf : x.kind = 2 → x.kids = []
  root : x.kind = 0 → x.kids.length ≤ 1 ∧ ∀ k ∈ x.kids, kindK F k = 1
  host : x.kind = 4 → ∃ h, getC F x.host = some h ∧ h.kind = 1 ∧ h.under = (i : Int) ∧ h.doc = x.doc
  free : x.kind ≠ 4 → x.host = -1
  under : x.under = -1 ∨ (x.kind = 1 ∧ ∃ u, getC F x.under = some u ∧ u.kind = 4 ∧ u.host = (i : Int))
  text : textOk x = true
theorem shapeOk_iff {F : List Core} {x : Core} : shapeOk F x = true ↔ (x.kind = 2 → x.kids = []) ∧ (x.kind = 0 → elemsK F x ≤ 1 ∧ x.kids.length ≤ elemsK F x) := by
  unfold shapeOk
  simp only [Bool.and_eq_true, Bool.not_eq_true', Bool.and_eq_false_iff, beq_eq_false_iff_ne, decide_eq_false_iff_not, Bool.or_eq_false_iff]
  constructor
  · rintro ⟨h1, h2⟩
    refine ⟨fun e => ?_, fun e => ?_⟩
    · rcases h1 with h | h
      · exact absurd e h
      · exact List.eq_nil_of_length_eq_zero (by omega)
    · rcases h2 with h | h
      · exact absurd e h
      · omega
  · rintro ⟨h1, h2⟩
    refine ⟨?_, ?_⟩
    · by_cases e : x.kind = 2
      · right; rw [h1 e]; simp
      · exact .inl e
    · by_cases e : x.kind = 0
      · right; have := h2 e; omega
      · exact .inl e
theorem nodesP {F : List Core} : (∀ (i : Nat) x, F[i]? = some x → nodeOk F i x = true) ↔ ∀ (i : Nat) x, F[i]? = some x → NodeP F i x := by
  constructor
  · intro H i x hx
    obtain ⟨p1, p2, p3, p4, p5, p6⟩ := nodeOk_iff.1 (H i x hx)
    rw [Bool.and_eq_true] at p5
    unfold docOk at p1
    simp only [Bool.and_eq_true, Bool.or_eq_true, decide_eq_true_eq, bne_iff_ne, beq_iff_eq] at p1
    have hkid : ∀ k ∈ x.kids, ∃ c, getC F k = some c ∧ (c.kind = 1 ∨ c.kind = 2) ∧ c.parent = (i : Int) ∧ c.doc = x.doc := fun k hk => kidB_iff.1 (kidOk_iff.1 (p3 k hk)).2
    obtain ⟨s1, s2⟩ := shapeOk_iff.1 p4
    refine ⟨p1.1.1, ?_, fun e => p1.2.resolve_left (fun h => h e), ?_, nodup_of_has (fun z hz => (kidOk_iff.1 (p3 z hz)).1), hkid, s1, fun e => ?_, fun e => ?_, fun e => ?_, ?_, p6⟩
    · have h := p1.1.2
      cases hg : getC F x.doc with
      | none => rw [hg] at h; cases h
      | some d => rw [hg] at h; exact ⟨d, rfl, beq_iff_eq.1 h⟩
    · unfold parOk at p2
      rw [Bool.or_eq_true, beq_iff_eq] at p2
      rcases p2 with h | h
      · exact .inl h
      · right
        rw [Bool.and_eq_true, Bool.or_eq_true, beq_iff_eq, beq_iff_eq] at h
        refine ⟨h.1, ?_⟩
        cases hg : getC F x.parent with
        | none => rw [hg] at h; exact absurd h.2 (by simp)
        | some d =>
          rw [hg] at h
          have h2 := h.2
          dsimp only at h2
          rw [Bool.and_eq_true, bne_iff_ne, beq_iff_eq] at h2
          exact ⟨d, rfl, h2.1, hasZ_mem h2.2⟩
    · obtain ⟨h1, h2⟩ := s2 e
      refine ⟨by omega, fun k hk => ?_⟩
      unfold elemsK at h2
      have hc : x.kids.countP (fun k => kindK F k == 1) = x.kids.length := Nat.le_antisymm List.countP_le_length h2
      exact beq_iff_eq.1 (List.countP_eq_length.1 hc k hk)
    · have h := p5.1
      unfold hostOk at h
      rw [if_pos e] at h
      cases hg : getC F x.host with
      | none => rw [hg] at h; cases h
      | some d =>
        rw [hg] at h
        simp only [Bool.and_eq_true, beq_iff_eq] at h
        exact ⟨d, rfl, h.1.1, h.1.2, h.2⟩
    · have h := p5.1
      unfold hostOk at h
      rw [if_neg e] at h
      exact beq_iff_eq.1 h
    · have h := p5.2
      unfold underOk at h
      rw [Bool.or_eq_true, beq_iff_eq, Bool.and_eq_true, beq_iff_eq] at h
      rcases h with h | h
      · exact .inl h
      · right
        refine ⟨h.1, ?_⟩
        have h2 := h.2
        cases hg : getC F x.under with
        | none => rw [hg] at h2; cases h2
        | some d =>
          rw [hg] at h2
          simp only [Bool.and_eq_true, beq_iff_eq] at h2
          exact ⟨d, rfl, h2.1, h2.2⟩
  · intro H i x hx
    have h := H i x hx
    have hone : ∀ (l : List Int) (z : Int), l.Nodup → z ∈ l → hasZ l z = 1 := fun l z hn hz => by rw [hasZ_nodup hn, if_pos hz]
    refine nodeOk_iff.2 ⟨?_, ?_, fun k hk => kidOk_iff.2 ⟨hone _ _ h.once hk, kidB_iff.2 (h.kids k hk)⟩, shapeOk_iff.2 ⟨h.leaf, fun e => ?_⟩, ?_, h.text⟩
    · unfold docOk
      obtain ⟨d, h1, h2⟩ := h.doc
      rw [h1]
      simp only [Bool.and_eq_true, Bool.or_eq_true, decide_eq_true_eq, bne_iff_ne, beq_iff_eq]
      exact ⟨⟨h.kind, h2⟩, by by_cases e : x.kind = 0; exact .inr (h.own e); exact .inl e⟩
    · unfold parOk
      rw [Bool.or_eq_true, beq_iff_eq]
      rcases h.par with e | ⟨e, p, h1, h2, h3⟩
      · exact .inl e
      · right
        rw [h1, Bool.and_eq_true, Bool.or_eq_true, beq_iff_eq, beq_iff_eq]
        refine ⟨e, ?_⟩
        obtain ⟨g1, g2, g3⟩ := getC_some h1
        have := hone p.kids i (H _ p g3).once h3
        show (p.kind != 2 && hasZ p.kids i == 1) = true
        rw [this, bne_iff_ne.2 h2]
        rfl
    · obtain ⟨h1, h2⟩ := h.root e
      have : elemsK F x = x.kids.length := by
        unfold elemsK
        exact List.countP_eq_length.2 (fun k hk => beq_iff_eq.2 (h2 k hk))
      omega
    · rw [Bool.and_eq_true]
      constructor
      · unfold hostOk
        by_cases e : x.kind = 4
        · rw [if_pos e]
          obtain ⟨d, h1, h2, h3, h4⟩ := h.host e
          rw [h1]
          simp only [Bool.and_eq_true, beq_iff_eq]
          exact ⟨⟨h2, h3⟩, h4⟩
        · rw [if_neg e]
          exact beq_iff_eq.2 (h.free e)
      · unfold underOk
        rw [Bool.or_eq_true, beq_iff_eq]
        rcases h.under with e | ⟨e, u, h1, h2, h3⟩
        · exact .inl e
        · right
          rw [h1, Bool.and_eq_true]
          simp only [Bool.and_eq_true, beq_iff_eq]
          exact ⟨e, h2, h3⟩
theorem right_node {m : Int} {F : List Core} (h : rightF m F = true) {i : Nat} {x : Core} (hx : F[i]? = some x) : NodeP F i x := nodesP.1 ((rightF_iff m F).1 h).2.1 i x hx
/-- Who goes up always comes lower: the way up ends. -/
theorem ends_rank {nxt : Int → Int} {n : Nat} (r : Nat → Nat) (h : ∀ i : Nat, i < n → nxt i = -1 ∨ ∃ p : Nat, nxt i = p ∧ p < n ∧ r p < r i) : ∀ (k i : Nat), i < n → r i ≤ k → ∃ s, endsZ nxt s (i : Int) = true
  | 0, i, hi, hk => by
    rcases h i hi with e | ⟨p, _, _, e⟩
    · exact ⟨1, by rw [endsZ_step (by omega), e]; rfl⟩
    · omega
  | k + 1, i, hi, hk => by
    rcases h i hi with e | ⟨p, e1, e2, e3⟩
    · exact ⟨1, by rw [endsZ_step (by omega), e]; rfl⟩
    · obtain ⟨s, hs⟩ := ends_rank r h k p e2 (by omega)
      exact ⟨s + 1, by rw [endsZ_step (by omega), e1]; exact hs⟩
/-- How a forest is shown to be right. -/
theorem right_of {m : Int} {F : List Core} (h1 : 1 ≤ m) (h2 : m ≤ 400) (h3 : (F.length : Int) ≤ m) (h4 : headDoc F = true) (h5 : ∀ (i : Nat) x, F[i]? = some x → NodeP F i x) (r : Nat → Nat) (h6 : ∀ i : Nat, i < F.length → nextUp F i = -1 ∨ ∃ p : Nat, nextUp F i = p ∧ p < F.length ∧ r p < r i) : rightF m F = true := by
  refine (rightF_iff m F).2 ⟨⟨h1, h2, h3, h4⟩, nodesP.2 h5, fun i hi => ?_⟩
  obtain ⟨s, hs⟩ := ends_rank r h6 (r i) i hi (Nat.le_refl _)
  exact endsZ_le (Nat.le_succ _) (ends_small (n := F.length) (fun z h0 h1 => by
    obtain ⟨j, rfl⟩ : ∃ j : Nat, z = j := ⟨z.toNat, by omega⟩
    rcases h6 j (by omega) with e | ⟨p, e1, e2, _⟩
    · exact .inl e
    · exact .inr ⟨by omega, by omega⟩) (.inr ⟨by omega, by omega⟩) hs)
theorem rank_next {m : Int} {F : List Core} (h : rightF m F = true) {i : Nat} (hi : i < F.length) : nextUp F i = -1 ∨ ∃ p : Nat, nextUp F i = p ∧ p < F.length ∧ rankF F p < rankF F i := by
  by_cases e : nextUp F (i : Int) = -1
  · exact .inl e
  · right
    rcases right_up h i (by omega) (by omega) with e2 | ⟨e2, e3⟩
    · exact absurd e2 e
    · have hp : nextUp F (i : Int) = ((nextUp F (i : Int)).toNat : Int) := by omega
      refine ⟨_, hp, by omega, ?_⟩
      have := (treeS h).rank_up _ i hi (parS_some hp)
      omega
end Go.Proofs.YtbgcpgpkhfbijaaGreatDoor
/- A forest in which parents, children and documents are changed; a node goes from its parent. Plain mathematics, no program. -/
namespace Go.Proofs.YtbgcpgpkhfbijaaGreatDoor
open Go.RowKit
def edC (c : Core) (p : Int) (ks : List Int) (d : Int) : Core := ⟨c.kind, c.name, c.is, c.data, c.attrs, p, ks, c.host, c.under, d⟩
structure Edit (F G : List Core) (P : Nat → Core → Int) (K : Nat → Core → List Int) (D : Nat → Core → Int) : Prop where
  len : G.length = F.length
  at_ : ∀ (j : Nat) c, F[j]? = some c → G[j]? = some (edC c (P j c) (K j c) (D j c))
section
variable {F G : List Core} {P : Nat → Core → Int} {K : Nat → Core → List Int} {D : Nat → Core → Int}
theorem Edit.back (h : Edit F G P K D) {j : Nat} {y : Core} (hy : G[j]? = some y) : ∃ c, F[j]? = some c ∧ y = edC c (P j c) (K j c) (D j c) := by
  have hl := (List.getElem?_eq_some_iff.1 hy).1
  rw [h.len] at hl
  have hc : F[j]? = some F[j] := List.getElem?_eq_getElem hl
  have := h.at_ j _ hc
  rw [hy] at this
  exact ⟨_, hc, Option.some.inj this⟩
theorem Edit.getC (h : Edit F G P K D) {z : Int} {c : Core} (hc : Go.Proofs.YtbgcpgpkhfbijaaGreatDoor.getC F z = some c) : Go.Proofs.YtbgcpgpkhfbijaaGreatDoor.getC G z = some (edC c (P z.toNat c) (K z.toNat c) (D z.toNat c)) := by
  obtain ⟨h0, _, h2⟩ := getC_some hc
  unfold Go.Proofs.YtbgcpgpkhfbijaaGreatDoor.getC
  rw [if_pos h0]
  exact h.at_ _ _ h2
theorem Edit.kindK (h : Edit F G P K D) (z : Int) : Go.Proofs.YtbgcpgpkhfbijaaGreatDoor.kindK G z = Go.Proofs.YtbgcpgpkhfbijaaGreatDoor.kindK F z := by
  unfold Go.Proofs.YtbgcpgpkhfbijaaGreatDoor.kindK
  cases hc : Go.Proofs.YtbgcpgpkhfbijaaGreatDoor.getC F z with
  | some c => rw [h.getC hc]; rfl
  | none =>
    have : Go.Proofs.YtbgcpgpkhfbijaaGreatDoor.getC G z = none := by
      unfold Go.Proofs.YtbgcpgpkhfbijaaGreatDoor.getC at hc ⊢
      by_cases h0 : 0 ≤ z
      · rw [if_pos h0] at hc ⊢
        rw [List.getElem?_eq_none_iff] at hc ⊢
        rw [h.len]
        exact hc
      · rw [if_neg h0]
    rw [this]
theorem Edit.head (h : Edit F G P K D) (hd : headDoc F = true) : headDoc G = true := by
  rw [head_eq, isKd_iff] at hd ⊢
  obtain ⟨c, h1, h2⟩ := hd
  exact ⟨_, h.getC h1, h2⟩
theorem Edit.next (h : Edit F G P K D) {j : Nat} {c : Core} (hc : F[j]? = some c) : nextUp G (j : Int) = if P j c = -1 then c.host else P j c := by
  unfold nextUp
  rw [getC_nat, h.at_ j c hc]
  rfl
end
/-- A node goes from its parent. -/
structure Out (m : Int) (F G : List Core) (n p : Nat) (x : Core) : Prop where
  right : rightF m F = true
  hx : F[n]? = some x
  hp : x.parent = (p : Int)
  ed : Edit F G (fun j c => if j = n then -1 else c.parent) (fun j c => if j = p then c.kids.filter (fun z => z != (n : Int)) else c.kids) (fun _ c => c.doc)
section
variable {m : Int} {F G : List Core} {n p : Nat} {x : Core}
theorem Out.kind (h : Out m F G n p x) : x.kind = 1 ∨ x.kind = 2 := right_held h.right h.hx (by rw [h.hp]; omega)
theorem Out.bare (h : Out m F G n p x) : x.host = -1 := (right_node h.right h.hx).free (by rcases h.kind with e | e <;> omega)
theorem Out.next (h : Out m F G n p x) {j : Nat} (hj : j < F.length) : nextUp G (j : Int) = if j = n then -1 else nextUp F j := by
  have hc : F[j]? = some F[j] := List.getElem?_eq_getElem hj
  rw [h.ed.next hc]
  by_cases e : j = n
  · subst e
    rw [if_pos rfl, if_pos rfl, if_pos rfl, ← h.bare]
    rw [h.hx] at hc
    rw [Option.some.inj hc]
  · rw [if_neg e, if_neg e, nextUp_at hc]
    rfl
theorem Out.node (h : Out m F G n p x) {j : Nat} {y : Core} (hy : G[j]? = some y) : NodeP G j y := by
  obtain ⟨c, hc, rfl⟩ := h.ed.back hy
  have N := right_node h.right hc
  refine ⟨N.kind, ?_, N.own, ?_, ?_, fun k hk => ?_, fun e => ?_, fun e => ?_, fun e => ?_, N.free, ?_, N.text⟩
  · obtain ⟨d, h1, h2⟩ := N.doc
    exact ⟨_, h.ed.getC h1, h2⟩
  · by_cases e : j = n
    · exact .inl (if_pos e)
    · rcases N.par with h1 | ⟨h1, q, h2, h3, h4⟩
      · exact .inl ((if_neg e).trans h1)
      · have g := h.ed.getC h2
        refine .inr ⟨h1, edC q (if c.parent.toNat = n then -1 else q.parent) (if c.parent.toNat = p then q.kids.filter (fun z => z != (n : Int)) else q.kids) q.doc, ?_, h3, ?_⟩
        · show getC G (if j = n then -1 else c.parent) = _
          rw [if_neg e]
          exact g
        show (j : Int) ∈ (if c.parent.toNat = p then q.kids.filter (fun z => z != (n : Int)) else q.kids)
        split
        · rw [List.mem_filter]
          exact ⟨h4, bne_iff_ne.2 (by omega)⟩
        · exact h4
  · show (if j = p then c.kids.filter (fun z => z != (n : Int)) else c.kids).Nodup
    split
    · exact N.once.filter _
    · exact N.once
  · have hk2 : k ∈ c.kids ∧ k ≠ (n : Int) := by
      have hk : k ∈ (if j = p then c.kids.filter (fun z => z != (n : Int)) else c.kids) := hk
      split at hk
      · rw [List.mem_filter] at hk
        exact ⟨hk.1, bne_iff_ne.1 hk.2⟩
      · rename_i hne
        refine ⟨hk, fun e => ?_⟩
        subst e
        obtain ⟨d, h1, _, h3, _⟩ := N.kids _ hk
        rw [getC_nat, h.hx] at h1
        rw [← Option.some.inj h1, h.hp] at h3
        exact hne (by omega)
    obtain ⟨d, h1, h2, h3, h4⟩ := N.kids k hk2.1
    obtain ⟨g1, _, _⟩ := getC_some h1
    refine ⟨_, h.ed.getC h1, h2, ?_, h4⟩
    show (if k.toNat = n then -1 else d.parent) = (j : Int)
    rw [if_neg (by have := hk2.2; omega)]
    exact h3
  · show (if j = p then c.kids.filter (fun z => z != (n : Int)) else c.kids) = []
    rw [N.leaf e]
    split <;> rfl
  · obtain ⟨h1, h2⟩ := N.root e
    have hsub : ∀ k ∈ (if j = p then c.kids.filter (fun z => z != (n : Int)) else c.kids), k ∈ c.kids := fun k hk => by
      split at hk
      · exact (List.mem_filter.1 hk).1
      · exact hk
    refine ⟨?_, fun k hk => by rw [h.ed.kindK]; exact h2 k (hsub k hk)⟩
    show (if j = p then c.kids.filter (fun z => z != (n : Int)) else c.kids).length ≤ 1
    split
    · exact Nat.le_trans (List.length_filter_le _ _) h1
    · exact h1
  · obtain ⟨d, h1, h2, h3, h4⟩ := N.host e
    exact ⟨_, h.ed.getC h1, h2, h3, h4⟩
  · rcases N.under with h1 | ⟨h1, u, h2, h3, h4⟩
    · exact .inl h1
    · exact .inr ⟨h1, _, h.ed.getC h2, h3, h4⟩
theorem Out.rightG (h : Out m F G n p x) : rightF m G = true := by
  obtain ⟨⟨h1, h2, h3, h4⟩, _, _⟩ := (rightF_iff m F).1 h.right
  refine right_of h1 h2 (by rw [h.ed.len]; exact h3) (h.ed.head h4) (fun i y hy => h.node hy) (rankF F) (fun i hi => ?_)
  rw [h.ed.len] at hi ⊢
  rw [h.next hi]
  by_cases e : i = n
  · exact .inl (if_pos e)
  · rw [if_neg e]
    exact rank_next h.right hi
theorem Out.parS (h : Out m F G n p x) {j : Nat} (hj : j < F.length) : Go.Proofs.YtbgcpgpkhfbijaaGreatDoor.parS G j = if j = n then none else Go.Proofs.YtbgcpgpkhfbijaaGreatDoor.parS F j := by
  unfold Go.Proofs.YtbgcpgpkhfbijaaGreatDoor.parS
  rw [h.next hj]
  by_cases e : j = n
  · rw [if_pos e, if_pos rfl, if_pos e]
  · rw [if_neg e, if_neg e]
theorem Out.lt (h : Out m F G n p x) : n < F.length := (List.getElem?_eq_some_iff.1 h.hx).1
theorem Out.sub (h : Out m F G n p x) {a : Nat} : ∀ (k b : Nat), b < F.length → upN (Go.Proofs.YtbgcpgpkhfbijaaGreatDoor.parS G) k b = some a → upN (Go.Proofs.YtbgcpgpkhfbijaaGreatDoor.parS F) k b = some a
  | 0, b, _, hu => hu
  | k + 1, b, hb, hu => by
    unfold upN at hu ⊢
    rw [h.parS hb] at hu
    by_cases e : b = n
    · rw [if_pos e] at hu; cases hu
    · rw [if_neg e] at hu
      cases hq : Go.Proofs.YtbgcpgpkhfbijaaGreatDoor.parS F b with
      | none => rw [hq] at hu; cases hu
      | some q =>
        rw [hq] at hu
        exact h.sub k q (parS_next h.right hb hq).2 hu
/-- Who is over whom, then: as before, but that who goes takes along all that it is over. -/
theorem Out.over (h : Out m F G n p x) {a b : Nat} (ha : a < F.length) (hb : b < F.length) : holdsT (Go.Proofs.YtbgcpgpkhfbijaaGreatDoor.parS G) a b ↔ holdsT (Go.Proofs.YtbgcpgpkhfbijaaGreatDoor.parS F) a b ∧ (holdsT (Go.Proofs.YtbgcpgpkhfbijaaGreatDoor.parS F) n b → holdsT (Go.Proofs.YtbgcpgpkhfbijaaGreatDoor.parS F) n a) := by
  have T := treeS h.right
  constructor
  · rintro ⟨k, hk⟩
    refine ⟨⟨k, h.sub k b hb hk⟩, fun hn => ?_⟩
    rcases holds_line ⟨k, h.sub k b hb hk⟩ hn with h1 | h1
    · -- a is over n; the way from b to a in G passes n only if a is n
      have key : ∀ (k b : Nat), b < F.length → upN (Go.Proofs.YtbgcpgpkhfbijaaGreatDoor.parS G) k b = some a → holdsT (Go.Proofs.YtbgcpgpkhfbijaaGreatDoor.parS F) n b → a = n := by
        intro k
        induction k with
        | zero =>
          intro b hb hu hn
          obtain rfl : b = a := Option.some.inj hu
          exact T.holds_anti ha h.lt h1 hn
        | succ k ih =>
          intro b hb hu hn
          unfold upN at hu
          rw [h.parS hb] at hu
          by_cases e : b = n
          · rw [if_pos e] at hu; cases hu
          · rw [if_neg e] at hu
            cases hq : Go.Proofs.YtbgcpgpkhfbijaaGreatDoor.parS F b with
            | none => rw [hq] at hu; cases hu
            | some q =>
              rw [hq] at hu
              refine ih q (parS_next h.right hb hq).2 hu ?_
              rcases holds_up hn with e2 | ⟨q2, e2, e3⟩
              · exact absurd e2.symm e
              · rw [hq] at e2
                rw [Option.some.inj e2]
                exact e3
      rw [key k b hb hk hn]
      exact holds_refl n
    · exact h1
  · rintro ⟨⟨k, hk⟩, hn⟩
    have key : ∀ (k b : Nat), b < F.length → upN (Go.Proofs.YtbgcpgpkhfbijaaGreatDoor.parS F) k b = some a → (holdsT (Go.Proofs.YtbgcpgpkhfbijaaGreatDoor.parS F) n b → holdsT (Go.Proofs.YtbgcpgpkhfbijaaGreatDoor.parS F) n a) → holdsT (Go.Proofs.YtbgcpgpkhfbijaaGreatDoor.parS G) a b := by
      intro k
      induction k with
      | zero =>
        intro b hb hu _
        obtain rfl : b = a := Option.some.inj hu
        exact holds_refl b
      | succ k ih =>
        intro b hb hu hn
        unfold upN at hu
        cases hq : Go.Proofs.YtbgcpgpkhfbijaaGreatDoor.parS F b with
        | none => rw [hq] at hu; cases hu
        | some q =>
          rw [hq] at hu
          have hql := (parS_next h.right hb hq).2
          by_cases e : b = n
          · subst e
            have h1 := hn (holds_refl b)
            have h2 : a = b := T.holds_anti ha hb (holds_trans ⟨k, hu⟩ (holds_par hq)) h1
            subst h2
            exact holds_refl a
          · have h1 := ih q hql hu (fun h2 => hn (holds_trans h2 (holds_par hq)))
            exact holds_trans h1 (holds_par (by rw [h.parS hb, if_neg e]; exact hq))
    exact key k b hb hk hn
end
end Go.Proofs.YtbgcpgpkhfbijaaGreatDoor
/- Package forest's Holds, Place; slices.Index over numbers. -/
namespace Go.Proofs.YtbgcpgpkhfbijaaGreatDoor
open Go.RowKit
set_option maxHeartbeats 4000000 in
theorem index_any (a : Option Addr) (len cap : Nat) (L : List Int) (n : Int) (w : World) (h : IntRow w a len cap L) :
    Calls Tryz.prog 119 #[.slice a len cap, .int .i64 n] w fun e w' => e = .returned (.int .i64 (findZ L n)) ∧ w = w' := by
  have hl := h.len64
  have HH := Lib.hid h
  clear h
  go_enter Tryz.func119, Tryz.ntmps119
  go_wp2
  go_loop [8] (fun i => ∃ k : Nat, k ≤ len ∧ i = .int .i64 k ∧ Hid (k ≤ findN L n)) (fun i => len - (intOf i).toNat)
  case atStart => exact ⟨0, Nat.zero_le _, rfl, Lib.hid (Nat.zero_le _)⟩
  case round =>
    obtain ⟨k, hk, rfl, HA⟩ := hrel
    by_cases hlt : k < len
    · obtain ⟨b, off, z, rfl, hb, hx, hc, _⟩ := HH.out.get hlt
      have HX := Lib.hid hx
      clear hx
      by_cases he : n = z
      · have HR : Hid (findZ L n = (k : Int)) := Lib.hid (by
          have := findN_here HA.out HX.out (beq_iff_eq.2 he.symm)
          unfold findZ
          rw [this, if_pos (by rw [HH.out.hlen]; exact hlt)])
        subst he
        go_wp2
        go_ret
        exact ⟨ret_int HR.out.symm, rfl⟩
      · have e1 : (n == z) = false := beq_eq_false_iff_ne.2 he
        have HR := Lib.hid (findN_step HA.out HX.out (beq_eq_false_iff_ne.2 (fun e => he e.symm)))
        clear he
        go_wp2
        go_round
        case rel => exact ⟨k + 1, by omega, by go_num, HR⟩
        case measure => simp [intOf]; omega
    · have HR : Hid (findZ L n = -1) := Lib.hid (by unfold findZ; rw [if_neg (by rw [HH.out.hlen]; have := HA.out; omega)])
      go_wp2
      go_ret
      exact ⟨ret_int HR.out.symm, rfl⟩
set_option maxHeartbeats 4000000 in
set_option maxRecDepth 100000 in
theorem placeFn_any (a : Option Addr) (len cap : Nat) (m : Int) (L : List NodeD) (n : Int) (w : World) (h : NodeRow w a len cap L) (hm : In64 m) (hn : In64 n) (hs : smallF L) :
    Calls Tryz.prog 93 #[forV a len cap m, .int .i64 n] w fun e w' => e = .returned (.int .i64 (placeZ m (coreL L) n)) ∧ Below w.heap.size w w' := by
  have HCL : Hid ((coreL L).length = len) := Lib.hid (by rw [coreL_len, h.hlen])
  have hlen := h.len64
  have BX := Lib.hid ((Box.start (m := m) h).keep (below_box _ (.cells #[.int .i64 n] 3)))
  have NB := Lib.hid (lit_one (w.alloc (forB a len cap m)) 3 n hn)
  have CK : Hid (∀ W b, NodeRow W a len cap L → IntRow W b 1 1 [n] → Calls Tryz.prog 109 #[forV a len cap m, .slice b 1 1] W fun e w' => e = .returned (.bool (thereF m (coreL L) n)) ∧ Below W.heap.size W w') := Lib.hid (fun W b h1 h2 => by
    rw [← knowsB_one]
    exact knows_any a len cap m L b 1 1 [n] W h1 hm hs h2)
  simp only [World.size_alloc] at NB
  have z0 := BX.out.c0
  have z1 := BX.out.c1
  have HH := Lib.hid h
  clear h hm hs hn
  cases q : thereF m (coreL L) n with
  | false =>
    rw [q] at CK
    have HR : Hid (placeZ m (coreL L) n = -1) := Lib.hid (by unfold placeZ; rw [q]; rfl)
    clear q
    go_enter Tryz.func93, Tryz.ntmps93
    go_wp2_with (first
                    | (go_at_call 109; ((with_reducible refine (CK.out _ _ BX.out.row NB.out).mono ?_); rintro e w1 ⟨rfl, hb⟩; have BX := Lib.hid (BX.out.keep hb); have z0 := BX.out.c0; have z1 := BX.out.c1; clear hb))
                    | (go_at_call 154; ((with_reducible refine (CU.out _ BX.out.row).mono ?_); rintro e w1 ⟨rfl, rfl⟩)))
    go_ret
    exact ⟨ret_int HR.out.symm, BX.out.below⟩
  | true =>
    rw [q] at CK
    obtain ⟨hr, k, rfl, hk⟩ := there_nat q
    have HP : Hid (placeZ m (coreL L) k = placeF (coreL L) k) := Lib.hid (by unfold placeZ; rw [q]; rfl)
    have HRT := Lib.hid hr
    rw [HCL.out] at hk
    clear q hr
    obtain ⟨b, off, x, rfl, hb, hx, hat, hok⟩ := HH.out.get hk
    have hxc := coreL_get hx
    by_cases hp : x.core.parent = -1
    · have c5 := hat.c5
      rw [hp] at c5
      have C5 := Lib.hid (stays c5 hb)
      have HR : Hid (placeZ m (coreL L) k = -1) := Lib.hid (by rw [HP.out]; unfold placeF; rw [right_top hxc hp])
      clear hat hok hx hxc hp hb c5
      go_enter Tryz.func93, Tryz.ntmps93
      go_wp2_with (go_at_call 109; ((with_reducible refine (CK.out _ _ BX.out.row NB.out).mono ?_); rintro e w1 ⟨rfl, hb⟩; have BX := Lib.hid (BX.out.keep hb); have z0 := BX.out.c0; have z1 := BX.out.c1; have c5 := C5.out _ BX.out.below; clear hb))
      go_ret
      exact ⟨ret_int HR.out.symm, BX.out.below⟩
    · obtain ⟨p, hpp, hpl, hpar⟩ := right_par HRT.out hxc hp
      rw [HCL.out] at hpl
      have c5 := hat.c5
      rw [hpp] at c5
      have C5 := Lib.hid (stays c5 hb)
      obtain ⟨b2, off2, y, hab, hb2, hy, hat2, hok2⟩ := HH.out.get hpl
      injection hab with hab
      injection hab with e1 e2
      subst e1 e2
      have C6 := Lib.hid (stays hat2.c6 hb2)
      have HR : Hid (placeZ m (coreL L) k = findZ y.core.kids k) := Lib.hid (by rw [HP.out]; unfold placeF; rw [hpar]; dsimp only; rw [coreL_get hy])
      have CX : Hid (∀ W, Below w.heap.size w W → Calls Tryz.prog 119 #[.slice y.kA y.kN y.kC, .int .i64 k] W fun e w' => e = .returned (.int .i64 (findZ y.core.kids k)) ∧ W = w') := Lib.hid (fun W hb => index_any _ _ _ _ _ W (hok2.kids.below hb))
      have hne : ((p : Int) == -1) = false := beq_eq_false_iff_ne.2 (by omega)
      clear hat hok hx hxc hp hb c5 hy hat2 hok2 hb2 hpar hpp
      go_enter Tryz.func93, Tryz.ntmps93
      go_wp2_with (go_at_call 109; ((with_reducible refine (CK.out _ _ BX.out.row NB.out).mono ?_); rintro e w1 ⟨rfl, hb⟩; have BX := Lib.hid (BX.out.keep hb); have z0 := BX.out.c0; have z1 := BX.out.c1; have c5 := C5.out _ BX.out.below; clear hb))
      have E0 := Ext.cell z0 BX.out.lt
      have E5 := Ext.stays C5.out BX.out.below
      have E6 := Ext.stays C6.out BX.out.below
      have EX := Lib.hid (fun (x : Ext w1) => CX.out x.v (BX.out.below.trans (x.below.mono BX.out.below.size)))
      refine wp_region_ext (by kernel_rfl) (by kernel_rfl) ?_
      repeat (go_big_quiet_step (first | (go_at_call 119; exact Ext.call_same (EX.out _))))
      refine wpQuiet_nil ?_
      intro w3 hw'
      obtain ⟨⟨w4, hb4⟩, hw''⟩ := hw'
      dsimp only at hw''
      subst hw''
      have BX := Lib.hid (BX.out.keep hb4)
      clear E0 E5 E6 EX hb4
      go_wp2
      go_ret
      exact ⟨ret_int HR.out.symm, BX.out.below⟩
end Go.Proofs.YtbgcpgpkhfbijaaGreatDoor
/- instarref02's At. -/
namespace Go.Proofs.YtbgcpgpkhfbijaaGreatDoor
open Go.RowKit
theorem refat_any (a : Option Addr) (len cap : Nat) (L : AL) (n : ByteArray) (w : World) (h : AttrRow w a len cap L) :
    Calls Tryz.prog 138 #[.slice a len cap, .string n] w fun e w' => e = .returned (.int .i64 (atL L n.toList)) ∧ w = w' := by
  have hl := h.len64
  go_enter Tryz.func138, Tryz.ntmps138
  go_wp2
  go_loop [5] (fun i => ∃ k : Nat, k ≤ len ∧ i = .int .i64 k ∧ k ≤ atN L n.toList) (fun i => len - (intOf i).toNat)
  case atStart => exact ⟨0, Nat.zero_le _, rfl, Nat.zero_le _⟩
  case round =>
    obtain ⟨k, hk, rfl, hat⟩ := hrel
    by_cases hlt : k < len
    · obtain ⟨b, off, xn, xv, rfl, hb, hx, hc1, hc2, _, _⟩ := h.get hlt
      have HX := Lib.hid hx
      clear hx
      by_cases he : xn.toList = n.toList
      · have e1 : (xn.toList == n.toList) = true := beq_iff_eq.2 he
        have HR := Lib.hid (atL_here hat HX.out (show keyIs n.toList (xn, xv) = true from e1))
        clear he
        go_wp2
        go_ret
        exact ⟨ret_int HR.out.symm, rfl⟩
      · have e1 : (xn.toList == n.toList) = false := beq_eq_false_iff_ne.2 he
        have HR := atN_step hat HX.out (show keyIs n.toList (xn, xv) = false from e1)
        clear he
        go_wp2
        go_round
        case rel => exact ⟨k + 1, by omega, by go_num, HR⟩
        case measure => simp [intOf]; omega
    · have HR := Lib.hid (atL_none hat (by have := h.hlen; omega))
      go_wp2
      go_ret
      exact ⟨ret_int HR.out.symm, rfl⟩
end Go.Proofs.YtbgcpgpkhfbijaaGreatDoor
/- The document's own answer Right (package instarref01). -/
namespace Go.Proofs.YtbgcpgpkhfbijaaGreatDoor
open Go.RowKit
/-- What holds at the head of a round of the reference's Right: all bytes before are signs, and the first may begin. -/
def RightAt (l : List UInt8) (k : Nat) : Prop := (l.take k).all signB = true ∧ (0 < k → headB (l.headD 0) = true)
theorem RightAt.start (l : List UInt8) : RightAt l 0 := ⟨rfl, fun h => absurd h (by omega)⟩
theorem RightAt.next {l : List UInt8} {k : Nat} {c : UInt8} (h : RightAt l k) (hc : l[k]? = some c) (hk : k = 0 ∧ headB c = true ∨ 0 < k ∧ signB c = true) : RightAt l (k + 1) := by
  rcases hk with ⟨rfl, hk⟩ | ⟨hk, hs⟩
  · refine ⟨(all_take_succ l 0 c hc rfl).trans (sign_of_head c hk), fun _ => ?_⟩
    cases l with
    | nil => simp at hc
    | cons b r => simp at hc; subst hc; exact hk
  · exact ⟨(all_take_succ l k c hc h.1).trans hs, fun _ => h.2 hk⟩
theorem RightAt.stop {l : List UInt8} {k : Nat} {c : UInt8} (hc : l[k]? = some c) (hk : k = 0 ∧ headB c = false ∨ 0 < k ∧ signB c = false) : rightL l = false := by
  rcases hk with ⟨rfl, hk⟩ | ⟨_, hs⟩
  · exact rightL_head l c hc hk
  · exact rightL_stop l k c hc hs
theorem RightAt.full {l : List UInt8} {k : Nat} (h : RightAt l k) (hk : k = l.length) (h1 : 1 ≤ l.length) (h2 : l.length ≤ 40) : rightL l = true := by
  have ha := h.1
  rw [hk, List.take_length] at ha
  unfold rightL
  rw [ha, h.2 (by omega), decide_eq_true ⟨h1, h2⟩]
  rfl

theorem le_max {n : Nat} (h : n ≤ 1000000) : n ≤ maxLen := by unfold maxLen; omega
set_option maxHeartbeats 16000000 in
set_option maxRecDepth 100000 in
theorem refright_any (s : ByteArray) (w : World) (hs : s.size ≤ maxLen) :
    Calls Tryz.prog 81 #[.string s] w fun e w' => e = .returned (.bool (rightL s.toList)) ∧ w = w' := by
  unfold maxLen at hs
  have hlen := tl_len s
  by_cases h0 : s.size < 1
  · have H := Lib.hid (rightL_ends s.toList (by omega))
    have hz : ((s.size : Int) == 0) = true := beq_iff_eq.2 (by omega)
    clear hlen
    go_enter Tryz.func81, Tryz.ntmps81
    go_wp2
    go_ret
    exact ⟨ret_bool H.out.symm, rfl⟩
  have hz : ((s.size : Int) == 0) = false := beq_eq_false_iff_ne.2 (by omega)
  by_cases h1 : 40 < s.size
  · have H := Lib.hid (rightL_ends s.toList (by omega))
    clear hlen
    go_enter Tryz.func81, Tryz.ntmps81
    go_wp2
    go_ret
    exact ⟨ret_bool H.out.symm, rfl⟩
  have HL := Lib.hid hlen
  clear hlen
  go_enter Tryz.func81, Tryz.ntmps81
  go_wp2
  go_loop [3] (fun i => ∃ k : Nat, k ≤ s.size ∧ i = .int .i64 k ∧ Hid (RightAt s.toList k)) (fun i => s.size - (intOf i).toNat)
  case atStart => exact ⟨0, by omega, rfl, Lib.hid (RightAt.start _)⟩
  case round =>
    obtain ⟨k, hk, rfl, HA⟩ := hrel
    by_cases hlt : k < s.size
    · have HG := Lib.hid (tl_get s k hlt)
      obtain ⟨n, hn⟩ : ∃ n : Nat, (s[k]'hlt).toNat = n := ⟨_, rfl⟩
      have hn1 : n ≤ 255 := by have := (s[k]'hlt).toNat_lt; omega
      have HC := Lib.hid (show signB (s[k]'hlt) = signI (n : Int) ∧ headB (s[k]'hlt) = headI (n : Int) from by unfold signB headB; rw [hn]; exact ⟨rfl, rfl⟩)
      have hcases : (97 ≤ n ∧ n ≤ 122) ∨ (48 ≤ n ∧ n ≤ 57) ∨ (45 ≤ n ∧ n ≤ 45) ∨ (95 ≤ n ∧ n ≤ 95) ∨ (46 ≤ n ∧ n ≤ 46) ∨ (65 ≤ n ∧ n ≤ 90) ∨ (0 ≤ n ∧ n ≤ 44) ∨ (47 ≤ n ∧ n ≤ 47) ∨ (58 ≤ n ∧ n ≤ 64) ∨ (91 ≤ n ∧ n ≤ 94) ∨ (96 ≤ n ∧ n ≤ 96) ∨ (123 ≤ n ∧ n ≤ 255) := by omega
      have hk0 : k = 0 ∨ 0 < k := by omega
      rcases hcases with hr | hr | hr | hr | hr | hr | hr | hr | hr | hr | hr | hr
      all_goals
        obtain ⟨hr1, hr2⟩ := hr
        first | (have e1 : decide ((97 : Int) ≤ (n : Int)) = true := decide_eq_true (by omega)) | (have e1 : decide ((97 : Int) ≤ (n : Int)) = false := decide_eq_false (by omega))
        first | (have e2 : decide ((n : Int) ≤ 122) = true := decide_eq_true (by omega)) | (have e2 : decide ((n : Int) ≤ 122) = false := decide_eq_false (by omega))
        first | (have e3 : decide ((65 : Int) ≤ (n : Int)) = true := decide_eq_true (by omega)) | (have e3 : decide ((65 : Int) ≤ (n : Int)) = false := decide_eq_false (by omega))
        first | (have e4 : decide ((n : Int) ≤ 90) = true := decide_eq_true (by omega)) | (have e4 : decide ((n : Int) ≤ 90) = false := decide_eq_false (by omega))
        first | (have e5 : decide ((48 : Int) ≤ (n : Int)) = true := decide_eq_true (by omega)) | (have e5 : decide ((48 : Int) ≤ (n : Int)) = false := decide_eq_false (by omega))
        first | (have e6 : decide ((n : Int) ≤ 57) = true := decide_eq_true (by omega)) | (have e6 : decide ((n : Int) ≤ 57) = false := decide_eq_false (by omega))
        first | (have e7 : ((n : Int) == 45) = true := beq_iff_eq.2 (by omega)) | (have e7 : ((n : Int) == 45) = false := beq_eq_false_iff_ne.2 (by omega))
        first | (have e8 : ((n : Int) == 46) = true := beq_iff_eq.2 (by omega)) | (have e8 : ((n : Int) == 46) = false := beq_eq_false_iff_ne.2 (by omega))
        first | (have e9 : ((n : Int) == 95) = true := beq_iff_eq.2 (by omega)) | (have e9 : ((n : Int) == 95) = false := beq_eq_false_iff_ne.2 (by omega))
        first | (have e10 : ((n : Int) != 95) = false := by unfold bne; rw [e9]; rfl; done) | (have e10 : ((n : Int) != 95) = true := by unfold bne; rw [e9]; rfl)
        first | (have HS : Hid (signI (n : Int) = true) := Lib.hid (by unfold signI alphI lowI capI digI; simp; omega)) | (have HS : Hid (signI (n : Int) = false) := Lib.hid (by unfold signI alphI lowI capI digI; simp; omega))
        first | (have HH : Hid (headI (n : Int) = true) := Lib.hid (by unfold headI alphI lowI capI; simp; omega)) | (have HH : Hid (headI (n : Int) = false) := Lib.hid (by unfold headI alphI lowI capI; simp; omega))
        clear hr1 hr2
        rcases hk0 with hk0 | hk0
        · have e11 : ((k : Int) == 0) = true := beq_iff_eq.2 (by omega)
          have HK := Lib.hid hk0
          clear hk0
          go_wp2
          first
            | (go_ret
               exact ⟨ret_bool (RightAt.stop HG.out (.inl ⟨HK.out, HC.out.2.trans HH.out⟩)).symm, rfl⟩)
            | (go_round
               case rel => exact ⟨k + 1, by omega, by go_num, Lib.hid (HA.out.next HG.out (.inl ⟨HK.out, HC.out.2.trans HH.out⟩))⟩
               case measure => simp [intOf]; omega)
        · have e11 : ((k : Int) == 0) = false := beq_eq_false_iff_ne.2 (by omega)
          go_wp2
          first
            | (go_ret
               exact ⟨ret_bool (RightAt.stop HG.out (.inr ⟨hk0, HC.out.1.trans HS.out⟩)).symm, rfl⟩)
            | (go_round
               case rel => exact ⟨k + 1, by omega, by go_num, Lib.hid (HA.out.next HG.out (.inr ⟨hk0, HC.out.1.trans HS.out⟩))⟩
               case measure => simp [intOf]; omega)
    · go_wp2
      go_ret
      exact ⟨ret_bool (HA.out.full (by rw [HL.out]; omega) (by rw [HL.out]; omega) (by rw [HL.out]; omega)).symm, rfl⟩

end Go.Proofs.YtbgcpgpkhfbijaaGreatDoor
/- The document's own answer Small (package instarref01): byte by byte, by '+' on strings. -/
namespace Go.Proofs.YtbgcpgpkhfbijaaGreatDoor
open Go.RowKit
def ofI (n : Int) : UInt8 := UInt8.ofNat n.toNat
theorem ofI_nat {n : Int} (h0 : 0 ≤ n) (h1 : n ≤ 255) : ((ofI n).toNat : Int) = n := by
  unfold ofI
  have : (UInt8.ofNat n.toNat).toNat = n.toNat % 256 := by simp
  rw [this]
  omega
theorem bytes_one (w : World) (a : Addr) (n : Int) (h0 : 0 ≤ n) (h1 : n ≤ 255) (hc : w.cell? a = some (.int .u8 n)) :
    (convert 54 9 (.slice (some a) 1 1)).run Tryz.prog w = .ok (.string (ofL [ofI n])) w := by
  have hs := World.cell?_spot hc
  have := run_convert_bytes_back (P := Tryz.prog) w 54 9 5 a 1 [ofI n] Tryz.underlying54 Tryz.underlying5 Tryz.underlying9 (fun j hj => by
    have : j = 0 := by simpa using hj
    subst this
    have ha : a.add 0 = a := by
      obtain ⟨b, o, sp⟩ := a
      simp at hs
      subst hs
      rw [Go.WideShapes.add_plain, Nat.add_zero]
    rw [ha, hc]
    simp [ofI_nat h0 h1])
  exact this
theorem cut_one (s : ByteArray) (k : Nat) (c : UInt8) (h : s.toList[k]? = some c) : s.extract k (k + 1) = ofL [c] := by
  obtain ⟨hl, hg⟩ := List.getElem?_eq_some_iff.1 h
  rw [← ofL_self (s.extract k (k + 1))]
  congr 1
  rw [tl, Lib.extract_data, ← tl, List.drop_eq_getElem_cons hl, hg]
  have : k + 1 - k = 1 := by omega
  first
    | (rw [this]; rfl)
    | simp
theorem small_take (l : List UInt8) (k : Nat) (c : UInt8) (h : l[k]? = some c) : smallL (l.take (k + 1)) = smallL (l.take k) ++ [smallB c] := by
  obtain ⟨hl, hg⟩ := List.getElem?_eq_some_iff.1 h
  rw [List.take_succ_eq_append_getElem hl, hg]
  simp [smallL]

set_option maxHeartbeats 4000000 in
set_option maxRecDepth 100000 in
theorem refsmall_any (s : ByteArray) (w : World) (hs : s.size ≤ 1000000) :
    Calls Tryz.prog 122 #[.string s] w fun e w' => e = .returned (.string (ofL (smallL s.toList))) ∧ Below w.heap.size w w' := by
  have HL := Lib.hid (tl_len s)
  go_enter Tryz.func122, Tryz.ntmps122
  go_wp2
  go_loopw [3, 4] (fun o i wr => ∃ k : Nat, k ≤ s.size ∧ i = .int .i64 k ∧ o = .string (ofL (smallL (s.toList.take k))) ∧ Below w.heap.size w wr) (fun _ i _ => s.size - (intOf i).toNat)
  case atStart => exact ⟨0, Nat.zero_le _, rfl, rfl, Below.refl _ _⟩
  case round =>
    obtain ⟨k, hk, rfl, rfl, HB⟩ := hrel
    by_cases hlt : k < s.size
    · have hg := tl_get s k hlt
      have HT := Lib.hid (small_take _ _ _ hg)
      have hsz : (ofL (smallL (s.toList.take k))).size + 1 ≤ 9223372036854775807 := by
        rw [size_ofL, smallL_length, List.length_take, HL.out]; omega
      have HX := Lib.hid (cut_one s k _ hg)
      have HG := Lib.hid (smallB_nat s[k])
      have hpos : 0 ≤ (s[k].toNat : Int) := by omega
      have hmax : (s[k].toNat : Int) ≤ 255 := by have := s[k].toNat_lt; omega
      clear hg
      by_cases hc : capI (s[k].toNat : Int) = true
      · have hb := of_decide_eq_true hc
        have b1 : (65 : Int) ≤ (s[k].toNat : Int) := hb.1
        have b2 : (s[k].toNat : Int) ≤ 90 := hb.2
        have d1 : decide ((65 : Int) ≤ (s[k].toNat : Int)) = true := decide_eq_true b1
        have d2 : decide ((s[k].toNat : Int) ≤ 90) = true := decide_eq_true b2
        have hcv : ∀ W : World, (convert 54 9 (.slice (some ⟨W.heap.size, 0, none⟩) 1 1)).run Tryz.prog (W.alloc (.cells #[.int .u8 ((s[k].toNat : Int) + 32)] 5)) = .ok (.string (ofL [ofI ((s[k].toNat : Int) + 32)])) (W.alloc (.cells #[.int .u8 ((s[k].toNat : Int) + 32)] 5)) :=
          fun W => bytes_one _ _ _ (by omega) (by omega) (by simp [go_sem])
        have hadd : ∀ W : World, (Op.stringOp .add (ofL (smallL (s.toList.take k))) (ofL [ofI ((s[k].toNat : Int) + 32)])).run Tryz.prog W = .ok (.string (ofL (smallL (s.toList.take (k + 1))))) W := fun W => by
          rw [run_string_add_sum W _ _ (by rw [size_ofL [_]]; exact hsz), add_ofL, toList_ofL, HT.out]
          have : ofI ((s[k].toNat : Int) + 32) = smallB s[k] := by
            apply UInt8.toNat_inj.1
            have h1 := ofI_nat (n := (s[k].toNat : Int) + 32) (by omega) (by omega)
            have h2 := HG.out
            rw [if_pos hc] at h2
            omega
          rw [this]
        clear hb hc hsz
        go_wp2
        go_roundw
        case rel => exact ⟨k + 1, by omega, by go_num, rfl, HB.alloc HB.size _⟩
        case measure => simp [intOf]; omega
      · have hadd : ∀ W : World, (Op.stringOp .add (ofL (smallL (s.toList.take k))) (s.extract k (k + 1))).run Tryz.prog W = .ok (.string (ofL (smallL (s.toList.take (k + 1))))) W := fun W => by
          rw [HX.out, run_string_add_sum W _ _ (by rw [size_ofL [_]]; exact hsz), add_ofL, toList_ofL, HT.out]
          unfold smallB
          rw [if_neg hc]
        have hsl : ∀ W : World, (Instr.slice 9 (.string s) (some (.int .i64 (k : Int))) (some (.int .i64 ((k : Int) + 1))) none).run Tryz.prog W = .ok (.string (s.extract k (k + 1))) W := fun W => by
          have h := run_slice_string (P := Tryz.prog) W 9 s .i64 .i64 (k : Int) ((k : Int) + 1) Tryz.underlying9 (by omega) (by omega) (by omega)
          have e1 : ((k : Int) + 1).toNat = k + 1 := by omega
          rw [e1, Int.toNat_natCast] at h
          exact h
        have hno : ¬ ((65 : Int) ≤ (s[k].toNat : Int) ∧ (s[k].toNat : Int) ≤ 90) := fun h => hc (decide_eq_true h)
        by_cases b1 : (65 : Int) ≤ (s[k].toNat : Int)
        · have d1 : decide ((65 : Int) ≤ (s[k].toNat : Int)) = true := decide_eq_true b1
          have d2 : decide ((s[k].toNat : Int) ≤ 90) = false := decide_eq_false (by omega)
          clear hno hc hsz
          go_wp2
          go_roundw
          case rel => exact ⟨k + 1, by omega, by go_num, rfl, HB⟩
          case measure => simp [intOf]; omega
        · have d1 : decide ((65 : Int) ≤ (s[k].toNat : Int)) = false := decide_eq_false b1
          clear hno hc hsz
          go_wp2
          go_roundw
          case rel => exact ⟨k + 1, by omega, by go_num, rfl, HB⟩
          case measure => simp [intOf]; omega
    · have HE := Lib.hid (show s.toList.take k = s.toList by rw [List.take_of_length_le (by rw [HL.out]; omega)])
      go_wp2
      go_ret
      exact ⟨ret_str (by rw [HE.out]), HB⟩
end Go.Proofs.YtbgcpgpkhfbijaaGreatDoor
/- instarref02's Right. -/
namespace Go.Proofs.YtbgcpgpkhfbijaaGreatDoor
open Go.RowKit
theorem keepS {w W w1 : World} {b o1 o2 : Nat} {v1 v2 : Value} (hlt : b < w.heap.size) (h : W.cell? ⟨b, o1, none⟩ = some v1 ∧ W.cell? ⟨b, o2, none⟩ = some v2 ∧ Below w.heap.size w W) (hb : Below W.heap.size W w1) :
    w1.cell? ⟨b, o1, none⟩ = some v1 ∧ w1.cell? ⟨b, o2, none⟩ = some v2 ∧ Below w.heap.size w w1 := by
  have hl : b < W.heap.size := Nat.lt_of_lt_of_le hlt h.2.2.size
  refine ⟨?_, ?_, h.2.2.trans (hb.mono h.2.2.size)⟩
  · rw [hb.cell (p := ⟨b, o1, none⟩) hl]; exact h.1
  · rw [hb.cell (p := ⟨b, o2, none⟩) hl]; exact h.2.1

set_option maxHeartbeats 16000000 in
set_option maxRecDepth 100000 in
theorem refrightA_any (a : Option Addr) (len cap : Nat) (L : AL) (w : World) (h : AttrRow w a len cap L) :
    Calls Tryz.prog 124 #[.slice a len cap] w fun e w' => e = .returned (.bool (rightA L)) ∧ Below w.heap.size w w' := by
  have hl := h.len64
  by_cases h40 : 40 < len
  · have HR := Lib.hid (rightA_long (L := L) (by rw [h.hlen]; exact h40))
    go_enter Tryz.func124, Tryz.ntmps124
    go_wp2
    go_ret
    exact ⟨ret_bool HR.out.symm, Below.refl _ _⟩
  go_enter Tryz.func124, Tryz.ntmps124
  go_wp2
  go_loopw [3] (fun i wr => ∃ k : Nat, k ≤ len ∧ i = .int .i64 k ∧ Below w.heap.size w wr ∧ Hid (∀ (j : Nat) x, j < k → L[j]? = some x → okAt L j x = true)) (fun i _ => len - (intOf i).toNat)
  case atStart => exact ⟨0, Nat.zero_le _, rfl, Below.refl _ _, Lib.hid (fun j x hj _ => absurd hj (by omega))⟩
  case round =>
    obtain ⟨k, hk, rfl, HB, HA⟩ := hrel
    by_cases hlt : k < len
    · have h2 := h.below HB
      obtain ⟨b, off, xn, xv, rfl, hblt, hx, hc1, hc2, hn1, hn2⟩ := h2.get hlt
      have hbw : b < w.heap.size := by
        obtain ⟨b', off', _, _, ha, hb', _⟩ := h.get hlt
        injection ha with ha; injection ha with ha; rw [ha]; exact hb'
      have HX := Lib.hid hx
      have HN1 := Lib.hid hn1
      have HN2 := Lib.hid hn2
      clear hx hn1 hn2
      have E1 := Ext.cell hc1 hblt
      have E2 := Ext.cell hc2 hblt
      obtain ⟨z, hz⟩ : ∃ z, atL L xn.toList = z := ⟨_, rfl⟩
      have HZ := Lib.hid hz
      have C3 : Hid (∀ x : Ext wr, Calls Tryz.prog 138 #[.slice (some ⟨b, off, none⟩) len cap, .string xn] x.v fun e w' => e = .returned (.int .i64 z) ∧ x.v = w') := Lib.hid (fun x => by
        have := refat_any (some ⟨b, off, none⟩) len cap L xn x.v (h2.below x.below)
        rwa [hz] at this)
      clear hz
      by_cases hr : rightL xn.toList = true
      rotate_left
      · have hr : rightL xn.toList = false := by simpa using hr
        have HR := Lib.hid (rightA_stop HX.out (show okAt L k (xn, xv) = false by unfold okAt; rw [hr]; rfl))
        have C1 : Hid (∀ W, Calls Tryz.prog 81 #[.string xn] W fun e w' => e = .returned (.bool false) ∧ W = w') := Lib.hid (fun W => by
          have := refright_any xn W HN1.out
          rwa [hr] at this)
        have C2 : Hid True := trivial
        clear hr
        go_wp2
        refine wp_region_ext (by kernel_rfl) (by kernel_rfl) ?_
        repeat (go_big_quiet_step (first
          | (go_at_call 81; exact Ext.call_same (C1.out _))
          | (go_at_call 138; exact Ext.call_same (C3.out _))))
        refine wpQuiet_nil ?_
        intro w' hw'
        obtain ⟨⟨w1, hb1⟩, hw''⟩ := hw'
        dsimp only at hw''
        subst hw''
        go_wp2
        go_ret
        exact ⟨ret_bool HR.out.symm, HB.trans (hb1.mono HB.size)⟩
      have C1 : Hid (∀ W, Calls Tryz.prog 81 #[.string xn] W fun e w' => e = .returned (.bool true) ∧ W = w') := Lib.hid (fun W => by
        have := refright_any xn W HN1.out
        rwa [hr] at this)
      have C2 : Hid (∀ W, Calls Tryz.prog 122 #[.string xn] W fun e w' => e = .returned (.string (ofL (smallL xn.toList))) ∧ Below W.heap.size W w') := Lib.hid (fun W => by
        have h40' : xn.toList.length ≤ 40 := rightL_len hr
        rw [tl_len] at h40'
        exact refsmall_any xn W (by omega))
      have HRT := Lib.hid hr
      clear hr
      by_cases hsm : smallL xn.toList = xn.toList
      rotate_left
      · have s1 : (smallL xn.toList == xn.toList) = false := beq_eq_false_iff_ne.2 hsm
        have HR := Lib.hid (rightA_stop HX.out (show okAt L k (xn, xv) = false by unfold okAt; rw [s1]; simp))
        clear hsm
        go_wp2
        refine wp_region_ext (by kernel_rfl) (by kernel_rfl) ?_
        repeat (go_big_quiet_step (first
          | (go_at_call 81; exact Ext.call_same (C1.out _))
          | (go_at_call 122; exact Ext.call_below (C2.out _))
          | (go_at_call 138; exact Ext.call_same (C3.out _))))
        refine wpQuiet_nil ?_
        intro w' hw'
        obtain ⟨⟨w1, hb1⟩, hw''⟩ := hw'
        dsimp only at hw''
        subst hw''
        go_wp2
        go_ret
        exact ⟨ret_bool HR.out.symm, HB.trans (hb1.mono HB.size)⟩
      have s1 : (smallL xn.toList == xn.toList) = true := beq_iff_eq.2 hsm
      clear hsm
      by_cases hv : (200 : Int) < (xv.size : Int)
      · have HR := Lib.hid (rightA_stop HX.out (show okAt L k (xn, xv) = false by
          unfold okAt
          rw [decide_eq_false (show ¬ xv.size ≤ 200 by omega)]
          simp))
        have v1 : decide ((200 : Int) < (xv.size : Int)) = true := decide_eq_true hv
        clear hv
        go_wp2
        refine wp_region_ext (by kernel_rfl) (by kernel_rfl) ?_
        repeat (go_big_quiet_step (first
          | (go_at_call 81; exact Ext.call_same (C1.out _))
          | (go_at_call 122; exact Ext.call_below (C2.out _))
          | (go_at_call 138; exact Ext.call_same (C3.out _))))
        refine wpQuiet_nil ?_
        intro w' hw'
        obtain ⟨⟨w1, hb1⟩, hw''⟩ := hw'
        dsimp only at hw''
        subst hw''
        go_wp2
        go_ret
        exact ⟨ret_bool HR.out.symm, HB.trans (hb1.mono HB.size)⟩
      have v1 : decide ((200 : Int) < (xv.size : Int)) = false := decide_eq_false hv
      have HV := Lib.hid (show xv.size ≤ 200 by omega)
      clear hv
      by_cases hzk : z = (k : Int)
      · have z1 : (z == (k : Int)) = true := beq_iff_eq.2 hzk
        have z2 : (z != (k : Int)) = false := by unfold bne; rw [z1]; rfl
        have HO : Hid (okAt L k (xn, xv) = true) := Lib.hid (by
          unfold okAt
          have hk2 : atN L xn.toList = k := atL_nat (HZ.out.trans hzk)
          rw [HRT.out, s1, decide_eq_true HV.out, decide_eq_true hk2]
          rfl)
        clear hzk
        go_wp2
        refine wp_region_ext (by kernel_rfl) (by kernel_rfl) ?_
        repeat (go_big_quiet_step (first
          | (go_at_call 81; exact Ext.call_same (C1.out _))
          | (go_at_call 122; exact Ext.call_below (C2.out _))
          | (go_at_call 138; exact Ext.call_same (C3.out _))))
        refine wpQuiet_nil ?_
        intro w' hw'
        obtain ⟨⟨w1, hb1⟩, hw''⟩ := hw'
        dsimp only at hw''
        subst hw''
        go_wp2
        go_roundw
        case rel =>
          refine ⟨k + 1, by omega, by go_num, HB.trans (hb1.mono HB.size), Lib.hid (fun j x hj hx => ?_)⟩
          by_cases e : j = k
          · subst e
            rw [HX.out] at hx
            rw [← Option.some.inj hx]
            exact HO.out
          · exact HA.out j x (by omega) hx
        case measure => simp [intOf]; omega
      · have z1 : (z == (k : Int)) = false := beq_eq_false_iff_ne.2 hzk
        have z2 : (z != (k : Int)) = true := by unfold bne; rw [z1]; rfl
        have HR := Lib.hid (rightA_stop HX.out (show okAt L k (xn, xv) = false by
          unfold okAt
          have hk2 : ¬ atN L xn.toList = k := fun e => hzk (HZ.out.symm.trans (atL_of_nat e (by rw [h2.hlen]; exact hlt)))
          rw [decide_eq_false hk2]
          simp))
        clear hzk
        go_wp2
        refine wp_region_ext (by kernel_rfl) (by kernel_rfl) ?_
        repeat (go_big_quiet_step (first
          | (go_at_call 81; exact Ext.call_same (C1.out _))
          | (go_at_call 122; exact Ext.call_below (C2.out _))
          | (go_at_call 138; exact Ext.call_same (C3.out _))))
        refine wpQuiet_nil ?_
        intro w' hw'
        obtain ⟨⟨w1, hb1⟩, hw''⟩ := hw'
        dsimp only at hw''
        subst hw''
        go_wp2
        go_ret
        exact ⟨ret_bool HR.out.symm, HB.trans (hb1.mono HB.size)⟩
    · have HR := Lib.hid ((rightA_iff L).2 ⟨by rw [h.hlen]; omega, fun j x hx => HA.out j x (by
        obtain ⟨hl1, _⟩ := List.getElem?_eq_some_iff.1 hx
        have := h.hlen
        omega) hx⟩)
      go_wp2
      go_ret
      exact ⟨ret_bool HR.out.symm, HB⟩
end Go.Proofs.YtbgcpgpkhfbijaaGreatDoor
/- What is got of a list of attributes, and what is set, removed, toggled: said over lists. -/
namespace Go.Proofs.YtbgcpgpkhfbijaaGreatDoor
open Go.RowKit
/-- The place of the name's small form. -/
def placeA (L : AL) (n : List UInt8) : Nat := atN L (smallL n)
def hasA (L : AL) (n : List UInt8) : Bool := rightA L && rightL n && decide (placeA L n < L.length)
def valA (L : AL) (n : List UInt8) : ByteArray := if hasA L n then (L[placeA L n]?.getD default).2 else ofL []
def longA (L : AL) (n : List UInt8) (v : ByteArray) : Bool := decide (200 < v.size) || (decide (L.length ≤ placeA L n) && decide (40 ≤ L.length))
def setL (L : AL) (n : List UInt8) (v : ByteArray) : AL := if placeA L n < L.length then L.set (placeA L n) (ofL (smallL n), v) else L ++ [(ofL (smallL n), v)]
def setE (L : AL) (n : List UInt8) (v : ByteArray) : Int := if rightA L then (if rightL n then (if longA L n v then 3 else 0) else 4) else 1
def setA (L : AL) (n : List UInt8) (v : ByteArray) : AL := if setE L n v = 0 then setL L n v else L
def remA (L : AL) (n : List UInt8) : AL := if hasA L n then L.filter (fun x => !keyIs (smallL n) x) else L
theorem place_key {L : AL} {n : List UInt8} (h : placeA L n < L.length) : ∃ x, L[placeA L n]? = some x ∧ x.1 = ofL (smallL n) := by
  have h2 : keyIs (smallL n) (L[placeA L n]'h) = true := List.findIdx_getElem (w := h)
  refine ⟨_, List.getElem?_eq_getElem h, toList_inj ?_⟩
  rw [toList_ofL]
  exact beq_iff_eq.1 h2
theorem atL_place {L : AL} {n : List UInt8} (h : placeA L n < L.length) : atL L (smallL n) = (placeA L n : Int) := by
  unfold placeA at *
  unfold atL
  rw [if_pos h]
theorem atL_noplace {L : AL} {n : List UInt8} (h : ¬ placeA L n < L.length) : atL L (smallL n) = -1 := by
  unfold placeA at h
  unfold atL
  rw [if_neg h]
end Go.Proofs.YtbgcpgpkhfbijaaGreatDoor
/- instarref02's Get and Set. -/
namespace Go.Proofs.YtbgcpgpkhfbijaaGreatDoor
open Go.RowKit
theorem small40 {n : ByteArray} (h : rightL n.toList = true) : n.size ≤ 1000000 := by
  have := rightL_len h
  rw [tl_len] at this
  omega
set_option maxHeartbeats 4000000 in
set_option maxRecDepth 100000 in
theorem refget_any (a : Option Addr) (len cap : Nat) (L : AL) (n : ByteArray) (w : World) (h : AttrRow w a len cap L) (hn : n.size ≤ maxLen) :
    Calls Tryz.prog 83 #[.slice a len cap, .string n] w fun e w' => e = .returned (.tuple #[.string (valA L n.toList), .bool (hasA L n.toList)]) ∧ Below w.heap.size w w' := by
  have HB : Below w.heap.size w w := Below.refl _ _
  have H := Lib.hid h
  have HN := Lib.hid hn
  clear h hn
  by_cases hr : rightA L = true
  rotate_left
  · have hr : rightA L = false := by simpa using hr
    have HR : Hid (hasA L n.toList = false) := Lib.hid (by unfold hasA; rw [hr]; rfl)
    have HV : Hid (valA L n.toList = ofL []) := Lib.hid (by unfold valA; rw [HR.out]; rfl)
    go_enter Tryz.func83, Tryz.ntmps83
    go_wp2_with (first
      | (go_at_call 124; refine (refrightA_any _ _ _ L _ H.out).mono ?_; rintro e w' ⟨rfl, hb⟩; have HB := HB.trans (hb.mono HB.size); clear hb))
    go_ret2
    exact ⟨by rw [HR.out, HV.out]; rfl, by assumption⟩
  by_cases hnr : rightL n.toList = true
  rotate_left
  · have hnr : rightL n.toList = false := by simpa using hnr
    have HR : Hid (hasA L n.toList = false) := Lib.hid (by unfold hasA; rw [hnr]; simp)
    have HV : Hid (valA L n.toList = ofL []) := Lib.hid (by unfold valA; rw [HR.out]; rfl)
    go_enter Tryz.func83, Tryz.ntmps83
    go_wp2_with (first
      | (go_at_call 124; refine (refrightA_any _ _ _ L _ H.out).mono ?_; rintro e w' ⟨rfl, hb⟩; have HB := HB.trans (hb.mono HB.size); clear hb)
      | (go_at_call 81; refine (refright_any _ _ HN.out).mono ?_; rintro e w' ⟨rfl, rfl⟩))
    go_ret2
    exact ⟨by rw [HR.out, HV.out]; rfl, by assumption⟩
  have HS := Lib.hid (small40 hnr)
  by_cases hp : placeA L n.toList < L.length
  · have hat := atL_place hp
    have hp' : placeA L n.toList < len := by rw [← H.out.hlen]; exact hp
    obtain ⟨b, off, xn, xv, rfl, hblt, hx, hc1, hc2, _, _⟩ := H.out.get hp'
    have HR : Hid (hasA L n.toList = true) := Lib.hid (by unfold hasA; rw [hr, hnr, decide_eq_true hp]; rfl)
    have HV : Hid (valA L n.toList = xv) := Lib.hid (by unfold valA; rw [HR.out, hx]; rfl)
    obtain ⟨p, hpp⟩ : ∃ p, placeA L n.toList = p := ⟨_, rfl⟩
    rw [hpp] at hat hp' hc1 hc2
    clear hpp hx hp
    go_enter Tryz.func83, Tryz.ntmps83
    go_wp2_with (first
      | (go_at_call 124; refine (refrightA_any _ _ _ L _ H.out).mono ?_; rintro e w' ⟨rfl, hb⟩; have HB := HB.trans (hb.mono HB.size); clear hb)
      | (go_at_call 81; refine (refright_any _ _ HN.out).mono ?_; rintro e w' ⟨rfl, rfl⟩)
      | (go_at_call 122; refine (refsmall_any _ _ HS.out).mono ?_; rintro e w' ⟨rfl, hb⟩; have HB := HB.trans (hb.mono HB.size); clear hb; have hd := (HB.cell (p := ⟨b, off + p * 2 + 1, none⟩) hblt).trans hc2)
      | (go_at_call 138; refine (refat_any _ _ _ L _ _ (H.out.below HB)).mono ?_; rintro e w' ⟨rfl, rfl⟩))
    go_ret2
    exact ⟨by rw [HR.out, HV.out]; rfl, by assumption⟩
  · have hat := atL_noplace hp
    have HR : Hid (hasA L n.toList = false) := Lib.hid (by unfold hasA; rw [decide_eq_false hp]; simp)
    have HV : Hid (valA L n.toList = ofL []) := Lib.hid (by unfold valA; rw [HR.out]; rfl)
    clear hp
    go_enter Tryz.func83, Tryz.ntmps83
    go_wp2_with (first
      | (go_at_call 124; refine (refrightA_any _ _ _ L _ H.out).mono ?_; rintro e w' ⟨rfl, hb⟩; have HB := HB.trans (hb.mono HB.size); clear hb)
      | (go_at_call 81; refine (refright_any _ _ HN.out).mono ?_; rintro e w' ⟨rfl, rfl⟩)
      | (go_at_call 122; refine (refsmall_any _ _ HS.out).mono ?_; rintro e w' ⟨rfl, hb⟩; have HB := HB.trans (hb.mono HB.size); clear hb)
      | (go_at_call 138; refine (refat_any _ _ _ L _ _ (H.out.below HB)).mono ?_; rintro e w' ⟨rfl, rfl⟩))
    go_ret2
    exact ⟨by rw [HR.out, HV.out]; rfl, by assumption⟩
end Go.Proofs.YtbgcpgpkhfbijaaGreatDoor
/- instarref02's Set: it hands back what setA says, in new memory or in the list's own, and an error's number. -/
namespace Go.Proofs.YtbgcpgpkhfbijaaGreatDoor
open Go.RowKit
/-- A call that hands back a list of attributes and a number. -/
def SetPost (w : World) (M : AL) (z : Int) (e : Ending) (w' : World) : Prop := ∃ a len cap, e = .returned (.tuple #[.slice a len cap, .int .i64 z]) ∧ AttrRow w' a len cap M ∧ Below w.heap.size w w'
theorem SetPost.mk {w w' : World} {M : AL} {z : Int} {e : Ending} {a : Option Addr} {len cap : Nat} (he : e = .returned (.tuple #[.slice a len cap, .int .i64 z])) (h : AttrRow w' a len cap M) (hb : Below w.heap.size w w') : SetPost w M z e w' := ⟨a, len, cap, he, h, hb⟩
theorem attr_info : (Tryz.prog.info? 160).map (fun i => (i.zero, i.size, i.bytes)) = some (some (.agg #[.string ⟨#[]⟩, .string ⟨#[]⟩]), 2, 32) := by kernel_rfl
/-- A row that the call owns, as a list of attributes. -/
theorem AttrRow.of_own {w : World} {base : Nat} {v : Value} {n : Nat} {M : AL} (hl : M.length = n) (h : w.ownsRow base 160 2 v n (M.flatMap encA)) (hs : ∀ x ∈ M, x.1.size ≤ maxLen ∧ x.2.size ≤ maxLen) :
    ∃ a cap, v = .slice a n cap ∧ AttrRow w a n cap M := by
  rcases h.2 with ⟨rfl, h0⟩ | ⟨g, cap, cur, rfl, _⟩
  · subst h0
    have hL : M = [] := List.eq_nil_of_length_eq_zero hl
    subst hL
    exact ⟨none, 0, rfl, SRow.nil, hs, fun _ => rfl⟩
  · obtain ⟨a, cap', he, hr, _⟩ := SRow.of_own (fun x _ => encA_len x) hl h
    injection he with h1 h2 h3
    subst h1; subst h3
    exact ⟨_, _, rfl, hr, hs, fun h => by cases h⟩
theorem set_flat {M : AL} {p : Nat} {x y : ByteArray × ByteArray} (hx : M[p]? = some x) (hn : y.1 = x.1) : (M.set p y).flatMap encA = (M.flatMap encA).set (p * 2 + 1) (.string y.2) := by
  induction M generalizing p with
  | nil => simp at hx
  | cons z r ih =>
    cases p with
    | zero =>
      simp at hx; subst hx
      simp [encA, hn]
    | succ p =>
      have := ih (p := p) (by simpa using hx)
      have e : (p + 1) * 2 + 1 = p * 2 + 1 + 1 + 1 := by omega
      rw [List.set_cons_succ, List.flatMap_cons, List.flatMap_cons, this, e]
      simp [encA]

set_option maxHeartbeats 16000000 in
set_option maxRecDepth 100000 in
theorem refset_any (a : Option Addr) (len cap : Nat) (L : AL) (n v : ByteArray) (w : World) (h : AttrRow w a len cap L) (hn : n.size ≤ maxLen) (hv : v.size ≤ maxLen) :
    Calls Tryz.prog 79 #[.slice a len cap, .string n, .string v] w (SetPost w (setA L n.toList v) (setE L n.toList v)) := by
  have HB : Below w.heap.size w w := Below.refl _ _
  have H := Lib.hid h
  have HN := Lib.hid hn
  have HVS := Lib.hid hv
  have hl64 := h.len64
  have hv64 : v.size ≤ 9223372036854775807 := by unfold maxLen at hv; omega
  clear h hn hv
  by_cases hr : rightA L = true
  rotate_left
  · have hr : rightA L = false := by simpa using hr
    have HE : Hid (setE L n.toList v = 1) := Lib.hid (by unfold setE; rw [hr]; rfl)
    have HM : Hid (setA L n.toList v = L) := Lib.hid (by unfold setA; rw [HE.out]; rfl)
    go_enter Tryz.func79, Tryz.ntmps79
    go_wp2_with (first
      | (go_at_call 124; refine (refrightA_any _ _ _ L _ H.out).mono ?_; rintro e w' ⟨rfl, hb⟩; have HB := HB.trans (hb.mono HB.size); clear hb))
    go_ret2
    rw [HE.out, HM.out]
    exact SetPost.mk rfl (H.out.below HB) HB
  by_cases hnr : rightL n.toList = true
  rotate_left
  · have hnr : rightL n.toList = false := by simpa using hnr
    have HE : Hid (setE L n.toList v = 4) := Lib.hid (by unfold setE; rw [hr, hnr]; rfl)
    have HM : Hid (setA L n.toList v = L) := Lib.hid (by unfold setA; rw [HE.out]; rfl)
    go_enter Tryz.func79, Tryz.ntmps79
    go_wp2_with (first
      | (go_at_call 124; refine (refrightA_any _ _ _ L _ H.out).mono ?_; rintro e w' ⟨rfl, hb⟩; have HB := HB.trans (hb.mono HB.size); clear hb)
      | (go_at_call 81; refine (refright_any _ _ HN.out).mono ?_; rintro e w' ⟨rfl, rfl⟩))
    go_ret2
    rw [HE.out, HM.out]
    exact SetPost.mk rfl (H.out.below HB) HB
  have HS := Lib.hid (small40 hnr)
  have h40 : len ≤ 40 := by have := ((rightA_iff L).1 hr).1; rw [H.out.hlen] at this; exact this
  by_cases hlg : longA L n.toList v = true
  · have HE : Hid (setE L n.toList v = 3) := Lib.hid (by unfold setE; rw [hr, hnr, hlg]; rfl)
    have HM : Hid (setA L n.toList v = L) := Lib.hid (by unfold setA; rw [HE.out]; rfl)
    have hcase : 200 < v.size ∨ (¬ placeA L n.toList < L.length ∧ 40 ≤ len) := by
      unfold longA at hlg
      rw [H.out.hlen] at hlg
      simp at hlg
      rw [H.out.hlen]
      omega
    clear hlg
    by_cases hp : placeA L n.toList < L.length
    · have hat := atL_place hp
      have hbig : (200 : Int) < (v.size : Int) := by omega
      clear hcase hp
      go_enter Tryz.func79, Tryz.ntmps79
      go_wp2_with (first
        | (go_at_call 124; refine (refrightA_any _ _ _ L _ H.out).mono ?_; rintro e w' ⟨rfl, hb⟩; have HB := HB.trans (hb.mono HB.size); clear hb)
        | (go_at_call 81; refine (refright_any _ _ HN.out).mono ?_; rintro e w' ⟨rfl, rfl⟩)
        | (go_at_call 122; refine (refsmall_any _ _ HS.out).mono ?_; rintro e w' ⟨rfl, hb⟩; have HB := HB.trans (hb.mono HB.size); clear hb)
        | (go_at_call 138; refine (refat_any _ _ _ L _ _ (H.out.below HB)).mono ?_; rintro e w' ⟨rfl, rfl⟩))
      go_ret2
      rw [HE.out, HM.out]
      exact SetPost.mk rfl (H.out.below HB) HB
    · have hat := atL_noplace hp
      by_cases hbig : (200 : Int) < (v.size : Int)
      · clear hcase hp
        go_enter Tryz.func79, Tryz.ntmps79
        go_wp2_with (first
          | (go_at_call 124; refine (refrightA_any _ _ _ L _ H.out).mono ?_; rintro e w' ⟨rfl, hb⟩; have HB := HB.trans (hb.mono HB.size); clear hb)
          | (go_at_call 81; refine (refright_any _ _ HN.out).mono ?_; rintro e w' ⟨rfl, rfl⟩)
          | (go_at_call 122; refine (refsmall_any _ _ HS.out).mono ?_; rintro e w' ⟨rfl, hb⟩; have HB := HB.trans (hb.mono HB.size); clear hb)
          | (go_at_call 138; refine (refat_any _ _ _ L _ _ (H.out.below HB)).mono ?_; rintro e w' ⟨rfl, rfl⟩))
        go_ret2
        rw [HE.out, HM.out]
        exact SetPost.mk rfl (H.out.below HB) HB
      · have hfull : (40 : Int) ≤ (len : Int) := by omega
        clear hcase hp
        go_enter Tryz.func79, Tryz.ntmps79
        go_wp2_with (first
          | (go_at_call 124; refine (refrightA_any _ _ _ L _ H.out).mono ?_; rintro e w' ⟨rfl, hb⟩; have HB := HB.trans (hb.mono HB.size); clear hb)
          | (go_at_call 81; refine (refright_any _ _ HN.out).mono ?_; rintro e w' ⟨rfl, rfl⟩)
          | (go_at_call 122; refine (refsmall_any _ _ HS.out).mono ?_; rintro e w' ⟨rfl, hb⟩; have HB := HB.trans (hb.mono HB.size); clear hb)
          | (go_at_call 138; refine (refat_any _ _ _ L _ _ (H.out.below HB)).mono ?_; rintro e w' ⟨rfl, rfl⟩))
        go_ret2
        rw [HE.out, HM.out]
        exact SetPost.mk rfl (H.out.below HB) HB
  have hlg : longA L n.toList v = false := by simpa using hlg
  have HE : Hid (setE L n.toList v = 0) := Lib.hid (by unfold setE; rw [hr, hnr, hlg]; rfl)
  have HM : Hid (setA L n.toList v = setL L n.toList v) := Lib.hid (by unfold setA; rw [HE.out]; rfl)
  have hbig : ¬ (200 : Int) < (v.size : Int) := by
    unfold longA at hlg
    simp at hlg
    omega
  have hroom : placeA L n.toList < L.length ∨ len < 40 := by
    unfold longA at hlg
    rw [H.out.hlen] at hlg
    simp at hlg
    rw [H.out.hlen]
    omega
  clear hlg
  obtain ⟨i0, hi0, hz0, hz1, hz2⟩ := info_parts attr_info
  by_cases hp : placeA L n.toList < L.length
  · have hat := atL_place hp
    have hp' : placeA L n.toList < len := by rw [← H.out.hlen]; exact hp
    obtain ⟨x, hx, hx1⟩ := place_key hp
    have HL : Hid (setL L n.toList v = L.set (placeA L n.toList) (ofL (smallL n.toList), v)) := Lib.hid (by unfold setL; rw [if_pos hp])
    have HX := Lib.hid hx
    have HX1 := Lib.hid hx1
    obtain ⟨p, hpp⟩ : ∃ p, placeA L n.toList = p := ⟨_, rfl⟩
    rw [hpp] at hat hp' HX HL
    clear hpp hx hp hroom hx1
    go_enter Tryz.func79, Tryz.ntmps79
    go_wp2_with (first
      | (go_at_call 124; refine (refrightA_any _ _ _ L _ H.out).mono ?_; rintro e w' ⟨rfl, hb⟩; have HB := HB.trans (hb.mono HB.size); clear hb)
      | (go_at_call 81; refine (refright_any _ _ HN.out).mono ?_; rintro e w' ⟨rfl, rfl⟩)
      | (go_at_call 122; refine (refsmall_any _ _ HS.out).mono ?_; rintro e w' ⟨rfl, hb⟩; have HB := HB.trans (hb.mono HB.size); clear hb)
      | (go_at_call 138; refine (refat_any _ _ _ L _ _ (H.out.below HB)).mono ?_; rintro e w' ⟨rfl, rfl⟩)
      | (at_builtin
         refine wpList_append_rows rfl (.tmp 35) (.tmp 36) 50 rfl 160 i0 _ 2 32 Tryz.underlying50 hi0 hz0 hz1 hz2 rfl (by decide) w.heap.size _ 0 [] L rfl (own_empty _ _ _ HB.size) a len cap rfl (H.out.below (HB.alloc HB.size _)).row (fun x _ => encA_one x) (by unfold maxLen; omega) (by omega) (by have := HB.size; simp; omega) H.out.hnil ?_
         intro v1 w1 hown1 hg1 hat1
         rw [Nat.zero_add, List.nil_append] at hown1
         obtain ⟨g, cap1, rfl, hgb, hglt⟩ := World.ownsRow.form hown1 (by omega)
         have HB := below_new HB hg1
         have hcell : w1.cell? ⟨g, p * 2 + 1, none⟩ = some (.string x.2) := by
           rw [hown1.cellAt (p * 2 + 1) (by omega), flat_get (fun x _ => encA_len x) HX.out (by decide)]
           rfl
         have hfree := hown1.frozenAt (p * 2 + 1)
         have HOWN := Lib.hid hown1
         clear hown1 hg1 hat1))
    go_ret2
    rw [HE.out, HM.out, HL.out]
    have hst := (HOWN.out.stored (p * 2 + 1) (.string v)).1
    rw [← set_flat (y := (ofL (smallL n.toList), v)) HX.out HX1.out.symm] at hst
    obtain ⟨a2, cap2, he2, hr2⟩ := AttrRow.of_own (by rw [List.length_set]; exact H.out.hlen) hst (fun y hy => by
      rcases List.mem_or_eq_of_mem_set hy with hy | rfl
      · exact H.out.small y hy
      · refine ⟨?_, HVS.out⟩
        rw [size_ofL, smallL_length, tl_len]
        exact HN.out)
    injection he2 with h1 h2 h3
    subst h1; subst h3
    exact SetPost.mk rfl hr2 (HB.setCell hgb _)
  · have hat := atL_noplace hp
    have hlt40 : len < 40 := by omega
    have HL : Hid (setL L n.toList v = L ++ [(ofL (smallL n.toList), v)]) := Lib.hid (by unfold setL; rw [if_neg hp])
    clear hp hroom
    go_enter Tryz.func79, Tryz.ntmps79
    go_wp2_with (first
      | (go_at_call 124; refine (refrightA_any _ _ _ L _ H.out).mono ?_; rintro e w' ⟨rfl, hb⟩; have HB := HB.trans (hb.mono HB.size); clear hb)
      | (go_at_call 81; refine (refright_any _ _ HN.out).mono ?_; rintro e w' ⟨rfl, rfl⟩)
      | (go_at_call 122; refine (refsmall_any _ _ HS.out).mono ?_; rintro e w' ⟨rfl, hb⟩; have HC := Lib.hid hb; have HB := HB.trans (hb.mono HB.size); clear hb)
      | (go_at_call 138; refine (refat_any _ _ _ L _ _ (H.out.below HB)).mono ?_; rintro e w' ⟨rfl, rfl⟩)
      | (at_builtin
         refine wpList_append_rows rfl (.tmp 35) (.tmp 36) 50 rfl 160 i0 _ 2 32 Tryz.underlying50 hi0 hz0 hz1 hz2 rfl (by decide) w.heap.size _ 0 [] L rfl (own_empty _ _ _ HB.size) a len cap rfl (H.out.below (HB.alloc HB.size _)).row (fun x _ => encA_one x) (by unfold maxLen; omega) (by omega) (by have := HB.size; simp; omega) H.out.hnil ?_
         intro v1 w1 hown1 hg1 hat1
         rw [Nat.zero_add, List.nil_append] at hown1
         have HB := below_new HB hg1
         have HOWN := Lib.hid hown1
         clear hown1 hg1 hat1)
      | (at_builtin
         refine wpList_append_rows rfl (.tmp 46) (.tmp 51) 50 rfl 160 i0 _ 2 32 Tryz.underlying50 hi0 hz0 hz1 hz2 rfl (by decide) w.heap.size _ len L [(ofL (smallL n.toList), v)] rfl ((own_below HOWN.out HC.out).alloc _) _ 1 1 rfl (own_one _ _ _ _ rfl rfl) (fun x _ => encA_one x) (by unfold maxLen; omega) (by omega) (by have := HB.size; simp; omega) (fun h => by cases h) ?_
         intro v2 w2 hown2 hg2 hat2
         have HB := below_own HB (own_below HOWN.out HC.out) hg2
         have HOWN2 := Lib.hid hown2
         clear hown2 hg2 hat2))
    have hm : ∀ y ∈ L ++ [(ofL (smallL n.toList), v)], y.1.size ≤ maxLen ∧ y.2.size ≤ maxLen := by
      intro y hy
      rcases List.mem_append.1 hy with hy | hy
      · exact H.out.small y hy
      · simp at hy; subst hy
        refine ⟨?_, HVS.out⟩
        rw [size_ofL, smallL_length, tl_len]
        exact HN.out
    obtain ⟨a2, cap2, rfl, hr2⟩ := AttrRow.of_own (by rw [List.length_append, H.out.hlen]; rfl) HOWN2.out hm
    go_ret2
    rw [HE.out, HM.out, HL.out]
    exact SetPost.mk rfl hr2 HB
end Go.Proofs.YtbgcpgpkhfbijaaGreatDoor
