/- Texts joined in build order: ShadeFacts ForestProp ValidAsk ValidMay ShadeRefuse ShadeAttach Ref3Bare Ref3New Ref3Two. -/
import Derived.Test.YtkomeijlljcdgaaGreatP22
import Derived.Test.YtkomeijlljcdgaaGreatP19
import Derived.Test.YtkomeijlljcdgaaGreatP20
import Derived.Deep.RegionLaw
import Derived.Test.YtkomeijlljcdgaaGreatP15
/- What the laws of layer 4 ask, over data: facts of forests that are right. Plain mathematics, no program. -/
namespace Go.Proofs.YtkomeijlljcdgaaGreat
open Go.RowKit
/-! ### ShadeOver -/
/-- What is asked of three nodes. -/
structure OverFacts (m : Int) (F : List Core) (x y z : Nat) (c : Core) : Prop where
  self : overZ m F x x = true
  trans : overZ m F x y = true → overZ m F y z = true → overZ m F x z = true
  anti : x ≠ y → overZ m F x y = true → overZ m F y x = false
  held : holdsZ m F x y = true → overZ m F x y = true
  doc : c.kind = 0 → connZ m F x = true ∧ topZ m F x = x
  par : c.kind ≠ 0 → c.parent ≠ -1 → ∃ p : Nat, c.parent = p ∧ p < F.length ∧ connZ m F x = connZ m F p ∧ topZ m F x = topZ m F p
  host : c.kind ≠ 0 → c.parent = -1 → c.host ≠ -1 → ∃ p : Nat, c.host = p ∧ p < F.length ∧ connZ m F x = connZ m F p ∧ topZ m F x = topZ m F p
  alone : c.kind ≠ 0 → c.parent = -1 → c.host = -1 → connZ m F x = false ∧ topZ m F x = x
theorem connZ_eq {m : Int} {F : List Core} (h : rightF m F = true) {a : Nat} (ha : a < F.length) : connZ m F (a : Int) = (kindK F (topZ m F a) == 0) := by
  unfold connZ
  rw [thereF_of h ha, Bool.true_and]
theorem holds_over {m : Int} {F : List Core} (h : rightF m F = true) {a b : Nat} (hb : b < F.length) (hh : holdsT (parF F) a b) : holdsT (parS F) a b := by
  obtain ⟨k, hk⟩ := hh
  have T := tree_of_right h
  have key : ∀ (k b : Nat), b < F.length → upN (parF F) k b = some a → upN (parS F) k b = some a := by
    intro k
    induction k with
    | zero => intro b _ h; exact h
    | succ k ih =>
      intro b hb hu
      unfold upN at hu ⊢
      cases hp : parF F b with
      | none => rw [hp] at hu; cases hu
      | some p =>
        rw [hp] at hu
        have hx : F[b]? = some F[b] := List.getElem?_eq_getElem hb
        have hpar : F[b].parent ≠ -1 := fun e => by rw [right_top hx e] at hp; cases hp
        obtain ⟨q, e1, e2, e3⟩ := right_par h hx hpar
        rw [hp] at e3
        injection e3 with e3
        subst e3
        rw [parS_some ((next_par hx hpar).trans e1)]
        exact ih p e2 hu
  exact ⟨k, key k b hb hk⟩
theorem over_facts {m : Int} {F : List Core} (h : rightF m F = true) {x y z : Nat} {c : Core} (hx : x < F.length) (hy : y < F.length) (hz : z < F.length) (hc : F[x]? = some c) : OverFacts m F x y z c := by
  have T := treeS h
  have upto : ∀ p : Nat, nextUp F (x : Int) = p → p < F.length → connZ m F x = connZ m F p ∧ topZ m F x = topZ m F p := fun p hn hp => by
    have e : topZ m F x = topZ m F p := by
      rw [topZ_eq h hx, topZ_eq h hp]
      unfold topF
      rw [T.root_held hx (Nat.le_refl _) (holds_par (parS_some hn))]
    rw [connZ_eq h hx, connZ_eq h hp, e]
    exact ⟨rfl, rfl⟩
  have top : nextUp F (x : Int) = -1 → topZ m F x = x := fun hn => by
    rw [topZ_eq h hx]
    unfold topF
    rw [rootN_none (parS_none hn)]
  have kind : kindK F (x : Int) = c.kind := by unfold kindK; rw [getC_nat, hc]
  refine ⟨(overZ_iff h hx hx).2 (holds_refl x), fun h1 h2 => ?_, fun hne h1 => ?_, fun h1 => ?_, fun hk => ?_, fun hk hp => ?_, fun hk hp hh => ?_, fun hk hp hh => ?_⟩
  · exact (overZ_iff h hx hz).2 (holds_trans ((overZ_iff h hx hy).1 h1) ((overZ_iff h hy hz).1 h2))
  · cases h2 : overZ m F y x with
    | false => rfl
    | true => exact absurd (T.holds_anti hx hy ((overZ_iff h hx hy).1 h1) ((overZ_iff h hy hx).1 h2)) hne
  · exact (overZ_iff h hx hy).2 (holds_over h hy ((holdsZ_iff h hx hy).1 h1))
  · have hp : c.parent = -1 := by
      by_cases hp : c.parent = -1
      · exact hp
      · rcases right_held h hc hp with e | e <;> omega
    have hh : c.host = -1 := by
      by_cases hh : c.host = -1
      · exact hh
      · have := (right_host h hc hh).1
        omega
    have ht := top ((next_host hc hp).trans hh)
    rw [connZ_eq h hx, ht, kind, hk]
    exact ⟨rfl, rfl⟩
  · obtain ⟨p, e1, e2, _⟩ := right_par h hc hp
    obtain ⟨h1, h2⟩ := upto p ((next_par hc hp).trans e1) e2
    exact ⟨p, e1, e2, h1, h2⟩
  · obtain ⟨_, p, y, e1, e2, _⟩ := right_host h hc hh
    have hl := (List.getElem?_eq_some_iff.1 e2).1
    obtain ⟨h1, h2⟩ := upto p ((next_host hc hp).trans e1) hl
    exact ⟨p, e1, hl, h1, h2⟩
  · have ht := top ((next_host hc hp).trans hh)
    rw [connZ_eq h hx, ht, kind]
    exact ⟨beq_eq_false_iff_ne.2 hk, rfl⟩
/-! ### ShadeAll -/
structure AllFacts (m : Int) (F : List Core) (x : Nat) (l o : List Int) : Prop where
  pos : l[0]? = some (x : Int)
  len : l.length ≤ F.length
  olen : o.length ≤ l.length
  num : ∀ (i : Nat) z, l[i]? = some z → ∃ n : Nat, z = (n : Int) ∧ n < F.length
  many : ∀ n : Nat, n < F.length → hasZ l (n : Int) = if overZ m F x n then 1 else 0
  tops : ∀ n : Nat, n < F.length → overZ m F x n = true → topZ m F n = topZ m F x
  inc : ∀ (i : Nat) a b, o[i]? = some a → o[i + 1]? = some b → findZ l a < findZ l b
  und : ∀ (i : Nat) (n : Nat) c, l[i]? = some (n : Int) → F[n]? = some c → c.under ≠ -1 → ∃ s : Nat, c.under = s ∧ s < F.length ∧ l[i + 1]? = some (s : Int) ∧ ∀ k0, c.kids[0]? = some k0 → findZ l k0 = (i : Int) + 1 + (allZ m F s).length
  conn : connZ m F x = (kindK F (topZ m F x) == 0)
  top : ∃ t : Nat, topZ m F x = t ∧ t < F.length
theorem mem_allI {F : List Core} {z : Int} {n : Nat} : (n : Int) ∈ allI F z ↔ n ∈ allF F z.toNat := by
  unfold allI
  constructor
  · intro hm
    obtain ⟨k, hk, e⟩ := List.mem_map.1 hm
    rwa [Int.ofNat.inj e] at hk
  · intro hm
    exact List.mem_map.2 ⟨n, hm, rfl⟩
theorem allI_nodup {m : Int} {F : List Core} (h : rightF m F = true) {x : Nat} (hx : x < F.length) : (allI F x).Nodup := by
  have hN : (allF F x).Nodup := (treeS h).ord_nodup _ _ hx (by omega)
  unfold allI
  rw [Int.toNat_natCast]
  exact List.Pairwise.map Int.ofNat (fun a b hab e => hab (Int.ofNat.inj e)) hN
theorem allI_num {m : Int} {F : List Core} (h : rightF m F = true) {x : Nat} (hx : x < F.length) {z : Int} (hz : z ∈ allI F x) : ∃ n : Nat, z = (n : Int) ∧ n < F.length := by
  unfold allI at hz
  rw [Int.toNat_natCast] at hz
  obtain ⟨n, hn, rfl⟩ := List.mem_map.1 hz
  exact ⟨n, rfl, (treeS h).ord_lt _ _ hx n hn⟩
theorem allI_len {m : Int} {F : List Core} (h : rightF m F = true) {x : Nat} (hx : x < F.length) : (allI F x).length ≤ F.length := by
  unfold allI
  rw [Int.toNat_natCast, List.length_map]
  exact nodup_sub _ _ ((treeS h).ord_nodup _ _ hx (by omega)) ((treeS h).ord_lt _ _ hx)
theorem hasZ_all {m : Int} {F : List Core} (h : rightF m F = true) {x n : Nat} (hx : x < F.length) (hn : n < F.length) : hasZ (allI F x) (n : Int) = if overZ m F x n then 1 else 0 := by
  rw [hasZ_nodup (allI_nodup h hx)]
  have e2 : overZ m F x n = decide (n ∈ allF F x) := by
    unfold overZ
    rw [thereF_of h hx, thereF_of h hn]
    rfl
  have e1 : ((n : Int) ∈ allI F x) ↔ n ∈ allF F x := by rw [mem_allI, Int.toNat_natCast]
  rw [e2]
  by_cases hm : n ∈ allF F x
  · rw [if_pos (e1.2 hm), decide_eq_true hm, if_pos rfl]
  · rw [if_neg (fun g => hm (e1.1 g)), decide_eq_false hm, if_neg (by decide)]
theorem top_over {m : Int} {F : List Core} (h : rightF m F = true) {x n : Nat} (hx : x < F.length) (hn : n < F.length) (ho : overZ m F x n = true) : topZ m F n = topZ m F x := by
  rw [topZ_eq h hx, topZ_eq h hn]
  unfold topF
  rw [(treeS h).root_held hn (Nat.le_refl _) ((overZ_iff h hx hn).1 ho)]
theorem findZ_app {pre l : List Int} {z : Int} (hn : (pre ++ l).Nodup) (hz : z ∈ l) : findZ (pre ++ l) z = (pre.length : Int) + findZ l z := by
  obtain ⟨k, h1, h2⟩ := find_at hz
  rw [h1, findZ_at hn (j := pre.length + k) (by rw [List.getElem?_append_right (by omega)]; rw [show pre.length + k - pre.length = k by omega]; exact h2)]
  omega
theorem all_facts {m : Int} {F : List Core} (h : rightF m F = true) {x : Nat} (hx : x < F.length) : AllFacts m F x (allZ m F x) (ordZ m F x) := by
  have T := treeS h
  have hN := allI_nodup h hx
  have hsub : ((ordF F x).map Int.ofNat).Sublist (allI F x) := by
    unfold allI ordF allF
    rw [Int.toNat_natCast]
    exact (ord_sub (fun i => List.sublist_append_right _ _) _ _).map _
  rw [allZ_eq h hx, ordZ_eq h hx]
  refine ⟨?_, allI_len h hx, hsub.length_le, fun i z e => allI_num h hx (List.mem_of_getElem? e), fun n hn => hasZ_all h hx hn, fun n hn ho => top_over h hx hn ho, fun i a b ha hb => ?_, fun i n c hi hc hu => ?_, connZ_eq h hx, ⟨topF F x, topZ_eq h hx, topF_lt h hx⟩⟩
  · rw [allI_open h (List.getElem?_eq_getElem hx)]
    rfl
  · have ma := hsub.subset (List.mem_of_getElem? ha)
    have mb := hsub.subset (List.mem_of_getElem? hb)
    rw [findZ_mem ma, findZ_mem mb]
    have := sub_find hsub hN i a b ha hb
    omega
  · obtain ⟨s, u, e1, e2, _⟩ := right_under h hc hu
    have hs := (List.getElem?_eq_some_iff.1 e2).1
    obtain ⟨pre, post, e3, e4⟩ : ∃ pre post, allI F x = pre ++ allI F n ++ post ∧ pre.length = i := by
      have hg : (ordN (kidsS F) (F.length + 1) x)[i]? = some n := by
        unfold allI allF at hi
        rw [Int.toNat_natCast, List.getElem?_map] at hi
        cases hq : (ordN (kidsS F) (F.length + 1) x)[i]? with
        | none => rw [hq] at hi; cases hi
        | some q =>
          rw [hq] at hi
          exact congrArg some (Int.ofNat.inj (Option.some.inj hi))
      obtain ⟨pre, post, e, hl⟩ := T.ord_block _ _ hx (by omega) i n hg
      refine ⟨pre.map Int.ofNat, post.map Int.ofNat, ?_, by rw [List.length_map, hl]⟩
      unfold allI allF
      rw [Int.toNat_natCast, Int.toNat_natCast, e, List.map_append, List.map_append]
    have e5 : allI F n = (n : Int) :: (allI F s ++ c.kids.flatMap (allI F)) := by
      rw [allI_open h hc, if_neg hu, e1]
    obtain ⟨r, hr⟩ : ∃ r, allI F (s : Int) = (s : Int) :: r := ⟨_, allI_open h e2⟩
    refine ⟨s, e1, hs, ?_, fun k0 hk0 => ?_⟩
    · rw [e3, e5, hr, ← e4, List.append_assoc, List.getElem?_append_right (by omega), show pre.length + 1 - pre.length = 1 by omega]
      rfl
    · rw [allZ_eq h hs]
      obtain ⟨ks, hks⟩ : ∃ ks, c.kids = k0 :: ks := by
        cases hq : c.kids with
        | nil => rw [hq] at hk0; cases hk0
        | cons a r => rw [hq] at hk0; exact ⟨r, by rw [show a = k0 by simpa using hk0]⟩
      have hk1 : kidOk F n c k0 = true := (nodeOk_iff.1 (((rightF_iff m F).1 h).2.1 n c hc)).2.2.1 k0 (by rw [hks]; simp)
      obtain ⟨d, hd, _⟩ := kidB_iff.1 (kidOk_iff.1 hk1).2
      obtain ⟨g1, g2, g3⟩ := getC_some hd
      obtain ⟨r0, hr0⟩ : ∃ r0, allI F k0 = k0 :: r0 := by
        have := allI_open h g3
        rw [show ((k0.toNat : Nat) : Int) = k0 by omega] at this
        exact ⟨_, this⟩
      have e6 : allI F x = (pre ++ ((n : Int) :: allI F s)) ++ (k0 :: (r0 ++ ks.flatMap (allI F) ++ post)) := by
        rw [e3, e5, hks, List.flatMap_cons, hr0]
        simp
      have e7 := findZ_app (z := k0) (by rw [← e6]; exact hN) (by simp)
      rw [← e6] at e7
      rw [e7, List.length_append, List.length_cons, e4]
      have : findZ (k0 :: (r0 ++ ks.flatMap (allI F) ++ post)) k0 = 0 := by
        unfold findZ
        rw [findN_cons, if_pos rfl, if_pos (by simp)]
        rfl
      rw [this]
      omega
end Go.Proofs.YtkomeijlljcdgaaGreat
/- Forests that are right, said in words of each node; and how one is shown to be right. Plain mathematics, no program. -/
namespace Go.Proofs.YtkomeijlljcdgaaGreat
open Go.RowKit
/-- What a node of a forest keeps to. -/
structure NodeP (F : List Core) (i : Nat) (x : Core) : Prop where
  kind : 0 ≤ x.kind ∧ x.kind ≤ 4
  doc : ∃ d, getC F x.doc = some d ∧ d.kind = 0
  own : x.kind = 0 → x.doc = (i : Int)
  par : x.parent = -1 ∨ ((x.kind = 1 ∨ x.kind = 2) ∧ ∃ p, getC F x.parent = some p ∧ p.kind ≠ 2 ∧ (i : Int) ∈ p.kids)
  once : x.kids.Nodup
  kids : ∀ k ∈ x.kids, ∃ c, getC F k = some c ∧ (c.kind = 1 ∨ c.kind = 2) ∧ c.parent = (i : Int) ∧ c.doc = x.doc
  leaf : x.kind = 2 → x.kids = []
  root : x.kind = 0 → x.kids.length ≤ 1 ∧ ∀ k ∈ x.kids, kindK F k = 1
  host : x.kind = 4 → ∃ h, getC F x.host = some h ∧ h.kind = 1 ∧ h.under = (i : Int) ∧ h.doc = x.doc
  free : x.kind ≠ 4 → x.host = -1
  under : x.under = -1 ∨ (x.kind = 1 ∧ ∃ u, getC F x.under = some u ∧ u.kind = 4 ∧ u.host = (i : Int))
  text : textOk x = true
theorem shapeOk_iff {F : List Core} {x : Core} : shapeOk F x = true ↔ (x.kind = 2 → x.kids = []) ∧ (x.kind = 0 → elemsK F x ≤ 1 ∧ x.kids.length ≤ elemsK F x) := by
  unfold shapeOk
  simp only [Bool.and_eq_true, Bool.not_eq_true', Bool.and_eq_false_iff, beq_eq_false_iff_ne, decide_eq_false_iff_not, Bool.or_eq_false_iff]
  constructor
  · rintro ⟨h1, h2⟩
    refine ⟨fun e => ?_, fun e => ?_⟩
    · rcases h1 with h | h
      · exact absurd e h
      · exact List.eq_nil_of_length_eq_zero (by omega)
    · rcases h2 with h | h
      · exact absurd e h
      · omega
  · rintro ⟨h1, h2⟩
    refine ⟨?_, ?_⟩
    · by_cases e : x.kind = 2
      · right; rw [h1 e]; simp
      · exact .inl e
    · by_cases e : x.kind = 0
      · right; have := h2 e; omega
      · exact .inl e
theorem nodesP {F : List Core} : (∀ (i : Nat) x, F[i]? = some x → nodeOk F i x = true) ↔ ∀ (i : Nat) x, F[i]? = some x → NodeP F i x := by
  constructor
  · intro H i x hx
    obtain ⟨p1, p2, p3, p4, p5, p6⟩ := nodeOk_iff.1 (H i x hx)
    rw [Bool.and_eq_true] at p5
    unfold docOk at p1
    simp only [Bool.and_eq_true, Bool.or_eq_true, decide_eq_true_eq, bne_iff_ne, beq_iff_eq] at p1
    have hkid : ∀ k ∈ x.kids, ∃ c, getC F k = some c ∧ (c.kind = 1 ∨ c.kind = 2) ∧ c.parent = (i : Int) ∧ c.doc = x.doc := fun k hk => kidB_iff.1 (kidOk_iff.1 (p3 k hk)).2
    obtain ⟨s1, s2⟩ := shapeOk_iff.1 p4
    refine ⟨p1.1.1, ?_, fun e => p1.2.resolve_left (fun h => h e), ?_, nodup_of_has (fun z hz => (kidOk_iff.1 (p3 z hz)).1), hkid, s1, fun e => ?_, fun e => ?_, fun e => ?_, ?_, p6⟩
    · have h := p1.1.2
      cases hg : getC F x.doc with
      | none => rw [hg] at h; cases h
      | some d => rw [hg] at h; exact ⟨d, rfl, beq_iff_eq.1 h⟩
    · unfold parOk at p2
      rw [Bool.or_eq_true, beq_iff_eq] at p2
      rcases p2 with h | h
      · exact .inl h
      · right
        rw [Bool.and_eq_true, Bool.or_eq_true, beq_iff_eq, beq_iff_eq] at h
        refine ⟨h.1, ?_⟩
        cases hg : getC F x.parent with
        | none => rw [hg] at h; exact absurd h.2 (by simp)
        | some d =>
          rw [hg] at h
          have h2 := h.2
          dsimp only at h2
          rw [Bool.and_eq_true, bne_iff_ne, beq_iff_eq] at h2
          exact ⟨d, rfl, h2.1, hasZ_mem h2.2⟩
    · obtain ⟨h1, h2⟩ := s2 e
      refine ⟨by omega, fun k hk => ?_⟩
      unfold elemsK at h2
      have hc : x.kids.countP (fun k => kindK F k == 1) = x.kids.length := Nat.le_antisymm List.countP_le_length h2
      exact beq_iff_eq.1 (List.countP_eq_length.1 hc k hk)
    · have h := p5.1
      unfold hostOk at h
      rw [if_pos e] at h
      cases hg : getC F x.host with
      | none => rw [hg] at h; cases h
      | some d =>
        rw [hg] at h
        simp only [Bool.and_eq_true, beq_iff_eq] at h
        exact ⟨d, rfl, h.1.1, h.1.2, h.2⟩
    · have h := p5.1
      unfold hostOk at h
      rw [if_neg e] at h
      exact beq_iff_eq.1 h
    · have h := p5.2
      unfold underOk at h
      rw [Bool.or_eq_true, beq_iff_eq, Bool.and_eq_true, beq_iff_eq] at h
      rcases h with h | h
      · exact .inl h
      · right
        refine ⟨h.1, ?_⟩
        have h2 := h.2
        cases hg : getC F x.under with
        | none => rw [hg] at h2; cases h2
        | some d =>
          rw [hg] at h2
          simp only [Bool.and_eq_true, beq_iff_eq] at h2
          exact ⟨d, rfl, h2.1, h2.2⟩
  · intro H i x hx
    have h := H i x hx
    have hone : ∀ (l : List Int) (z : Int), l.Nodup → z ∈ l → hasZ l z = 1 := fun l z hn hz => by rw [hasZ_nodup hn, if_pos hz]
    refine nodeOk_iff.2 ⟨?_, ?_, fun k hk => kidOk_iff.2 ⟨hone _ _ h.once hk, kidB_iff.2 (h.kids k hk)⟩, shapeOk_iff.2 ⟨h.leaf, fun e => ?_⟩, ?_, h.text⟩
    · unfold docOk
      obtain ⟨d, h1, h2⟩ := h.doc
      rw [h1]
      simp only [Bool.and_eq_true, Bool.or_eq_true, decide_eq_true_eq, bne_iff_ne, beq_iff_eq]
      exact ⟨⟨h.kind, h2⟩, by by_cases e : x.kind = 0; exact .inr (h.own e); exact .inl e⟩
    · unfold parOk
      rw [Bool.or_eq_true, beq_iff_eq]
      rcases h.par with e | ⟨e, p, h1, h2, h3⟩
      · exact .inl e
      · right
        rw [h1, Bool.and_eq_true, Bool.or_eq_true, beq_iff_eq, beq_iff_eq]
        refine ⟨e, ?_⟩
        obtain ⟨g1, g2, g3⟩ := getC_some h1
        have := hone p.kids i (H _ p g3).once h3
        show (p.kind != 2 && hasZ p.kids i == 1) = true
        rw [this, bne_iff_ne.2 h2]
        rfl
    · obtain ⟨h1, h2⟩ := h.root e
      have : elemsK F x = x.kids.length := by
        unfold elemsK
        exact List.countP_eq_length.2 (fun k hk => beq_iff_eq.2 (h2 k hk))
      omega
    · rw [Bool.and_eq_true]
      constructor
      · unfold hostOk
        by_cases e : x.kind = 4
        · rw [if_pos e]
          obtain ⟨d, h1, h2, h3, h4⟩ := h.host e
          rw [h1]
          simp only [Bool.and_eq_true, beq_iff_eq]
          exact ⟨⟨h2, h3⟩, h4⟩
        · rw [if_neg e]
          exact beq_iff_eq.2 (h.free e)
      · unfold underOk
        rw [Bool.or_eq_true, beq_iff_eq]
        rcases h.under with e | ⟨e, u, h1, h2, h3⟩
        · exact .inl e
        · right
          rw [h1, Bool.and_eq_true]
          simp only [Bool.and_eq_true, beq_iff_eq]
          exact ⟨e, h2, h3⟩
theorem right_node {m : Int} {F : List Core} (h : rightF m F = true) {i : Nat} {x : Core} (hx : F[i]? = some x) : NodeP F i x := nodesP.1 ((rightF_iff m F).1 h).2.1 i x hx
/-- Who goes up always comes lower: the way up ends. -/
theorem ends_rank {nxt : Int → Int} {n : Nat} (r : Nat → Nat) (h : ∀ i : Nat, i < n → nxt i = -1 ∨ ∃ p : Nat, nxt i = p ∧ p < n ∧ r p < r i) : ∀ (k i : Nat), i < n → r i ≤ k → ∃ s, endsZ nxt s (i : Int) = true
  | 0, i, hi, hk => by
    rcases h i hi with e | ⟨p, _, _, e⟩
    · exact ⟨1, by rw [endsZ_step (by omega), e]; rfl⟩
    · omega
  | k + 1, i, hi, hk => by
    rcases h i hi with e | ⟨p, e1, e2, e3⟩
    · exact ⟨1, by rw [endsZ_step (by omega), e]; rfl⟩
    · obtain ⟨s, hs⟩ := ends_rank r h k p e2 (by omega)
      exact ⟨s + 1, by rw [endsZ_step (by omega), e1]; exact hs⟩
/-- How a forest is shown to be right. -/
theorem right_of {m : Int} {F : List Core} (h1 : 1 ≤ m) (h2 : m ≤ 400) (h3 : (F.length : Int) ≤ m) (h4 : headDoc F = true) (h5 : ∀ (i : Nat) x, F[i]? = some x → NodeP F i x) (r : Nat → Nat) (h6 : ∀ i : Nat, i < F.length → nextUp F i = -1 ∨ ∃ p : Nat, nextUp F i = p ∧ p < F.length ∧ r p < r i) : rightF m F = true := by
  refine (rightF_iff m F).2 ⟨⟨h1, h2, h3, h4⟩, nodesP.2 h5, fun i hi => ?_⟩
  obtain ⟨s, hs⟩ := ends_rank r h6 (r i) i hi (Nat.le_refl _)
  exact endsZ_le (Nat.le_succ _) (ends_small (n := F.length) (fun z h0 h1 => by
    obtain ⟨j, rfl⟩ : ∃ j : Nat, z = j := ⟨z.toNat, by omega⟩
    rcases h6 j (by omega) with e | ⟨p, e1, e2, _⟩
    · exact .inl e
    · exact .inr ⟨by omega, by omega⟩) (.inr ⟨by omega, by omega⟩) hs)
theorem rank_next {m : Int} {F : List Core} (h : rightF m F = true) {i : Nat} (hi : i < F.length) : nextUp F i = -1 ∨ ∃ p : Nat, nextUp F i = p ∧ p < F.length ∧ rankF F p < rankF F i := by
  by_cases e : nextUp F (i : Int) = -1
  · exact .inl e
  · right
    rcases right_up h i (by omega) (by omega) with e2 | ⟨e2, e3⟩
    · exact absurd e2 e
    · have hp : nextUp F (i : Int) = ((nextUp F (i : Int)).toNat : Int) := by omega
      refine ⟨_, hp, by omega, ?_⟩
      have := (treeS h).rank_up _ i hi (parS_some hp)
      omega
end Go.Proofs.YtkomeijlljcdgaaGreat
/- Package valid's has, knows, Parts. -/
namespace Go.Proofs.YtkomeijlljcdgaaGreat
open Go.RowKit
theorem inF_nat {F : List Core} {n : Int} (h : inF F n = true) : ∃ k : Nat, n = k ∧ k < F.length := by
  unfold inF at h
  rw [Bool.and_eq_true, decide_eq_true_eq, decide_eq_true_eq] at h
  exact ⟨n.toNat, by omega, by omega⟩
end Go.Proofs.YtkomeijlljcdgaaGreat
/- Package valid's docTakes, refusal, May, Swap. -/
namespace Go.Proofs.YtkomeijlljcdgaaGreat
open Go.RowKit
theorem parts_in {m : Int} {F : List Core} (h : rightF m F = true) {n : Nat} (hn : n < F.length) {z : Int} (hz : z ∈ partsZ F n) : ∃ k : Nat, z = k ∧ k < F.length := by
  have hx : F[n]? = some F[n] := List.getElem?_eq_getElem hn
  unfold partsZ at hz
  rw [getC_nat, hx] at hz
  dsimp only at hz
  split at hz
  · have h1 := (nodeOk_iff.1 (((rightF_iff m F).1 h).2.1 n _ hx)).2.2.1 z hz
    unfold kidOk at h1
    rw [Bool.and_eq_true] at h1
    cases hg : getC F z with
    | none => rw [hg] at h1; simp at h1
    | some c =>
      obtain ⟨e1, e2, _⟩ := getC_some hg
      exact ⟨z.toNat, by omega, e2⟩
  · rw [List.mem_singleton] at hz
    exact ⟨n, hz, hn⟩
theorem countNe_step {l : List Int} {g z : Int} {k : Nat} (h : l[k]? = some z) : countNe (l.take (k + 1)) g = countNe (l.take k) g + if z != g then 1 else 0 := by
  obtain ⟨hl, hg⟩ := List.getElem?_eq_some_iff.1 h
  unfold countNe
  rw [List.take_succ_eq_append_getElem hl, hg, List.countP_append]
  simp [List.countP_cons]
theorem countNe_le (l : List Int) (g : Int) : countNe l g ≤ l.length := List.countP_le_length
theorem kindK_get {L : List NodeD} {k : Nat} {x : NodeD} (hx : L[k]? = some x) : kindK (coreL L) (k : Int) = x.core.kind := by unfold kindK; rw [getC_nat, coreL_get hx]
theorem parentK_get {L : List NodeD} {k : Nat} {x : NodeD} (hx : L[k]? = some x) : parentK (coreL L) (k : Int) = x.core.parent := by unfold parentK; rw [getC_nat, coreL_get hx]
theorem in_nat64 {k len : Nat} (h : k < len) (hl : len ≤ 9223372036854775807) : In64 (k : Int) := ⟨by omega, by omega⟩
theorem refuse_64 {m : Int} {F : List Core} {n p : Int} {q : Bool} {g : Int} : refuseE m F n p q g = 0 ∨ refuseE m F n p q g = 5 ∨ refuseE m F n p q g = 6 := by
  unfold refuseE
  repeat' split
  all_goals simp
end Go.Proofs.YtkomeijlljcdgaaGreat
/- Package shade's hosts, refusal. -/
namespace Go.Proofs.YtkomeijlljcdgaaGreat
open Go.RowKit
end Go.Proofs.YtkomeijlljcdgaaGreat
/- Package shade's Attach. -/
namespace Go.Proofs.YtkomeijlljcdgaaGreat
open Go.RowKit
attribute [local go_sem ↓] Go.wp_at_zero Go.wp_at_succ
/-- The boxes that Attach begins with. -/
structure AttSt (w W : World) (a : Option Addr) (len cap : Nat) (m : Int) (L : List NodeD) : Prop where
  box : Box w W w.heap.size a len cap m L (coreL L)
  res : Box2 W (w.heap.size + 1) (.slice none 0 0) (.int .i64 0)
theorem AttSt.keep {w W W2 : World} {a : Option Addr} {len cap : Nat} {m : Int} {L : List NodeD} (h : AttSt w W a len cap m L) (hb : Below W.heap.size W W2) : AttSt w W2 a len cap m L := ⟨h.box.keep hb, h.res.keep hb⟩
theorem AttSt.start {w : World} {a : Option Addr} {len cap : Nat} {m : Int} {L : List NodeD} (h : NodeRow w a len cap L) : AttSt w ((w.alloc (forB a len cap m)).alloc zeroFB) a len cap m L := by
  refine ⟨(Box.start h).keep (below_box _ _), ?_⟩
  have := Box2.new (w.alloc (forB a len cap m)) (.slice none 0 0) (.int .i64 0) 24
  rwa [show (w.alloc (forB a len cap m)).heap.size = w.heap.size + 1 by simp] at this
/-- Behind the first line: the copy, in its box q; r: the result's box. -/
structure AttCp (r : Nat) (w0 W : World) (len : Nat) (m : Int) (F : List Core) (q : Nat) (v : Value) (M : List NodeD) : Prop where
  copy : Copy w0.heap.size w0 W v len M F
  g : Box2 W q v (.int .i64 m)
  low : w0.heap.size ≤ q
  ne : v.ownBlock ≠ some q
  aq : ∀ y ∈ M, NodeAway q y
  ar : ∀ y ∈ M, NodeAway r y
theorem AttCp.keep {r : Nat} {w0 W W2 : World} {len : Nat} {m : Int} {F : List Core} {q : Nat} {v : Value} {M : List NodeD} (h : AttCp r w0 W len m F q v M) (hb : Below W.heap.size W W2) : AttCp r w0 W2 len m F q v M :=
  ⟨h.copy.keep hb, h.g.keep hb, h.low, h.ne, h.aq, h.ar⟩
theorem AttCp.wayA {r : Nat} {w0 w1 : World} {len : Nat} {m : Int} {F : List Core} {v : Value} {M : List NodeD} (hsz : r < w0.heap.size)
    (CP : Copy (w0.alloc zeroFB).heap.size (w0.alloc zeroFB) w1 v len M F) (NL : ∀ x ∈ M, newLists (w0.alloc zeroFB).drew.heap.size x) (GB : Box2 w1 w0.heap.size (.slice none 0 0) (.int .i64 0)) :
    AttCp r w0 ((w1.setCell ⟨w0.heap.size, 0, none⟩ v).setCell ⟨w0.heap.size, 1, none⟩ (.int .i64 m)) len m F w0.heap.size v M := by
  have hs : (w0.alloc zeroFB).drew.heap.size = w0.heap.size + 1 := by simp
  have hs2 : (w0.alloc zeroFB).heap.size = w0.heap.size + 1 := by simp
  have hne : v.ownBlock ≠ some w0.heap.size := own_not CP.own (by rw [hs2]; omega)
  have haq : ∀ y ∈ M, NodeAway w0.heap.size y := fun y hy => (NL y hy).away (by rw [hs]; omega)
  have hb : Below w0.heap.size w0 w1 := (below_box w0 _).trans (CP.below.mono (by rw [hs2]; omega))
  refine ⟨⟨own_base (own_boxCell (own_boxCell CP.own hne _) hne _) (by rw [hs2]; omega), CP.hl, CP.core, fun x hx => ((CP.ok x hx).setCell (haq x hx) _).setCell (haq x hx) _, fun g hg => ?_, (hb.setCell (p := ⟨w0.heap.size, 0, none⟩) (Nat.le_refl _) _).setCell (p := ⟨w0.heap.size, 1, none⟩) (Nat.le_refl _) _⟩, GB.set _ _, Nat.le_refl _, hne, haq, fun y hy => (NL y hy).away (by rw [hs]; omega)⟩
  rcases hg with hg | hg
  · omega
  · exact CP.away g (.inr hg)
theorem AttCp.wayB {r : Nat} {w0 w1 : World} {len : Nat} {m : Int} {F : List Core} {v : Value} {M : List NodeD} (hsz : r < w0.heap.size)
    (CP : Copy w0.heap.size w0 w1 v len M F) (NL : ∀ x ∈ M, newLists w0.drew.heap.size x) :
    AttCp r w0 (w1.alloc (.cells #[v, .int .i64 m] 24)) len m F w1.heap.size v M := by
  have hs : w0.drew.heap.size = w0.heap.size := rfl
  exact ⟨CP.keep (below_box _ _), Box2.new _ _ _ _, CP.below.size, own_notNew CP.own, fun y hy => (CP.ok y hy).away (Nat.le_refl _), fun y hy => (NL y hy).away (by rw [hs]; omega)⟩
/-- The copy is answered: two stores into the result's box. -/
theorem AttCp.finish {r : Nat} {w w0 W : World} {len : Nat} {m : Int} {F : List Core} {q : Nat} {v : Value} {M : List NodeD} (h : AttCp r w0 W len m F q v M) (hsz : r < w0.heap.size) (hlo : w.heap.size ≤ r) (hb : Below w.heap.size w w0) (u1 u2 : Value) :
    ∃ a cap, v = .slice a len cap ∧ NodeRow ((W.setCell ⟨r, 0, none⟩ u1).setCell ⟨r, 1, none⟩ u2) a len cap M ∧ coreL M = F ∧ Below w.heap.size w ((W.setCell ⟨r, 0, none⟩ u1).setCell ⟨r, 1, none⟩ u2) := by
  have hne : v.ownBlock ≠ some r := own_not h.copy.own hsz
  have c2 : Copy w.heap.size w ((W.setCell ⟨r, 0, none⟩ u1).setCell ⟨r, 1, none⟩ u2) v len M F :=
    ⟨own_base (own_boxCell (own_boxCell h.copy.own hne _) hne _) hb.size, h.copy.hl, h.copy.core, fun x hx => ((h.copy.ok x hx).setCell (h.ar x hx) _).setCell (h.ar x hx) _, fun g hg => by
      rcases hg with hg | hg
      · omega
      · exact h.copy.away g (.inr hg), ((hb.trans (h.copy.below.mono hb.size)).setCell (p := ⟨r, 0, none⟩) hlo _).setCell (p := ⟨r, 1, none⟩) hlo _⟩
  obtain ⟨a, cap, hv, hr, _⟩ := c2.row
  exact ⟨a, cap, hv, hr, h.copy.core, c2.below⟩
/-- A node, as it is with another shadow. -/
def withUD (x : NodeD) (u : Int) : NodeD := ⟨withU x.core u, x.aA, x.aN, x.aC, x.kA, x.kN, x.kC⟩
theorem Copy.at {lo : Nat} {w W : World} {g n cap k : Nat} {M : List NodeD} {F : List Core} {x : NodeD} (h : Copy lo w W (.slice (some ⟨g, 0, none⟩) n cap) n M F) (hx : M[k]? = some x) : NodeAt W g (k * 10) x := by
  obtain ⟨a, cap', he, hr, _⟩ := h.row
  injection he with e1 e2 e3
  subst e1
  have hk : k < n := by
    have := (List.getElem?_eq_some_iff.1 hx).1
    rw [h.hl] at this
    exact this
  obtain ⟨b', off, y, hab, _, hy, hat, _⟩ := hr.get hk
  injection hab with hab
  injection hab with e1 e2
  subst e1 e2
  obtain rfl : x = y := Option.some.inj (hx.symm.trans hy)
  rwa [Nat.zero_add] at hat
/-- A node of the copy gets its shadow. -/
theorem AttCp.under {r : Nat} {w0 W : World} {len cap : Nat} {m : Int} {F : List Core} {q g : Nat} {M : List NodeD} {k : Nat} {x : NodeD} {u : Int} (h : AttCp r w0 W len m F q (.slice (some ⟨g, 0, none⟩) len cap) M) (hk : M[k]? = some x) (hu : In64 u) :
    AttCp r w0 (W.setCell ⟨g, k * 10 + 8, none⟩ (.int .i64 u)) len m (F.set k (withU x.core u)) q (.slice (some ⟨g, 0, none⟩) len cap) (M.set k (withUD x u)) := by
  obtain ⟨hl, he⟩ := List.getElem?_eq_some_iff.1 hk
  have hkn : k < len := by have := h.copy.hl; omega
  have hgl : w0.heap.size ≤ g := (h.copy.own.lt g rfl).1
  have hgq : g ≠ q := fun e => h.ne (by rw [← e]; rfl)
  have o1 := own_setCell h.copy.own (j := k * 10 + 8) (by omega) (.int .i64 u)
  rw [flat_set (L := M) (fun z _ => encN_len z) (i := k) (j := 8) (y := withUD x u) (u := .int .i64 u) (x := x) hk rfl (by omega)] at o1
  have mem : ∀ y ∈ M.set k (withUD x u), y ∈ M ∨ y = withUD x u := fun y hy => List.mem_or_eq_of_mem_set hy
  have hxm := List.mem_of_getElem? hk
  have hox := h.copy.ok x hxm
  have haw := h.copy.away g (.inr rfl)
  have away : ∀ g', (∀ y ∈ M, NodeAway g' y) → ∀ y ∈ M.set k (withUD x u), NodeAway g' y := fun g' hg' y hy => by
    rcases mem y hy with hy | rfl
    · exact hg' y hy
    · exact hg' x hxm
  refine ⟨⟨o1, by rw [List.length_set]; exact h.copy.hl, ?_, fun y hy => ?_, fun g' hg' => away g' (h.copy.away g' hg'), h.copy.below.setCell (p := ⟨g, k * 10 + 8, none⟩) hgl _⟩, ?_, h.low, h.ne, away q h.aq, away r h.ar⟩
  · rw [← h.copy.core]
    unfold coreL
    rw [List.map_set]
    rfl
  · rcases mem y hy with hy | rfl
    · exact (h.copy.ok y hy).setCell (haw y hy) _
    · have hq : NodeOk W (withUD x u) := ⟨hox.attrs, hox.kids, hox.name, hox.is, hox.data, hox.kind, hox.parent, hox.host, hu, hox.doc⟩
      exact hq.setCell (haw x hxm) _
  · have hb : ∀ o, (⟨g, k * 10 + 8, none⟩ : Addr) ≠ ⟨q, o, none⟩ := fun o e => hgq (by injection e)
    exact ⟨by simpa [World.setCell] using h.g.lt, (World.cell?_setCell_other _ _ _ _ (hb 0)).trans h.g.c0, (World.cell?_setCell_other _ _ _ _ (hb 1)).trans h.g.c1, by rw [World.frozen?_setCell]; exact h.g.f0, by rw [World.frozen?_setCell]; exact h.g.f1⟩
/-- Behind the append: the copy as it was. -/
theorem AttCp.grown {r : Nat} {w0 W W2 : World} {len : Nat} {m : Int} {F : List Core} {q : Nat} {v : Value} {M : List NodeD} (h : AttCp r w0 W len m F q v M) (hg : W.grownBy W2 v.ownBlock) (ho : W2.ownsRow w0.heap.size 47 10 v len (M.flatMap encN)) : AttCp r w0 W2 len m F q v M :=
  ⟨⟨ho, h.copy.hl, h.copy.core, fun x hx => (h.copy.ok x hx).grown hg (fun g e => h.copy.away g (.inr e) x hx), h.copy.away, h.copy.below.grown hg h.copy.below.size (fun k e => (h.copy.own.lt k e).1)⟩, h.g.grown hg (fun e => h.ne e.symm), h.low, h.ne, h.aq, h.ar⟩
/-- The row with a node more. -/
structure AttRow (r : Nat) (w0 W : World) (len : Nat) (q g cap : Nat) (M : List NodeD) (y : NodeD) : Prop where
  own : W.ownsRow w0.heap.size 47 10 (.slice (some ⟨g, 0, none⟩) (len + 1) cap) (len + 1) ((M ++ [y]).flatMap encN)
  hl : M.length = len
  ok : ∀ z ∈ M ++ [y], NodeOk W z
  nq : g ≠ q
  aq : ∀ z ∈ M ++ [y], NodeAway q z
  ar : ∀ z ∈ M ++ [y], NodeAway r z
theorem AttRow.row {r : Nat} {w0 W : World} {len q g cap : Nat} {M : List NodeD} {y : NodeD} (h : AttRow r w0 W len q g cap M y) : NodeRow W (some ⟨g, 0, none⟩) (len + 1) cap (M ++ [y]) := by
  obtain ⟨a, cap', he, hr, _⟩ := SRow.of_own (L := M ++ [y]) (fun x _ => encN_len x) (by rw [List.length_append, h.hl]; rfl) h.own
  injection he with h1 h2 h3
  subst h1; subst h3
  exact ⟨hr, h.ok, fun h => by cases h⟩
theorem AttRow.new {r : Nat} {w0 W W2 : World} {len : Nat} {m : Int} {F : List Core} {q g cap : Nat} {v : Value} {M : List NodeD} {y : NodeD} (h : AttCp r w0 W len m F q v M) (hy : NodeOk W y) (hya : y.aA = none) (hyk : y.kA = none)
    (ho : W2.ownsRow w0.heap.size 47 10 (.slice (some ⟨g, 0, none⟩) (len + 1) cap) (len + 1) (M.flatMap encN ++ encN y)) (hg : W.grownBy W2 v.ownBlock) (hat : v.ownBlock = some g ∨ g = W.heap.size) : AttRow r w0 W2 len q g cap M y := by
  have away : ∀ k, NodeAway k y := fun k => ⟨(fun b off hb => by rw [hya] at hb; cases hb), (fun b off hb => by rw [hyk] at hb; cases hb)⟩
  have hlow := h.low
  refine ⟨by simpa using ho, h.copy.hl, fun z hz => ?_, ?_, fun z hz => ?_, fun z hz => ?_⟩
  · rcases List.mem_append.1 hz with hz | hz
    · exact (h.copy.ok z hz).grown hg (fun k e => h.copy.away k (.inr e) z hz)
    · obtain rfl : z = y := by simpa using hz
      exact hy.grown hg (fun k _ => away k)
  · rcases hat with hat | hat
    · intro e
      exact h.ne (by rw [hat, e])
    · have := h.g.lt
      omega
  · rcases List.mem_append.1 hz with hz | hz
    · exact h.aq z hz
    · obtain rfl : z = y := by simpa using hz
      exact away q
  · rcases List.mem_append.1 hz with hz | hz
    · exact h.ar z hz
    · obtain rfl : z = y := by simpa using hz
      exact away _
theorem AttRow.finish {r : Nat} {w w0 W : World} {len q g cap : Nat} {M : List NodeD} {y : NodeD} (h : AttRow r w0 W len q g cap M y) (hsz : r < w0.heap.size) (hlo : w.heap.size ≤ r) (hq : w0.heap.size ≤ q) (hb : Below w.heap.size w w0) (hb2 : Below w0.heap.size w0 W) (u0 u1 u2 : Value) :
    NodeRow (((W.setCell ⟨q, 0, none⟩ u0).setCell ⟨r, 0, none⟩ u1).setCell ⟨r, 1, none⟩ u2) (some ⟨g, 0, none⟩) (len + 1) cap (M ++ [y]) ∧ Below w.heap.size w (((W.setCell ⟨q, 0, none⟩ u0).setCell ⟨r, 0, none⟩ u1).setCell ⟨r, 1, none⟩ u2) := by
  have n1 : (Value.slice (some ⟨g, 0, none⟩) (len + 1) cap).ownBlock ≠ some q := fun e => h.nq (by injection e)
  have n2 : (Value.slice (some ⟨g, 0, none⟩) (len + 1) cap).ownBlock ≠ some r := own_not h.own hsz
  have c2 : AttRow r w0 (((W.setCell ⟨q, 0, none⟩ u0).setCell ⟨r, 0, none⟩ u1).setCell ⟨r, 1, none⟩ u2) len q g cap M y :=
    ⟨own_boxCell (own_boxCell (own_boxCell h.own n1 _) n2 _) n2 _, h.hl, fun z hz => (((h.ok z hz).setCell (h.aq z hz) _).setCell (h.ar z hz) _).setCell (h.ar z hz) _, h.nq, h.aq, h.ar⟩
  have hsz2 := hb.size
  exact ⟨c2.row, (((hb.trans (hb2.mono hb.size)).setCell (p := ⟨q, 0, none⟩) (by show w.heap.size ≤ q; omega) _).setCell (p := ⟨r, 0, none⟩) hlo _).setCell (p := ⟨r, 1, none⟩) hlo _⟩
theorem att_not {m : Int} {F : List Core} {n : Int} (h : attE m F n ≠ 0) : attL m F n = F ∧ attN m F n = -1 := by
  unfold attL attN
  rw [if_neg h, if_neg h]
  exact ⟨rfl, rfl⟩
theorem att_is {m : Int} {F : List Core} {n : Int} (h : attE m F n = 0) : rightF m F = true ∧ ∃ (k : Nat) (x : Core), n = k ∧ F[k]? = some x ∧ hostsC x = true ∧ x.under = -1 ∧ (F.length : Int) ≠ m ∧ attL m F n = F.set k (withU x (F.length : Int)) ++ [shadeC k x.doc] ∧ attN m F n = F.length := by
  have h0 := h
  unfold attE at h
  cases hq : thereF m F n with
  | false => rw [hq] at h; cases h
  | true =>
    rw [hq, if_pos rfl] at h
    obtain ⟨hr, k, rfl, hk⟩ := there_nat hq
    have hg : getC F (k : Int) = some F[k] := by rw [getC_nat]; exact List.getElem?_eq_getElem hk
    rw [hg] at h
    dsimp only at h
    by_cases h1 : hostsC F[k] = true
    · rw [if_pos h1] at h
      by_cases h2 : F[k].under = -1
      · rw [if_pos h2] at h
        by_cases h3 : (F.length : Int) = m
        · rw [if_pos h3] at h; cases h
        · refine ⟨hr, k, F[k], rfl, List.getElem?_eq_getElem hk, h1, h2, h3, ?_, ?_⟩
          · unfold attL attC
            rw [if_pos h0, hg]
            rfl
          · unfold attN
            rw [if_pos h0]
      · rw [if_neg h2] at h; cases h
    · rw [if_neg h1] at h; cases h
def shadeD (k : Nat) (d : Int) : NodeD := ⟨shadeC k d, none, 0, 0, none, 0, 0⟩
theorem shadeD_ok (w : World) {k : Nat} {d : Int} (hk : In64 (k : Int)) (hd : In64 d) : NodeOk w (shadeD k d) := by
  refine ⟨⟨SRow.nil, (fun z hz => by cases hz), fun _ => rfl⟩, ⟨SRow.nil, (fun z hz => by cases hz), fun _ => rfl⟩, ?_, ?_, ?_, ?_, ?_, hk, ?_, hd⟩
  · show 0 ≤ maxLen; decide
  · show 0 ≤ maxLen; decide
  · show 0 ≤ maxLen; decide
  · exact ⟨by show (_ : Int) ≤ 4; decide, by show (4 : Int) ≤ _; decide⟩
  · exact ⟨by show (_ : Int) ≤ -1; decide, by show (-1 : Int) ≤ _; decide⟩
  · exact ⟨by show (_ : Int) ≤ -1; decide, by show (-1 : Int) ≤ _; decide⟩
end Go.Proofs.YtkomeijlljcdgaaGreat
/- instarref03's Bare. -/
namespace Go.Proofs.YtkomeijlljcdgaaGreat
open Go.RowKit
/-- A bare node. -/
def bareD (kind doc : Int) : NodeD := ⟨⟨kind, ⟨#[]⟩, ⟨#[]⟩, ⟨#[]⟩, [], -1, [], -1, -1, doc⟩, none, 0, 0, none, 0, 0⟩
theorem bareD_ok (w : World) {kind doc : Int} (hk : In64 kind) (hd : In64 doc) : NodeOk w (bareD kind doc) := by
  refine ⟨⟨SRow.nil, (fun z hz => by cases hz), fun _ => rfl⟩, ⟨SRow.nil, (fun z hz => by cases hz), fun _ => rfl⟩, ?_, ?_, ?_, hk, inM1, inM1, inM1, hd⟩
  · show 0 ≤ maxLen; decide
  · show 0 ≤ maxLen; decide
  · show 0 ≤ maxLen; decide
end Go.Proofs.YtkomeijlljcdgaaGreat
/- instarref03's New. -/
namespace Go.Proofs.YtkomeijlljcdgaaGreat
open Go.RowKit
theorem bareD_away (g : Nat) (k d : Int) : NodeAway g (bareD k d) := ⟨fun b off hb _ _ => (by cases hb), fun b off hb => (by cases hb)⟩
end Go.Proofs.YtkomeijlljcdgaaGreat
/- Two appends in a region that draws its order: a copy of a forest's nodes, and one node more. -/
namespace Go.Proofs.YtkomeijlljcdgaaGreat
open Go.RowKit
/-- A row of nodes that was made behind W. -/
structure RowOf (W V : World) (v : Value) (n : Nat) (L : List NodeD) : Prop where
  own : V.ownsRow W.heap.size 47 10 v n (L.flatMap encN)
  below : Below W.heap.size W V
/-- A literal of one node that was made behind W. -/
structure LitOf (W V : World) (g : Nat) (y : NodeD) : Prop where
  row : SRow encN 10 V (some ⟨g, 0, none⟩) 1 1 [y]
  ge : W.heap.size ≤ g
  lt : g < V.heap.size
/-- An empty literal that was made behind W. -/
structure NilOf (W V : World) (g : Nat) : Prop where
  own : V.ownsRow W.heap.size 47 10 (.slice (some ⟨g, 0, none⟩) 0 0) 0 (([] : List NodeD).flatMap encN)
theorem RowOf.keep {W V V2 : World} {v : Value} {n : Nat} {L : List NodeD} (h : RowOf W V v n L) (hb : Below V.heap.size V V2) : RowOf W V2 v n L := ⟨own_below h.own hb, h.below.trans (hb.mono h.below.size)⟩
theorem LitOf.keep {W V V2 : World} {g : Nat} {y : NodeD} (h : LitOf W V g y) (hb : Below V.heap.size V V2) : LitOf W V2 g y := ⟨h.row.below hb, h.ge, Nat.lt_of_lt_of_le h.lt hb.size⟩
theorem NilOf.keep {W V V2 : World} {g : Nat} (h : NilOf W V g) (hb : Below V.heap.size V V2) : NilOf W V2 g := ⟨own_below h.own hb⟩
theorem LitOf.new {W V : World} {g : Nat} {y : NodeD} (hb : Below W.heap.size W V) (hg : g = V.heap.size) : LitOf W (V.alloc (nodB y)) g y := by
  subst hg
  exact ⟨own_one V 47 y (encN y).toArray (by simp) rfl, hb.size, by simp⟩
theorem NilOf.new {W V : World} {g : Nat} (hb : Below W.heap.size W V) (hg : g = V.heap.size) : NilOf W (V.alloc (.cells #[] 47)) g := by
  subst hg
  exact ⟨World.ownsRow_lit (base := W.heap.size) (e := 47) (size := 10) V #[] 0 hb.size (Nat.zero_le _) (by simp)⟩
theorem LitOf.grown {W V V2 : World} {g : Nat} {y : NodeD} {row : Option Nat} (h : LitOf W V g y) (hg : V.grownBy V2 row) (hne : some g ≠ row) : LitOf W V2 g y :=
  ⟨h.row.grown hg (fun b off e _ => by
    injection e with e
    injection e with e1
    rw [← e1]
    exact hne), h.ge, Nat.lt_of_lt_of_le h.lt hg.size⟩
theorem Box2.newAt {W : World} {g : Nat} {u v : Value} {t : TypeId} (hg : g = W.heap.size) : Box2 (W.alloc (.cells #[u, v] t)) g u v := by
  subst hg
  exact Box2.new W u v t
/-- A box behind W that the row does not lie in. -/
structure BoxOf (V : World) (g : Nat) (v : Value) : Prop where
  box : Box2 V g (.slice none 0 0) (.int .i64 0)
  ne : v.ownBlock ≠ some g
theorem step_first {P : Program} {W V : World} {ops : Array Oper} {o : Oper} {a : Act} {K : Act → World → Prop} {Q : Exit → Act → World → Prop} {E : Prop} (hgd : o.guard = none) (s x : Operand) (t : TypeId)
    (ho : o.op = .call { callee := .builtin .append, args := #[s, x], argTypes := #[t, t] })
    (i : TypeInfo) (z : Value) (ht : P.underlying t = some (.slice 47)) (hi : P.info? 47 = some i) (hz : i.zero = some z)
    (hsize : i.size = 10) (hby : i.bytes = 136) (hzs : z.cells.size = 10)
    {ad : Option Addr} {len cap : Nat} {L : List NodeD} (hr : NodeRow W ad len cap L) (hl : len ≤ 1000) (g : Nat) (hs : a.eval s = .slice (some ⟨g, 0, none⟩) 0 0) (hb : Below W.heap.size W V) (hn : NilOf W V g) (hx : a.eval x = .slice ad len cap)
    (h : ∀ v' w', RowOf W w' v' len L → V.grownBy w' (some g) → (v'.ownBlock = some g ∨ v'.ownBlock = some V.heap.size) → K (a.put o.dst v') w') :
    if Region.wanted o (yielded ops a.tmps) = true then Oper.wp P o a V K Q else E := by
  refine step_append_rows hgd s x t ho 47 i z 10 136 ht hi hz hsize hby hzs (by decide) W.heap.size _ 0 [] L hs hn.own ad len cap hx (hr.below hb).row (fun x _ => encN_one x) (by unfold maxLen; omega) (by omega) hb.size hr.hnil ?_
  intro v' w' h1 h2 h3
  refine h v' w' ⟨by rwa [Nat.zero_add, List.nil_append] at h1, hb.grown h2 hb.size (fun k e => (hn.own.lt k e).1)⟩ h2 h3
theorem step_second {P : Program} {W V : World} {ops : Array Oper} {o : Oper} {a : Act} {K : Act → World → Prop} {Q : Exit → Act → World → Prop} {E : Prop} (hgd : o.guard = none) (s x : Operand) (t : TypeId)
    (ho : o.op = .call { callee := .builtin .append, args := #[s, x], argTypes := #[t, t] })
    (i : TypeInfo) (z : Value) (ht : P.underlying t = some (.slice 47)) (hi : P.info? 47 = some i) (hz : i.zero = some z)
    (hsize : i.size = 10) (hby : i.bytes = 136) (hzs : z.cells.size = 10)
    (v : Value) (len : Nat) (L : List NodeD) (hl : len ≤ 1000) (hs : a.eval s = v) (hr : RowOf W V v len L) (g : Nat) (y : NodeD) (hx : a.eval x = .slice (some ⟨g, 0, none⟩) 1 1) (hq : LitOf W V g y)
    (h : ∀ g' cap' w', RowOf W w' (.slice (some ⟨g', 0, none⟩) (len + 1) cap') (len + 1) (L ++ [y]) → V.grownBy w' v.ownBlock → (v.ownBlock = some g' ∨ g' = V.heap.size) → K (a.put o.dst (.slice (some ⟨g', 0, none⟩) (len + 1) cap')) w') :
    if Region.wanted o (yielded ops a.tmps) = true then Oper.wp P o a V K Q else E := by
  refine step_append_rows hgd s x t ho 47 i z 10 136 ht hi hz hsize hby hzs (by decide) W.heap.size v len L [y] hs hr.own (some ⟨g, 0, none⟩) 1 1 hx hq.row (fun x _ => encN_one x) (by unfold maxLen; omega) (by omega) hr.below.size (fun h => by cases h) ?_
  intro v' w' h1 h2 h3
  have hv : ∃ g' cap', v' = .slice (some ⟨g', 0, none⟩) (len + 1) cap' := by
    rcases h1.2 with ⟨_, h0⟩ | ⟨g', cap', _, rfl, _⟩
    · omega
    · exact ⟨g', cap', rfl⟩
  obtain ⟨g', cap', rfl⟩ := hv
  exact h g' cap' w' ⟨h1, hr.below.grown h2 hr.below.size (fun k e => (hr.own.lt k e).1)⟩ h2 (by
    rcases h3 with h3 | h3
    · exact .inl h3.symm
    · exact .inr (by injection h3))
end Go.Proofs.YtkomeijlljcdgaaGreat
