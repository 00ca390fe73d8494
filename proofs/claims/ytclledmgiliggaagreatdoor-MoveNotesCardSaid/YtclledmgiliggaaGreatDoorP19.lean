/- Texts joined in build order: ShadeTree ShadeFns ShadeFacts ForestProp ShadeAsk AttrMath2 RegionInv RegionFacts. -/
import Derived.Test.YtclledmgiliggaaGreatDoorP11
import Derived.Test.YtclledmgiliggaaGreatDoorP03
import Derived.Test.YtclledmgiliggaaGreatDoorP12
import Derived.Test.YtclledmgiliggaaGreatDoorP05
import Derived.Test.YtclledmgiliggaaGreatDoorP01
import Derived.Laws.AppendOwn
import Derived.Orders
namespace Go.Proofs.YtclledmgiliggaaGreatDoor
open Go.RowKit
section
variable {n : Nat} {par : Nat → Option Nat} {kids : Nat → List Nat} {rank : Nat → Nat}
theorem Tree.ord_open (T : Tree n par kids rank) {i : Nat} (hi : i < n) : ordN kids (n + 1) i = i :: (kids i).flatMap (ordN kids (n + 1)) := by
  rw [← T.ord_more (n + 1) i hi (by omega)]
  rfl
end
theorem findN_mem {l : List Int} {z : Int} (h : z ∈ l) : findN l z < l.length := List.findIdx_lt_length_of_exists ⟨z, h, by simp⟩
theorem findZ_mem {l : List Int} {z : Int} (h : z ∈ l) : findZ l z = (findN l z : Int) := by unfold findZ; rw [if_pos (findN_mem h)]
theorem right_up {m : Int} {F : List Core} (h : rightF m F = true) : upIn F F.length := by
  have := nodes_eq.1 ((rightF_iff m F).1 h).2.1
  exact fit_up this.1 this.2
theorem next_par {F : List Core} {i : Nat} {x : Core} (hx : F[i]? = some x) (hp : x.parent ≠ -1) : nextUp F (i : Int) = x.parent := by
  rw [nextUp_at hx]
  unfold upC
  rw [if_neg hp]
theorem next_host {F : List Core} {i : Nat} {x : Core} (hx : F[i]? = some x) (hp : x.parent = -1) : nextUp F (i : Int) = x.host := by
  rw [nextUp_at hx]
  unfold upC
  rw [if_pos hp]
theorem right_held {m : Int} {F : List Core} (h : rightF m F = true) {i : Nat} {x : Core} (hx : F[i]? = some x) (hp : x.parent ≠ -1) : x.kind = 1 ∨ x.kind = 2 := by
  have h1 := (nodeOk_iff.1 (((rightF_iff m F).1 h).2.1 i x hx)).2.1
  unfold parOk at h1
  rw [beq_eq_false_iff_ne.2 hp, Bool.false_or, Bool.and_eq_true] at h1
  simpa using h1.1
theorem right_under {m : Int} {F : List Core} (h : rightF m F = true) {i : Nat} {x : Core} (hx : F[i]? = some x) (hu : x.under ≠ -1) : ∃ (s : Nat) (u : Core), x.under = s ∧ F[s]? = some u ∧ u.kind = 4 ∧ u.host = i ∧ u.parent = -1 ∧ x.kind = 1 := by
  have h1 := (nodeOk_iff.1 (((rightF_iff m F).1 h).2.1 i x hx)).2.2.2.2.1
  rw [Bool.and_eq_true] at h1
  have h2 := h1.2
  unfold underOk at h2
  rw [beq_eq_false_iff_ne.2 hu, Bool.false_or, Bool.and_eq_true] at h2
  cases hg : getC F x.under with
  | none => rw [hg] at h2; simp at h2
  | some u =>
    rw [hg] at h2
    simp only [Bool.and_eq_true, beq_iff_eq] at h2
    obtain ⟨e1, e2, e3⟩ := getC_some hg
    refine ⟨x.under.toNat, u, by omega, e3, h2.2.1, h2.2.2, ?_, h2.1⟩
    by_cases hp : u.parent = -1
    · exact hp
    · rcases right_held h e3 hp with k | k
      · rw [k] at h2; exact absurd h2.2.1 (by decide)
      · rw [k] at h2; exact absurd h2.2.1 (by decide)
theorem right_host {m : Int} {F : List Core} (h : rightF m F = true) {k : Nat} {u : Core} (hu : F[k]? = some u) (hh : u.host ≠ -1) : u.kind = 4 ∧ ∃ (i : Nat) (x : Core), u.host = i ∧ F[i]? = some x ∧ x.kind = 1 ∧ x.under = k ∧ x.doc = u.doc := by
  have h1 := (nodeOk_iff.1 (((rightF_iff m F).1 h).2.1 k u hu)).2.2.2.2.1
  rw [Bool.and_eq_true] at h1
  have h2 := h1.1
  unfold hostOk at h2
  by_cases k4 : u.kind = 4
  · rw [if_pos k4] at h2
    cases hg : getC F u.host with
    | none => rw [hg] at h2; simp at h2
    | some x =>
      rw [hg] at h2
      simp only [Bool.and_eq_true, beq_iff_eq] at h2
      obtain ⟨e1, e2, e3⟩ := getC_some hg
      exact ⟨k4, u.host.toNat, x, by omega, e3, h2.1.1, h2.1.2, h2.2⟩
  · rw [if_neg k4] at h2
    exact absurd (beq_iff_eq.1 h2) hh
def parS (F : List Core) (i : Nat) : Option Nat := if nextUp F (i : Int) = -1 then none else some (nextUp F (i : Int)).toNat
def undS (F : List Core) (i : Nat) : List Nat := match F[i]? with | some c => if c.under = -1 then [] else [c.under.toNat] | none => []
def kidsS (F : List Core) (i : Nat) : List Nat := undS F i ++ kidsF F i
theorem parS_some {F : List Core} {k i : Nat} (h : nextUp F (k : Int) = i) : parS F k = some i := by
  unfold parS
  rw [h, if_neg (by omega), Int.toNat_natCast]
theorem parS_none {F : List Core} {k : Nat} (h : nextUp F (k : Int) = -1) : parS F k = none := by
  unfold parS
  rw [if_pos h]
theorem parS_next {m : Int} {F : List Core} (hr : rightF m F = true) {k i : Nat} (hk : k < F.length) (h : parS F k = some i) : nextUp F (k : Int) = i ∧ i < F.length := by
  unfold parS at h
  by_cases he : nextUp F (k : Int) = -1
  · rw [if_pos he] at h; cases h
  · rw [if_neg he] at h
    injection h with h
    rcases right_up hr k (by omega) (by omega) with e | ⟨e1, e2⟩
    · exact absurd e he
    · exact ⟨by omega, by omega⟩
theorem undS_mem {m : Int} {F : List Core} (hr : rightF m F = true) {i k : Nat} (h : k ∈ undS F i) : ∃ x u, F[i]? = some x ∧ x.under = (k : Int) ∧ F[k]? = some u ∧ u.kind = 4 ∧ u.host = i ∧ u.parent = -1 := by
  unfold undS at h
  cases hx : F[i]? with
  | none => rw [hx] at h; simp at h
  | some x =>
    rw [hx] at h
    dsimp only at h
    by_cases hu : x.under = -1
    · rw [if_pos hu] at h; simp at h
    · rw [if_neg hu] at h
      obtain ⟨s, u, e1, e2, e3, e4, e5, _⟩ := right_under hr hx hu
      have : k = s := by
        have := List.mem_singleton.1 h
        omega
      subst this
      exact ⟨x, u, rfl, e1, e2, e3, e4, e5⟩
theorem treeS {m : Int} {F : List Core} (hr : rightF m F = true) : Tree F.length (parS F) (kidsS F) (rankF F) := by
  have T := tree_of_right hr
  have E := ((rightF_iff m F).1 hr).2.2
  have kid : ∀ i k, k ∈ kidsF F i → k < F.length ∧ nextUp F (k : Int) = i := fun i k hk => by
    have hl := T.kid_lt i k hk
    have hp := T.kid_par i k hk
    have hx : F[k]? = some F[k] := List.getElem?_eq_getElem hl
    by_cases he : F[k].parent = -1
    · rw [right_top hx he] at hp; cases hp
    · obtain ⟨p, h1, _, h3⟩ := right_par hr hx he
      rw [h3] at hp
      injection hp with hp
      subst hp
      exact ⟨hl, (next_par hx he).trans h1⟩
  have all : ∀ i k, k ∈ kidsS F i → k < F.length ∧ nextUp F (k : Int) = i := fun i k hk => by
    rcases List.mem_append.1 hk with hk | hk
    · obtain ⟨x, u, hx, _, hu, _, hh, hp⟩ := undS_mem hr hk
      exact ⟨(List.getElem?_eq_some_iff.1 hu).1, (next_host hu hp).trans hh⟩
    · exact kid i k hk
  refine ⟨fun i k hk => (all i k hk).1, fun i k hk => parS_some (all i k hk).2, fun i k hk hp => ?_, fun i => ?_, fun i k hk hp => ?_, fun i hi => rankZ_le (n := F.length) (E i hi)⟩
  · obtain ⟨h1, h2⟩ := parS_next hr hk hp
    refine ⟨h2, List.mem_append.2 ?_⟩
    have hx : F[k]? = some F[k] := List.getElem?_eq_getElem hk
    by_cases he : F[k].parent = -1
    · rw [next_host hx he] at h1
      obtain ⟨_, j, y, e1, e2, _, e4, _⟩ := right_host hr hx (by omega)
      have : j = i := by omega
      subst this
      left
      unfold undS
      rw [e2]
      dsimp only
      rw [if_neg (by omega), e4, Int.toNat_natCast]
      simp
    · rw [next_par hx he] at h1
      obtain ⟨p, e1, _, e3⟩ := right_par hr hx he
      have : p = i := by omega
      subst this
      exact .inr (T.par_kid p k hk e3).2
  · unfold kidsS
    rw [List.nodup_append]
    refine ⟨?_, T.nodup i, fun a ha b hb e => ?_⟩
    · unfold undS
      cases F[i]? with
      | none => simp
      | some c => dsimp only; split <;> simp
    · subst e
      obtain ⟨x, u, hx, _, hu, _, hh, hp⟩ := undS_mem hr ha
      have := T.kid_par i a hb
      rw [right_top hu hp] at this
      cases this
  · obtain ⟨h1, h2⟩ := parS_next hr hk hp
    unfold rankF
    rw [rankZ_up (nxt := nextUp F) (n := F.length) (i := (k : Int)) (by omega) (E k hk) (by rw [h1]; exact E i h2), h1]
def topF (F : List Core) (a : Nat) : Nat := rootN (parS F) (F.length + 1) a
def allF (F : List Core) (a : Nat) : List Nat := ordN (kidsS F) (F.length + 1) a
def overF (F : List Core) (a b : Nat) : Bool := decide (b ∈ allF F a)
def topZ (m : Int) (F : List Core) (n : Int) : Int := if thereF m F n then (topF F n.toNat : Int) else -1
def allI (F : List Core) (z : Int) : List Int := (allF F z.toNat).map Int.ofNat
def overZ (m : Int) (F : List Core) (a b : Int) : Bool := thereF m F a && thereF m F b && overF F a.toNat b.toNat
def connZ (m : Int) (F : List Core) (n : Int) : Bool := thereF m F n && kindK F (topZ m F n) == 0
theorem topZ_eq {m : Int} {F : List Core} (h : rightF m F = true) {a : Nat} (ha : a < F.length) : topZ m F (a : Int) = (topF F a : Nat) := by
  unfold topZ
  rw [thereF_of h ha]
  rfl
theorem overZ_iff {m : Int} {F : List Core} (h : rightF m F = true) {a b : Nat} (ha : a < F.length) (hb : b < F.length) : overZ m F (a : Int) (b : Int) = true ↔ holdsT (parS F) a b := by
  unfold overZ
  rw [thereF_of h ha, thereF_of h hb, Bool.true_and, Bool.true_and]
  unfold overF allF
  rw [decide_eq_true_iff]
  exact (treeS h).mem_ord _ _ ha (by omega) _ hb
theorem topF_lt {m : Int} {F : List Core} (h : rightF m F = true) {a : Nat} (ha : a < F.length) : topF F a < F.length := (treeS h).root_lt ha
theorem allI_open {m : Int} {F : List Core} (h : rightF m F = true) {a : Nat} {x : Core} (hx : F[a]? = some x) : allI F (a : Int) = (a : Int) :: ((if x.under = -1 then [] else allI F x.under) ++ x.kids.flatMap (allI F)) := by
  have T := treeS h
  have ha := (List.getElem?_eq_some_iff.1 hx).1
  unfold allI allF
  rw [Int.toNat_natCast, T.ord_open ha, List.map_cons]
  congr 1
  have hk : kidsF F a = x.kids.map Int.toNat := by unfold kidsF; rw [hx]
  rw [show kidsS F a = undS F a ++ kidsF F a from rfl, List.flatMap_append, List.map_append, hk]
  congr 1
  · unfold undS
    rw [hx]
    dsimp only
    by_cases hu : x.under = -1
    · rw [if_pos hu, if_pos hu]; rfl
    · rw [if_neg hu, if_neg hu]; simp
  · rw [List.flatMap_map, List.map_flatMap]
end Go.Proofs.YtclledmgiliggaaGreatDoor
namespace Go.Proofs.YtclledmgiliggaaGreatDoor
open Go.RowKit
def withU (x : Core) (u : Int) : Core := ⟨x.kind, x.name, x.is, x.data, x.attrs, x.parent, x.kids, x.host, u, x.doc⟩
end Go.Proofs.YtclledmgiliggaaGreatDoor
namespace Go.Proofs.YtclledmgiliggaaGreatDoor
open Go.RowKit
theorem mem_allI {F : List Core} {z : Int} {n : Nat} : (n : Int) ∈ allI F z ↔ n ∈ allF F z.toNat := by
  unfold allI
  constructor
  · intro hm
    obtain ⟨k, hk, e⟩ := List.mem_map.1 hm
    rwa [Int.ofNat.inj e] at hk
  · intro hm
    exact List.mem_map.2 ⟨n, hm, rfl⟩
theorem allI_nodup {m : Int} {F : List Core} (h : rightF m F = true) {x : Nat} (hx : x < F.length) : (allI F x).Nodup := by
  have hN : (allF F x).Nodup := (treeS h).ord_nodup _ _ hx (by omega)
  unfold allI
  rw [Int.toNat_natCast]
  exact List.Pairwise.map Int.ofNat (fun a b hab e => hab (Int.ofNat.inj e)) hN
theorem allI_num {m : Int} {F : List Core} (h : rightF m F = true) {x : Nat} (hx : x < F.length) {z : Int} (hz : z ∈ allI F x) : ∃ n : Nat, z = (n : Int) ∧ n < F.length := by
  unfold allI at hz
  rw [Int.toNat_natCast] at hz
  obtain ⟨n, hn, rfl⟩ := List.mem_map.1 hz
  exact ⟨n, rfl, (treeS h).ord_lt _ _ hx n hn⟩
theorem allI_len {m : Int} {F : List Core} (h : rightF m F = true) {x : Nat} (hx : x < F.length) : (allI F x).length ≤ F.length := by
  unfold allI
  rw [Int.toNat_natCast, List.length_map]
  exact nodup_sub _ _ ((treeS h).ord_nodup _ _ hx (by omega)) ((treeS h).ord_lt _ _ hx)
theorem hasZ_all {m : Int} {F : List Core} (h : rightF m F = true) {x n : Nat} (hx : x < F.length) (hn : n < F.length) : hasZ (allI F x) (n : Int) = if overZ m F x n then 1 else 0 := by
  rw [hasZ_nodup (allI_nodup h hx)]
  have e2 : overZ m F x n = decide (n ∈ allF F x) := by
    unfold overZ
    rw [thereF_of h hx, thereF_of h hn]
    rfl
  have e1 : ((n : Int) ∈ allI F x) ↔ n ∈ allF F x := by rw [mem_allI, Int.toNat_natCast]
  rw [e2]
  by_cases hm : n ∈ allF F x
  · rw [if_pos (e1.2 hm), decide_eq_true hm, if_pos rfl]
  · rw [if_neg (fun g => hm (e1.1 g)), decide_eq_false hm, if_neg (by decide)]
end Go.Proofs.YtclledmgiliggaaGreatDoor
namespace Go.Proofs.YtclledmgiliggaaGreatDoor
open Go.RowKit
structure NodeP (F : List Core) (i : Nat) (x : Core) : Prop where
  kind : 0 ≤ x.kind ∧ x.kind ≤ 4
  doc : ∃ d, getC F x.doc = some d ∧ d.kind = 0
  own : x.kind = 0 → x.doc = (i : Int)
  par : x.parent = -1 ∨ ((x.kind = 1 ∨ x.kind = 2) ∧ ∃ p, getC F x.parent = some p ∧ p.kind ≠ 2 ∧ (i : Int) ∈ p.kids)
  once : x.kids.Nodup
  kids : ∀ k ∈ x.kids, ∃ c, getC F k = some c ∧ (c.kind = 1 ∨ c.kind = 2) ∧ c.parent = (i : Int) ∧ c.doc = x.doc
  leaf : x.kind = 2 → x.kids = []
  root : x.kind = 0 → x.kids.length ≤ 1 ∧ ∀ k ∈ x.kids, kindK F k = 1
  host : x.kind = 4 → ∃ h, getC F x.host = some h ∧ h.kind = 1 ∧ h.under = (i : Int) ∧ h.doc = x.doc
  free : x.kind ≠ 4 → x.host = -1
  under : x.under = -1 ∨ (x.kind = 1 ∧ ∃ u, getC F x.under = some u ∧ u.kind = 4 ∧ u.host = (i : Int))
  text : textOk x = true
theorem shapeOk_iff {F : List Core} {x : Core} : shapeOk F x = true ↔ (x.kind = 2 → x.kids = []) ∧ (x.kind = 0 → elemsK F x ≤ 1 ∧ x.kids.length ≤ elemsK F x) := by
  unfold shapeOk
  simp only [Bool.and_eq_true, Bool.not_eq_true', Bool.and_eq_false_iff, beq_eq_false_iff_ne, decide_eq_false_iff_not, Bool.or_eq_false_iff]
  constructor
  · rintro ⟨h1, h2⟩
    refine ⟨fun e => ?_, fun e => ?_⟩
    · rcases h1 with h | h
      · exact absurd e h
      · exact List.eq_nil_of_length_eq_zero (by omega)
    · rcases h2 with h | h
      · exact absurd e h
      · omega
  · rintro ⟨h1, h2⟩
    refine ⟨?_, ?_⟩
    · by_cases e : x.kind = 2
      · right; rw [h1 e]; simp
      · exact .inl e
    · by_cases e : x.kind = 0
      · right; have := h2 e; omega
      · exact .inl e
theorem nodesP {F : List Core} : (∀ (i : Nat) x, F[i]? = some x → nodeOk F i x = true) ↔ ∀ (i : Nat) x, F[i]? = some x → NodeP F i x := by
  constructor
  · intro H i x hx
    obtain ⟨p1, p2, p3, p4, p5, p6⟩ := nodeOk_iff.1 (H i x hx)
    rw [Bool.and_eq_true] at p5
    unfold docOk at p1
    simp only [Bool.and_eq_true, Bool.or_eq_true, decide_eq_true_eq, bne_iff_ne, beq_iff_eq] at p1
    have hkid : ∀ k ∈ x.kids, ∃ c, getC F k = some c ∧ (c.kind = 1 ∨ c.kind = 2) ∧ c.parent = (i : Int) ∧ c.doc = x.doc := fun k hk => kidB_iff.1 (kidOk_iff.1 (p3 k hk)).2
    obtain ⟨s1, s2⟩ := shapeOk_iff.1 p4
    refine ⟨p1.1.1, ?_, fun e => p1.2.resolve_left (fun h => h e), ?_, nodup_of_has (fun z hz => (kidOk_iff.1 (p3 z hz)).1), hkid, s1, fun e => ?_, fun e => ?_, fun e => ?_, ?_, p6⟩
    · have h := p1.1.2
      cases hg : getC F x.doc with
      | none => rw [hg] at h; cases h
      | some d => rw [hg] at h; exact ⟨d, rfl, beq_iff_eq.1 h⟩
    · unfold parOk at p2
      rw [Bool.or_eq_true, beq_iff_eq] at p2
      rcases p2 with h | h
      · exact .inl h
      · right
        rw [Bool.and_eq_true, Bool.or_eq_true, beq_iff_eq, beq_iff_eq] at h
        refine ⟨h.1, ?_⟩
        cases hg : getC F x.parent with
        | none => rw [hg] at h; exact absurd h.2 (by simp)
        | some d =>
          rw [hg] at h
          have h2 := h.2
          dsimp only at h2
          rw [Bool.and_eq_true, bne_iff_ne, beq_iff_eq] at h2
          exact ⟨d, rfl, h2.1, hasZ_mem h2.2⟩
    · obtain ⟨h1, h2⟩ := s2 e
      refine ⟨by omega, fun k hk => ?_⟩
      unfold elemsK at h2
      have hc : x.kids.countP (fun k => kindK F k == 1) = x.kids.length := Nat.le_antisymm List.countP_le_length h2
      exact beq_iff_eq.1 (List.countP_eq_length.1 hc k hk)
    · have h := p5.1
      unfold hostOk at h
      rw [if_pos e] at h
      cases hg : getC F x.host with
      | none => rw [hg] at h; cases h
      | some d =>
        rw [hg] at h
        simp only [Bool.and_eq_true, beq_iff_eq] at h
        exact ⟨d, rfl, h.1.1, h.1.2, h.2⟩
    · have h := p5.1
      unfold hostOk at h
      rw [if_neg e] at h
      exact beq_iff_eq.1 h
    · have h := p5.2
      unfold underOk at h
      rw [Bool.or_eq_true, beq_iff_eq, Bool.and_eq_true, beq_iff_eq] at h
      rcases h with h | h
      · exact .inl h
      · right
        refine ⟨h.1, ?_⟩
        have h2 := h.2
        cases hg : getC F x.under with
        | none => rw [hg] at h2; cases h2
        | some d =>
          rw [hg] at h2
          simp only [Bool.and_eq_true, beq_iff_eq] at h2
          exact ⟨d, rfl, h2.1, h2.2⟩
  · intro H i x hx
    have h := H i x hx
    have hone : ∀ (l : List Int) (z : Int), l.Nodup → z ∈ l → hasZ l z = 1 := fun l z hn hz => by rw [hasZ_nodup hn, if_pos hz]
    refine nodeOk_iff.2 ⟨?_, ?_, fun k hk => kidOk_iff.2 ⟨hone _ _ h.once hk, kidB_iff.2 (h.kids k hk)⟩, shapeOk_iff.2 ⟨h.leaf, fun e => ?_⟩, ?_, h.text⟩
    · unfold docOk
      obtain ⟨d, h1, h2⟩ := h.doc
      rw [h1]
      simp only [Bool.and_eq_true, Bool.or_eq_true, decide_eq_true_eq, bne_iff_ne, beq_iff_eq]
      exact ⟨⟨h.kind, h2⟩, by by_cases e : x.kind = 0; exact .inr (h.own e); exact .inl e⟩
    · unfold parOk
      rw [Bool.or_eq_true, beq_iff_eq]
      rcases h.par with e | ⟨e, p, h1, h2, h3⟩
      · exact .inl e
      · right
        rw [h1, Bool.and_eq_true, Bool.or_eq_true, beq_iff_eq, beq_iff_eq]
        refine ⟨e, ?_⟩
        obtain ⟨g1, g2, g3⟩ := getC_some h1
        have := hone p.kids i (H _ p g3).once h3
        show (p.kind != 2 && hasZ p.kids i == 1) = true
        rw [this, bne_iff_ne.2 h2]
        rfl
    · obtain ⟨h1, h2⟩ := h.root e
      have : elemsK F x = x.kids.length := by
        unfold elemsK
        exact List.countP_eq_length.2 (fun k hk => beq_iff_eq.2 (h2 k hk))
      omega
    · rw [Bool.and_eq_true]
      constructor
      · unfold hostOk
        by_cases e : x.kind = 4
        · rw [if_pos e]
          obtain ⟨d, h1, h2, h3, h4⟩ := h.host e
          rw [h1]
          simp only [Bool.and_eq_true, beq_iff_eq]
          exact ⟨⟨h2, h3⟩, h4⟩
        · rw [if_neg e]
          exact beq_iff_eq.2 (h.free e)
      · unfold underOk
        rw [Bool.or_eq_true, beq_iff_eq]
        rcases h.under with e | ⟨e, u, h1, h2, h3⟩
        · exact .inl e
        · right
          rw [h1, Bool.and_eq_true]
          simp only [Bool.and_eq_true, beq_iff_eq]
          exact ⟨e, h2, h3⟩
theorem right_node {m : Int} {F : List Core} (h : rightF m F = true) {i : Nat} {x : Core} (hx : F[i]? = some x) : NodeP F i x := nodesP.1 ((rightF_iff m F).1 h).2.1 i x hx
theorem ends_rank {nxt : Int → Int} {n : Nat} (r : Nat → Nat) (h : ∀ i : Nat, i < n → nxt i = -1 ∨ ∃ p : Nat, nxt i = p ∧ p < n ∧ r p < r i) : ∀ (k i : Nat), i < n → r i ≤ k → ∃ s, endsZ nxt s (i : Int) = true
  | 0, i, hi, hk => by
    rcases h i hi with e | ⟨p, _, _, e⟩
    · exact ⟨1, by rw [endsZ_step (by omega), e]; rfl⟩
    · omega
  | k + 1, i, hi, hk => by
    rcases h i hi with e | ⟨p, e1, e2, e3⟩
    · exact ⟨1, by rw [endsZ_step (by omega), e]; rfl⟩
    · obtain ⟨s, hs⟩ := ends_rank r h k p e2 (by omega)
      exact ⟨s + 1, by rw [endsZ_step (by omega), e1]; exact hs⟩
theorem right_of {m : Int} {F : List Core} (h1 : 1 ≤ m) (h2 : m ≤ 400) (h3 : (F.length : Int) ≤ m) (h4 : headDoc F = true) (h5 : ∀ (i : Nat) x, F[i]? = some x → NodeP F i x) (r : Nat → Nat) (h6 : ∀ i : Nat, i < F.length → nextUp F i = -1 ∨ ∃ p : Nat, nextUp F i = p ∧ p < F.length ∧ r p < r i) : rightF m F = true := by
  refine (rightF_iff m F).2 ⟨⟨h1, h2, h3, h4⟩, nodesP.2 h5, fun i hi => ?_⟩
  obtain ⟨s, hs⟩ := ends_rank r h6 (r i) i hi (Nat.le_refl _)
  exact endsZ_le (Nat.le_succ _) (ends_small (n := F.length) (fun z h0 h1 => by
    obtain ⟨j, rfl⟩ : ∃ j : Nat, z = j := ⟨z.toNat, by omega⟩
    rcases h6 j (by omega) with e | ⟨p, e1, e2, _⟩
    · exact .inl e
    · exact .inr ⟨by omega, by omega⟩) (.inr ⟨by omega, by omega⟩) hs)
theorem rank_next {m : Int} {F : List Core} (h : rightF m F = true) {i : Nat} (hi : i < F.length) : nextUp F i = -1 ∨ ∃ p : Nat, nextUp F i = p ∧ p < F.length ∧ rankF F p < rankF F i := by
  by_cases e : nextUp F (i : Int) = -1
  · exact .inl e
  · right
    rcases right_up h i (by omega) (by omega) with e2 | ⟨e2, e3⟩
    · exact absurd e2 e
    · have hp : nextUp F (i : Int) = ((nextUp F (i : Int)).toNat : Int) := by omega
      refine ⟨_, hp, by omega, ?_⟩
      have := (treeS h).rank_up _ i hi (parS_some hp)
      omega
end Go.Proofs.YtclledmgiliggaaGreatDoor
namespace Go.Proofs.YtclledmgiliggaaGreatDoor
open Go.RowKit
set_option maxHeartbeats 4000000 in
set_option maxRecDepth 100000 in
theorem shknows_any (a : Option Addr) (len cap : Nat) (m : Int) (L : List NodeD) (b : Option Addr) (ln cn : Nat) (l : List Int) (w : World) (h : NodeRow w a len cap L) (hm : In64 m) (hs : smallF L) (hn : IntRow w b ln cn l) :
    Calls Tryz.prog 86 #[forV a len cap m, .slice b ln cn] w fun e w' => e = .returned (.bool (knowsB m (coreL L) l)) ∧ Below w.heap.size w w' := by
  have HL := Lib.hid h.hlen
  have hlen := h.len64
  have HNL := Lib.hid hn.hlen
  have hln := hn.len64
  have BX := Lib.hid (Box.start (m := m) h)
  have NR := Lib.hid (hn.below (below_box w (forB a len cap m)))
  have z0 := BX.out.c0
  have z1 := BX.out.c1
  have CR : Hid (∀ W, NodeRow W a len cap L → Calls Tryz.prog 20 #[forV a len cap m] W fun e w' => e = .returned (.bool (rightF m (coreL L))) ∧ Below W.heap.size W w') := Lib.hid (fun W h => rightF_any a len cap m L W h hm hs)
  clear h hm hs hn
  go_enter Tryz.func86, Tryz.ntmps86
  go_wp2
  go_loop [9] (fun i => ∃ k : Nat, k ≤ ln ∧ i = .int .i64 k ∧ Hid (∀ (j : Nat) z, j < k → l[j]? = some z → inB (coreL L).length z = true)) (fun i => ln - (intOf i).toNat)
  case atStart => exact ⟨0, Nat.zero_le _, rfl, Lib.hid (fun j z hj => absurd hj (by omega))⟩
  case round =>
    obtain ⟨k, hk, rfl, HA⟩ := hrel
    by_cases hlt : k < ln
    · obtain ⟨b2, off2, z, rfl, hb2, hz, hcz, hin⟩ := NR.out.get hlt
      have STOP : Hid (inB (coreL L).length z = false → knowsB m (coreL L) l = false) := Lib.hid (fun hq => by
        unfold knowsB
        have : l.all (inB (coreL L).length) = false := by rw [List.all_eq_false]; exact ⟨z, List.mem_of_getElem? hz, by simp [hq]⟩
        rw [this]
        rfl)
      by_cases q1 : z < 0
      · have HR : Hid (knowsB m (coreL L) l = false) := Lib.hid (STOP.out (by unfold inB; rw [decide_eq_false (by omega)]; rfl))
        clear hz
        go_wp2
        go_ret
        exact ⟨ret_bool HR.out.symm, BX.out.below⟩
      by_cases q2 : (len : Int) ≤ z
      · have HR : Hid (knowsB m (coreL L) l = false) := Lib.hid (STOP.out (by unfold inB; rw [decide_eq_false (show ¬ z < ((coreL L).length : Int) by rw [coreL_len, HL.out]; omega), Bool.and_false]))
        clear hz
        go_wp2
        go_ret
        exact ⟨ret_bool HR.out.symm, BX.out.below⟩
      have HA2 : Hid (∀ (j : Nat) z, j < k + 1 → l[j]? = some z → inB (coreL L).length z = true) := Lib.hid (fun j y hj hy => by
        by_cases e : j = k
        · subst e
          rw [hz] at hy
          rw [← Option.some.inj hy]
          unfold inB
          rw [decide_eq_true (by omega), decide_eq_true (by rw [coreL_len, HL.out]; omega)]
          rfl
        · exact HA.out j y (by omega) hy)
      clear hz
      go_wp2
      go_round
      case rel => exact ⟨k + 1, by omega, by go_num, HA2⟩
      case measure => simp [intOf]; omega
    · have HR : Hid (knowsB m (coreL L) l = rightF m (coreL L)) := Lib.hid (by
        unfold knowsB
        have : l.all (inB (coreL L).length) = true := by
          rw [List.all_eq_true]
          intro z hz
          obtain ⟨j, hj, he⟩ := List.mem_iff_getElem.1 hz
          exact HA.out j z (by rw [HNL.out] at hj; omega) (by rw [List.getElem?_eq_getElem hj, he])
        rw [this]
        rfl)
      clear HA
      go_wp2_with (go_at_call 20; (refine (CR.out _ BX.out.row).mono ?_); rintro e w1 ⟨rfl, hb⟩; have BX := Lib.hid (BX.out.keep hb); clear hb)
      go_ret
      exact ⟨ret_bool HR.out.symm, BX.out.below⟩
theorem up_at {m : Int} {F : List Core} (hr : rightF m F = true) {c : Nat} {x : Core} (hx : F[c]? = some x) : (upC x = -1 ∧ parS F c = none) ∨ ∃ p : Nat, upC x = p ∧ p < F.length ∧ parS F c = some p := by
  have hc := (List.getElem?_eq_some_iff.1 hx).1
  by_cases he : nextUp F (c : Int) = -1
  · exact .inl ⟨by rw [← nextUp_at hx]; exact he, parS_none he⟩
  · rcases right_up hr c (by omega) (by omega) with h | ⟨h1, h2⟩
    · exact absurd h he
    · exact .inr ⟨(nextUp F (c : Int)).toNat, by rw [← nextUp_at hx]; omega, by omega, parS_some (by omega)⟩
theorem connZ_eq' {m : Int} {F : List Core} (h : rightF m F = true) {a : Nat} (ha : a < F.length) : connZ m F (a : Int) = (kindK F (topZ m F a) == 0) := by
  unfold connZ
  rw [thereF_of h ha, Bool.true_and]
set_option maxHeartbeats 8000000 in
set_option maxRecDepth 100000 in
theorem wtop_any (a : Option Addr) (len cap : Nat) (m : Int) (L : List NodeD) (k : Nat) (w : World) (h : NodeRow w a len cap L) (hr : rightF m (coreL L) = true) (hk : k < len) :
    Calls Tryz.prog 124 #[.slice a len cap, .int .i64 k] w fun e w' => e = .returned (.int .i64 (topF (coreL L) k : Nat)) ∧ Below w.heap.size w w' := by
  have HCL : Hid ((coreL L).length = len) := Lib.hid (by rw [coreL_len, h.hlen])
  have hlen := h.len64
  have NR := Lib.hid h
  have TR := Lib.hid (treeS hr)
  have HRT := Lib.hid hr
  clear h hr
  go_enter Tryz.func124, Tryz.ntmps124
  go_wp2
  go_loopw [1] (fun i wr => ∃ c : Nat, c < len ∧ i = .int .i64 c ∧ Hid (topF (coreL L) c = topF (coreL L) k) ∧ Hid (Below w.heap.size w wr)) (fun i _ => rankF (coreL L) (intOf i).toNat)
  case atStart => exact ⟨k, hk, rfl, Lib.hid rfl, Lib.hid (Below.refl _ _)⟩
  case round =>
    obtain ⟨c, hc, rfl, HE, HBW⟩ := hrel
    obtain ⟨b, off, x, hab, hb, hx, hat, hok⟩ := (NR.out.below HBW.out).get hc
    have HAT := Lib.hid hat
    have HBL := Lib.hid hb
    obtain ⟨c0, c1, c2, c3, c4, c5, c6, c7, c8, c9⟩ := hat
    have hxc := coreL_get hx
    subst hab
    have hcl : c < (coreL L).length := by rw [HCL.out]; exact hc
    rcases up_at HRT.out hxc with ⟨hu, hp⟩ | ⟨p, hu, hpl, hp⟩
    · have UP : Hid (∀ W, Calls Tryz.prog 88 #[nodVal x] W fun e w' => e = .returned (.int .i64 (-1)) ∧ Below W.heap.size W w') := Lib.hid (fun W => by
        have := up_any x W
        rwa [hu] at this)
      have HQ : Hid (topF (coreL L) k = c) := Lib.hid (by
        rw [← HE.out]
        exact rootN_none hp)
      clear hxc hx hok hp hu hb
      go_wp2_with (go_at_call 88; (refine (UP.out _).mono ?_); rintro e w2 ⟨rfl, hb⟩; have HBW := Lib.hid (HBW.out.trans (hb.mono HBW.out.size)); have HAT := Lib.hid (HAT.out.below HBL.out hb); have HBL := Lib.hid (Nat.lt_of_lt_of_le HBL.out hb.size); clear c0 c1 c2 c3 c4 c5 c6 c7 c8 c9; obtain ⟨c0, c1, c2, c3, c4, c5, c6, c7, c8, c9⟩ := HAT.out; clear hb)
      go_ret
      exact ⟨ret_int (by rw [HQ.out]), HBW.out⟩
    · have UP : Hid (∀ W, Calls Tryz.prog 88 #[nodVal x] W fun e w' => e = .returned (.int .i64 (p : Int)) ∧ Below W.heap.size W w') := Lib.hid (fun W => by
        have := up_any x W
        rwa [hu] at this)
      have HRK := Lib.hid (TR.out.rank_up _ c hcl hp)
      have HE2 : Hid (topF (coreL L) p = topF (coreL L) k) := Lib.hid (by
        rw [← HE.out]
        exact TR.out.root_held hcl (by omega) (holds_par hp))
      rw [HCL.out] at hpl
      have hne : ((p : Int) != -1) = true := bne_iff_ne.2 (by omega)
      clear hxc hx hok hp hu hb
      go_wp2_with (go_at_call 88; (refine (UP.out _).mono ?_); rintro e w2 ⟨rfl, hb⟩; have HBW := Lib.hid (HBW.out.trans (hb.mono HBW.out.size)); have HAT := Lib.hid (HAT.out.below HBL.out hb); have HBL := Lib.hid (Nat.lt_of_lt_of_le HBL.out hb.size); clear c0 c1 c2 c3 c4 c5 c6 c7 c8 c9; obtain ⟨c0, c1, c2, c3, c4, c5, c6, c7, c8, c9⟩ := HAT.out; clear hb)
      go_roundw
      case rel => exact ⟨p, hpl, rfl, HE2, HBW⟩
      case measure =>
        have := HRK.out
        unfold rankF at this ⊢
        simp [intOf]
        omega
set_option maxHeartbeats 8000000 in
set_option maxRecDepth 100000 in
theorem topFn_any (a : Option Addr) (len cap : Nat) (m : Int) (L : List NodeD) (n : Int) (w : World) (h : NodeRow w a len cap L) (hm : In64 m) (hn : In64 n) (hs : smallF L) :
    Calls Tryz.prog 69 #[forV a len cap m, .int .i64 n] w fun e w' => e = .returned (.int .i64 (topZ m (coreL L) n)) ∧ Below w.heap.size w w' := by
  have HCL : Hid ((coreL L).length = len) := Lib.hid (by rw [coreL_len, h.hlen])
  have hlen := h.len64
  have BX := Lib.hid ((Box.start (m := m) h).keep (below_box _ (.cells #[.int .i64 n] 3)))
  have NB := Lib.hid (lit_one (w.alloc (forB a len cap m)) 3 n hn)
  have CK : Hid (∀ W b, NodeRow W a len cap L → IntRow W b 1 1 [n] → Calls Tryz.prog 86 #[forV a len cap m, .slice b 1 1] W fun e w' => e = .returned (.bool (thereF m (coreL L) n)) ∧ Below W.heap.size W w') := Lib.hid (fun W b h1 h2 => by
    rw [← knowsB_one]
    exact shknows_any a len cap m L b 1 1 [n] W h1 hm hs h2)
  simp only [World.size_alloc] at NB
  have z0 := BX.out.c0
  have z1 := BX.out.c1
  clear h hm hs hn
  cases q : thereF m (coreL L) n with
  | false =>
    rw [q] at CK
    have HR : Hid (topZ m (coreL L) n = -1) := Lib.hid (by unfold topZ; rw [q]; rfl)
    clear q
    go_enter Tryz.func69, Tryz.ntmps69
    go_wp2_with (go_at_call 86; ((with_reducible refine (CK.out _ _ BX.out.row NB.out).mono ?_); rintro e w1 ⟨rfl, hb⟩; have BX := Lib.hid (BX.out.keep hb); have z0 := BX.out.c0; have z1 := BX.out.c1; clear hb))
    go_ret
    exact ⟨ret_int HR.out.symm, BX.out.below⟩
  | true =>
    rw [q] at CK
    obtain ⟨hr, k, rfl, hk⟩ := there_nat q
    have HR : Hid (topZ m (coreL L) k = (topF (coreL L) k : Nat)) := Lib.hid (topZ_eq hr hk)
    rw [HCL.out] at hk
    have CT : Hid (∀ W, NodeRow W a len cap L → Calls Tryz.prog 124 #[.slice a len cap, .int .i64 k] W fun e w' => e = .returned (.int .i64 (topF (coreL L) k : Nat)) ∧ Below W.heap.size W w') := Lib.hid (fun W h1 => wtop_any a len cap m L k W h1 hr hk)
    clear q hr
    go_enter Tryz.func69, Tryz.ntmps69
    go_wp2_with (first
      | (go_at_call 86; ((with_reducible refine (CK.out _ _ BX.out.row NB.out).mono ?_); rintro e w1 ⟨rfl, hb⟩; have BX := Lib.hid (BX.out.keep hb); have z0 := BX.out.c0; have z1 := BX.out.c1; clear hb))
      | (go_at_call 124; ((with_reducible refine (CT.out _ BX.out.row).mono ?_); rintro e w2 ⟨rfl, hb⟩; have BX := Lib.hid (BX.out.keep hb); clear hb)))
    go_ret
    exact ⟨ret_int HR.out.symm, BX.out.below⟩
set_option maxHeartbeats 8000000 in
set_option maxRecDepth 100000 in
theorem overFn_any (a : Option Addr) (len cap : Nat) (m : Int) (L : List NodeD) (x y : Int) (w : World) (h : NodeRow w a len cap L) (hm : In64 m) (hx : In64 x) (hy : In64 y) (hs : smallF L) :
    Calls Tryz.prog 43 #[forV a len cap m, .int .i64 x, .int .i64 y] w fun e w' => e = .returned (.bool (overZ m (coreL L) x y)) ∧ Below w.heap.size w w' := by
  have HCL : Hid ((coreL L).length = len) := Lib.hid (by rw [coreL_len, h.hlen])
  have hlen := h.len64
  have BX := Lib.hid ((Box.start (m := m) h).keep (below_box _ (.cells #[.int .i64 x, .int .i64 y] 3)))
  have NB := Lib.hid (lit_two (w.alloc (forB a len cap m)) 3 x y hx hy)
  have CK : Hid (∀ W b, NodeRow W a len cap L → IntRow W b 2 2 [x, y] → Calls Tryz.prog 86 #[forV a len cap m, .slice b 2 2] W fun e w' => e = .returned (.bool (thereF m (coreL L) x && thereF m (coreL L) y)) ∧ Below W.heap.size W w') := Lib.hid (fun W b h1 h2 => by
    rw [← knowsB_two]
    exact shknows_any a len cap m L b 2 2 [x, y] W h1 hm hs h2)
  simp only [World.size_alloc] at NB
  have z0 := BX.out.c0
  have z1 := BX.out.c1
  clear h hm hs hx hy
  cases q : (thereF m (coreL L) x && thereF m (coreL L) y) with
  | false =>
    rw [q] at CK
    have HR : Hid (overZ m (coreL L) x y = false) := Lib.hid (by unfold overZ; rw [q]; rfl)
    clear q
    go_enter Tryz.func43, Tryz.ntmps43
    go_wp2_with (go_at_call 86; ((with_reducible refine (CK.out _ _ BX.out.row NB.out).mono ?_); rintro e w1 ⟨rfl, hb⟩; have BX := Lib.hid (BX.out.keep hb); have z0 := BX.out.c0; have z1 := BX.out.c1; clear hb))
    go_ret
    exact ⟨ret_bool HR.out.symm, BX.out.below⟩
  | true =>
    rw [q] at CK
    rw [Bool.and_eq_true] at q
    obtain ⟨hr, X, rfl, hX⟩ := there_nat q.1
    obtain ⟨-, Y, rfl, hY⟩ := there_nat q.2
    have HI := Lib.hid (overZ_iff hr hX hY)
    have HRT := Lib.hid hr
    rw [HCL.out] at hX hY
    have TR := Lib.hid (treeS hr)
    clear q hr
    go_enter Tryz.func43, Tryz.ntmps43
    go_wp2_with (go_at_call 86; ((with_reducible refine (CK.out _ _ BX.out.row NB.out).mono ?_); rintro e w1 ⟨rfl, hb⟩; have BX := Lib.hid (BX.out.keep hb); have z0 := BX.out.c0; have z1 := BX.out.c1; clear hb))
    go_loopw [2] (fun i wr => ((i = .int .i64 (-1) ∧ Hid (¬ holdsT (parS (coreL L)) X Y)) ∨ ∃ c : Nat, c < len ∧ i = .int .i64 c ∧ Hid (holdsT (parS (coreL L)) X c ↔ holdsT (parS (coreL L)) X Y)) ∧ Hid (Box w wr w.heap.size a len cap m L (coreL L))) (fun i _ => if intOf i = -1 then 0 else rankF (coreL L) (intOf i).toNat + 1)
    case atStart => exact ⟨.inr ⟨Y, hY, rfl, Lib.hid Iff.rfl⟩, BX⟩
    case round =>
      clear BX z0 z1
      obtain ⟨hrel, BX⟩ := hrel
      have z0 := BX.out.c0
      have z1 := BX.out.c1
      rcases hrel with ⟨rfl, HN⟩ | ⟨c, hc, rfl, HE⟩
      · have HR : Hid (overZ m (coreL L) X Y = false) := Lib.hid (by
          cases hq : overZ m (coreL L) X Y with
          | false => rfl
          | true => exact absurd (HI.out.1 hq) HN.out)
        have hne : ((-1 : Int) != (X : Int)) = true := bne_iff_ne.2 (by omega)
        have hne2 : ((-1 : Int) == (X : Int)) = false := beq_eq_false_iff_ne.2 (by omega)
        go_wp2
        go_ret
        exact ⟨ret_bool HR.out.symm, BX.out.below⟩
      · by_cases he : c = X
        · have HR : Hid (overZ m (coreL L) X Y = true) := Lib.hid (HI.out.2 (HE.out.1 (by rw [he]; exact holds_refl X)))
          have e1 : ((c : Int) != (X : Int)) = false := by rw [he]; simp
          have e2 : ((c : Int) == (X : Int)) = true := by rw [he]; simp
          clear he
          go_wp2
          go_ret
          exact ⟨ret_bool HR.out.symm, BX.out.below⟩
        · have hne : ((c : Int) != (X : Int)) = true := bne_iff_ne.2 (by omega)
          have hne2 : ((c : Int) != -1) = true := bne_iff_ne.2 (by omega)
          obtain ⟨b, off, nx, hab, hb, hx, hat, hok⟩ := BX.out.row.get hc
          have HAT := Lib.hid hat
          have HBL := Lib.hid hb
          obtain ⟨c0, c1, c2, c3, c4, c5, c6, c7, c8, c9⟩ := hat
          have hxc := coreL_get hx
          subst hab
          have hcl : c < (coreL L).length := by rw [HCL.out]; exact hc
          rcases up_at HRT.out hxc with ⟨hu, hp⟩ | ⟨p, hu, hpl, hp⟩
          · have UP : Hid (∀ W, Calls Tryz.prog 88 #[nodVal nx] W fun e w' => e = .returned (.int .i64 (-1)) ∧ Below W.heap.size W w') := Lib.hid (fun W => by
              have := up_any nx W
              rwa [hu] at this)
            have HN : Hid (¬ holdsT (parS (coreL L)) X Y) := Lib.hid (fun ht => by
              rcases holds_up (HE.out.2 ht) with h | ⟨p, h1, _⟩
              · exact he h.symm
              · rw [hp] at h1
                cases h1)
            clear hxc hx hok hp hu hb he
            go_wp2_with (go_at_call 88; (refine (UP.out _).mono ?_); rintro e w2 ⟨rfl, hb⟩; have BX := Lib.hid (BX.out.keep hb); have HAT := Lib.hid (HAT.out.below HBL.out hb); have HBL := Lib.hid (Nat.lt_of_lt_of_le HBL.out hb.size); clear z0 z1 c0 c1 c2 c3 c4 c5 c6 c7 c8 c9; have z0 := BX.out.c0; have z1 := BX.out.c1; obtain ⟨c0, c1, c2, c3, c4, c5, c6, c7, c8, c9⟩ := HAT.out; clear hb)
            go_roundw
            case rel => exact ⟨.inl ⟨rfl, HN⟩, BX⟩
            case measure => simp [intOf]
          · have UP : Hid (∀ W, Calls Tryz.prog 88 #[nodVal nx] W fun e w' => e = .returned (.int .i64 (p : Int)) ∧ Below W.heap.size W w') := Lib.hid (fun W => by
              have := up_any nx W
              rwa [hu] at this)
            have HRK := Lib.hid (TR.out.rank_up _ c hcl hp)
            have HE2 : Hid (holdsT (parS (coreL L)) X p ↔ holdsT (parS (coreL L)) X Y) := Lib.hid (by
              rw [← HE.out]
              constructor
              · exact fun h => holds_trans h (holds_par hp)
              · intro h
                rcases holds_up h with h | ⟨q, h1, h2⟩
                · exact absurd h.symm he
                · rw [hp] at h1
                  injection h1 with h1
                  subst h1
                  exact h2)
            rw [HCL.out] at hpl
            clear hxc hx hok hp hu hb he
            go_wp2_with (go_at_call 88; (refine (UP.out _).mono ?_); rintro e w2 ⟨rfl, hb⟩; have BX := Lib.hid (BX.out.keep hb); have HAT := Lib.hid (HAT.out.below HBL.out hb); have HBL := Lib.hid (Nat.lt_of_lt_of_le HBL.out hb.size); clear z0 z1 c0 c1 c2 c3 c4 c5 c6 c7 c8 c9; have z0 := BX.out.c0; have z1 := BX.out.c1; obtain ⟨c0, c1, c2, c3, c4, c5, c6, c7, c8, c9⟩ := HAT.out; clear hb)
            go_roundw
            case rel => exact ⟨.inr ⟨p, hpl, rfl, HE2⟩, BX⟩
            case measure =>
              have := HRK.out
              unfold rankF at this ⊢
              simp [intOf]
              omega
set_option maxHeartbeats 8000000 in
set_option maxRecDepth 100000 in
theorem connFn_any (a : Option Addr) (len cap : Nat) (m : Int) (L : List NodeD) (n : Int) (w : World) (h : NodeRow w a len cap L) (hm : In64 m) (hn : In64 n) (hs : smallF L) :
    Calls Tryz.prog 24 #[forV a len cap m, .int .i64 n] w fun e w' => e = .returned (.bool (connZ m (coreL L) n)) ∧ Below w.heap.size w w' := by
  have HCL : Hid ((coreL L).length = len) := Lib.hid (by rw [coreL_len, h.hlen])
  have hlen := h.len64
  have BX := Lib.hid (Box.start (m := m) h)
  have z0 := BX.out.c0
  have z1 := BX.out.c1
  cases q : thereF m (coreL L) n with
  | false =>
    have CT : Hid (∀ W, NodeRow W a len cap L → Calls Tryz.prog 69 #[forV a len cap m, .int .i64 n] W fun e w' => e = .returned (.int .i64 (-1)) ∧ Below W.heap.size W w') := Lib.hid (fun W h => by
      have := topFn_any a len cap m L n W h hm hn hs
      rwa [show topZ m (coreL L) n = -1 by unfold topZ; rw [q]; rfl] at this)
    have HR : Hid (connZ m (coreL L) n = false) := Lib.hid (by unfold connZ; rw [q]; rfl)
    clear q h hm hn hs
    go_enter Tryz.func24, Tryz.ntmps24
    go_wp2_with (go_at_call 69; ((with_reducible refine (CT.out _ BX.out.row).mono ?_); rintro e w1 ⟨rfl, hb⟩; have BX := Lib.hid (BX.out.keep hb); have z0 := BX.out.c0; have z1 := BX.out.c1; clear hb))
    go_ret
    exact ⟨ret_bool HR.out.symm, BX.out.below⟩
  | true =>
    obtain ⟨hr, k, rfl, hk⟩ := there_nat q
    have ht := topF_lt hr hk
    have hte := topZ_eq hr hk
    obtain ⟨t, hT⟩ : ∃ t, topF (coreL L) k = t := ⟨_, rfl⟩
    rw [hT] at ht hte
    rw [HCL.out] at ht
    have CT : Hid (∀ W, NodeRow W a len cap L → Calls Tryz.prog 69 #[forV a len cap m, .int .i64 k] W fun e w' => e = .returned (.int .i64 (t : Int)) ∧ Below W.heap.size W w') := Lib.hid (fun W h => by
      have := topFn_any a len cap m L k W h hm hn hs
      rwa [hte] at this)
    obtain ⟨b, off, x, rfl, hb, hx, hat, -⟩ := h.get ht
    have C0 := Lib.hid (stays hat.c0 hb)
    have HR : Hid (connZ m (coreL L) k = (x.core.kind == 0)) := Lib.hid (by
      rw [connZ_eq' hr hk, hte]
      unfold kindK
      rw [getC_nat, coreL_get hx])
    have hne : ((t : Int) != -1) = true := bne_iff_ne.2 (by omega)
    clear q h hm hn hs hr hk hT hte hb hx hat
    go_enter Tryz.func24, Tryz.ntmps24
    go_wp2_with (go_at_call 69; ((with_reducible refine (CT.out _ BX.out.row).mono ?_); rintro e w1 ⟨rfl, hb⟩; have BX := Lib.hid (BX.out.keep hb); have z0 := BX.out.c0; have z1 := BX.out.c1; have c0 := C0.out _ BX.out.below; clear hb))
    go_ret
    exact ⟨ret_bool HR.out.symm, BX.out.below⟩
end Go.Proofs.YtclledmgiliggaaGreatDoor
namespace Go.Proofs.YtclledmgiliggaaGreatDoor
theorem setA_right {L : AL} {n : List UInt8} {v : ByteArray} (h : setE L n v = 0) : rightA (setA L n v) = true := by rw [setA_eq h]; exact setL_right h
theorem look_A_same {L : AL} {n : List UInt8} {v : ByteArray} (h : setE L n v = 0) : lookA (setA L n v) (smallL n) = some v := by rw [setA_eq h]; exact look_set_same v
theorem look_A_other {L : AL} {n k : List UInt8} {v : ByteArray} (h : setE L n v = 0) (hk : k ≠ smallL n) : lookA (setA L n v) k = lookA L k := by rw [setA_eq h]; exact look_set_other v hk
theorem back_has {L : AL} {n : List UInt8} {v : ByteArray} (h : setE L n v = 0) : hasA (setA L n v) n = true ∧ valA (setA L n v) n = v := by
  have h1 : hasA (setA L n v) n = true := by rw [has_iff, setA_right h, (set_parts h).2.1, look_A_same h]; rfl
  exact ⟨h1, by rw [val_iff, if_pos h1, look_A_same h]; rfl⟩
end Go.Proofs.YtclledmgiliggaaGreatDoor
namespace Go.Proofs.YtclledmgiliggaaGreatDoor
open Go.RowKit
section
variable {P : Program} {md : Region.Mode} {ops : Array Oper} {Q : Exit → Act → World → Prop}
theorem ready_iff {listed : Array Bool} {i : Nat} : i ∈ Region.ready md ops listed ↔ i < ops.size ∧ listed.getD i true = false ∧ ∃ o, ops[i]? = some o ∧ ∀ e ∈ o.after, Region.binds md e = true → listed.getD e.on false = true := by
  unfold Region.ready
  rw [List.mem_filter, List.mem_range, Bool.and_eq_true, Bool.not_eq_true']
  refine and_congr_right fun hi => and_congr_right fun _ => ?_
  rw [Array.getElem?_eq_getElem hi]
  simp only [Option.map_some, Option.getD_some, Array.all_eq_true_iff_forall_mem, Bool.or_eq_true, Bool.not_eq_true', Option.some.injEq, exists_eq_left']
  refine forall_congr' fun e => forall_congr' fun _ => ?_
  cases Region.binds md e <;> simp
theorem count_set {l : List Bool} {i : Nat} (h : l[i]? = some false) : (l.set i true).count false + 1 = l.count false := by
  induction l generalizing i with
  | nil => simp at h
  | cons b l ih =>
    cases i with
    | zero =>
      obtain rfl : b = false := by simpa using h
      simp
    | succ i =>
      have := ih (i := i) (by simpa using h)
      simp only [List.set_cons_succ, List.count_cons]
      omega
theorem wpAny_inv (S : Array Bool → Act → World → Prop)
    (hs : ∀ listed a w i, i ∈ Region.ready md ops listed → S listed a w → wpOp P ops Q i (S (listed.setIfInBounds i true)) a w)
    (he : ∀ listed a w, Region.ready md ops listed = [] → S listed a w → Q .normal a w) :
    ∀ (fuel : Nat) (listed : Array Bool) (a : Act) (w : World), listed.size = ops.size → listed.toList.count false ≤ fuel → S listed a w → wpAny P md ops Q fuel listed a w := by
  intro fuel
  induction fuel with
  | zero =>
    intro listed a w hz hc h
    have hr : Region.ready md ops listed = [] := by
      refine List.eq_nil_iff_forall_not_mem.2 fun i hi => ?_
      obtain ⟨h1, h2, -⟩ := ready_iff.1 hi
      have hm : false ∈ listed.toList := by
        have h3 : i < listed.size := by omega
        rw [Array.getD_eq_getD_getElem?, Array.getElem?_eq_getElem h3, Option.getD_some] at h2
        rw [← h2, Array.mem_toList_iff]
        exact Array.getElem_mem h3
      have := List.count_pos_iff.2 hm
      omega
    exact ⟨hr, he _ _ _ hr h⟩
  | succ fuel ih =>
    intro listed a w hz hc h
    refine ⟨fun hr => he _ _ _ hr h, fun i hi => ?_⟩
    refine wpOp_mono (fun a w hk => ih _ a w (by simpa using hz) ?_ hk) (hs _ _ _ _ hi h)
    obtain ⟨h1, h2, -⟩ := ready_iff.1 hi
    have h3 : i < listed.size := by omega
    rw [Array.getD_eq_getD_getElem?, Array.getElem?_eq_getElem h3, Option.getD_some] at h2
    have := count_set (l := listed.toList) (i := i) (by rw [List.getElem?_eq_getElem (by simpa using h3)]; simpa using h2)
    rw [Array.toList_setIfInBounds]
    omega
end
def blkOf : Value → List Nat
  | .slice (some a) _ _ => [a.block]
  | .pointer (some a) => [a.block]
  | _ => []
def blk : Value → List Nat
  | .agg vs => blkOf (vs.getD 0 undef)
  | v => blkOf v
def puts (l : List Value) : List (Option Tmp × Value) → List Value
  | [] => l
  | (some d, v) :: ps => puts (l.set d v) ps
  | (none, _) :: ps => puts l ps
theorem puts_eq {A : List Value} : ∀ (ps : List (Option Tmp × Value)) (l : List Value), A.length = l.length → (∀ p ∈ ps, ∀ d, p.1 = some d → A[d]? = some p.2) →
    (∀ t, (∀ p ∈ ps, p.1 ≠ some t) → A[t]? = l[t]?) → A = puts l ps := by
  intro ps
  induction ps with
  | nil =>
    intro l h1 h2 h3
    exact List.ext_getElem? fun t => h3 t (fun p hp => by cases hp)
  | cons p ps ih =>
    intro l h1 h2 h3
    obtain ⟨d, v⟩ := p
    cases d with
    | none => exact ih l h1 (fun p hp => h2 p (List.mem_cons_of_mem _ hp)) (fun t ht => h3 t (fun p hp => by
        rcases List.mem_cons.1 hp with rfl | hp
        · exact fun e => by cases e
        · exact ht p hp))
    | some d =>
      have hd := h2 _ (List.mem_cons_self ..) d rfl
      refine ih (l.set d v) (by rw [List.length_set]; exact h1) (fun p hp => h2 p (List.mem_cons_of_mem _ hp)) (fun t ht => ?_)
      by_cases hdt : d = t
      · subst hdt
        have hlt : d < l.length := by rw [← h1]; exact (List.getElem?_eq_some_iff.1 hd).1
        rw [hd, List.getElem?_set_self hlt]
      · rw [List.getElem?_set_ne hdt]
        refine h3 t (fun p hp => ?_)
        rcases List.mem_cons.1 hp with rfl | hp
        · exact fun e => hdt (by injection e)
        · exact ht p hp
structure Plan where
  fact : Nat → Value → World → Prop
  owns : Nat → Bool
  used : Nat → Option Nat
def Plan.live (p : Plan) (listed : Array Bool) (j : Nat) : Prop := listed.getD j false = true ∧ ∀ k, p.used j = some k → listed.getD k false = false
def edgeOn (o : Oper) (j : Nat) : Bool := o.after.any fun e => e.on == j && Region.binds .any e
def opOK (l : List Oper) (last n : Nat) (used : Nat → Option Nat) (i : Nat) (o : Oper) : Bool :=
  o.guard.isNone && (o.after.all fun e => decide (e.on < i)) &&
  (if i == last then (List.range last).all fun j => edgeOn o j
   else (match o.dst with
    | none => false
    | some d => decide (d < n) && ((List.range last).all fun j => j == i || ((l[j]?).bind (·.dst)) != some d)) &&
    ((List.range last).all fun j => used j != some i || edgeOn o j))
def planOK (l : List Oper) (last n : Nat) (used : Nat → Option Nat) : Bool :=
  (l.length == last + 1) && ((List.range (last + 1)).all fun i => match l[i]? with
    | none => false
    | some o => opOK l last n used i o)
structure RInv (p : Plan) (l : List Oper) (last : Nat) (W : World) (a0 : Act) (v : Nat → Value) (listed : Array Bool) (a : Act) (w : World) : Prop where
  defers : a.defers = a0.defers
  tsize : a.tmps.size = a0.tmps.size
  rest : ∀ t, (∀ i, i < last → listed.getD i false = true → (l[i]?).bind (·.dst) ≠ some t) → a.tmps[t]? = a0.tmps[t]?
  below : Below W.heap.size W w
  vals : ∀ i, i < last → listed.getD i false = true → ∀ d, (l[i]?).bind (·.dst) = some d → a.tmps[d]? = some (v i)
  facts : ∀ i, i < last → p.live listed i → p.fact i (v i) w
  apart : ∀ i j, i < last → j < last → p.live listed i → p.live listed j → i ≠ j → p.owns i = true → p.owns j = true → ∀ b ∈ blk (v i), b ∉ blk (v j)
  bound : ∀ i, i < last → p.live listed i → p.owns i = true → ∀ b ∈ blk (v i), W.heap.size ≤ b ∧ b < w.heap.size
structure StepIn (p : Plan) (l : List Oper) (last : Nat) (W : World) (a0 : Act) (i : Nat) (o : Oper) (a : Act) (w : World) (v : Nat → Value) : Prop where
  below : Below W.heap.size W w
  rest : ∀ t, (∀ j, j < last → (l[j]?).bind (·.dst) ≠ some t) → a.tmps[t]? = a0.tmps[t]?
  vals : ∀ j, j < last → edgeOn o j = true → ∀ d, (l[j]?).bind (·.dst) = some d → a.tmps[d]? = some (v j)
  facts : ∀ j, j < last → edgeOn o j = true → (p.used j = none ∨ p.used j = some i) → p.fact j (v j) w
  bound : ∀ j, j < last → edgeOn o j = true → (p.used j = none ∨ p.used j = some i) → p.owns j = true → ∀ b ∈ blk (v j), W.heap.size ≤ b ∧ b < w.heap.size
  apart : ∀ j k, j < last → k < last → p.used j = some i → p.used k = some i → j ≠ k → p.owns j = true → p.owns k = true → ∀ b ∈ blk (v j), b ∉ blk (v k)
def Took (p : Plan) (last i : Nat) (v : Nat → Value) (b : Nat) : Prop := ∃ j, j < last ∧ p.used j = some i ∧ p.owns j = true ∧ b ∈ blk (v j)
structure StepOut (p : Plan) (last i : Nat) (v : Nat → Value) (w : World) (u : Value) (w' : World) : Prop where
  fact : p.fact i u w'
  grown : ∃ row, w.grownBy w' row ∧ ∀ k, row = some k → Took p last i v k
  own : p.owns i = true → ∀ b ∈ blk u, (w.heap.size ≤ b ∧ b < w'.heap.size) ∨ Took p last i v b
def OpStep (P : Program) (Q : Exit → Act → World → Prop) (p : Plan) (l : List Oper) (last : Nat) (W : World) (a0 : Act) (i : Nat) (o : Oper) : Prop :=
  ∀ (a : Act) (w : World) (v : Nat → Value) (K : Act → World → Prop), StepIn p l last W a0 i o a w v → (∀ u w', StepOut p last i v w u w' → K (a.put o.dst u) w') → o.wp P a w K Q
theorem getD_set {listed : Array Bool} {i j : Nat} (hi : i < listed.size) : (listed.setIfInBounds i true).getD j false = if j = i then true else listed.getD j false := by
  by_cases h : j = i
  · subst h
    rw [if_pos rfl, Array.getD_eq_getD_getElem?, Array.getElem?_setIfInBounds_self_of_lt hi]
    rfl
  · rw [if_neg h, Array.getD_eq_getD_getElem?, Array.getD_eq_getD_getElem?, Array.getElem?_setIfInBounds_ne (fun e => h e.symm)]
theorem put_self {a : Act} {d : Nat} {u : Value} (h : d < a.tmps.size) : (a.put (some d) u).tmps[d]? = some u := by
  show (a.tmps.setIfInBounds d u)[d]? = _
  exact Array.getElem?_setIfInBounds_self_of_lt h
theorem put_ne {a : Act} {d t : Nat} {u : Value} (h : d ≠ t) : (a.put (some d) u).tmps[t]? = a.tmps[t]? := by
  show (a.tmps.setIfInBounds d u)[t]? = _
  exact Array.getElem?_setIfInBounds_ne h
theorem planOK_op {l : List Oper} {last n : Nat} {used : Nat → Option Nat} (h : planOK l last n used = true) {i : Nat} (hi : i < last + 1) : ∃ o, l[i]? = some o ∧ opOK l last n used i o = true := by
  unfold planOK at h
  rw [Bool.and_eq_true, List.all_eq_true] at h
  have := h.2 i (List.mem_range.2 hi)
  cases e : l[i]? with
  | none => rw [e] at this; cases this
  | some o => rw [e] at this; exact ⟨o, rfl, this⟩
theorem opOK_dst {l : List Oper} {last n : Nat} {used : Nat → Option Nat} {i : Nat} {o : Oper} (h : opOK l last n used i o = true) (hi : i < last) :
    o.guard = none ∧ ∃ d, o.dst = some d ∧ d < n ∧ (∀ j, j < last → j ≠ i → (l[j]?).bind (·.dst) ≠ some d) ∧ ∀ j, j < last → used j = some i → edgeOn o j = true := by
  unfold opOK at h
  rw [if_neg (by simpa using Nat.ne_of_lt hi)] at h
  simp only [Bool.and_eq_true, List.all_eq_true, List.mem_range, Option.isNone_iff_eq_none] at h
  obtain ⟨⟨h1, -⟩, h2, h3⟩ := h
  refine ⟨h1, ?_⟩
  cases hd : o.dst with
  | none => rw [hd] at h2; cases h2
  | some d =>
    rw [hd] at h2
    simp only [Bool.and_eq_true, decide_eq_true_eq, List.all_eq_true, List.mem_range, Bool.or_eq_true, beq_iff_eq, bne_iff_ne] at h2 h3
    exact ⟨d, rfl, h2.1, fun j hj hne => (h2.2 j hj).resolve_left hne, fun j hj hu => (h3 j hj).resolve_left (fun e => e hu)⟩
theorem edge_listed {l : List Oper} {listed : Array Bool} {i j : Nat} {o : Oper} (ho : l[i]? = some o) (hr : i ∈ Region.ready .any l.toArray listed) (he : edgeOn o j = true) : listed.getD j false = true := by
  obtain ⟨-, -, o', ho', h⟩ := ready_iff.1 hr
  obtain rfl : o = o' := by
    rw [List.getElem?_toArray, ho] at ho'
    injection ho'
  obtain ⟨e, hm, h2⟩ := Array.any_eq_true'.1 he
  rw [Bool.and_eq_true, beq_iff_eq] at h2
  have := h e hm h2.2
  rwa [h2.1] at this
theorem RInv.step {P : Program} {Q : Exit → Act → World → Prop} {p : Plan} {l : List Oper} {last n : Nat} {W : World} {a0 : Act} {v : Nat → Value} {listed : Array Bool} {a : Act} {w : World} {i : Nat} {o : Oper}
    (hok : planOK l last n p.used = true) (hn : n ≤ a0.tmps.size) (hz : listed.size = last + 1) (hi : i < last) (ho : l[i]? = some o) (hr : i ∈ Region.ready .any l.toArray listed)
    (hstab : ∀ j, j < last → ∀ u w w' row, p.fact j u w → w.grownBy w' row → (∀ k, row = some k → p.owns j = true → k ∉ blk u) → (∀ k, row = some k → W.heap.size ≤ k) → p.fact j u w')
    (hop : OpStep P Q p l last W a0 i o) (h : RInv p l last W a0 v listed a w) :
    o.wp P a w (fun a' w' => ∃ v', RInv p l last W a0 v' (listed.setIfInBounds i true) a' w') Q := by
  obtain ⟨o', ho', hoo⟩ := planOK_op hok (show i < last + 1 by omega)
  obtain rfl : o = o' := by rw [ho] at ho'; injection ho'
  obtain ⟨-, d, hd, hdn, hdist, huse⟩ := opOK_dst hoo hi
  have hun : listed.getD i false = false := by
    have := (ready_iff.1 hr).2.1
    rw [Array.getD_eq_getD_getElem?, Array.getElem?_eq_getElem (by omega), Option.getD_some] at this ⊢
    exact this
  have hlive : ∀ j, edgeOn o j = true → (p.used j = none ∨ p.used j = some i) → p.live listed j := fun j he hu =>
    ⟨edge_listed ho hr he, fun k hk => by
      rcases hu with hu | hu
      · rw [hu] at hk; cases hk
      · rw [hu] at hk
        injection hk with hk
        rw [← hk]; exact hun⟩
  have hset : ∀ j, (listed.setIfInBounds i true).getD j false = if j = i then true else listed.getD j false := fun j => getD_set (by omega)
  have hda : d < a.tmps.size := by rw [h.tsize]; exact Nat.lt_of_lt_of_le hdn hn
  refine hop a w v _ ⟨h.below, fun t ht => h.rest t (fun j hj _ => ht j hj), fun j hj he d hd => h.vals j hj (edge_listed ho hr he) d hd, fun j hj he hu => h.facts j hj (hlive j he hu),
    fun j hj he hu => h.bound j hj (hlive j he hu), fun j k hj hk hu hu2 hne => h.apart j k hj hk (hlive j (huse j hj hu) (.inr hu)) (hlive k (huse k hk hu2) (.inr hu2)) hne⟩ ?_
  intro u w' ⟨hf, ⟨row, hg, hrow⟩, hown⟩
  have htook : ∀ b, Took p last i v b → W.heap.size ≤ b ∧ b < w.heap.size := fun b ⟨j, hj, hu, ho2, hb⟩ => h.bound j hj (hlive j (huse j hj hu) (.inr hu)) ho2 b hb
  have hold : ∀ j, j ≠ i → p.live (listed.setIfInBounds i true) j → p.live listed j ∧ p.used j ≠ some i := fun j hne hl =>
    ⟨⟨by have := hl.1; rwa [hset, if_neg hne] at this, fun k hk => by
        have := hl.2 k hk
        rw [hset] at this
        split at this
        · cases this
        · exact this⟩,
      fun e => by
        have := hl.2 i e
        rw [hset, if_pos rfl] at this
        cases this⟩
  have htookne : ∀ b j, j < last → p.live listed j → p.used j ≠ some i → p.owns j = true → Took p last i v b → b ∉ blk (v j) := fun b j hj hl hu ho2 ⟨k, hk, hu2, ho3, hb⟩ =>
    h.apart k j hk hj (hlive k (huse k hk hu2) (.inr hu2)) hl (fun e => hu (e ▸ hu2)) ho3 ho2 b hb
  refine ⟨fun j => if j = i then u else v j, ?_, ?_, ?_, ?_, ?_, ?_, ?_, ?_⟩
  · rw [hd]; exact h.defers
  · rw [hd, ← h.tsize]
    show (a.tmps.setIfInBounds d u).size = _
    simp
  · intro t ht
    have hdt : d ≠ t := fun e => ht i hi (by rw [hset, if_pos rfl]) (by rw [ho]; show o.dst = _; rw [hd, e])
    rw [hd, put_ne hdt]
    exact h.rest t (fun j hj hl => ht j hj (by rw [hset]; split <;> first | rfl | exact hl))
  · exact h.below.grown hg h.below.size (fun k hk => (htook k (hrow k hk)).1)
  · intro j hj hl d2 hd2
    by_cases hji : j = i
    · subst hji
      rw [ho] at hd2
      have e : some d = some d2 := hd.symm.trans hd2
      injection e with e
      subst e
      rw [hd, put_self hda, if_pos rfl]
    · rw [hset, if_neg hji] at hl
      have hne : d ≠ d2 := fun e => hdist j hj hji (by rw [e]; exact hd2)
      rw [hd, put_ne hne, if_neg hji]
      exact h.vals j hj hl d2 hd2
  · intro j hj hl
    by_cases hji : j = i
    · subst hji
      rw [if_pos rfl]; exact hf
    · obtain ⟨h1, h2⟩ := hold j hji hl
      rw [if_neg hji]
      exact hstab j hj _ _ _ row (h.facts j hj h1) hg (fun k hk ho2 => htookne k j hj h1 h2 ho2 (hrow k hk)) (fun k hk => (htook k (hrow k hk)).1)
  · intro j k hj hk hl hl2 hne ho1 ho2 b hb hb2
    by_cases hji : j = i
    · subst hji
      have hkj : k ≠ j := fun e => hne e.symm
      obtain ⟨h1, h2⟩ := hold k hkj hl2
      rw [if_pos rfl] at hb
      rw [if_neg hkj] at hb2
      rcases hown ho1 b hb with h3 | h3
      · have := (h.bound k hk h1 ho2 b hb2).2
        omega
      · exact htookne b k hk h1 h2 ho2 h3 hb2
    · obtain ⟨h1, h2⟩ := hold j hji hl
      rw [if_neg hji] at hb
      by_cases hki : k = i
      · subst hki
        rw [if_pos rfl] at hb2
        rcases hown ho2 b hb2 with h3 | h3
        · have := (h.bound j hj h1 ho1 b hb).2
          omega
        · exact htookne b j hj h1 h2 ho1 h3 hb
      · rw [if_neg hki] at hb2
        exact h.apart j k hj hk h1 (hold k hki hl2).1 hne ho1 ho2 b hb hb2
  · intro j hj hl ho1 b hb
    by_cases hji : j = i
    · subst hji
      rw [if_pos rfl] at hb
      rcases hown ho1 b hb with h3 | h3
      · exact ⟨Nat.le_trans h.below.size h3.1, h3.2⟩
      · exact ⟨(htook b h3).1, Nat.lt_of_lt_of_le (htook b h3).2 hg.size⟩
    · rw [if_neg hji] at hb
      have := h.bound j hj (hold j hji hl).1 ho1 b hb
      exact ⟨this.1, Nat.lt_of_lt_of_le this.2 hg.size⟩
theorem rep_false {n j : Nat} : (Array.replicate n false).getD j false = false := by
  rw [Array.getD_eq_getD_getElem?, Array.getElem?_replicate]
  split <;> rfl
end Go.Proofs.YtclledmgiliggaaGreatDoor
namespace Go.Proofs.YtclledmgiliggaaGreatDoor
open Go.RowKit
structure Fact where
  is : Value → World → Prop
  stab : ∀ u w w', is u w → Below w.heap.size w w' → is u w'
def isV (x : Value) : Fact := ⟨fun u _ => u = x, fun _ _ _ h _ => h⟩
def factsOK (l : List Oper) (n : Nat) : Bool :=
  (List.range l.length).all fun i => match l[i]? with
    | none => false
    | some o => (o.after.all fun e => decide (e.on < i)) && (match o.dst with
      | none => false
      | some d => decide (d < n) && ((List.range l.length).all fun j => j == i || ((l[j]?).bind (·.dst)) != some d))
structure FInv (fs : List Fact) (l : List Oper) (W : World) (a0 : Act) (v : Nat → Value) (listed : Array Bool) (a : Act) (w : World) : Prop where
  defers : a.defers = a0.defers
  tsize : a.tmps.size = a0.tmps.size
  rest : ∀ t, (∀ i, i < l.length → listed.getD i false = true → (l[i]?).bind (·.dst) ≠ some t) → a.tmps[t]? = a0.tmps[t]?
  below : Below W.heap.size W w
  vals : ∀ i, i < l.length → listed.getD i false = true → ∀ d, (l[i]?).bind (·.dst) = some d → a.tmps[d]? = some (v i)
  facts : ∀ i, i < l.length → listed.getD i false = true → ∀ f, fs[i]? = some f → f.is (v i) w
structure FIn (fs : List Fact) (l : List Oper) (W : World) (a0 : Act) (o : Oper) (a : Act) (w : World) (v : Nat → Value) : Prop where
  below : Below W.heap.size W w
  rest : ∀ t, (∀ j, j < l.length → (l[j]?).bind (·.dst) ≠ some t) → a.tmps[t]? = a0.tmps[t]?
  vals : ∀ j, j < l.length → edgeOn o j = true → ∀ d, (l[j]?).bind (·.dst) = some d → a.tmps[d]? = some (v j)
  facts : ∀ j, j < l.length → edgeOn o j = true → ∀ f, fs[j]? = some f → f.is (v j) w
def FStep (P : Program) (Q : Exit → Act → World → Prop) (fs : List Fact) (l : List Oper) (W : World) (a0 : Act) (f : Fact) (o : Oper) : Prop :=
  ∀ (a : Act) (w : World) (v : Nat → Value) (K : Act → World → Prop), FIn fs l W a0 o a w v → (∀ u w', f.is u w' → Below w.heap.size w w' → K (a.put o.dst u) w') →
    if Region.wanted o (yielded l.toArray a.tmps) = true then o.wp P a w K Q else K (a.put o.dst undef) w
def FSteps (P : Program) (Q : Exit → Act → World → Prop) (fs : List Fact) (l : List Oper) (W : World) (a0 : Act) : List Fact → List Oper → Prop
  | f :: fr, o :: r => FStep P Q fs l W a0 f o ∧ FSteps P Q fs l W a0 fr r
  | _, _ => True
theorem FSteps.nil {P : Program} {Q : Exit → Act → World → Prop} {fs : List Fact} {l : List Oper} {W : World} {a0 : Act} : FSteps P Q fs l W a0 [] [] := trivial
theorem FSteps.cons {P : Program} {Q : Exit → Act → World → Prop} {fs : List Fact} {l : List Oper} {W : World} {a0 : Act} {f : Fact} {fr : List Fact} {o : Oper} {r : List Oper} (h : FStep P Q fs l W a0 f o) (hr : FSteps P Q fs l W a0 fr r) : FSteps P Q fs l W a0 (f :: fr) (o :: r) := ⟨h, hr⟩
theorem wanted_none {ops : Array Oper} {tmps : Array Value} {o : Oper} (h : o.guard = none) : Region.wanted o (yielded ops tmps) = true := by simp [Region.wanted, h]
theorem FSteps.get {P : Program} {Q : Exit → Act → World → Prop} {fs : List Fact} {l : List Oper} {W : World} {a0 : Act} : ∀ {fr : List Fact} {r : List Oper}, FSteps P Q fs l W a0 fr r → ∀ (i : Nat) f o, fr[i]? = some f → r[i]? = some o → FStep P Q fs l W a0 f o
  | [], _, _, i, f, o, hf, _ => by simp at hf
  | _ :: _, [], _, i, f, o, _, ho => by simp at ho
  | f1 :: fr, o1 :: r, h, 0, f, o, hf, ho => by
    simp at hf ho
    subst hf ho
    exact h.1
  | f1 :: fr, o1 :: r, h, i + 1, f, o, hf, ho => FSteps.get h.2 i f o (by simpa using hf) (by simpa using ho)
theorem factsOK_op {l : List Oper} {n : Nat} (h : factsOK l n = true) {i : Nat} {o : Oper} (ho : l[i]? = some o) : (∀ e ∈ o.after, e.on < i) ∧ ∃ d, o.dst = some d ∧ d < n ∧ ∀ j, j < l.length → j ≠ i → (l[j]?).bind (·.dst) ≠ some d := by
  unfold factsOK at h
  rw [List.all_eq_true] at h
  have h1 := h i (List.mem_range.2 (List.getElem?_eq_some_iff.1 ho).1)
  rw [ho] at h1
  simp only [Bool.and_eq_true, Array.all_eq_true_iff_forall_mem, decide_eq_true_eq] at h1
  refine ⟨h1.1, ?_⟩
  have h2 := h1.2
  cases hd : o.dst with
  | none => rw [hd] at h2; cases h2
  | some d =>
    rw [hd] at h2
    simp only [Bool.and_eq_true, decide_eq_true_eq, List.all_eq_true, List.mem_range, Bool.or_eq_true, beq_iff_eq, bne_iff_ne] at h2
    exact ⟨d, rfl, h2.1, fun j hj hne => (h2.2 j hj).resolve_left hne⟩
section
variable {P : Program} {Q : Exit → Act → World → Prop} {fs : List Fact} {l : List Oper} {W : World} {a0 : Act} {o : Oper}
theorem FIn.at_ {a : Act} {w : World} {v : Nat → Value} (h : FIn fs l W a0 o a w v) {j d : Nat} {x : Value} (hj : j < l.length) (he : edgeOn o j = true) (hd : (l[j]?).bind (·.dst) = some d) (hf : fs[j]? = some (isV x)) : a.tmps[d]? = some x := by
  rw [h.vals j hj he d hd, show v j = x from h.facts j hj he _ hf]
theorem FIn.with {a : Act} {w : World} {v : Nat → Value} (h : FIn fs l W a0 o a w v) {j d : Nat} {f : Fact} (hj : j < l.length) (he : edgeOn o j = true) (hd : (l[j]?).bind (·.dst) = some d) (hf : fs[j]? = some f) : ∃ u, a.tmps[d]? = some u ∧ f.is u w := ⟨_, h.vals j hj he d hd, h.facts j hj he _ hf⟩
theorem FIn.out {a : Act} {w : World} {v : Nat → Value} (h : FIn fs l W a0 o a w v) {t : Nat} {x : Value} (ht : ((List.range l.length).all fun j => ((l[j]?).bind (·.dst)) != some t) = true) (hx : a0.tmps[t]? = some x) : a.tmps[t]? = some x := by
  refine (h.rest t (fun j hj => ?_)).trans hx
  rw [List.all_eq_true] at ht
  have := ht j (List.mem_range.2 hj)
  exact bne_iff_ne.1 this
end
end Go.Proofs.YtclledmgiliggaaGreatDoor
