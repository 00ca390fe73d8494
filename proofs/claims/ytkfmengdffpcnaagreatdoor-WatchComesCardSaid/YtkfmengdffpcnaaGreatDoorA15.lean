/- Texts joined in build order: ShadeFacts ForestProp ForestEdit ForestIter OrderKit ForestPut ShadeRefuse ShadeAttach WalkOrdMath RefOne RefName RefCustom Ref9Right OpenRows. -/
import Derived.Test.YtkfmengdffpcnaaGreatDoorA13
import Derived.Test.YtkfmengdffpcnaaGreatDoorA12
import Derived.RangeFuncNested
import Derived.RangeFuncBound
import Derived.RangeFuncCalls
import Derived.RangeFuncLeaves
import Derived.RangeFuncBox
import Derived.Shelf.Abstract
import Derived.Shelf.RegionOpen
import Derived.WalkKit
import Derived.OwnWalkIn
import Derived.TacticsInMore
import Derived.LoopNIn
import Derived.LoopIn
import Derived.Test.YtkfmengdffpcnaaGreatDoorA02
import Derived.Deep.RegionLaw
import Derived.Test.YtkfmengdffpcnaaGreatDoorA08
import Derived.Test.YtkfmengdffpcnaaGreatDoorChecked
import Derived.Test.YtkfmengdffpcnaaGreatDoorA01
import Derived.WalkLawsBesides
import Derived.Lib.Hide
import Derived.Lib.IndexBytes
import Derived.Test.YtkfmengdffpcnaaGreatDoorA04
import Derived.Deep.CutBlock
import Derived.OpenShut
namespace Go.Proofs.YtkfmengdffpcnaaGreatDoor
open Go.RowKit
structure OverFacts (m : Int) (F : List Core) (x y z : Nat) (c : Core) : Prop where
  self : overZ m F x x = true
  trans : overZ m F x y = true → overZ m F y z = true → overZ m F x z = true
  anti : x ≠ y → overZ m F x y = true → overZ m F y x = false
  held : holdsZ m F x y = true → overZ m F x y = true
  doc : c.kind = 0 → connZ m F x = true ∧ topZ m F x = x
  par : c.kind ≠ 0 → c.parent ≠ -1 → ∃ p : Nat, c.parent = p ∧ p < F.length ∧ connZ m F x = connZ m F p ∧ topZ m F x = topZ m F p
  host : c.kind ≠ 0 → c.parent = -1 → c.host ≠ -1 → ∃ p : Nat, c.host = p ∧ p < F.length ∧ connZ m F x = connZ m F p ∧ topZ m F x = topZ m F p
  alone : c.kind ≠ 0 → c.parent = -1 → c.host = -1 → connZ m F x = false ∧ topZ m F x = x
theorem connZ_eq {m : Int} {F : List Core} (h : rightF m F = true) {a : Nat} (ha : a < F.length) : connZ m F (a : Int) = (kindK F (topZ m F a) == 0) := by
  unfold connZ
  rw [thereF_of h ha, Bool.true_and]
theorem holds_over {m : Int} {F : List Core} (h : rightF m F = true) {a b : Nat} (hb : b < F.length) (hh : holdsT (parF F) a b) : holdsT (parS F) a b := by
  obtain ⟨k, hk⟩ := hh
  have T := tree_of_right h
  have key : ∀ (k b : Nat), b < F.length → upN (parF F) k b = some a → upN (parS F) k b = some a := by
    intro k
    induction k with
    | zero => intro b _ h; exact h
    | succ k ih =>
      intro b hb hu
      unfold upN at hu ⊢
      cases hp : parF F b with
      | none => rw [hp] at hu; cases hu
      | some p =>
        rw [hp] at hu
        have hx : F[b]? = some F[b] := List.getElem?_eq_getElem hb
        have hpar : F[b].parent ≠ -1 := fun e => by rw [right_top hx e] at hp; cases hp
        obtain ⟨q, e1, e2, e3⟩ := right_par h hx hpar
        rw [hp] at e3
        injection e3 with e3
        subst e3
        rw [parS_some ((next_par hx hpar).trans e1)]
        exact ih p e2 hu
  exact ⟨k, key k b hb hk⟩
theorem over_facts {m : Int} {F : List Core} (h : rightF m F = true) {x y z : Nat} {c : Core} (hx : x < F.length) (hy : y < F.length) (hz : z < F.length) (hc : F[x]? = some c) : OverFacts m F x y z c := by
  have T := treeS h
  have upto : ∀ p : Nat, nextUp F (x : Int) = p → p < F.length → connZ m F x = connZ m F p ∧ topZ m F x = topZ m F p := fun p hn hp => by
    have e : topZ m F x = topZ m F p := by
      rw [topZ_eq h hx, topZ_eq h hp]
      unfold topF
      rw [T.root_held hx (Nat.le_refl _) (holds_par (parS_some hn))]
    rw [connZ_eq h hx, connZ_eq h hp, e]
    exact ⟨rfl, rfl⟩
  have top : nextUp F (x : Int) = -1 → topZ m F x = x := fun hn => by
    rw [topZ_eq h hx]
    unfold topF
    rw [rootN_none (parS_none hn)]
  have kind : kindK F (x : Int) = c.kind := by unfold kindK; rw [getC_nat, hc]
  refine ⟨(overZ_iff h hx hx).2 (holds_refl x), fun h1 h2 => ?_, fun hne h1 => ?_, fun h1 => ?_, fun hk => ?_, fun hk hp => ?_, fun hk hp hh => ?_, fun hk hp hh => ?_⟩
  · exact (overZ_iff h hx hz).2 (holds_trans ((overZ_iff h hx hy).1 h1) ((overZ_iff h hy hz).1 h2))
  · cases h2 : overZ m F y x with
    | false => rfl
    | true => exact absurd (T.holds_anti hx hy ((overZ_iff h hx hy).1 h1) ((overZ_iff h hy hx).1 h2)) hne
  · exact (overZ_iff h hx hy).2 (holds_over h hy ((holdsZ_iff h hx hy).1 h1))
  · have hp : c.parent = -1 := by
      by_cases hp : c.parent = -1
      · exact hp
      · rcases right_held h hc hp with e | e <;> omega
    have hh : c.host = -1 := by
      by_cases hh : c.host = -1
      · exact hh
      · have := (right_host h hc hh).1
        omega
    have ht := top ((next_host hc hp).trans hh)
    rw [connZ_eq h hx, ht, kind, hk]
    exact ⟨rfl, rfl⟩
  · obtain ⟨p, e1, e2, _⟩ := right_par h hc hp
    obtain ⟨h1, h2⟩ := upto p ((next_par hc hp).trans e1) e2
    exact ⟨p, e1, e2, h1, h2⟩
  · obtain ⟨_, p, y, e1, e2, _⟩ := right_host h hc hh
    have hl := (List.getElem?_eq_some_iff.1 e2).1
    obtain ⟨h1, h2⟩ := upto p ((next_host hc hp).trans e1) hl
    exact ⟨p, e1, hl, h1, h2⟩
  · have ht := top ((next_host hc hp).trans hh)
    rw [connZ_eq h hx, ht, kind]
    exact ⟨beq_eq_false_iff_ne.2 hk, rfl⟩
theorem mem_allI {F : List Core} {z : Int} {n : Nat} : (n : Int) ∈ allI F z ↔ n ∈ allF F z.toNat := by
  unfold allI
  constructor
  · intro hm
    obtain ⟨k, hk, e⟩ := List.mem_map.1 hm
    rwa [Int.ofNat.inj e] at hk
  · intro hm
    exact List.mem_map.2 ⟨n, hm, rfl⟩
theorem allI_nodup {m : Int} {F : List Core} (h : rightF m F = true) {x : Nat} (hx : x < F.length) : (allI F x).Nodup := by
  have hN : (allF F x).Nodup := (treeS h).ord_nodup _ _ hx (by omega)
  unfold allI
  rw [Int.toNat_natCast]
  exact List.Pairwise.map Int.ofNat (fun a b hab e => hab (Int.ofNat.inj e)) hN
theorem allI_num {m : Int} {F : List Core} (h : rightF m F = true) {x : Nat} (hx : x < F.length) {z : Int} (hz : z ∈ allI F x) : ∃ n : Nat, z = (n : Int) ∧ n < F.length := by
  unfold allI at hz
  rw [Int.toNat_natCast] at hz
  obtain ⟨n, hn, rfl⟩ := List.mem_map.1 hz
  exact ⟨n, rfl, (treeS h).ord_lt _ _ hx n hn⟩
theorem allI_len {m : Int} {F : List Core} (h : rightF m F = true) {x : Nat} (hx : x < F.length) : (allI F x).length ≤ F.length := by
  unfold allI
  rw [Int.toNat_natCast, List.length_map]
  exact nodup_sub _ _ ((treeS h).ord_nodup _ _ hx (by omega)) ((treeS h).ord_lt _ _ hx)
theorem hasZ_all {m : Int} {F : List Core} (h : rightF m F = true) {x n : Nat} (hx : x < F.length) (hn : n < F.length) : hasZ (allI F x) (n : Int) = if overZ m F x n then 1 else 0 := by
  rw [hasZ_nodup (allI_nodup h hx)]
  have e2 : overZ m F x n = decide (n ∈ allF F x) := by
    unfold overZ
    rw [thereF_of h hx, thereF_of h hn]
    rfl
  have e1 : ((n : Int) ∈ allI F x) ↔ n ∈ allF F x := by rw [mem_allI, Int.toNat_natCast]
  rw [e2]
  by_cases hm : n ∈ allF F x
  · rw [if_pos (e1.2 hm), decide_eq_true hm, if_pos rfl]
  · rw [if_neg (fun g => hm (e1.1 g)), decide_eq_false hm, if_neg (by decide)]
end Go.Proofs.YtkfmengdffpcnaaGreatDoor
namespace Go.Proofs.YtkfmengdffpcnaaGreatDoor
open Go.RowKit
structure NodeP (F : List Core) (i : Nat) (x : Core) : Prop where
  kind : 0 ≤ x.kind ∧ x.kind ≤ 4
  doc : ∃ d, getC F x.doc = some d ∧ d.kind = 0
  own : x.kind = 0 → x.doc = (i : Int)
  par : x.parent = -1 ∨ ((x.kind = 1 ∨ x.kind = 2) ∧ ∃ p, getC F x.parent = some p ∧ p.kind ≠ 2 ∧ (i : Int) ∈ p.kids)
  once : x.kids.Nodup
  kids : ∀ k ∈ x.kids, ∃ c, getC F k = some c ∧ (c.kind = 1 ∨ c.kind = 2) ∧ c.parent = (i : Int) ∧ c.doc = x.doc
  leaf : x.kind = 2 → x.kids = []
  root : x.kind = 0 → x.kids.length ≤ 1 ∧ ∀ k ∈ x.kids, kindK F k = 1
  host : x.kind = 4 → ∃ h, getC F x.host = some h ∧ h.kind = 1 ∧ h.under = (i : Int) ∧ h.doc = x.doc
  free : x.kind ≠ 4 → x.host = -1
  under : x.under = -1 ∨ (x.kind = 1 ∧ ∃ u, getC F x.under = some u ∧ u.kind = 4 ∧ u.host = (i : Int))
  text : textOk x = true
theorem shapeOk_iff {F : List Core} {x : Core} : shapeOk F x = true ↔ (x.kind = 2 → x.kids = []) ∧ (x.kind = 0 → elemsK F x ≤ 1 ∧ x.kids.length ≤ elemsK F x) := by
  unfold shapeOk
  simp only [Bool.and_eq_true, Bool.not_eq_true', Bool.and_eq_false_iff, beq_eq_false_iff_ne, decide_eq_false_iff_not, Bool.or_eq_false_iff]
  constructor
  · rintro ⟨h1, h2⟩
    refine ⟨fun e => ?_, fun e => ?_⟩
    · rcases h1 with h | h
      · exact absurd e h
      · exact List.eq_nil_of_length_eq_zero (by omega)
    · rcases h2 with h | h
      · exact absurd e h
      · omega
  · rintro ⟨h1, h2⟩
    refine ⟨?_, ?_⟩
    · by_cases e : x.kind = 2
      · right; rw [h1 e]; simp
      · exact .inl e
    · by_cases e : x.kind = 0
      · right; have := h2 e; omega
      · exact .inl e
theorem nodesP {F : List Core} : (∀ (i : Nat) x, F[i]? = some x → nodeOk F i x = true) ↔ ∀ (i : Nat) x, F[i]? = some x → NodeP F i x := by
  constructor
  · intro H i x hx
    obtain ⟨p1, p2, p3, p4, p5, p6⟩ := nodeOk_iff.1 (H i x hx)
    rw [Bool.and_eq_true] at p5
    unfold docOk at p1
    simp only [Bool.and_eq_true, Bool.or_eq_true, decide_eq_true_eq, bne_iff_ne, beq_iff_eq] at p1
    have hkid : ∀ k ∈ x.kids, ∃ c, getC F k = some c ∧ (c.kind = 1 ∨ c.kind = 2) ∧ c.parent = (i : Int) ∧ c.doc = x.doc := fun k hk => kidB_iff.1 (kidOk_iff.1 (p3 k hk)).2
    obtain ⟨s1, s2⟩ := shapeOk_iff.1 p4
    refine ⟨p1.1.1, ?_, fun e => p1.2.resolve_left (fun h => h e), ?_, nodup_of_has (fun z hz => (kidOk_iff.1 (p3 z hz)).1), hkid, s1, fun e => ?_, fun e => ?_, fun e => ?_, ?_, p6⟩
    · have h := p1.1.2
      cases hg : getC F x.doc with
      | none => rw [hg] at h; cases h
      | some d => rw [hg] at h; exact ⟨d, rfl, beq_iff_eq.1 h⟩
    · unfold parOk at p2
      rw [Bool.or_eq_true, beq_iff_eq] at p2
      rcases p2 with h | h
      · exact .inl h
      · right
        rw [Bool.and_eq_true, Bool.or_eq_true, beq_iff_eq, beq_iff_eq] at h
        refine ⟨h.1, ?_⟩
        cases hg : getC F x.parent with
        | none => rw [hg] at h; exact absurd h.2 (by simp)
        | some d =>
          rw [hg] at h
          have h2 := h.2
          dsimp only at h2
          rw [Bool.and_eq_true, bne_iff_ne, beq_iff_eq] at h2
          exact ⟨d, rfl, h2.1, hasZ_mem h2.2⟩
    · obtain ⟨h1, h2⟩ := s2 e
      refine ⟨by omega, fun k hk => ?_⟩
      unfold elemsK at h2
      have hc : x.kids.countP (fun k => kindK F k == 1) = x.kids.length := Nat.le_antisymm List.countP_le_length h2
      exact beq_iff_eq.1 (List.countP_eq_length.1 hc k hk)
    · have h := p5.1
      unfold hostOk at h
      rw [if_pos e] at h
      cases hg : getC F x.host with
      | none => rw [hg] at h; cases h
      | some d =>
        rw [hg] at h
        simp only [Bool.and_eq_true, beq_iff_eq] at h
        exact ⟨d, rfl, h.1.1, h.1.2, h.2⟩
    · have h := p5.1
      unfold hostOk at h
      rw [if_neg e] at h
      exact beq_iff_eq.1 h
    · have h := p5.2
      unfold underOk at h
      rw [Bool.or_eq_true, beq_iff_eq, Bool.and_eq_true, beq_iff_eq] at h
      rcases h with h | h
      · exact .inl h
      · right
        refine ⟨h.1, ?_⟩
        have h2 := h.2
        cases hg : getC F x.under with
        | none => rw [hg] at h2; cases h2
        | some d =>
          rw [hg] at h2
          simp only [Bool.and_eq_true, beq_iff_eq] at h2
          exact ⟨d, rfl, h2.1, h2.2⟩
  · intro H i x hx
    have h := H i x hx
    have hone : ∀ (l : List Int) (z : Int), l.Nodup → z ∈ l → hasZ l z = 1 := fun l z hn hz => by rw [hasZ_nodup hn, if_pos hz]
    refine nodeOk_iff.2 ⟨?_, ?_, fun k hk => kidOk_iff.2 ⟨hone _ _ h.once hk, kidB_iff.2 (h.kids k hk)⟩, shapeOk_iff.2 ⟨h.leaf, fun e => ?_⟩, ?_, h.text⟩
    · unfold docOk
      obtain ⟨d, h1, h2⟩ := h.doc
      rw [h1]
      simp only [Bool.and_eq_true, Bool.or_eq_true, decide_eq_true_eq, bne_iff_ne, beq_iff_eq]
      exact ⟨⟨h.kind, h2⟩, by by_cases e : x.kind = 0; exact .inr (h.own e); exact .inl e⟩
    · unfold parOk
      rw [Bool.or_eq_true, beq_iff_eq]
      rcases h.par with e | ⟨e, p, h1, h2, h3⟩
      · exact .inl e
      · right
        rw [h1, Bool.and_eq_true, Bool.or_eq_true, beq_iff_eq, beq_iff_eq]
        refine ⟨e, ?_⟩
        obtain ⟨g1, g2, g3⟩ := getC_some h1
        have := hone p.kids i (H _ p g3).once h3
        show (p.kind != 2 && hasZ p.kids i == 1) = true
        rw [this, bne_iff_ne.2 h2]
        rfl
    · obtain ⟨h1, h2⟩ := h.root e
      have : elemsK F x = x.kids.length := by
        unfold elemsK
        exact List.countP_eq_length.2 (fun k hk => beq_iff_eq.2 (h2 k hk))
      omega
    · rw [Bool.and_eq_true]
      constructor
      · unfold hostOk
        by_cases e : x.kind = 4
        · rw [if_pos e]
          obtain ⟨d, h1, h2, h3, h4⟩ := h.host e
          rw [h1]
          simp only [Bool.and_eq_true, beq_iff_eq]
          exact ⟨⟨h2, h3⟩, h4⟩
        · rw [if_neg e]
          exact beq_iff_eq.2 (h.free e)
      · unfold underOk
        rw [Bool.or_eq_true, beq_iff_eq]
        rcases h.under with e | ⟨e, u, h1, h2, h3⟩
        · exact .inl e
        · right
          rw [h1, Bool.and_eq_true]
          simp only [Bool.and_eq_true, beq_iff_eq]
          exact ⟨e, h2, h3⟩
theorem right_node {m : Int} {F : List Core} (h : rightF m F = true) {i : Nat} {x : Core} (hx : F[i]? = some x) : NodeP F i x := nodesP.1 ((rightF_iff m F).1 h).2.1 i x hx
theorem ends_rank {nxt : Int → Int} {n : Nat} (r : Nat → Nat) (h : ∀ i : Nat, i < n → nxt i = -1 ∨ ∃ p : Nat, nxt i = p ∧ p < n ∧ r p < r i) : ∀ (k i : Nat), i < n → r i ≤ k → ∃ s, endsZ nxt s (i : Int) = true
  | 0, i, hi, hk => by
    rcases h i hi with e | ⟨p, _, _, e⟩
    · exact ⟨1, by rw [endsZ_step (by omega), e]; rfl⟩
    · omega
  | k + 1, i, hi, hk => by
    rcases h i hi with e | ⟨p, e1, e2, e3⟩
    · exact ⟨1, by rw [endsZ_step (by omega), e]; rfl⟩
    · obtain ⟨s, hs⟩ := ends_rank r h k p e2 (by omega)
      exact ⟨s + 1, by rw [endsZ_step (by omega), e1]; exact hs⟩
theorem right_of {m : Int} {F : List Core} (h1 : 1 ≤ m) (h2 : m ≤ 400) (h3 : (F.length : Int) ≤ m) (h4 : headDoc F = true) (h5 : ∀ (i : Nat) x, F[i]? = some x → NodeP F i x) (r : Nat → Nat) (h6 : ∀ i : Nat, i < F.length → nextUp F i = -1 ∨ ∃ p : Nat, nextUp F i = p ∧ p < F.length ∧ r p < r i) : rightF m F = true := by
  refine (rightF_iff m F).2 ⟨⟨h1, h2, h3, h4⟩, nodesP.2 h5, fun i hi => ?_⟩
  obtain ⟨s, hs⟩ := ends_rank r h6 (r i) i hi (Nat.le_refl _)
  exact endsZ_le (Nat.le_succ _) (ends_small (n := F.length) (fun z h0 h1 => by
    obtain ⟨j, rfl⟩ : ∃ j : Nat, z = j := ⟨z.toNat, by omega⟩
    rcases h6 j (by omega) with e | ⟨p, e1, e2, _⟩
    · exact .inl e
    · exact .inr ⟨by omega, by omega⟩) (.inr ⟨by omega, by omega⟩) hs)
theorem rank_next {m : Int} {F : List Core} (h : rightF m F = true) {i : Nat} (hi : i < F.length) : nextUp F i = -1 ∨ ∃ p : Nat, nextUp F i = p ∧ p < F.length ∧ rankF F p < rankF F i := by
  by_cases e : nextUp F (i : Int) = -1
  · exact .inl e
  · right
    rcases right_up h i (by omega) (by omega) with e2 | ⟨e2, e3⟩
    · exact absurd e2 e
    · have hp : nextUp F (i : Int) = ((nextUp F (i : Int)).toNat : Int) := by omega
      refine ⟨_, hp, by omega, ?_⟩
      have := (treeS h).rank_up _ i hi (parS_some hp)
      omega
end Go.Proofs.YtkfmengdffpcnaaGreatDoor
namespace Go.Proofs.YtkfmengdffpcnaaGreatDoor
open Go.RowKit
def edC (c : Core) (p : Int) (ks : List Int) (d : Int) : Core := ⟨c.kind, c.name, c.is, c.data, c.attrs, p, ks, c.host, c.under, d⟩
structure Edit (F G : List Core) (P : Nat → Core → Int) (K : Nat → Core → List Int) (D : Nat → Core → Int) : Prop where
  len : G.length = F.length
  at_ : ∀ (j : Nat) c, F[j]? = some c → G[j]? = some (edC c (P j c) (K j c) (D j c))
section
variable {F G : List Core} {P : Nat → Core → Int} {K : Nat → Core → List Int} {D : Nat → Core → Int}
theorem Edit.back (h : Edit F G P K D) {j : Nat} {y : Core} (hy : G[j]? = some y) : ∃ c, F[j]? = some c ∧ y = edC c (P j c) (K j c) (D j c) := by
  have hl := (List.getElem?_eq_some_iff.1 hy).1
  rw [h.len] at hl
  have hc : F[j]? = some F[j] := List.getElem?_eq_getElem hl
  have := h.at_ j _ hc
  rw [hy] at this
  exact ⟨_, hc, Option.some.inj this⟩
theorem Edit.getC (h : Edit F G P K D) {z : Int} {c : Core} (hc : Go.Proofs.YtkfmengdffpcnaaGreatDoor.getC F z = some c) : Go.Proofs.YtkfmengdffpcnaaGreatDoor.getC G z = some (edC c (P z.toNat c) (K z.toNat c) (D z.toNat c)) := by
  obtain ⟨h0, _, h2⟩ := getC_some hc
  unfold Go.Proofs.YtkfmengdffpcnaaGreatDoor.getC
  rw [if_pos h0]
  exact h.at_ _ _ h2
theorem Edit.kindK (h : Edit F G P K D) (z : Int) : Go.Proofs.YtkfmengdffpcnaaGreatDoor.kindK G z = Go.Proofs.YtkfmengdffpcnaaGreatDoor.kindK F z := by
  unfold Go.Proofs.YtkfmengdffpcnaaGreatDoor.kindK
  cases hc : Go.Proofs.YtkfmengdffpcnaaGreatDoor.getC F z with
  | some c => rw [h.getC hc]; rfl
  | none =>
    have : Go.Proofs.YtkfmengdffpcnaaGreatDoor.getC G z = none := by
      unfold Go.Proofs.YtkfmengdffpcnaaGreatDoor.getC at hc ⊢
      by_cases h0 : 0 ≤ z
      · rw [if_pos h0] at hc ⊢
        rw [List.getElem?_eq_none_iff] at hc ⊢
        rw [h.len]
        exact hc
      · rw [if_neg h0]
    rw [this]
theorem Edit.head (h : Edit F G P K D) (hd : headDoc F = true) : headDoc G = true := by
  rw [head_eq, isKd_iff] at hd ⊢
  obtain ⟨c, h1, h2⟩ := hd
  exact ⟨_, h.getC h1, h2⟩
theorem Edit.next (h : Edit F G P K D) {j : Nat} {c : Core} (hc : F[j]? = some c) : nextUp G (j : Int) = if P j c = -1 then c.host else P j c := by
  unfold nextUp
  rw [getC_nat, h.at_ j c hc]
  rfl
end
structure Out (m : Int) (F G : List Core) (n p : Nat) (x : Core) : Prop where
  right : rightF m F = true
  hx : F[n]? = some x
  hp : x.parent = (p : Int)
  ed : Edit F G (fun j c => if j = n then -1 else c.parent) (fun j c => if j = p then c.kids.filter (fun z => z != (n : Int)) else c.kids) (fun _ c => c.doc)
section
variable {m : Int} {F G : List Core} {n p : Nat} {x : Core}
theorem Out.kind (h : Out m F G n p x) : x.kind = 1 ∨ x.kind = 2 := right_held h.right h.hx (by rw [h.hp]; omega)
theorem Out.bare (h : Out m F G n p x) : x.host = -1 := (right_node h.right h.hx).free (by rcases h.kind with e | e <;> omega)
theorem Out.next (h : Out m F G n p x) {j : Nat} (hj : j < F.length) : nextUp G (j : Int) = if j = n then -1 else nextUp F j := by
  have hc : F[j]? = some F[j] := List.getElem?_eq_getElem hj
  rw [h.ed.next hc]
  by_cases e : j = n
  · subst e
    rw [if_pos rfl, if_pos rfl, if_pos rfl, ← h.bare]
    rw [h.hx] at hc
    rw [Option.some.inj hc]
  · rw [if_neg e, if_neg e, nextUp_at hc]
    rfl
theorem Out.node (h : Out m F G n p x) {j : Nat} {y : Core} (hy : G[j]? = some y) : NodeP G j y := by
  obtain ⟨c, hc, rfl⟩ := h.ed.back hy
  have N := right_node h.right hc
  refine ⟨N.kind, ?_, N.own, ?_, ?_, fun k hk => ?_, fun e => ?_, fun e => ?_, fun e => ?_, N.free, ?_, N.text⟩
  · obtain ⟨d, h1, h2⟩ := N.doc
    exact ⟨_, h.ed.getC h1, h2⟩
  · by_cases e : j = n
    · exact .inl (if_pos e)
    · rcases N.par with h1 | ⟨h1, q, h2, h3, h4⟩
      · exact .inl ((if_neg e).trans h1)
      · have g := h.ed.getC h2
        refine .inr ⟨h1, edC q (if c.parent.toNat = n then -1 else q.parent) (if c.parent.toNat = p then q.kids.filter (fun z => z != (n : Int)) else q.kids) q.doc, ?_, h3, ?_⟩
        · show getC G (if j = n then -1 else c.parent) = _
          rw [if_neg e]
          exact g
        show (j : Int) ∈ (if c.parent.toNat = p then q.kids.filter (fun z => z != (n : Int)) else q.kids)
        split
        · rw [List.mem_filter]
          exact ⟨h4, bne_iff_ne.2 (by omega)⟩
        · exact h4
  · show (if j = p then c.kids.filter (fun z => z != (n : Int)) else c.kids).Nodup
    split
    · exact N.once.filter _
    · exact N.once
  · have hk2 : k ∈ c.kids ∧ k ≠ (n : Int) := by
      have hk : k ∈ (if j = p then c.kids.filter (fun z => z != (n : Int)) else c.kids) := hk
      split at hk
      · rw [List.mem_filter] at hk
        exact ⟨hk.1, bne_iff_ne.1 hk.2⟩
      · rename_i hne
        refine ⟨hk, fun e => ?_⟩
        subst e
        obtain ⟨d, h1, _, h3, _⟩ := N.kids _ hk
        rw [getC_nat, h.hx] at h1
        rw [← Option.some.inj h1, h.hp] at h3
        exact hne (by omega)
    obtain ⟨d, h1, h2, h3, h4⟩ := N.kids k hk2.1
    obtain ⟨g1, _, _⟩ := getC_some h1
    refine ⟨_, h.ed.getC h1, h2, ?_, h4⟩
    show (if k.toNat = n then -1 else d.parent) = (j : Int)
    rw [if_neg (by have := hk2.2; omega)]
    exact h3
  · show (if j = p then c.kids.filter (fun z => z != (n : Int)) else c.kids) = []
    rw [N.leaf e]
    split <;> rfl
  · obtain ⟨h1, h2⟩ := N.root e
    have hsub : ∀ k ∈ (if j = p then c.kids.filter (fun z => z != (n : Int)) else c.kids), k ∈ c.kids := fun k hk => by
      split at hk
      · exact (List.mem_filter.1 hk).1
      · exact hk
    refine ⟨?_, fun k hk => by rw [h.ed.kindK]; exact h2 k (hsub k hk)⟩
    show (if j = p then c.kids.filter (fun z => z != (n : Int)) else c.kids).length ≤ 1
    split
    · exact Nat.le_trans (List.length_filter_le _ _) h1
    · exact h1
  · obtain ⟨d, h1, h2, h3, h4⟩ := N.host e
    exact ⟨_, h.ed.getC h1, h2, h3, h4⟩
  · rcases N.under with h1 | ⟨h1, u, h2, h3, h4⟩
    · exact .inl h1
    · exact .inr ⟨h1, _, h.ed.getC h2, h3, h4⟩
theorem Out.rightG (h : Out m F G n p x) : rightF m G = true := by
  obtain ⟨⟨h1, h2, h3, h4⟩, _, _⟩ := (rightF_iff m F).1 h.right
  refine right_of h1 h2 (by rw [h.ed.len]; exact h3) (h.ed.head h4) (fun i y hy => h.node hy) (rankF F) (fun i hi => ?_)
  rw [h.ed.len] at hi ⊢
  rw [h.next hi]
  by_cases e : i = n
  · exact .inl (if_pos e)
  · rw [if_neg e]
    exact rank_next h.right hi
theorem Out.parS (h : Out m F G n p x) {j : Nat} (hj : j < F.length) : Go.Proofs.YtkfmengdffpcnaaGreatDoor.parS G j = if j = n then none else Go.Proofs.YtkfmengdffpcnaaGreatDoor.parS F j := by
  unfold Go.Proofs.YtkfmengdffpcnaaGreatDoor.parS
  rw [h.next hj]
  by_cases e : j = n
  · rw [if_pos e, if_pos rfl, if_pos e]
  · rw [if_neg e, if_neg e]
theorem Out.lt (h : Out m F G n p x) : n < F.length := (List.getElem?_eq_some_iff.1 h.hx).1
theorem Out.sub (h : Out m F G n p x) {a : Nat} : ∀ (k b : Nat), b < F.length → upN (Go.Proofs.YtkfmengdffpcnaaGreatDoor.parS G) k b = some a → upN (Go.Proofs.YtkfmengdffpcnaaGreatDoor.parS F) k b = some a
  | 0, b, _, hu => hu
  | k + 1, b, hb, hu => by
    unfold upN at hu ⊢
    rw [h.parS hb] at hu
    by_cases e : b = n
    · rw [if_pos e] at hu; cases hu
    · rw [if_neg e] at hu
      cases hq : Go.Proofs.YtkfmengdffpcnaaGreatDoor.parS F b with
      | none => rw [hq] at hu; cases hu
      | some q =>
        rw [hq] at hu
        exact h.sub k q (parS_next h.right hb hq).2 hu
theorem Out.over (h : Out m F G n p x) {a b : Nat} (ha : a < F.length) (hb : b < F.length) : holdsT (Go.Proofs.YtkfmengdffpcnaaGreatDoor.parS G) a b ↔ holdsT (Go.Proofs.YtkfmengdffpcnaaGreatDoor.parS F) a b ∧ (holdsT (Go.Proofs.YtkfmengdffpcnaaGreatDoor.parS F) n b → holdsT (Go.Proofs.YtkfmengdffpcnaaGreatDoor.parS F) n a) := by
  have T := treeS h.right
  constructor
  · rintro ⟨k, hk⟩
    refine ⟨⟨k, h.sub k b hb hk⟩, fun hn => ?_⟩
    rcases holds_line ⟨k, h.sub k b hb hk⟩ hn with h1 | h1
    · -- a is over n; the way from b to a in G passes n only if a is n
      have key : ∀ (k b : Nat), b < F.length → upN (Go.Proofs.YtkfmengdffpcnaaGreatDoor.parS G) k b = some a → holdsT (Go.Proofs.YtkfmengdffpcnaaGreatDoor.parS F) n b → a = n := by
        intro k
        induction k with
        | zero =>
          intro b hb hu hn
          obtain rfl : b = a := Option.some.inj hu
          exact T.holds_anti ha h.lt h1 hn
        | succ k ih =>
          intro b hb hu hn
          unfold upN at hu
          rw [h.parS hb] at hu
          by_cases e : b = n
          · rw [if_pos e] at hu; cases hu
          · rw [if_neg e] at hu
            cases hq : Go.Proofs.YtkfmengdffpcnaaGreatDoor.parS F b with
            | none => rw [hq] at hu; cases hu
            | some q =>
              rw [hq] at hu
              refine ih q (parS_next h.right hb hq).2 hu ?_
              rcases holds_up hn with e2 | ⟨q2, e2, e3⟩
              · exact absurd e2.symm e
              · rw [hq] at e2
                rw [Option.some.inj e2]
                exact e3
      rw [key k b hb hk hn]
      exact holds_refl n
    · exact h1
  · rintro ⟨⟨k, hk⟩, hn⟩
    have key : ∀ (k b : Nat), b < F.length → upN (Go.Proofs.YtkfmengdffpcnaaGreatDoor.parS F) k b = some a → (holdsT (Go.Proofs.YtkfmengdffpcnaaGreatDoor.parS F) n b → holdsT (Go.Proofs.YtkfmengdffpcnaaGreatDoor.parS F) n a) → holdsT (Go.Proofs.YtkfmengdffpcnaaGreatDoor.parS G) a b := by
      intro k
      induction k with
      | zero =>
        intro b hb hu _
        obtain rfl : b = a := Option.some.inj hu
        exact holds_refl b
      | succ k ih =>
        intro b hb hu hn
        unfold upN at hu
        cases hq : Go.Proofs.YtkfmengdffpcnaaGreatDoor.parS F b with
        | none => rw [hq] at hu; cases hu
        | some q =>
          rw [hq] at hu
          have hql := (parS_next h.right hb hq).2
          by_cases e : b = n
          · subst e
            have h1 := hn (holds_refl b)
            have h2 : a = b := T.holds_anti ha hb (holds_trans ⟨k, hu⟩ (holds_par hq)) h1
            subst h2
            exact holds_refl a
          · have h1 := ih q hql hu (fun h2 => hn (holds_trans h2 (holds_par hq)))
            exact holds_trans h1 (holds_par (by rw [h.parS hb, if_neg e]; exact hq))
    exact key k b hb hk hn
end
end Go.Proofs.YtkfmengdffpcnaaGreatDoor
namespace Go.Proofs.YtkfmengdffpcnaaGreatDoor
open Go.RowKit Go.Shelf
attribute [local go_sem] Oper.semAt_some
set_option maxHeartbeats 2000000 in
theorem backward_any (a : Option Addr) (len cap : Nat) (w : World) :
    Calls Tryz.prog 116 #[.slice a len cap] w fun e w' => e = .returned (.func (.func 133) #[] #[.pointer (some ⟨w.heap.size, 0, none⟩)]) ∧ w' = w.alloc (.cells #[.slice a len cap] 34) := by
  go_enter Tryz.func116, Tryz.ntmps116
  go_wp2
  go_ret
  exact ⟨rfl, rfl⟩
def backF (K : List Int) (j : Nat) : Int × Int := ((K.length : Int) - 1 - j, K[K.length - 1 - j]?.getD 0)
def backTo (K : List Int) (k : Nat) : List (Int × Int) := (List.range k).map (backF K)
theorem backTo_succ (K : List Int) (k : Nat) : backTo K (k + 1) = backTo K k ++ [backF K k] := by simp [backTo, List.range_succ]
theorem backTo_length (K : List Int) (k : Nat) : (backTo K k).length = k := by simp [backTo]
def KpB (Bs n₀ : Nat) (W W' : World) : Prop := W'.heap[Bs]? = W.heap[Bs]? ∧ Below n₀ W W'
abbrev encP (x : Int × Int) : Array Value := #[.int .i64 x.1, .int .i64 x.2]
set_option maxRecDepth 100000 in
set_option maxHeartbeats 4000000 in
theorem back1_in (F : Fence) (n : Nat) (hf : F.fn 133) (hro : F.round = none) (hn : 1 ≤ n) (l Bs n₀ : Nat) (a : Option Addr) (len cap : Nat) (K : List Int) (J Jx : List (Int × Int) → World → Prop)
    (hY : ∀ pre x W, J pre W → pre.length < len → YieldAt F (n - 1) Tryz.prog l (encP x) W fun e W' =>
      (e = .returned (.bool true) ∧ J (pre ++ [x]) W' ∧ KpB Bs n₀ W W') ∨ (e = .returned (.bool false) ∧ Jx (pre ++ [x]) W'))
    (W : World) (hBs : W.cell? ⟨Bs, 0, none⟩ = some (.slice a len cap)) (hK : IntRow W a len cap K) (hlow : ∀ b off, a = some ⟨b, off, none⟩ → 0 < len → b < n₀) (h0 : J [] W) :
    CallsIn F n Tryz.prog 133 #[.func (.yield l) #[] #[], .pointer (some ⟨Bs, 0, none⟩)] W fun e W' => (∃ v, e = .returned v) ∧
      ((∃ ys, ys = backTo K len ∧ J ys W') ∨ (∃ pre, pre.length ≤ len ∧ Jx pre W')) := by
  have hl := hK.len64
  have HL := Lib.hid hK.hlen
  have HK := Lib.hid hK
  clear hK
  refine callsIn_of_wp Tryz.func133 rfl hf ?_ hro
  simp only [Tryz.ntmps133, List.size_toArray, List.length_cons, List.length_nil, Nat.reduceAdd, Nat.reduceSub, Array.replicate_succ, Array.replicate_zero, List.push_toArray, List.append_toArray, List.nil_append, List.cons_append]
  gi_wp2
  gi_loopw [3] (fun i wr => ∃ k : Nat, k ≤ len ∧ i = .int .i64 ((len : Int) - 1 - k) ∧ J (backTo K k) wr ∧ KpB Bs n₀ W wr) (fun i _ => (intOf i + 1).toNat)
  case atStart => exact ⟨0, Nat.zero_le _, by simp, h0, rfl, Below.refl _ _⟩
  case round =>
    obtain ⟨k, hk, rfl, hJs, hkp⟩ := hrel
    have hB2 : wr.cell? ⟨Bs, 0, none⟩ = some (.slice a len cap) := (World.cell?_of_block (a := ⟨Bs, 0, none⟩) hkp.1).trans hBs
    by_cases hlt : k < len
    · obtain ⟨j, hj⟩ : ∃ j : Nat, (len : Int) - 1 - k = j := ⟨len - 1 - k, by omega⟩
      obtain ⟨b, off, z, rfl, hb, hz, hcz, hin⟩ := HK.out.get (k := j) (by omega)
      have hcz2 : wr.cell? ⟨b, off + j, none⟩ = some (.int .i64 z) := (hkp.2.cell (p := ⟨b, off + j, none⟩) (hlow b off rfl (by omega))).trans hcz
      have hfk : backF K k = ((j : Int), z) := by
        unfold backF
        rw [HL.out, hj, show len - 1 - k = j by omega, hz]
        rfl
      obtain ⟨fn, tmps, assign, body, hy, hR⟩ := hY _ ((j : Int), z) wr hJs (by rw [backTo_length]; exact hlt)
      try dsimp only at hy
      rw [hj]
      have hj64 : j ≤ 9223372036854775807 := by omega
      clear hz hcz hin
      gi_wp2
      refine hR.mono ?_
      rintro e W3 (⟨rfl, hJ3, hk3⟩ | ⟨rfl, hJx3⟩)
      · gi_wp2
        go_roundw
        case rel => exact ⟨k + 1, by omega, by congr 1; omega, by rw [backTo_succ, hfk]; exact hJ3, hk3.1.trans hkp.1, hkp.2.trans hk3.2⟩
        case measure => simp [intOf]
      · gi_wp2
        refine bodyPost_ret (results_none rfl _ _ _) rfl ?_
        exact ⟨⟨_, rfl⟩, .inr ⟨_, by rw [List.length_append, backTo_length]; simp; omega, hJx3⟩⟩
    · have hkk : k = len := by omega
      subst hkk
      have e1 : (k : Int) - 1 - k = -1 := by omega
      rw [e1]
      gi_wp2
      go_end0
      exact ⟨⟨_, rfl⟩, .inl ⟨_, rfl, hJs⟩⟩
theorem back_stops (F : Fence) (n : Nat) (hf : F.fn 133) (hro : F.round = none) (hn : 1 ≤ n) (Bs n₀ : Nat) (a : Option Addr) (len cap : Nat) (K : List Int) (w : World) (hBs : Bs < w.heap.size) 
    (hc : w.cell? ⟨Bs, 0, none⟩ = some (.slice a len cap)) (hK : IntRow w a len cap K) (hlow : ∀ b off, a = some ⟨b, off, none⟩ → 0 < len → b < n₀) :
    SeqStopsK F n Tryz.prog 133 #[.pointer (some ⟨Bs, 0, none⟩)] encP (KpB Bs n₀) (fun ys => ys = backTo K len) (fun pre => pre.length ≤ len) len w := fun l J Jx W hW _ _ hY h0 =>
  back1_in F n hf hro hn l Bs n₀ a len cap K J Jx hY W ((hW.cell (p := ⟨Bs, 0, none⟩) hBs).trans hc) (hK.below hW) hlow h0
end Go.Proofs.YtkfmengdffpcnaaGreatDoor
namespace Go.Proofs.YtkfmengdffpcnaaGreatDoor
open Go.RowKit Go.Shelf
theorem wpListIn_append_keep {F : Fence} {n : Nat} {P : Program} (w : World) {ops : Array Oper} {rest : List Oper} {o : Oper} {a : Act} {Q : Exit → Act → World → Prop}
    (hg : o.guard = none) (s x : Operand) (t : TypeId) (hop : o.op = Op.call { callee := Callee.builtin Builtin.append, args := #[s, x], argTypes := #[t, t] })
    (base : Nat) (e : TypeId) (i : TypeInfo) (z : Value) (size bytes : Nat) (h1 : P.underlying t = some (.slice e)) (h2 : P.info? e = some i) (h3 : i.zero = some z) (h4 : i.size = size) (h5 : i.bytes = bytes) (h6 : z.cells.size = size) (h7 : 0 < size)
    (v : Value) (k : Nat) (xs : List Value) (hs : a.eval s = v) (hown : w.ownsRow base e size v k xs) (ad : Addr) (m c : Nat) (news : List Value) (hx : a.eval x = .slice (some ad) m c) (hn : news.length = m * size)
    (hc : ∀ j u, news[j]? = some u → w.cell? (ad.add j) = some u) (h1c : ∀ u ∈ news, u.oneCell' = true) (hm : 0 < m) (b1 : k + m ≤ maxLen) (b2 : (k + m) * bytes ≤ 140737488355328) (b3 : base ≤ w.heap.size)
    (hK : ∀ g cap w', w'.ownsRow base e size (.slice (some ⟨g, 0, none⟩) (k + m) cap) (k + m) (xs ++ news) → w'.ownsRow base e size v k xs → w.grownBy w' v.ownBlock → (v.ownBlock = some g ∨ g = w.heap.size) → g < w'.heap.size → wpListIn F n P ops Q rest (a.put o.dst (.slice (some ⟨g, 0, none⟩) (k + m) cap)) w') :
    wpListIn F n P ops Q (o :: rest) a w := by
  refine wpListIn_plain hg fun K hK' => ?_
  obtain ⟨g, cap, w', hrun, r1, r2, r3, r4, r5⟩ := run_append_keep (P := P) w t o.type base e i z size bytes h1 h2 h3 h4 h5 h6 h7 v k xs hown ad m c news hn hc h1c hm b1 b2 b3
  unfold Oper.wpIn
  refine ⟨?_, ?_⟩
  · simp [Oper.about, hop, resolve, Target.leads, Sem.run_pure]
  · rw [Oper.semAt_plain F _ _ (by rw [hop]; intro c hc'; cases hc')]
    simp [execOp, hop, resolve, invoke, builtin, hs, hx, hrun, Result.andThen]
    exact hK' _ _ (hK g cap w' r1 r2 r3 r4 r5)
abbrev markD (D : Nat) : Deferred := { target := .collected D, args := #[] }
structure Marks (B : Nat) (ds : List Nat) (W : World) : Prop where
  nd : ds.Nodup
  at_ : ∀ D ∈ ds, B ≤ D ∧ W.heap[D]? = some (.deferred (some []))
theorem Marks.kept {B : Nat} {ds : List Nat} {W W2 : World} {row : Option Nat} (h : Marks B ds W) (hg : W.grownBy W2 row) (hne : ∀ r, row = some r → (∃ c e f, W.heap[r]? = some (.cells c e f)) ∨ r ∉ ds) : Marks B ds W2 := by
  refine ⟨h.nd, fun D hD => ⟨(h.at_ D hD).1, (hg.block D (Array.getElem?_eq_some_iff.1 (h.at_ D hD).2).1 (fun e => ?_)).trans (h.at_ D hD).2⟩⟩
  rcases hne D e.symm with ⟨c, t, f, hc⟩ | hn
  · rw [(h.at_ D hD).2] at hc
    cases hc
  · exact hn hD
theorem leaves_marks {F : Fence} {n : Nat} {P : Program} {fn : Func} {tmps : Array Value} {R : Ending → World → Prop} (B : Nat) (Φ : World → Prop)
    (stab : ∀ W D, Φ W → B ≤ D → W.heap[D]? = some (.deferred (some [])) → Φ (W.putObj D (.deferred none))) (fin : ∀ W, Φ W → LeavesIn F n P fn tmps R [] .returning W) :
    ∀ (ds : List Nat) (W : World), Marks B ds W → Φ W → LeavesInM F n P fn tmps R (ds.map markD) .returning W
  | [], W, _, h => fin W h
  | D :: ds, W, hm, h => by
    have hD := hm.at_ D (by simp)
    have hnd := List.nodup_cons.1 hm.nd
    refine ⟨by simp, .inl ⟨D, _, rfl, run_takeDeferred hD.2, ?_⟩⟩
    refine leaves_marks B Φ stab fin ds _ ⟨hnd.2, fun E hE => ⟨(hm.at_ E (by simp [hE])).1, ?_⟩⟩ (stab W D h hD.1 hD.2)
    have hne : E ≠ D := fun e => hnd.1 (by rw [← e]; exact hE)
    rw [World.putObj_heap_other hne]
    exact (hm.at_ E (by simp [hE])).2
theorem own_prefix {w : World} {base : Nat} {e : TypeId} {size g k cap : Nat} {xs ys : List Value} (h : w.ownsRow base e size (.slice (some ⟨g, 0, none⟩) (k + 1) cap) (k + 1) (xs ++ ys)) (hl : xs.length = k * size) : w.ownsRow base e size (.slice (some ⟨g, 0, none⟩) k cap) k xs := by
  refine ⟨hl, ?_⟩
  rcases h.2 with ⟨hv, _⟩ | ⟨g', cap', cur, hv, hb, hg, h1, h2, h3, h4⟩
  · cases hv
  · injection hv with e1 e2 e3
    subst e3
    refine .inr ⟨g', cap, cur, by rw [e1], hb, hg, by omega, h2, h3, ?_⟩
    have := congrArg (List.take (k * size)) h4
    rw [List.take_take, Nat.min_eq_left (Nat.mul_le_mul_right _ (by omega)), ← hl, List.take_left] at this
    rw [← hl]
    exact this
structure Hand (w1 W : World) (B Bp g cp : Nat) (vo : Value) (out P : List Int) : Prop where
  below : Below B w1 W
  pile : Boxed W Bp 34 (.slice (some ⟨g, 0, none⟩) P.length cp)
  low : B ≤ Bp
  prow : W.ownsRow B 3 1 (.slice (some ⟨g, 0, none⟩) P.length cp) P.length (P.map encI)
  orow : W.ownsRow B 3 1 vo out.length (out.map encI)
  apart : vo.ownBlock ≠ some g
theorem Hand.kept {w1 W W2 : World} {B Bp g cp : Nat} {vo : Value} {out P : List Int} {row : Option Nat} (h : Hand w1 W B Bp g cp vo out P) (hg : W.grownBy W2 row) (hB : ∀ r, row = some r → B ≤ r) (h1 : some Bp ≠ row) (h2 : some g ≠ row) (h3 : vo.ownBlock = none ∨ vo.ownBlock ≠ row) (hsz : B ≤ W.heap.size) : Hand w1 W2 B Bp g cp vo out P :=
  ⟨h.below.grown hg hsz (fun k e => hB k e), h.pile.kept hg h1, h.low, h.prow.kept hg (.inr h2), h.orow.kept hg h3, h.apart⟩
theorem Hand.size {w1 W : World} {B Bp g cp : Nat} {vo : Value} {out P : List Int} (h : Hand w1 W B Bp g cp vo out P) : B ≤ W.heap.size := by
  have h1 := h.low
  have h2 := h.pile.lt
  omega
theorem own_cells {w : World} {base : Nat} {e : TypeId} {size n : Nat} {v : Value} {xs : List Value} (h : w.ownsRow base e size v n xs) : ∀ r, v.ownBlock = some r → ∃ c t f, w.heap[r]? = some (.cells c t f) := fun r hr => by
  rcases h.2 with ⟨rfl, _⟩ | ⟨g, cap, cur, rfl, _, hg, _⟩
  · cases hr
  · injection hr with hr
    have e : g = r := hr
    subst e
    exact ⟨_, _, _, hg⟩
theorem Hand.alloc {w1 W : World} {B Bp g cp : Nat} {vo : Value} {out P : List Int} (h : Hand w1 W B Bp g cp vo out P) (o : Obj) : Hand w1 (W.alloc o) B Bp g cp vo out P :=
  h.kept (World.grownBy_alloc W o none) (fun r e => by cases e) (by simp) (by simp) (by
    cases hv : vo.ownBlock with
    | none => exact .inl rfl
    | some k => exact .inr (by simp)) h.size
theorem Hand.other {w1 W W2 : World} {B Bp g cp : Nat} {vo : Value} {out P : List Int} {row : Option Nat} (h : Hand w1 W B Bp g cp vo out P) (hg : W.grownBy W2 row) (hr : ∀ r, row = some r → B ≤ r ∧ ∃ o : Obj, W.heap[r]? = some o ∧ o.isCells = false) : Hand w1 W2 B Bp g cp vo out P := by
  have no : ∀ k, (∃ c t f, W.heap[k]? = some (.cells c t f)) → some k ≠ row := fun k ⟨c, t, f, hc⟩ e => by
    obtain ⟨_, o, ho, hoc⟩ := hr k e.symm
    rw [hc] at ho
    injection ho with ho
    rw [← ho] at hoc
    cases hoc
  refine h.kept hg (fun r e => (hr r e).1) (no Bp ⟨_, _, _, h.pile⟩) (no g (own_cells h.prow g rfl)) ?_ h.size
  cases hv : vo.ownBlock with
  | none => exact .inl rfl
  | some k => exact .inr (no k (own_cells h.orow k hv))
theorem Hand.pop {w1 W : World} {B Bp g cp : Nat} {vo : Value} {out Q : List Int} {z : Int} (h : Hand w1 W B Bp g cp vo out (Q ++ [z])) : Hand w1 (W.setCell ⟨Bp, 0, none⟩ (.slice (some ⟨g, 0, none⟩) Q.length cp)) B Bp g cp vo out Q := by
  have hp := h.prow
  rw [List.length_append, List.map_append] at hp
  have hp2 := own_prefix hp (by simp)
  have hne : some Bp ≠ some g := h.pile.not_row (by decide) h.prow
  have hno := h.pile.not_row (by decide) h.orow
  refine ⟨h.below.setCell (p := ⟨Bp, 0, none⟩) h.low _, h.pile.set _, h.low, hp2.kept (grownBy_setCell' W Bp _) (.inr (fun e => hne e.symm)), h.orow.kept (grownBy_setCell' W Bp _) (.inr (fun e => hno e.symm)), h.apart⟩
theorem Hand.more {w1 W W2 : World} {B Bp g cp g2 cap : Nat} {vo : Value} {out P : List Int} {z : Int} {tmp : Obj} (h : Hand w1 W B Bp g cp vo out P)
    (ho : W2.ownsRow B 3 1 (.slice (some ⟨g2, 0, none⟩) (out.length + 1) cap) (out.length + 1) (out.map encI ++ [encI z])) (hg : (W.alloc tmp).grownBy W2 vo.ownBlock) (hat : vo.ownBlock = some g2 ∨ g2 = (W.alloc tmp).heap.size) : Hand w1 W2 B Bp g cp (.slice (some ⟨g2, 0, none⟩) (out.length + 1) cap) (out ++ [z]) P := by
  have h1 := h.alloc tmp
  have hno := h1.pile.not_row (by decide) h1.orow
  refine ⟨h1.below.grown hg h1.size (fun k e => (h1.orow.lt k e).1), h1.pile.kept hg hno, h1.low, h1.prow.kept hg (.inr (fun e => h1.apart e.symm)), by simpa using ho, fun e => ?_⟩
  have e2 : g2 = g := by injection e
  rcases hat with hat | hat
  · exact h.apart (by rw [hat, e2])
  · have := (h1.prow.lt g rfl).2
    omega
theorem Hand.push {w1 W W2 : World} {B Bp g cp g2 cap : Nat} {vo : Value} {out P : List Int} {z : Int} {tmp : Obj} (h : Hand w1 W B Bp g cp vo out P)
    (ho : W2.ownsRow B 3 1 (.slice (some ⟨g2, 0, none⟩) (P.length + 1) cap) (P.length + 1) (P.map encI ++ [encI z])) (hg : (W.alloc tmp).grownBy W2 (Value.ownBlock (.slice (some ⟨g, 0, none⟩) P.length cp))) (hat : Value.ownBlock (.slice (some ⟨g, 0, none⟩) P.length cp) = some g2 ∨ g2 = (W.alloc tmp).heap.size) :
    Boxed W2 Bp 34 (.slice (some ⟨g, 0, none⟩) P.length cp) ∧ Hand w1 (W2.setCell ⟨Bp, 0, none⟩ (.slice (some ⟨g2, 0, none⟩) (P.length + 1) cap)) B Bp g2 cap vo out (P ++ [z]) := by
  have h1 := h.alloc tmp
  have hno := h1.pile.not_row (by decide) h1.prow
  have hb := h1.pile.kept hg hno
  have hb2 := hb.not_row (by decide) ho
  have hor := h1.orow.kept hg (.inr h1.apart)
  have hno2 := hb.not_row (by decide) hor
  have e1 : (P ++ [z]).length = P.length + 1 := by simp
  refine ⟨hb, (h1.below.grown hg h1.size (fun k e => (h1.prow.lt k e).1)).setCell (p := ⟨Bp, 0, none⟩) h.low _, by rw [e1]; exact hb.set _, h.low, ?_, hor.kept (grownBy_setCell' W2 Bp _) (.inr (fun e => hno2 e.symm)), fun e => ?_⟩
  · rw [e1, List.map_append]
    exact ho.kept (grownBy_setCell' W2 Bp _) (.inr (fun e => hb2 e.symm))
  · rcases hat with hat | hat
    · have e2 : g = g2 := by injection hat
      exact h.apart (by rw [e, e2])
    · have := (h1.orow.lt g2 e).2
      omega
theorem Hand.next {w1 W : World} {B Bp g cp : Nat} {vo : Value} {out P : List Int} (h : Hand w1 W B Bp g cp vo out P) : Hand w1 (W.alloc (.cells #[.slice (some ⟨g, 0, none⟩) P.length cp] 34)) B W.heap.size g cp vo out P := by
  have h1 := h.alloc (.cells #[.slice (some ⟨g, 0, none⟩) P.length cp] 34)
  exact ⟨h1.below, Boxed.new _ _ _, h.size, h1.prow, h1.orow, h1.apart⟩
end Go.Proofs.YtkfmengdffpcnaaGreatDoor
namespace Go.Proofs.YtkfmengdffpcnaaGreatDoor
open Go.RowKit
structure PutIn (m : Int) (F G : List Core) (l : List Int) (p : Nat) (cp : Core) (A B : List Int) (mv : Nat → Bool) : Prop where
  right : rightF m F = true
  hp : F[p]? = some cp
  kp : cp.kind ≠ 2
  once : l.Nodup
  ls : ∀ z ∈ l, ∃ (q : Nat) (c : Core), z = q ∧ F[q]? = some c ∧ (c.kind = 1 ∨ c.kind = 2)
  over : ∀ q : Nat, (q : Int) ∈ l → ¬ holdsT (parS F) q p
  ab : A ++ B = cp.kids.filter (fun z => !l.contains z)
  root : cp.kind = 0 → (A ++ l ++ B).length ≤ 1 ∧ ∀ k ∈ A ++ l ++ B, kindK F k = 1
  hmv : ∀ j, j < F.length → (mv j = true ↔ ∃ q : Nat, (q : Int) ∈ l ∧ holdsT (parS F) q j)
  ed : Edit F G (fun j c => if l.contains (j : Int) then (p : Int) else c.parent) (fun j c => if j = p then A ++ l ++ B else c.kids.filter (fun z => !l.contains z)) (fun j c => if mv j then cp.doc else c.doc)
section
variable {m : Int} {F G : List Core} {l : List Int} {p : Nat} {cp : Core} {A B : List Int} {mv : Nat → Bool}
theorem parS_parent {c : Core} {j q : Nat} (hc : F[j]? = some c) (h : c.parent = (q : Int)) : parS F j = some q := parS_some (by rw [nextUp_at hc]; show (if c.parent = -1 then c.host else c.parent) = (q : Int); rw [if_neg (by omega), h])
theorem parS_host {c : Core} {j q : Nat} (hc : F[j]? = some c) (hp : c.parent = -1) (h : c.host = (q : Int)) : parS F j = some q := parS_some (by rw [nextUp_at hc]; show (if c.parent = -1 then c.host else c.parent) = (q : Int); rw [if_pos hp, h])
theorem PutIn.lt (h : PutIn m F G l p cp A B mv) : p < F.length := (List.getElem?_eq_some_iff.1 h.hp).1
theorem PutIn.mvp (h : PutIn m F G l p cp A B mv) : mv p = false := by
  cases hq : mv p with
  | false => rfl
  | true =>
    obtain ⟨q, h1, h2⟩ := (h.hmv p h.lt).1 hq
    exact absurd h2 (h.over q h1)
theorem PutIn.mv_up (h : PutIn m F G l p cp A B mv) {j q : Nat} (hj : j < F.length) (hq : parS F j = some q) (hjl : (j : Int) ∉ l) : mv j = mv q := by
  have hql := (parS_next h.right hj hq).2
  rw [Bool.eq_iff_iff, h.hmv j hj, h.hmv q hql]
  constructor
  · rintro ⟨r, h1, h2⟩
    rcases holds_up h2 with e | ⟨s, e1, e2⟩
    · exact absurd (e ▸ h1) hjl
    · rw [hq] at e1
      obtain rfl := Option.some.inj e1
      exact ⟨r, h1, e2⟩
  · rintro ⟨r, h1, h2⟩
    exact ⟨r, h1, holds_trans h2 (holds_par hq)⟩
theorem PutIn.mem_k (h : PutIn m F G l p cp A B mv) {k : Int} : k ∈ A ++ l ++ B ↔ k ∈ l ∨ (k ∈ cp.kids ∧ k ∉ l) := by
  have e : k ∈ A ++ B ↔ k ∈ cp.kids ∧ k ∉ l := by
    rw [h.ab, List.mem_filter]
    simp
  rw [List.mem_append] at e
  rw [List.mem_append, List.mem_append, ← e]
  constructor
  · rintro ((h1 | h1) | h1)
    · exact .inr (.inl h1)
    · exact .inl h1
    · exact .inr (.inr h1)
  · rintro (h1 | h1 | h1)
    · exact .inl (.inr h1)
    · exact .inl (.inl h1)
    · exact .inr h1
theorem PutIn.once_k (h : PutIn m F G l p cp A B mv) : (A ++ l ++ B).Nodup := by
  have hab : (A ++ B).Nodup := by rw [h.ab]; exact (right_node h.right h.hp).once.filter _
  have hp : List.Perm (A ++ l ++ B) (l ++ (A ++ B)) := by
    rw [← List.append_assoc]
    exact List.Perm.append_right B List.perm_append_comm
  refine hp.nodup_iff.2 (List.nodup_append.2 ⟨h.once, hab, fun a ha b hb e => ?_⟩)
  rw [h.ab, List.mem_filter] at hb
  subst e
  simp at hb
  exact hb.2 ha
theorem PutIn.moved (h : PutIn m F G l p cp A B mv) {q : Nat} {c : Core} (hc : F[q]? = some c) (hq : (q : Int) ∈ l) : mv q = true := (h.hmv q (List.getElem?_eq_some_iff.1 hc).1).2 ⟨q, hq, holds_refl q⟩
theorem PutIn.node (h : PutIn m F G l p cp A B mv) {j : Nat} {y : Core} (hy : G[j]? = some y) : NodeP G j y := by
  obtain ⟨c, hc, rfl⟩ := h.ed.back hy
  have hjl := (List.getElem?_eq_some_iff.1 hc).1
  have N := right_node h.right hc
  have gp : ∃ z, getC G (p : Int) = some z ∧ z.kind = cp.kind ∧ z.kids = A ++ l ++ B := ⟨_, h.ed.getC (z := (p : Int)) (by rw [getC_nat]; exact h.hp), rfl, by show (if (p : Int).toNat = p then A ++ l ++ B else _) = _; rw [if_pos (by omega)]⟩
  have nokind : c.kind = 0 ∨ c.kind = 3 ∨ c.kind = 4 → (j : Int) ∉ l := fun hk hm => by
    obtain ⟨q, c2, h1, h2, h3⟩ := h.ls _ hm
    obtain rfl : q = j := by omega
    rw [hc] at h2
    obtain rfl := Option.some.inj h2
    omega
  refine ⟨N.kind, ?_, fun e => ?_, ?_, ?_, fun k hk => ?_, fun e => ?_, fun e => ?_, fun e => ?_, N.free, ?_, N.text⟩
  · show ∃ d, getC G (if mv j then cp.doc else c.doc) = some d ∧ d.kind = 0
    split
    · obtain ⟨d, h1, h2⟩ := (right_node h.right h.hp).doc
      exact ⟨_, h.ed.getC h1, h2⟩
    · obtain ⟨d, h1, h2⟩ := N.doc
      exact ⟨_, h.ed.getC h1, h2⟩
  · show (if mv j then cp.doc else c.doc) = (j : Int)
    have hnm : mv j = false := by
      cases hq : mv j with
      | false => rfl
      | true =>
        obtain ⟨q, h1, h2⟩ := (h.hmv j hjl).1 hq
        rcases holds_up h2 with e1 | ⟨s, e1, _⟩
        · subst e1
          exact absurd h1 (nokind (.inl e))
        · have hn := (parS_next h.right hjl e1).1
          rw [nextUp_at hc] at hn
          have hn2 : (if c.parent = -1 then c.host else c.parent) = (s : Int) := hn
          have hpar : c.parent = -1 := by
            rcases N.par with h3 | ⟨h3, _⟩
            · exact h3
            · have e : c.kind = 0 := e
              omega
          rw [if_pos hpar, N.free (by have e : c.kind = 0 := e; omega)] at hn2
          omega
    rw [hnm]
    exact N.own e
  · by_cases hm : (j : Int) ∈ l
    · obtain ⟨q, c2, h1, h2, h3⟩ := h.ls _ hm
      obtain rfl : q = j := by omega
      rw [hc] at h2
      obtain rfl := Option.some.inj h2
      obtain ⟨z, z1, z2, z3⟩ := gp
      refine .inr ⟨h3, z, ?_, by rw [z2]; exact h.kp, by rw [z3]; exact h.mem_k.2 (.inl hm)⟩
      show getC G (if l.contains (q : Int) then (p : Int) else c.parent) = _
      rw [if_pos (by simpa using hm)]
      exact z1
    · rcases N.par with h1 | ⟨h1, q, h2, h3, h4⟩
      · refine .inl ?_
        show (if l.contains (j : Int) then (p : Int) else c.parent) = -1
        rw [if_neg (by simpa using hm)]
        exact h1
      · have g := h.ed.getC h2
        refine .inr ⟨h1, edC q (if l.contains ((c.parent.toNat : Nat) : Int) then (p : Int) else q.parent) (if c.parent.toNat = p then A ++ l ++ B else q.kids.filter (fun z => !l.contains z)) (if mv c.parent.toNat then cp.doc else q.doc), ?_, h3, ?_⟩
        · show getC G (if l.contains (j : Int) then (p : Int) else c.parent) = _
          rw [if_neg (by simpa using hm)]
          exact g
        · show (j : Int) ∈ (if c.parent.toNat = p then A ++ l ++ B else q.kids.filter (fun z => !l.contains z))
          split
          · next hpp =>
            have hq : q = cp := by
              obtain ⟨_, _, h5⟩ := getC_some h2
              rw [hpp, h.hp] at h5
              exact (Option.some.inj h5).symm
            exact h.mem_k.2 (.inr ⟨hq ▸ h4, hm⟩)
          · rw [List.mem_filter]
            exact ⟨h4, by simpa using hm⟩
  · show (if j = p then A ++ l ++ B else c.kids.filter (fun z => !l.contains z)).Nodup
    split
    · exact h.once_k
    · exact N.once.filter _
  · have hk2 : k ∈ (if j = p then A ++ l ++ B else c.kids.filter (fun z => !l.contains z)) := hk
    show ∃ c', getC G k = some c' ∧ (c'.kind = 1 ∨ c'.kind = 2) ∧ c'.parent = (j : Int) ∧ c'.doc = (if mv j then cp.doc else c.doc)
    have old : k ∈ c.kids → k ∉ l → ∃ c', getC G k = some c' ∧ (c'.kind = 1 ∨ c'.kind = 2) ∧ c'.parent = (j : Int) ∧ c'.doc = (if mv j then cp.doc else c.doc) := fun h1 h2 => by
      obtain ⟨d, h3, h4, h5, h6⟩ := N.kids k h1
      obtain ⟨g0, g1, g2⟩ := getC_some h3
      have hkn : ((k.toNat : Nat) : Int) = k := by omega
      refine ⟨_, h.ed.getC h3, h4, ?_, ?_⟩
      · show (if l.contains ((k.toNat : Nat) : Int) then (p : Int) else d.parent) = (j : Int)
        rw [hkn, if_neg (by simpa using h2)]
        exact h5
      · show (if mv k.toNat then cp.doc else d.doc) = _
        rw [h.mv_up (List.getElem?_eq_some_iff.1 g2).1 (parS_parent g2 h5) (by rw [hkn]; exact h2), h6]
    by_cases e : j = p
    · subst e
      rw [if_pos rfl] at hk2
      have hcc : c = cp := by have := h.hp; rw [hc] at this; exact Option.some.inj this
      subst hcc
      rcases h.mem_k.1 hk2 with h1 | ⟨h1, h2⟩
      · obtain ⟨q, c2, rfl, h2, h3⟩ := h.ls _ h1
        refine ⟨_, h.ed.getC (z := (q : Int)) (by rw [getC_nat]; exact h2), h3, ?_, ?_⟩
        · show (if l.contains (((q : Int).toNat : Nat) : Int) then (j : Int) else c2.parent) = (j : Int)
          rw [show (((q : Int).toNat : Nat) : Int) = q by omega, if_pos (by simpa using h1)]
        · show (if mv (q : Int).toNat then c.doc else c2.doc) = _
          rw [show (q : Int).toNat = q by omega, h.moved h2 h1, h.mvp]
          rfl
      · exact old h1 h2
    · rw [if_neg e, List.mem_filter] at hk2
      exact old hk2.1 (by simpa using hk2.2)
  · show (if j = p then A ++ l ++ B else c.kids.filter (fun z => !l.contains z)) = []
    rw [if_neg (fun e2 => by
      subst e2
      have hcc : c = cp := by have := h.hp; rw [hc] at this; exact Option.some.inj this
      exact h.kp (hcc ▸ e)), N.leaf e]
    rfl
  · show (if j = p then A ++ l ++ B else c.kids.filter (fun z => !l.contains z)).length ≤ 1 ∧ ∀ k ∈ (if j = p then A ++ l ++ B else c.kids.filter (fun z => !l.contains z)), kindK G k = 1
    split
    · next e2 =>
      subst e2
      have hcc : c = cp := by have := h.hp; rw [hc] at this; exact Option.some.inj this
      obtain ⟨h1, h2⟩ := h.root (hcc ▸ e)
      exact ⟨h1, fun k hk => by rw [h.ed.kindK]; exact h2 k hk⟩
    · obtain ⟨h1, h2⟩ := N.root e
      exact ⟨Nat.le_trans (List.length_filter_le _ _) h1, fun k hk => by rw [h.ed.kindK]; exact h2 k (List.mem_filter.1 hk).1⟩
  · obtain ⟨d, h1, h2, h3, h4⟩ := N.host e
    obtain ⟨g0, g1, g2⟩ := getC_some h1
    refine ⟨_, h.ed.getC h1, h2, h3, ?_⟩
    show (if mv c.host.toNat then cp.doc else d.doc) = (if mv j then cp.doc else c.doc)
    have e4 : c.kind = 4 := e
    have hpar : c.parent = -1 := by
      rcases N.par with h5 | ⟨h5, _⟩
      · exact h5
      · omega
    rw [h.mv_up hjl (parS_host hc hpar (show c.host = ((c.host.toNat : Nat) : Int) by omega)) (nokind (.inr (.inr e4))), h4]
  · rcases N.under with h1 | ⟨h1, u, h2, h3, h4⟩
    · exact .inl h1
    · exact .inr ⟨h1, _, h.ed.getC h2, h3, h4⟩
theorem PutIn.next (h : PutIn m F G l p cp A B mv) {j : Nat} (hj : j < F.length) : nextUp G (j : Int) = if (j : Int) ∈ l then (p : Int) else nextUp F j := by
  have hc : F[j]? = some F[j] := List.getElem?_eq_getElem hj
  rw [h.ed.next hc]
  by_cases e : (j : Int) ∈ l
  · have e2 : l.contains (j : Int) = true := by simpa using e
    rw [if_pos e]
    simp only [e2, if_true]
    rw [if_neg (by omega)]
  · have e2 : l.contains (j : Int) = false := by simpa using e
    rw [if_neg e, nextUp_at hc]
    simp only [e2, Bool.false_eq_true, if_false]
    rfl
theorem PutIn.rightG (h : PutIn m F G l p cp A B mv) : rightF m G = true := by
  obtain ⟨⟨h1, h2, h3, h4⟩, _, _⟩ := (rightF_iff m F).1 h.right
  refine right_of h1 h2 (by rw [h.ed.len]; exact h3) (h.ed.head h4) (fun i y hy => h.node hy) (fun j => rankF F j + if mv j then rankF F p + 1 else 0) (fun i hi => ?_)
  rw [h.ed.len] at hi ⊢
  have hc : F[i]? = some F[i] := List.getElem?_eq_getElem hi
  rw [h.next hi]
  by_cases e : (i : Int) ∈ l
  · rw [if_pos e]
    refine .inr ⟨p, rfl, h.lt, ?_⟩
    rw [h.mvp, h.moved hc e]
    show rankF F p + 0 < rankF F i + (rankF F p + 1)
    omega
  · rw [if_neg e]
    rcases rank_next h.right hi with e1 | ⟨q, e1, e2, e3⟩
    · exact .inl e1
    · refine .inr ⟨q, e1, e2, ?_⟩
      rw [h.mv_up hi (parS_some e1) e]
      omega
end
end Go.Proofs.YtkfmengdffpcnaaGreatDoor
namespace Go.Proofs.YtkfmengdffpcnaaGreatDoor
open Go.RowKit
end Go.Proofs.YtkfmengdffpcnaaGreatDoor
namespace Go.Proofs.YtkfmengdffpcnaaGreatDoor
open Go.RowKit
attribute [local go_sem ↓] Go.wp_at_zero Go.wp_at_succ
structure AttSt (w W : World) (a : Option Addr) (len cap : Nat) (m : Int) (L : List NodeD) : Prop where
  box : Box w W w.heap.size a len cap m L (coreL L)
  res : Box2 W (w.heap.size + 1) (.slice none 0 0) (.int .i64 0)
theorem AttSt.keep {w W W2 : World} {a : Option Addr} {len cap : Nat} {m : Int} {L : List NodeD} (h : AttSt w W a len cap m L) (hb : Below W.heap.size W W2) : AttSt w W2 a len cap m L := ⟨h.box.keep hb, h.res.keep hb⟩
theorem AttSt.start {w : World} {a : Option Addr} {len cap : Nat} {m : Int} {L : List NodeD} (h : NodeRow w a len cap L) : AttSt w ((w.alloc (forB a len cap m)).alloc zeroFB) a len cap m L := by
  refine ⟨(Box.start h).keep (below_box _ _), ?_⟩
  have := Box2.new (w.alloc (forB a len cap m)) (.slice none 0 0) (.int .i64 0) 24
  rwa [show (w.alloc (forB a len cap m)).heap.size = w.heap.size + 1 by simp] at this
structure AttCp (r : Nat) (w0 W : World) (len : Nat) (m : Int) (F : List Core) (q : Nat) (v : Value) (M : List NodeD) : Prop where
  copy : Copy w0.heap.size w0 W v len M F
  g : Box2 W q v (.int .i64 m)
  low : w0.heap.size ≤ q
  ne : v.ownBlock ≠ some q
  aq : ∀ y ∈ M, NodeAway q y
  ar : ∀ y ∈ M, NodeAway r y
theorem AttCp.keep {r : Nat} {w0 W W2 : World} {len : Nat} {m : Int} {F : List Core} {q : Nat} {v : Value} {M : List NodeD} (h : AttCp r w0 W len m F q v M) (hb : Below W.heap.size W W2) : AttCp r w0 W2 len m F q v M :=
  ⟨h.copy.keep hb, h.g.keep hb, h.low, h.ne, h.aq, h.ar⟩
theorem AttCp.finish {r : Nat} {w w0 W : World} {len : Nat} {m : Int} {F : List Core} {q : Nat} {v : Value} {M : List NodeD} (h : AttCp r w0 W len m F q v M) (hsz : r < w0.heap.size) (hlo : w.heap.size ≤ r) (hb : Below w.heap.size w w0) (u1 u2 : Value) :
    ∃ a cap, v = .slice a len cap ∧ NodeRow ((W.setCell ⟨r, 0, none⟩ u1).setCell ⟨r, 1, none⟩ u2) a len cap M ∧ coreL M = F ∧ Below w.heap.size w ((W.setCell ⟨r, 0, none⟩ u1).setCell ⟨r, 1, none⟩ u2) := by
  have hne : v.ownBlock ≠ some r := own_not h.copy.own hsz
  have c2 : Copy w.heap.size w ((W.setCell ⟨r, 0, none⟩ u1).setCell ⟨r, 1, none⟩ u2) v len M F :=
    ⟨own_base (own_boxCell (own_boxCell h.copy.own hne _) hne _) hb.size, h.copy.hl, h.copy.core, fun x hx => ((h.copy.ok x hx).setCell (h.ar x hx) _).setCell (h.ar x hx) _, fun g hg => by
      rcases hg with hg | hg
      · omega
      · exact h.copy.away g (.inr hg), ((hb.trans (h.copy.below.mono hb.size)).setCell (p := ⟨r, 0, none⟩) hlo _).setCell (p := ⟨r, 1, none⟩) hlo _⟩
  obtain ⟨a, cap, hv, hr, _⟩ := c2.row
  exact ⟨a, cap, hv, hr, h.copy.core, c2.below⟩
def withUD (x : NodeD) (u : Int) : NodeD := ⟨withU x.core u, x.aA, x.aN, x.aC, x.kA, x.kN, x.kC⟩
theorem Copy.at {lo : Nat} {w W : World} {g n cap k : Nat} {M : List NodeD} {F : List Core} {x : NodeD} (h : Copy lo w W (.slice (some ⟨g, 0, none⟩) n cap) n M F) (hx : M[k]? = some x) : NodeAt W g (k * 10) x := by
  obtain ⟨a, cap', he, hr, _⟩ := h.row
  injection he with e1 e2 e3
  subst e1
  have hk : k < n := by
    have := (List.getElem?_eq_some_iff.1 hx).1
    rw [h.hl] at this
    exact this
  obtain ⟨b', off, y, hab, _, hy, hat, _⟩ := hr.get hk
  injection hab with hab
  injection hab with e1 e2
  subst e1 e2
  obtain rfl : x = y := Option.some.inj (hx.symm.trans hy)
  rwa [Nat.zero_add] at hat
theorem AttCp.under {r : Nat} {w0 W : World} {len cap : Nat} {m : Int} {F : List Core} {q g : Nat} {M : List NodeD} {k : Nat} {x : NodeD} {u : Int} (h : AttCp r w0 W len m F q (.slice (some ⟨g, 0, none⟩) len cap) M) (hk : M[k]? = some x) (hu : In64 u) :
    AttCp r w0 (W.setCell ⟨g, k * 10 + 8, none⟩ (.int .i64 u)) len m (F.set k (withU x.core u)) q (.slice (some ⟨g, 0, none⟩) len cap) (M.set k (withUD x u)) := by
  obtain ⟨hl, he⟩ := List.getElem?_eq_some_iff.1 hk
  have hkn : k < len := by have := h.copy.hl; omega
  have hgl : w0.heap.size ≤ g := (h.copy.own.lt g rfl).1
  have hgq : g ≠ q := fun e => h.ne (by rw [← e]; rfl)
  have o1 := own_setCell h.copy.own (j := k * 10 + 8) (by omega) (.int .i64 u)
  rw [flat_set (L := M) (fun z _ => encN_len z) (i := k) (j := 8) (y := withUD x u) (u := .int .i64 u) (x := x) hk rfl (by omega)] at o1
  have mem : ∀ y ∈ M.set k (withUD x u), y ∈ M ∨ y = withUD x u := fun y hy => List.mem_or_eq_of_mem_set hy
  have hxm := List.mem_of_getElem? hk
  have hox := h.copy.ok x hxm
  have haw := h.copy.away g (.inr rfl)
  have away : ∀ g', (∀ y ∈ M, NodeAway g' y) → ∀ y ∈ M.set k (withUD x u), NodeAway g' y := fun g' hg' y hy => by
    rcases mem y hy with hy | rfl
    · exact hg' y hy
    · exact hg' x hxm
  refine ⟨⟨o1, by rw [List.length_set]; exact h.copy.hl, ?_, fun y hy => ?_, fun g' hg' => away g' (h.copy.away g' hg'), h.copy.below.setCell (p := ⟨g, k * 10 + 8, none⟩) hgl _⟩, ?_, h.low, h.ne, away q h.aq, away r h.ar⟩
  · rw [← h.copy.core]
    unfold coreL
    rw [List.map_set]
    rfl
  · rcases mem y hy with hy | rfl
    · exact (h.copy.ok y hy).setCell (haw y hy) _
    · have hq : NodeOk W (withUD x u) := ⟨hox.attrs, hox.kids, hox.name, hox.is, hox.data, hox.kind, hox.parent, hox.host, hu, hox.doc⟩
      exact hq.setCell (haw x hxm) _
  · have hb : ∀ o, (⟨g, k * 10 + 8, none⟩ : Addr) ≠ ⟨q, o, none⟩ := fun o e => hgq (by injection e)
    exact ⟨by simpa [World.setCell] using h.g.lt, (World.cell?_setCell_other _ _ _ _ (hb 0)).trans h.g.c0, (World.cell?_setCell_other _ _ _ _ (hb 1)).trans h.g.c1, by rw [World.frozen?_setCell]; exact h.g.f0, by rw [World.frozen?_setCell]; exact h.g.f1⟩
theorem AttCp.grown {r : Nat} {w0 W W2 : World} {len : Nat} {m : Int} {F : List Core} {q : Nat} {v : Value} {M : List NodeD} (h : AttCp r w0 W len m F q v M) (hg : W.grownBy W2 v.ownBlock) (ho : W2.ownsRow w0.heap.size 36 10 v len (M.flatMap encN)) : AttCp r w0 W2 len m F q v M :=
  ⟨⟨ho, h.copy.hl, h.copy.core, fun x hx => (h.copy.ok x hx).grown hg (fun g e => h.copy.away g (.inr e) x hx), h.copy.away, h.copy.below.grown hg h.copy.below.size (fun k e => (h.copy.own.lt k e).1)⟩, h.g.grown hg (fun e => h.ne e.symm), h.low, h.ne, h.aq, h.ar⟩
structure AttRow (r : Nat) (w0 W : World) (len : Nat) (q g cap : Nat) (M : List NodeD) (y : NodeD) : Prop where
  own : W.ownsRow w0.heap.size 36 10 (.slice (some ⟨g, 0, none⟩) (len + 1) cap) (len + 1) ((M ++ [y]).flatMap encN)
  hl : M.length = len
  ok : ∀ z ∈ M ++ [y], NodeOk W z
  nq : g ≠ q
  aq : ∀ z ∈ M ++ [y], NodeAway q z
  ar : ∀ z ∈ M ++ [y], NodeAway r z
theorem AttRow.row {r : Nat} {w0 W : World} {len q g cap : Nat} {M : List NodeD} {y : NodeD} (h : AttRow r w0 W len q g cap M y) : NodeRow W (some ⟨g, 0, none⟩) (len + 1) cap (M ++ [y]) := by
  obtain ⟨a, cap', he, hr, _⟩ := SRow.of_own (L := M ++ [y]) (fun x _ => encN_len x) (by rw [List.length_append, h.hl]; rfl) h.own
  injection he with h1 h2 h3
  subst h1; subst h3
  exact ⟨hr, h.ok, fun h => by cases h⟩
theorem AttRow.new {r : Nat} {w0 W W2 : World} {len : Nat} {m : Int} {F : List Core} {q g cap : Nat} {v : Value} {M : List NodeD} {y : NodeD} (h : AttCp r w0 W len m F q v M) (hy : NodeOk W y) (hya : y.aA = none) (hyk : y.kA = none)
    (ho : W2.ownsRow w0.heap.size 36 10 (.slice (some ⟨g, 0, none⟩) (len + 1) cap) (len + 1) (M.flatMap encN ++ encN y)) (hg : W.grownBy W2 v.ownBlock) (hat : v.ownBlock = some g ∨ g = W.heap.size) : AttRow r w0 W2 len q g cap M y := by
  have away : ∀ k, NodeAway k y := fun k => ⟨(fun b off hb => by rw [hya] at hb; cases hb), (fun b off hb => by rw [hyk] at hb; cases hb)⟩
  have hlow := h.low
  refine ⟨by simpa using ho, h.copy.hl, fun z hz => ?_, ?_, fun z hz => ?_, fun z hz => ?_⟩
  · rcases List.mem_append.1 hz with hz | hz
    · exact (h.copy.ok z hz).grown hg (fun k e => h.copy.away k (.inr e) z hz)
    · obtain rfl : z = y := by simpa using hz
      exact hy.grown hg (fun k _ => away k)
  · rcases hat with hat | hat
    · intro e
      exact h.ne (by rw [hat, e])
    · have := h.g.lt
      omega
  · rcases List.mem_append.1 hz with hz | hz
    · exact h.aq z hz
    · obtain rfl : z = y := by simpa using hz
      exact away q
  · rcases List.mem_append.1 hz with hz | hz
    · exact h.ar z hz
    · obtain rfl : z = y := by simpa using hz
      exact away _
theorem AttRow.finish {r : Nat} {w w0 W : World} {len q g cap : Nat} {M : List NodeD} {y : NodeD} (h : AttRow r w0 W len q g cap M y) (hsz : r < w0.heap.size) (hlo : w.heap.size ≤ r) (hq : w0.heap.size ≤ q) (hb : Below w.heap.size w w0) (hb2 : Below w0.heap.size w0 W) (u0 u1 u2 : Value) :
    NodeRow (((W.setCell ⟨q, 0, none⟩ u0).setCell ⟨r, 0, none⟩ u1).setCell ⟨r, 1, none⟩ u2) (some ⟨g, 0, none⟩) (len + 1) cap (M ++ [y]) ∧ Below w.heap.size w (((W.setCell ⟨q, 0, none⟩ u0).setCell ⟨r, 0, none⟩ u1).setCell ⟨r, 1, none⟩ u2) := by
  have n1 : (Value.slice (some ⟨g, 0, none⟩) (len + 1) cap).ownBlock ≠ some q := fun e => h.nq (by injection e)
  have n2 : (Value.slice (some ⟨g, 0, none⟩) (len + 1) cap).ownBlock ≠ some r := own_not h.own hsz
  have c2 : AttRow r w0 (((W.setCell ⟨q, 0, none⟩ u0).setCell ⟨r, 0, none⟩ u1).setCell ⟨r, 1, none⟩ u2) len q g cap M y :=
    ⟨own_boxCell (own_boxCell (own_boxCell h.own n1 _) n2 _) n2 _, h.hl, fun z hz => (((h.ok z hz).setCell (h.aq z hz) _).setCell (h.ar z hz) _).setCell (h.ar z hz) _, h.nq, h.aq, h.ar⟩
  have hsz2 := hb.size
  exact ⟨c2.row, (((hb.trans (hb2.mono hb.size)).setCell (p := ⟨q, 0, none⟩) (by show w.heap.size ≤ q; omega) _).setCell (p := ⟨r, 0, none⟩) hlo _).setCell (p := ⟨r, 1, none⟩) hlo _⟩
end Go.Proofs.YtkfmengdffpcnaaGreatDoor
namespace Go.Proofs.YtkfmengdffpcnaaGreatDoor
open Go.RowKit Go.Shelf
def ordI (F : List Core) (z : Int) : List Int := (ordF F z.toNat).map Int.ofNat
structure Going (F : List Core) (n : Nat) (out P : List Int) : Prop where
  eq : out ++ P.reverse.flatMap (ordI F) = ordI F (n : Int)
  inF : ∀ z ∈ P, 0 ≤ z ∧ z < (F.length : Int)
theorem Going.start {F : List Core} {n : Nat} (h : n < F.length) : Going F n [] [(n : Int)] := ⟨by simp, fun z hz => by
  obtain rfl : z = (n : Int) := by simpa using hz
  omega⟩
theorem Going.step {m : Int} {F : List Core} (hr : rightF m F = true) {n : Nat} {out Q : List Int} {z : Int} {x : Core} (h : Going F n out (Q ++ [z])) (hx : F[z.toNat]? = some x) : Going F n (out ++ [z]) (Q ++ x.kids.reverse) := by
  have T := tree_of_right hr
  obtain ⟨hz0, hz1⟩ := h.inF z (by simp)
  have hzl : z.toNat < F.length := by omega
  have hk : kidsF F z.toNat = x.kids.map Int.toNat := by unfold kidsF; rw [hx]
  have kin : ∀ k ∈ x.kids, 0 ≤ k ∧ k < (F.length : Int) := fun k hkk => by
    have hm : k.toNat ∈ kidsF F z.toNat := by rw [hk]; exact List.mem_map.2 ⟨k, hkk, rfl⟩
    have h1 := T.kid_lt _ _ hm
    have h2 := (nodeOk_iff.1 (((rightF_iff m F).1 hr).2.1 _ x hx)).2.2.1 k hkk
    obtain ⟨c, hc, _⟩ := kidB_iff.1 (kidOk_iff.1 h2).2
    obtain ⟨e1, _, _⟩ := getC_some hc
    omega
  have hord : ordI F z = z :: x.kids.flatMap (ordI F) := by
    unfold ordI ordF
    have h1 := T.ord_more (F.length + 1) z.toNat hzl (by omega)
    have h2 : ordN (kidsF F) (F.length + 1 + 1) z.toNat = z.toNat :: (kidsF F z.toNat).flatMap (ordN (kidsF F) (F.length + 1)) := rfl
    rw [← h1, h2, hk, List.map_cons, List.flatMap_map, List.map_flatMap]
    have e0 : Int.ofNat z.toNat = z := by show ((z.toNat : Nat) : Int) = z; omega
    rw [e0]
  refine ⟨?_, fun y hy => ?_⟩
  · rw [← h.eq, List.reverse_append, List.reverse_append, List.reverse_reverse, List.flatMap_append, List.reverse_singleton, List.singleton_append, List.flatMap_cons, hord]
    simp
  · rcases List.mem_append.1 hy with hy | hy
    · exact h.inF y (by simp [hy])
    · exact kin y (by simpa using hy)
theorem Going.len {F : List Core} {n : Nat} {out P : List Int} (h : Going F n out P) : out.length + P.length ≤ (ordI F (n : Int)).length := by
  have h1 := congrArg List.length h.eq
  rw [List.length_append] at h1
  have h2 : ∀ l : List Int, l.length ≤ (l.flatMap (ordI F)).length := fun l => by
    induction l with
    | nil => simp
    | cons a r ih =>
      have : 0 < (ordI F a).length := by
        unfold ordI ordF
        obtain ⟨t, ht⟩ := ordN_head (kids := kidsF F) (F.length + 1) a.toNat
        rw [ht]
        simp
      rw [List.flatMap_cons, List.length_append, List.length_cons]
      omega
  have h3 := h2 P.reverse
  rw [List.length_reverse] at h3
  omega
theorem ordI_len {m : Int} {F : List Core} (hr : rightF m F = true) {n : Nat} (hn : n < F.length) : (ordI F (n : Int)).length ≤ F.length := by
  have T := tree_of_right hr
  unfold ordI
  rw [List.length_map, Int.toNat_natCast]
  exact nodup_lt F.length _ (T.ord_nodup _ n hn (by omega)) (fun x hx => T.ord_lt _ n hn x hx)
theorem map_encI : ∀ l : List Int, l.map encI = l.flatMap encZ
  | [] => rfl
  | c :: r => by rw [List.map_cons, List.flatMap_cons, map_encI r]; rfl
def sliceN : Value → Nat
  | .slice _ l _ => l
  | _ => 0
theorem sliceN_own {w : World} {base : Nat} {e : TypeId} {size n : Nat} {v : Value} {xs : List Value} (h : w.ownsRow base e size v n xs) : sliceN v = n := by
  rcases h.2 with ⟨rfl, h0⟩ | ⟨g, cap, cur, rfl, _⟩
  · exact h0.symm
  · rfl
theorem backTo_snd (K : List Int) : (backTo K K.length).map Prod.snd = K.reverse := by
  apply List.ext_getElem
  · simp [backTo]
  · intro i h1 h2
    have hi : i < K.length := by simpa using h2
    simp [backTo, backF]
    rw [List.getElem?_eq_getElem (by omega)]
    rfl
def undL (x : Core) : List Int := if x.under = -1 then [] else [x.under]
structure GoingS (F : List Core) (n : Nat) (out P : List Int) : Prop where
  eq : out ++ P.reverse.flatMap (allI F) = allI F (n : Int)
  inF : ∀ z ∈ P, 0 ≤ z ∧ z < (F.length : Int)
theorem GoingS.start {F : List Core} {n : Nat} (h : n < F.length) : GoingS F n [] [(n : Int)] := ⟨by simp, fun z hz => by
  obtain rfl : z = (n : Int) := by simpa using hz
  omega⟩
theorem GoingS.step {m : Int} {F : List Core} (hr : rightF m F = true) {n : Nat} {out Q : List Int} {z : Int} {x : Core} (h : GoingS F n out (Q ++ [z])) (hx : F[z.toNat]? = some x) : GoingS F n (out ++ [z]) (Q ++ x.kids.reverse ++ undL x) := by
  have T := treeS hr
  obtain ⟨hz0, hz1⟩ := h.inF z (by simp)
  have hzl : z.toNat < F.length := by omega
  have kin : ∀ k ∈ x.kids, 0 ≤ k ∧ k < (F.length : Int) := fun k hkk => by
    have h2 := (nodeOk_iff.1 (((rightF_iff m F).1 hr).2.1 _ x hx)).2.2.1 k hkk
    obtain ⟨c, hc, _⟩ := kidB_iff.1 (kidOk_iff.1 h2).2
    obtain ⟨e1, e2, _⟩ := getC_some hc
    omega
  have hord : allI F z = z :: (undL x ++ x.kids.flatMap (allI F)).take 0 ++ ((if x.under = -1 then [] else allI F x.under) ++ x.kids.flatMap (allI F)) := by
    have := allI_open hr hx
    rw [show ((z.toNat : Nat) : Int) = z by omega] at this
    rw [this]
    simp
  refine ⟨?_, fun y hy => ?_⟩
  · rw [← h.eq, List.reverse_append, List.reverse_append, List.reverse_append, List.reverse_reverse, List.flatMap_append, List.flatMap_append, List.reverse_singleton, List.singleton_append, List.flatMap_cons, hord]
    unfold undL
    by_cases hu : x.under = -1
    · rw [if_pos hu, if_pos hu]
      simp
    · rw [if_neg hu, if_neg hu]
      simp
  · rcases List.mem_append.1 hy with hy | hy
    · rcases List.mem_append.1 hy with hy | hy
      · exact h.inF y (by simp [hy])
      · exact kin y (by simpa using hy)
    · unfold undL at hy
      by_cases hu : x.under = -1
      · rw [if_pos hu] at hy; cases hy
      · rw [if_neg hu] at hy
        obtain ⟨s, u, e1, e2, _⟩ := right_under hr hx hu
        have := (List.getElem?_eq_some_iff.1 e2).1
        obtain rfl : y = x.under := by simpa using hy
        omega
theorem GoingS.len {F : List Core} {n : Nat} {out P : List Int} (h : GoingS F n out P) : out.length + P.length ≤ (allI F (n : Int)).length := by
  have h1 := congrArg List.length h.eq
  rw [List.length_append] at h1
  have h2 : ∀ l : List Int, l.length ≤ (l.flatMap (allI F)).length := fun l => by
    induction l with
    | nil => simp
    | cons a r ih =>
      have : 0 < (allI F a).length := by
        unfold allI allF
        obtain ⟨t, ht⟩ := ordN_head (kids := kidsS F) (F.length + 1) a.toNat
        rw [ht]
        simp
      rw [List.flatMap_cons, List.length_append, List.length_cons]
      omega
  have h3 := h2 P.reverse
  rw [List.length_reverse] at h3
  omega
def ordB (sh : Bool) (F : List Core) (n : Int) : List Int := if sh then allI F n else ordI F n
def undB (sh : Bool) (x : Core) : List Int := if sh then undL x else []
def GoingB (sh : Bool) (F : List Core) (n : Nat) (out P : List Int) : Prop := if sh then GoingS F n out P else Going F n out P
section
variable {sh : Bool} {F : List Core} {n : Nat} {out P Q : List Int}
theorem GoingB.start (h : n < F.length) : GoingB sh F n [] [(n : Int)] := by
  cases sh
  · exact Going.start h
  · exact GoingS.start h
theorem GoingB.eq (h : GoingB sh F n out P) : out ++ P.reverse.flatMap (ordB sh F) = ordB sh F (n : Int) := by
  cases sh
  · exact Going.eq h
  · exact GoingS.eq h
theorem GoingB.inF (h : GoingB sh F n out P) : ∀ z ∈ P, 0 ≤ z ∧ z < (F.length : Int) := by
  cases sh
  · exact Going.inF h
  · exact GoingS.inF h
theorem GoingB.len (h : GoingB sh F n out P) : out.length + P.length ≤ (ordB sh F (n : Int)).length := by
  cases sh
  · exact Going.len h
  · exact GoingS.len h
theorem GoingB.step {m : Int} (hr : rightF m F = true) {z : Int} {x : Core} (h : GoingB sh F n out (Q ++ [z])) (hx : F[z.toNat]? = some x) : GoingB sh F n (out ++ [z]) (Q ++ x.kids.reverse ++ undB sh x) := by
  cases sh
  · have := Going.step hr h hx
    show Going F n (out ++ [z]) (Q ++ x.kids.reverse ++ [])
    rw [List.append_nil]
    exact this
  · exact GoingS.step hr h hx
theorem ordB_len {m : Int} (hr : rightF m F = true) (hn : n < F.length) : (ordB sh F (n : Int)).length ≤ F.length := by
  cases sh
  · exact ordI_len hr hn
  · exact allI_len hr hn
end
end Go.Proofs.YtkfmengdffpcnaaGreatDoor
namespace Go.Proofs.YtkfmengdffpcnaaGreatDoor
open Go.RowKit
def oneGo (s : List UInt8) : List UInt8 → List UInt8 → Bool
  | cur, [] => cur == s
  | cur, c :: r => if c == 32 then (cur == s) || oneGo s [] r else oneGo s (cur ++ [c]) r
def oneL (s v : List UInt8) : Bool := oneGo s [] v
def OneAt (s v : List UInt8) (a i : Nat) : Prop := (a ≤ i ∧ i ≤ v.length ∧ oneGo s ((v.take i).drop a) (v.drop i) = oneL s v) ∨ (i = v.length + 1 ∧ oneL s v = false)
theorem OneAt.start (s v : List UInt8) : OneAt s v 0 0 := .inl ⟨Nat.le_refl _, Nat.zero_le _, by simp [oneL]⟩
theorem OneAt.last {s v : List UInt8} {a i : Nat} (h : OneAt s v a i) (hi : i = v.length) (he : ¬ (v.take i).drop a = s) (b : Nat) : OneAt s v b (i + 1) := by
  rcases h with ⟨h1, h2, h3⟩ | ⟨h1, _⟩
  · refine .inr ⟨by omega, ?_⟩
    rw [← h3]
    have : v.drop i = [] := by rw [hi]; simp
    rw [this]
    unfold oneGo
    simpa using he
  · omega
theorem OneAt.none {s v : List UInt8} {a i : Nat} (h : OneAt s v a i) (hi : ¬ i ≤ v.length) : oneL s v = false := by
  rcases h with ⟨h1, h2, h3⟩ | ⟨_, h⟩
  · omega
  · exact h
theorem OneAt.le {s v : List UInt8} {a i : Nat} (h : OneAt s v a i) (hi : i ≤ v.length) : a ≤ i := by
  rcases h with ⟨h1, _, _⟩ | ⟨h1, _⟩
  · exact h1
  · omega
end Go.Proofs.YtkfmengdffpcnaaGreatDoor
namespace Go.Proofs.YtkfmengdffpcnaaGreatDoor
open Go.RowKit
end Go.Proofs.YtkfmengdffpcnaaGreatDoor
namespace Go.Proofs.YtkfmengdffpcnaaGreatDoor
open Go.RowKit
end Go.Proofs.YtkfmengdffpcnaaGreatDoor
namespace Go.Proofs.YtkfmengdffpcnaaGreatDoor
open Go.RowKit
end Go.Proofs.YtkfmengdffpcnaaGreatDoor
namespace Go.Proofs.YtkfmengdffpcnaaGreatDoor
open Go.RowKit Go.Deep Go.ChangeShapes Go.WideShapes
theorem open_rows {α : Type} (enc : α → List Value) (size : Nat) (ok : α → Prop) {ts te : TypeId} (hts : Tryz.prog.underlying ts = some (.slice te)) (ce : Tryz.prog.cellsOf te = size) (hpos : 0 < size)
    {H : Type} {en : TypeId × Value → H} {W : World} {a : Option Addr} {len cap : Nat} {d : DataW H} {p : List MemPlace}
    (one : ∀ (cs : List Value) (fuel : Nat) (d : DataW H) (p : List MemPlace), cs.length = size → DataW.trod en Tryz.prog W 0 (fun _ => true) true fuel te cs = some (d, p) → ∃ x, cs = enc x ∧ ok x)
    (h : DataW.Trod en Tryz.prog W 0 (fun _ => true) true ts (.slice a len cap) d p) : ∃ L, SRow enc size W a len cap L ∧ (∀ x ∈ L, ok x) ∧ (a = none → cap = 0) := by
  obtain ⟨fuel, hf⟩ := h
  rcases open_slice hts hf with ⟨hcs, _⟩ | ⟨ad, l, c, m, n, D, Pl, hcs, _, hl, hm, hmm, _, hi⟩
  · simp [Value.cells] at hcs
    obtain ⟨rfl, rfl, rfl⟩ := hcs
    exact ⟨[], SRow.nil, (fun x hx => by cases hx), fun _ => rfl⟩
  · simp [Value.cells] at hcs
    obtain ⟨rfl, rfl, rfl⟩ := hcs
    have hml : len ≤ m := by rw [hmm]; simpa using hl
    have each : ∀ i, i < len → ∃ x : α, ((enc x).length = size ∧ ok x) ∧ ∀ j v, (enc x)[j]? = some v → W.cell? (ad.add (i * size + j)) = some v := by
      intro i hil
      obtain ⟨cs', h1, h2⟩ := hi i (by omega)
      rw [ce] at h1
      obtain ⟨_, hlen, hcell⟩ := World.cells?_some h1
      obtain ⟨x, hx, hok⟩ := one _ _ _ _ hlen h2
      refine ⟨x, ⟨by rw [← hx, hlen], hok⟩, fun j v hv => ?_⟩
      have hj : j < size := by
        have := (List.getElem?_eq_some_iff.1 hv).1
        rwa [← hx, hlen] at this
      have e0 := hcell j hj
      rw [add_add, hx, hv] at e0
      exact e0
    rcases Nat.eq_zero_or_pos len with h0 | h0
    · subst h0
      exact ⟨[], ⟨rfl, hl, hm, (fun x hx => by cases hx), .inl rfl⟩, (fun x hx => by cases hx), fun e => by cases e⟩
    obtain ⟨q, hq⟩ : ∃ q : Nat → α, ∀ i, i < len → ((enc (q i)).length = size ∧ ok (q i)) ∧ ∀ j v, (enc (q i))[j]? = some v → W.cell? (ad.add (i * size + j)) = some v := by
      refine ⟨fun i => if h : i < len then (each i h).choose else (each 0 h0).choose, fun i hil => ?_⟩
      simp only [dif_pos hil]
      exact (each i hil).choose_spec
    refine ⟨(List.range len).map q, ⟨by simp, hl, hm, fun x hx => ?_, ?_⟩, ?_, fun h => by cases h⟩
    · obtain ⟨i, hi1, rfl⟩ := List.mem_map.1 hx
      exact (hq i (List.mem_range.1 hi1)).1.1
    · obtain ⟨b, off, spot⟩ := ad
      have hlen0 := (hq 0 h0).1.1
      have hc := (hq 0 h0).2 0 _ (List.getElem?_eq_getElem (by omega))
      have hspot : spot = none := by simpa [Addr.add] using World.cell?_spot hc
      subst hspot
      refine .inr ⟨b, off, rfl, ?_, ?_⟩
      · have := block_lt hc
        rwa [add_plain] at this
      · intro i x j v hx hv
        obtain ⟨hil, hgx⟩ := List.getElem?_eq_some_iff.1 hx
        have hil' : i < len := by simpa using hil
        simp at hgx
        have h1 := (hq i hil').2 j v (by rw [hgx]; exact hv)
        rw [add_plain] at h1
        simpa [Nat.add_assoc] using h1
    · intro x hx
      obtain ⟨i, hi1, rfl⟩ := List.mem_map.1 hx
      exact (hq i (List.mem_range.1 hi1)).1.2
end Go.Proofs.YtkfmengdffpcnaaGreatDoor
