/- Texts joined in build order: NodeRowW ForestPut ValidAsk ValidMay ShadeRefuse ShadeAttach WalkOrder ForestOrderFn ShadeAllFn ShadeElems ForestAheadFn ShadeProof ValidProof Ref3Bare Ref3New Ref3Two ValidOut ValidSwapMath ValidPutMath RefOne RefName RefCustom Ref9Right FdAt StepWp. -/
import Derived.Test.YtbkhngoehoiccaaGreatD20
import Derived.Test.YtbkhngoehoiccaaGreatD17
import Derived.Test.YtbkhngoehoiccaaGreatD19
import Derived.Test.YtbkhngoehoiccaaGreatD15
import Derived.Deep.RegionLaw
import Derived.Test.YtbkhngoehoiccaaGreatD06
import Derived.Test.YtbkhngoehoiccaaGreatChecked
import Derived.Test.YtbkhngoehoiccaaGreatD01
import Derived.WalkLawsBesides
import Derived.Lib.Hide
import Derived.Test.YtbkhngoehoiccaaGreatD03
import Derived.Lib.IndexBytes
import Derived.Test.YtbkhngoehoiccaaGreatD11
import Derived.Deep.CutBlock
import Derived.Test.YtbkhngoehoiccaaGreatD04
import Derived.Deep.RegionHeld3
import Derived.BigRegion
namespace Go.Proofs.YtbkhngoehoiccaaGreat
open Go.RowKit
structure WRow (W : World) (g len cap : Nat) (M : List NodeD) : Prop where
  row : NodeRow W (some ⟨g, 0, none⟩) len cap M
  lt : g < W.heap.size
  free : ∀ o, W.frozen? ⟨g, o, none⟩ = false
  away : ∀ x ∈ M, NodeAway g x
theorem WRow.keep {W W2 : World} {g len cap : Nat} {M : List NodeD} (h : WRow W g len cap M) (hb : Below W.heap.size W W2) : WRow W2 g len cap M :=
  ⟨h.row.below hb, Nat.lt_of_lt_of_le h.lt hb.size, fun o => (hb.frozen (p := ⟨g, o, none⟩) h.lt).trans (h.free o), h.away⟩
theorem WRow.at_ {W : World} {g len cap : Nat} {M : List NodeD} (h : WRow W g len cap M) {k : Nat} {x : NodeD} (hk : M[k]? = some x) : NodeAt W g (k * 10) x ∧ NodeOk W x := by
  have hl : k < len := by have := (List.getElem?_eq_some_iff.1 hk).1; rwa [h.row.hlen] at this
  obtain ⟨b, off, y, hab, _, hy, hat, hok⟩ := h.row.get hl
  injection hab with hab
  injection hab with e1 e2
  subst e1 e2
  obtain rfl : x = y := Option.some.inj (hk.symm.trans hy)
  rw [Nat.zero_add] at hat
  exact ⟨hat, hok⟩
theorem WRow.of_own {W : World} {base n : Nat} {v : Value} {M : List NodeD} (hown : W.ownsRow base 58 10 v n (M.flatMap encN)) (hl : M.length = n) (hn : 0 < n) (hok : ∀ x ∈ M, NodeOk W x) (haw : ∀ g, v.ownBlock = some g → ∀ x ∈ M, NodeAway g x) :
    ∃ g cap, v = .slice (some ⟨g, 0, none⟩) n cap ∧ base ≤ g ∧ WRow W g n cap M := by
  obtain ⟨a, cap', he, hr, _⟩ := SRow.of_own (fun x _ => encN_len x) hl hown
  rcases hown.2 with ⟨_, h0⟩ | ⟨g, cap, cur, hv, hb, hg, _⟩
  · omega
  · rw [hv] at he
    injection he with h1 h2 h3
    subst h1; subst h3
    refine ⟨g, cap, hv, hb, ⟨hr, hok, fun h => by cases h⟩, (Array.getElem?_eq_some_iff.1 hg).1, fun o => row_free hg o, haw g (by rw [hv]; rfl)⟩
theorem WRow.set {W : World} {g len cap : Nat} {M : List NodeD} (h : WRow W g len cap M) {k j : Nat} {x y : NodeD} {u : Value} (hk : M[k]? = some x) (hj : j < 10) (he : encN y = (encN x).set j u) (hy : NodeOk W y) (hw : NodeAway g y) :
    WRow (W.setCell ⟨g, k * 10 + j, none⟩ u) g len cap (M.set k y) := by
  obtain ⟨hkl, _⟩ := List.getElem?_eq_some_iff.1 hk
  have hlen : k < len := by rw [h.row.hlen] at hkl; exact hkl
  have aw : ∀ z ∈ M.set k y, NodeAway g z := fun z hz => by
    rcases List.mem_or_eq_of_mem_set hz with hz | rfl
    · exact h.away z hz
    · exact hw
  have ok : ∀ z ∈ M.set k y, NodeOk W z := fun z hz => by
    rcases List.mem_or_eq_of_mem_set hz with hz | rfl
    · exact h.row.ok z hz
    · exact hy
  refine ⟨⟨⟨by rw [List.length_set]; exact h.row.hlen, h.row.row.hcap, h.row.row.hmax, fun z _ => encN_len z, .inr ⟨g, 0, rfl, by simpa [World.setCell] using h.lt, fun i z j' v hz hv => ?_⟩⟩, fun z hz => (ok z hz).setCell (aw z hz) u, fun e => by cases e⟩, by simpa [World.setCell] using h.lt, fun o => by rw [World.frozen?_setCell]; exact h.free o, aw⟩
  have hj' : j' < 10 := by
    have := (List.getElem?_eq_some_iff.1 hv).1
    rwa [encN_len] at this
  by_cases e : i = k
  · subst e
    rw [List.getElem?_set_self hkl] at hz
    obtain rfl : y = z := Option.some.inj hz
    rw [he] at hv
    by_cases ej : j = j'
    · subst ej
      rw [List.getElem?_set_self (by rw [encN_len]; exact hj)] at hv
      rw [← Option.some.inj hv, Nat.zero_add]
      have hc : ∃ v0, (encN x)[j]? = some v0 := ⟨_, List.getElem?_eq_getElem (by rw [encN_len]; exact hj)⟩
      obtain ⟨v0, hv0⟩ := hc
      rcases h.row.row.cells with h0 | ⟨b, off, ha, _, hcell⟩
      · omega
      · injection ha with ha
        injection ha with e1 e2
        subst e1 e2
        have := hcell i x j v0 hk hv0
        rw [Nat.zero_add] at this
        exact World.cell?_setCell_same _ _ _ this
    · rw [List.getElem?_set_ne ej] at hv
      rw [World.cell?_setCell_other _ _ _ _ (fun e' => by injection e' with _ e'; omega)]
      rcases h.row.row.cells with h0 | ⟨b, off, ha, _, hcell⟩
      · omega
      · injection ha with ha
        injection ha with e1 e2
        subst e1 e2
        exact hcell i x j' v hk hv
  · rw [List.getElem?_set_ne (fun e2 => e e2.symm)] at hz
    rw [World.cell?_setCell_other _ _ _ _ (fun e' => by injection e' with _ e'; have : k * 10 + j = 0 + i * 10 + j' := e'; omega)]
    rcases h.row.row.cells with h0 | ⟨b, off, ha, _, hcell⟩
    · omega
    · injection ha with ha
      injection ha with e1 e2
      subst e1 e2
      exact hcell i z j' v hz hv
theorem WRow.other {W : World} {g len cap : Nat} {M : List NodeD} (h : WRow W g len cap M) {b : Nat} (hb : b ≠ g) (ha : ∀ x ∈ M, NodeAway b x) (o : Nat) (u : Value) : WRow (W.setCell ⟨b, o, none⟩ u) g len cap M :=
  ⟨⟨h.row.row.keep (by simp [World.setCell]) (fun b' off he _ o' => World.cell?_setCell_other _ _ _ _ (fun e => by injection he with he; injection he with e1 _; injection e with e2 _; exact hb (e2.trans e1.symm))), fun x hx => (h.row.ok x hx).setCell (ha x hx) u, h.row.hnil⟩, by simpa [World.setCell] using h.lt, fun o' => by rw [World.frozen?_setCell]; exact h.free o', h.away⟩
def withK (x : NodeD) (a : Option Addr) (n c : Nat) (l : List Int) : NodeD := ⟨⟨x.core.kind, x.core.name, x.core.is, x.core.data, x.core.attrs, x.core.parent, l, x.core.host, x.core.under, x.core.doc⟩, x.aA, x.aN, x.aC, a, n, c⟩
def withP (x : NodeD) (p : Int) : NodeD := ⟨⟨x.core.kind, x.core.name, x.core.is, x.core.data, x.core.attrs, p, x.core.kids, x.core.host, x.core.under, x.core.doc⟩, x.aA, x.aN, x.aC, x.kA, x.kN, x.kC⟩
def withD (x : NodeD) (d : Int) : NodeD := ⟨⟨x.core.kind, x.core.name, x.core.is, x.core.data, x.core.attrs, x.core.parent, x.core.kids, x.core.host, x.core.under, d⟩, x.aA, x.aN, x.aC, x.kA, x.kN, x.kC⟩
theorem WRow.setK {W : World} {g len cap : Nat} {M : List NodeD} (h : WRow W g len cap M) {k : Nat} {x : NodeD} (hk : M[k]? = some x) {a : Option Addr} {n c : Nat} {l : List Int} (hl : IntRow W a n c l) (hw : ∀ b off, a = some ⟨b, off, none⟩ → 0 < n → b ≠ g) : WRow (W.setCell ⟨g, k * 10 + 6, none⟩ (.slice a n c)) g len cap (M.set k (withK x a n c l)) := by
  obtain ⟨_, hok⟩ := h.at_ hk
  have ha := h.away x (List.mem_of_getElem? hk)
  exact h.set hk (by omega) rfl ⟨hok.attrs, hl, hok.name, hok.is, hok.data, hok.kind, hok.parent, hok.host, hok.under, hok.doc⟩ ⟨ha.1, hw⟩
theorem WRow.setP {W : World} {g len cap : Nat} {M : List NodeD} (h : WRow W g len cap M) {k : Nat} {x : NodeD} (hk : M[k]? = some x) {p : Int} (hp : In64 p) : WRow (W.setCell ⟨g, k * 10 + 5, none⟩ (.int .i64 p)) g len cap (M.set k (withP x p)) := by
  obtain ⟨_, hok⟩ := h.at_ hk
  have ha := h.away x (List.mem_of_getElem? hk)
  exact h.set hk (by omega) rfl ⟨hok.attrs, hok.kids, hok.name, hok.is, hok.data, hok.kind, hp, hok.host, hok.under, hok.doc⟩ ha
end Go.Proofs.YtbkhngoehoiccaaGreat
namespace Go.Proofs.YtbkhngoehoiccaaGreat
open Go.RowKit
structure PutIn (m : Int) (F G : List Core) (l : List Int) (p : Nat) (cp : Core) (A B : List Int) (mv : Nat → Bool) : Prop where
  right : rightF m F = true
  hp : F[p]? = some cp
  kp : cp.kind ≠ 2
  once : l.Nodup
  ls : ∀ z ∈ l, ∃ (q : Nat) (c : Core), z = q ∧ F[q]? = some c ∧ (c.kind = 1 ∨ c.kind = 2)
  over : ∀ q : Nat, (q : Int) ∈ l → ¬ holdsT (parS F) q p
  ab : A ++ B = cp.kids.filter (fun z => !l.contains z)
  root : cp.kind = 0 → (A ++ l ++ B).length ≤ 1 ∧ ∀ k ∈ A ++ l ++ B, kindK F k = 1
  hmv : ∀ j, j < F.length → (mv j = true ↔ ∃ q : Nat, (q : Int) ∈ l ∧ holdsT (parS F) q j)
  ed : Edit F G (fun j c => if l.contains (j : Int) then (p : Int) else c.parent) (fun j c => if j = p then A ++ l ++ B else c.kids.filter (fun z => !l.contains z)) (fun j c => if mv j then cp.doc else c.doc)
section
variable {m : Int} {F G : List Core} {l : List Int} {p : Nat} {cp : Core} {A B : List Int} {mv : Nat → Bool}
theorem parS_parent {c : Core} {j q : Nat} (hc : F[j]? = some c) (h : c.parent = (q : Int)) : parS F j = some q := parS_some (by rw [nextUp_at hc]; show (if c.parent = -1 then c.host else c.parent) = (q : Int); rw [if_neg (by omega), h])
theorem parS_host {c : Core} {j q : Nat} (hc : F[j]? = some c) (hp : c.parent = -1) (h : c.host = (q : Int)) : parS F j = some q := parS_some (by rw [nextUp_at hc]; show (if c.parent = -1 then c.host else c.parent) = (q : Int); rw [if_pos hp, h])
theorem PutIn.lt (h : PutIn m F G l p cp A B mv) : p < F.length := (List.getElem?_eq_some_iff.1 h.hp).1
theorem PutIn.mvp (h : PutIn m F G l p cp A B mv) : mv p = false := by
  cases hq : mv p with
  | false => rfl
  | true =>
    obtain ⟨q, h1, h2⟩ := (h.hmv p h.lt).1 hq
    exact absurd h2 (h.over q h1)
theorem PutIn.mv_up (h : PutIn m F G l p cp A B mv) {j q : Nat} (hj : j < F.length) (hq : parS F j = some q) (hjl : (j : Int) ∉ l) : mv j = mv q := by
  have hql := (parS_next h.right hj hq).2
  rw [Bool.eq_iff_iff, h.hmv j hj, h.hmv q hql]
  constructor
  · rintro ⟨r, h1, h2⟩
    rcases holds_up h2 with e | ⟨s, e1, e2⟩
    · exact absurd (e ▸ h1) hjl
    · rw [hq] at e1
      obtain rfl := Option.some.inj e1
      exact ⟨r, h1, e2⟩
  · rintro ⟨r, h1, h2⟩
    exact ⟨r, h1, holds_trans h2 (holds_par hq)⟩
theorem PutIn.mem_k (h : PutIn m F G l p cp A B mv) {k : Int} : k ∈ A ++ l ++ B ↔ k ∈ l ∨ (k ∈ cp.kids ∧ k ∉ l) := by
  have e : k ∈ A ++ B ↔ k ∈ cp.kids ∧ k ∉ l := by
    rw [h.ab, List.mem_filter]
    simp
  rw [List.mem_append] at e
  rw [List.mem_append, List.mem_append, ← e]
  constructor
  · rintro ((h1 | h1) | h1)
    · exact .inr (.inl h1)
    · exact .inl h1
    · exact .inr (.inr h1)
  · rintro (h1 | h1 | h1)
    · exact .inl (.inr h1)
    · exact .inl (.inl h1)
    · exact .inr h1
theorem PutIn.once_k (h : PutIn m F G l p cp A B mv) : (A ++ l ++ B).Nodup := by
  have hab : (A ++ B).Nodup := by rw [h.ab]; exact (right_node h.right h.hp).once.filter _
  have hp : List.Perm (A ++ l ++ B) (l ++ (A ++ B)) := by
    rw [← List.append_assoc]
    exact List.Perm.append_right B List.perm_append_comm
  refine hp.nodup_iff.2 (List.nodup_append.2 ⟨h.once, hab, fun a ha b hb e => ?_⟩)
  rw [h.ab, List.mem_filter] at hb
  subst e
  simp at hb
  exact hb.2 ha
theorem PutIn.moved (h : PutIn m F G l p cp A B mv) {q : Nat} {c : Core} (hc : F[q]? = some c) (hq : (q : Int) ∈ l) : mv q = true := (h.hmv q (List.getElem?_eq_some_iff.1 hc).1).2 ⟨q, hq, holds_refl q⟩
theorem PutIn.node (h : PutIn m F G l p cp A B mv) {j : Nat} {y : Core} (hy : G[j]? = some y) : NodeP G j y := by
  obtain ⟨c, hc, rfl⟩ := h.ed.back hy
  have hjl := (List.getElem?_eq_some_iff.1 hc).1
  have N := right_node h.right hc
  have gp : ∃ z, getC G (p : Int) = some z ∧ z.kind = cp.kind ∧ z.kids = A ++ l ++ B := ⟨_, h.ed.getC (z := (p : Int)) (by rw [getC_nat]; exact h.hp), rfl, by show (if (p : Int).toNat = p then A ++ l ++ B else _) = _; rw [if_pos (by omega)]⟩
  have nokind : c.kind = 0 ∨ c.kind = 3 ∨ c.kind = 4 → (j : Int) ∉ l := fun hk hm => by
    obtain ⟨q, c2, h1, h2, h3⟩ := h.ls _ hm
    obtain rfl : q = j := by omega
    rw [hc] at h2
    obtain rfl := Option.some.inj h2
    omega
  refine ⟨N.kind, ?_, fun e => ?_, ?_, ?_, fun k hk => ?_, fun e => ?_, fun e => ?_, fun e => ?_, N.free, ?_, N.text⟩
  · show ∃ d, getC G (if mv j then cp.doc else c.doc) = some d ∧ d.kind = 0
    split
    · obtain ⟨d, h1, h2⟩ := (right_node h.right h.hp).doc
      exact ⟨_, h.ed.getC h1, h2⟩
    · obtain ⟨d, h1, h2⟩ := N.doc
      exact ⟨_, h.ed.getC h1, h2⟩
  · show (if mv j then cp.doc else c.doc) = (j : Int)
    have hnm : mv j = false := by
      cases hq : mv j with
      | false => rfl
      | true =>
        obtain ⟨q, h1, h2⟩ := (h.hmv j hjl).1 hq
        rcases holds_up h2 with e1 | ⟨s, e1, _⟩
        · subst e1
          exact absurd h1 (nokind (.inl e))
        · have hn := (parS_next h.right hjl e1).1
          rw [nextUp_at hc] at hn
          have hn2 : (if c.parent = -1 then c.host else c.parent) = (s : Int) := hn
          have hpar : c.parent = -1 := by
            rcases N.par with h3 | ⟨h3, _⟩
            · exact h3
            · have e : c.kind = 0 := e
              omega
          rw [if_pos hpar, N.free (by have e : c.kind = 0 := e; omega)] at hn2
          omega
    rw [hnm]
    exact N.own e
  · by_cases hm : (j : Int) ∈ l
    · obtain ⟨q, c2, h1, h2, h3⟩ := h.ls _ hm
      obtain rfl : q = j := by omega
      rw [hc] at h2
      obtain rfl := Option.some.inj h2
      obtain ⟨z, z1, z2, z3⟩ := gp
      refine .inr ⟨h3, z, ?_, by rw [z2]; exact h.kp, by rw [z3]; exact h.mem_k.2 (.inl hm)⟩
      show getC G (if l.contains (q : Int) then (p : Int) else c.parent) = _
      rw [if_pos (by simpa using hm)]
      exact z1
    · rcases N.par with h1 | ⟨h1, q, h2, h3, h4⟩
      · refine .inl ?_
        show (if l.contains (j : Int) then (p : Int) else c.parent) = -1
        rw [if_neg (by simpa using hm)]
        exact h1
      · have g := h.ed.getC h2
        refine .inr ⟨h1, edC q (if l.contains ((c.parent.toNat : Nat) : Int) then (p : Int) else q.parent) (if c.parent.toNat = p then A ++ l ++ B else q.kids.filter (fun z => !l.contains z)) (if mv c.parent.toNat then cp.doc else q.doc), ?_, h3, ?_⟩
        · show getC G (if l.contains (j : Int) then (p : Int) else c.parent) = _
          rw [if_neg (by simpa using hm)]
          exact g
        · show (j : Int) ∈ (if c.parent.toNat = p then A ++ l ++ B else q.kids.filter (fun z => !l.contains z))
          split
          · next hpp =>
            have hq : q = cp := by
              obtain ⟨_, _, h5⟩ := getC_some h2
              rw [hpp, h.hp] at h5
              exact (Option.some.inj h5).symm
            exact h.mem_k.2 (.inr ⟨hq ▸ h4, hm⟩)
          · rw [List.mem_filter]
            exact ⟨h4, by simpa using hm⟩
  · show (if j = p then A ++ l ++ B else c.kids.filter (fun z => !l.contains z)).Nodup
    split
    · exact h.once_k
    · exact N.once.filter _
  · have hk2 : k ∈ (if j = p then A ++ l ++ B else c.kids.filter (fun z => !l.contains z)) := hk
    show ∃ c', getC G k = some c' ∧ (c'.kind = 1 ∨ c'.kind = 2) ∧ c'.parent = (j : Int) ∧ c'.doc = (if mv j then cp.doc else c.doc)
    have old : k ∈ c.kids → k ∉ l → ∃ c', getC G k = some c' ∧ (c'.kind = 1 ∨ c'.kind = 2) ∧ c'.parent = (j : Int) ∧ c'.doc = (if mv j then cp.doc else c.doc) := fun h1 h2 => by
      obtain ⟨d, h3, h4, h5, h6⟩ := N.kids k h1
      obtain ⟨g0, g1, g2⟩ := getC_some h3
      have hkn : ((k.toNat : Nat) : Int) = k := by omega
      refine ⟨_, h.ed.getC h3, h4, ?_, ?_⟩
      · show (if l.contains ((k.toNat : Nat) : Int) then (p : Int) else d.parent) = (j : Int)
        rw [hkn, if_neg (by simpa using h2)]
        exact h5
      · show (if mv k.toNat then cp.doc else d.doc) = _
        rw [h.mv_up (List.getElem?_eq_some_iff.1 g2).1 (parS_parent g2 h5) (by rw [hkn]; exact h2), h6]
    by_cases e : j = p
    · subst e
      rw [if_pos rfl] at hk2
      have hcc : c = cp := by have := h.hp; rw [hc] at this; exact Option.some.inj this
      subst hcc
      rcases h.mem_k.1 hk2 with h1 | ⟨h1, h2⟩
      · obtain ⟨q, c2, rfl, h2, h3⟩ := h.ls _ h1
        refine ⟨_, h.ed.getC (z := (q : Int)) (by rw [getC_nat]; exact h2), h3, ?_, ?_⟩
        · show (if l.contains (((q : Int).toNat : Nat) : Int) then (j : Int) else c2.parent) = (j : Int)
          rw [show (((q : Int).toNat : Nat) : Int) = q by omega, if_pos (by simpa using h1)]
        · show (if mv (q : Int).toNat then c.doc else c2.doc) = _
          rw [show (q : Int).toNat = q by omega, h.moved h2 h1, h.mvp]
          rfl
      · exact old h1 h2
    · rw [if_neg e, List.mem_filter] at hk2
      exact old hk2.1 (by simpa using hk2.2)
  · show (if j = p then A ++ l ++ B else c.kids.filter (fun z => !l.contains z)) = []
    rw [if_neg (fun e2 => by
      subst e2
      have hcc : c = cp := by have := h.hp; rw [hc] at this; exact Option.some.inj this
      exact h.kp (hcc ▸ e)), N.leaf e]
    rfl
  · show (if j = p then A ++ l ++ B else c.kids.filter (fun z => !l.contains z)).length ≤ 1 ∧ ∀ k ∈ (if j = p then A ++ l ++ B else c.kids.filter (fun z => !l.contains z)), kindK G k = 1
    split
    · next e2 =>
      subst e2
      have hcc : c = cp := by have := h.hp; rw [hc] at this; exact Option.some.inj this
      obtain ⟨h1, h2⟩ := h.root (hcc ▸ e)
      exact ⟨h1, fun k hk => by rw [h.ed.kindK]; exact h2 k hk⟩
    · obtain ⟨h1, h2⟩ := N.root e
      exact ⟨Nat.le_trans (List.length_filter_le _ _) h1, fun k hk => by rw [h.ed.kindK]; exact h2 k (List.mem_filter.1 hk).1⟩
  · obtain ⟨d, h1, h2, h3, h4⟩ := N.host e
    obtain ⟨g0, g1, g2⟩ := getC_some h1
    refine ⟨_, h.ed.getC h1, h2, h3, ?_⟩
    show (if mv c.host.toNat then cp.doc else d.doc) = (if mv j then cp.doc else c.doc)
    have e4 : c.kind = 4 := e
    have hpar : c.parent = -1 := by
      rcases N.par with h5 | ⟨h5, _⟩
      · exact h5
      · omega
    rw [h.mv_up hjl (parS_host hc hpar (show c.host = ((c.host.toNat : Nat) : Int) by omega)) (nokind (.inr (.inr e4))), h4]
  · rcases N.under with h1 | ⟨h1, u, h2, h3, h4⟩
    · exact .inl h1
    · exact .inr ⟨h1, _, h.ed.getC h2, h3, h4⟩
theorem PutIn.next (h : PutIn m F G l p cp A B mv) {j : Nat} (hj : j < F.length) : nextUp G (j : Int) = if (j : Int) ∈ l then (p : Int) else nextUp F j := by
  have hc : F[j]? = some F[j] := List.getElem?_eq_getElem hj
  rw [h.ed.next hc]
  by_cases e : (j : Int) ∈ l
  · have e2 : l.contains (j : Int) = true := by simpa using e
    rw [if_pos e]
    simp only [e2, if_true]
    rw [if_neg (by omega)]
  · have e2 : l.contains (j : Int) = false := by simpa using e
    rw [if_neg e, nextUp_at hc]
    simp only [e2, Bool.false_eq_true, if_false]
    rfl
theorem PutIn.rightG (h : PutIn m F G l p cp A B mv) : rightF m G = true := by
  obtain ⟨⟨h1, h2, h3, h4⟩, _, _⟩ := (rightF_iff m F).1 h.right
  refine right_of h1 h2 (by rw [h.ed.len]; exact h3) (h.ed.head h4) (fun i y hy => h.node hy) (fun j => rankF F j + if mv j then rankF F p + 1 else 0) (fun i hi => ?_)
  rw [h.ed.len] at hi ⊢
  have hc : F[i]? = some F[i] := List.getElem?_eq_getElem hi
  rw [h.next hi]
  by_cases e : (i : Int) ∈ l
  · rw [if_pos e]
    refine .inr ⟨p, rfl, h.lt, ?_⟩
    rw [h.mvp, h.moved hc e]
    show rankF F p + 0 < rankF F i + (rankF F p + 1)
    omega
  · rw [if_neg e]
    rcases rank_next h.right hi with e1 | ⟨q, e1, e2, e3⟩
    · exact .inl e1
    · refine .inr ⟨q, e1, e2, ?_⟩
      rw [h.mv_up hi (parS_some e1) e]
      omega
end
end Go.Proofs.YtbkhngoehoiccaaGreat
namespace Go.Proofs.YtbkhngoehoiccaaGreat
open Go.RowKit
theorem inF_nat {F : List Core} {n : Int} (h : inF F n = true) : ∃ k : Nat, n = k ∧ k < F.length := by
  unfold inF at h
  rw [Bool.and_eq_true, decide_eq_true_eq, decide_eq_true_eq] at h
  exact ⟨n.toNat, by omega, by omega⟩
end Go.Proofs.YtbkhngoehoiccaaGreat
namespace Go.Proofs.YtbkhngoehoiccaaGreat
open Go.RowKit
end Go.Proofs.YtbkhngoehoiccaaGreat
namespace Go.Proofs.YtbkhngoehoiccaaGreat
open Go.RowKit
end Go.Proofs.YtbkhngoehoiccaaGreat
namespace Go.Proofs.YtbkhngoehoiccaaGreat
open Go.RowKit
attribute [local go_sem ↓] Go.wp_at_zero Go.wp_at_succ
structure AttSt (w W : World) (a : Option Addr) (len cap : Nat) (m : Int) (L : List NodeD) : Prop where
  box : Box w W w.heap.size a len cap m L (coreL L)
  res : Box2 W (w.heap.size + 1) (.slice none 0 0) (.int .i64 0)
theorem AttSt.keep {w W W2 : World} {a : Option Addr} {len cap : Nat} {m : Int} {L : List NodeD} (h : AttSt w W a len cap m L) (hb : Below W.heap.size W W2) : AttSt w W2 a len cap m L := ⟨h.box.keep hb, h.res.keep hb⟩
theorem AttSt.start {w : World} {a : Option Addr} {len cap : Nat} {m : Int} {L : List NodeD} (h : NodeRow w a len cap L) : AttSt w ((w.alloc (forB a len cap m)).alloc zeroFB) a len cap m L := by
  refine ⟨(Box.start h).keep (below_box _ _), ?_⟩
  have := Box2.new (w.alloc (forB a len cap m)) (.slice none 0 0) (.int .i64 0) 24
  rwa [show (w.alloc (forB a len cap m)).heap.size = w.heap.size + 1 by simp] at this
structure AttCp (r : Nat) (w0 W : World) (len : Nat) (m : Int) (F : List Core) (q : Nat) (v : Value) (M : List NodeD) : Prop where
  copy : Copy w0.heap.size w0 W v len M F
  g : Box2 W q v (.int .i64 m)
  low : w0.heap.size ≤ q
  ne : v.ownBlock ≠ some q
  aq : ∀ y ∈ M, NodeAway q y
  ar : ∀ y ∈ M, NodeAway r y
theorem AttCp.keep {r : Nat} {w0 W W2 : World} {len : Nat} {m : Int} {F : List Core} {q : Nat} {v : Value} {M : List NodeD} (h : AttCp r w0 W len m F q v M) (hb : Below W.heap.size W W2) : AttCp r w0 W2 len m F q v M :=
  ⟨h.copy.keep hb, h.g.keep hb, h.low, h.ne, h.aq, h.ar⟩
theorem AttCp.finish {r : Nat} {w w0 W : World} {len : Nat} {m : Int} {F : List Core} {q : Nat} {v : Value} {M : List NodeD} (h : AttCp r w0 W len m F q v M) (hsz : r < w0.heap.size) (hlo : w.heap.size ≤ r) (hb : Below w.heap.size w w0) (u1 u2 : Value) :
    ∃ a cap, v = .slice a len cap ∧ NodeRow ((W.setCell ⟨r, 0, none⟩ u1).setCell ⟨r, 1, none⟩ u2) a len cap M ∧ coreL M = F ∧ Below w.heap.size w ((W.setCell ⟨r, 0, none⟩ u1).setCell ⟨r, 1, none⟩ u2) := by
  have hne : v.ownBlock ≠ some r := own_not h.copy.own hsz
  have c2 : Copy w.heap.size w ((W.setCell ⟨r, 0, none⟩ u1).setCell ⟨r, 1, none⟩ u2) v len M F :=
    ⟨own_base (own_boxCell (own_boxCell h.copy.own hne _) hne _) hb.size, h.copy.hl, h.copy.core, fun x hx => ((h.copy.ok x hx).setCell (h.ar x hx) _).setCell (h.ar x hx) _, fun g hg => by
      rcases hg with hg | hg
      · omega
      · exact h.copy.away g (.inr hg), ((hb.trans (h.copy.below.mono hb.size)).setCell (p := ⟨r, 0, none⟩) hlo _).setCell (p := ⟨r, 1, none⟩) hlo _⟩
  obtain ⟨a, cap, hv, hr, _⟩ := c2.row
  exact ⟨a, cap, hv, hr, h.copy.core, c2.below⟩
def withUD (x : NodeD) (u : Int) : NodeD := ⟨withU x.core u, x.aA, x.aN, x.aC, x.kA, x.kN, x.kC⟩
theorem Copy.at {lo : Nat} {w W : World} {g n cap k : Nat} {M : List NodeD} {F : List Core} {x : NodeD} (h : Copy lo w W (.slice (some ⟨g, 0, none⟩) n cap) n M F) (hx : M[k]? = some x) : NodeAt W g (k * 10) x := by
  obtain ⟨a, cap', he, hr, _⟩ := h.row
  injection he with e1 e2 e3
  subst e1
  have hk : k < n := by
    have := (List.getElem?_eq_some_iff.1 hx).1
    rw [h.hl] at this
    exact this
  obtain ⟨b', off, y, hab, _, hy, hat, _⟩ := hr.get hk
  injection hab with hab
  injection hab with e1 e2
  subst e1 e2
  obtain rfl : x = y := Option.some.inj (hx.symm.trans hy)
  rwa [Nat.zero_add] at hat
theorem AttCp.under {r : Nat} {w0 W : World} {len cap : Nat} {m : Int} {F : List Core} {q g : Nat} {M : List NodeD} {k : Nat} {x : NodeD} {u : Int} (h : AttCp r w0 W len m F q (.slice (some ⟨g, 0, none⟩) len cap) M) (hk : M[k]? = some x) (hu : In64 u) :
    AttCp r w0 (W.setCell ⟨g, k * 10 + 8, none⟩ (.int .i64 u)) len m (F.set k (withU x.core u)) q (.slice (some ⟨g, 0, none⟩) len cap) (M.set k (withUD x u)) := by
  obtain ⟨hl, he⟩ := List.getElem?_eq_some_iff.1 hk
  have hkn : k < len := by have := h.copy.hl; omega
  have hgl : w0.heap.size ≤ g := (h.copy.own.lt g rfl).1
  have hgq : g ≠ q := fun e => h.ne (by rw [← e]; rfl)
  have o1 := own_setCell h.copy.own (j := k * 10 + 8) (by omega) (.int .i64 u)
  rw [flat_set (L := M) (fun z _ => encN_len z) (i := k) (j := 8) (y := withUD x u) (u := .int .i64 u) (x := x) hk rfl (by omega)] at o1
  have mem : ∀ y ∈ M.set k (withUD x u), y ∈ M ∨ y = withUD x u := fun y hy => List.mem_or_eq_of_mem_set hy
  have hxm := List.mem_of_getElem? hk
  have hox := h.copy.ok x hxm
  have haw := h.copy.away g (.inr rfl)
  have away : ∀ g', (∀ y ∈ M, NodeAway g' y) → ∀ y ∈ M.set k (withUD x u), NodeAway g' y := fun g' hg' y hy => by
    rcases mem y hy with hy | rfl
    · exact hg' y hy
    · exact hg' x hxm
  refine ⟨⟨o1, by rw [List.length_set]; exact h.copy.hl, ?_, fun y hy => ?_, fun g' hg' => away g' (h.copy.away g' hg'), h.copy.below.setCell (p := ⟨g, k * 10 + 8, none⟩) hgl _⟩, ?_, h.low, h.ne, away q h.aq, away r h.ar⟩
  · rw [← h.copy.core]
    unfold coreL
    rw [List.map_set]
    rfl
  · rcases mem y hy with hy | rfl
    · exact (h.copy.ok y hy).setCell (haw y hy) _
    · have hq : NodeOk W (withUD x u) := ⟨hox.attrs, hox.kids, hox.name, hox.is, hox.data, hox.kind, hox.parent, hox.host, hu, hox.doc⟩
      exact hq.setCell (haw x hxm) _
  · have hb : ∀ o, (⟨g, k * 10 + 8, none⟩ : Addr) ≠ ⟨q, o, none⟩ := fun o e => hgq (by injection e)
    exact ⟨by simpa [World.setCell] using h.g.lt, (World.cell?_setCell_other _ _ _ _ (hb 0)).trans h.g.c0, (World.cell?_setCell_other _ _ _ _ (hb 1)).trans h.g.c1, by rw [World.frozen?_setCell]; exact h.g.f0, by rw [World.frozen?_setCell]; exact h.g.f1⟩
theorem AttCp.grown {r : Nat} {w0 W W2 : World} {len : Nat} {m : Int} {F : List Core} {q : Nat} {v : Value} {M : List NodeD} (h : AttCp r w0 W len m F q v M) (hg : W.grownBy W2 v.ownBlock) (ho : W2.ownsRow w0.heap.size 58 10 v len (M.flatMap encN)) : AttCp r w0 W2 len m F q v M :=
  ⟨⟨ho, h.copy.hl, h.copy.core, fun x hx => (h.copy.ok x hx).grown hg (fun g e => h.copy.away g (.inr e) x hx), h.copy.away, h.copy.below.grown hg h.copy.below.size (fun k e => (h.copy.own.lt k e).1)⟩, h.g.grown hg (fun e => h.ne e.symm), h.low, h.ne, h.aq, h.ar⟩
structure AttRow (r : Nat) (w0 W : World) (len : Nat) (q g cap : Nat) (M : List NodeD) (y : NodeD) : Prop where
  own : W.ownsRow w0.heap.size 58 10 (.slice (some ⟨g, 0, none⟩) (len + 1) cap) (len + 1) ((M ++ [y]).flatMap encN)
  hl : M.length = len
  ok : ∀ z ∈ M ++ [y], NodeOk W z
  nq : g ≠ q
  aq : ∀ z ∈ M ++ [y], NodeAway q z
  ar : ∀ z ∈ M ++ [y], NodeAway r z
theorem AttRow.row {r : Nat} {w0 W : World} {len q g cap : Nat} {M : List NodeD} {y : NodeD} (h : AttRow r w0 W len q g cap M y) : NodeRow W (some ⟨g, 0, none⟩) (len + 1) cap (M ++ [y]) := by
  obtain ⟨a, cap', he, hr, _⟩ := SRow.of_own (L := M ++ [y]) (fun x _ => encN_len x) (by rw [List.length_append, h.hl]; rfl) h.own
  injection he with h1 h2 h3
  subst h1; subst h3
  exact ⟨hr, h.ok, fun h => by cases h⟩
theorem AttRow.new {r : Nat} {w0 W W2 : World} {len : Nat} {m : Int} {F : List Core} {q g cap : Nat} {v : Value} {M : List NodeD} {y : NodeD} (h : AttCp r w0 W len m F q v M) (hy : NodeOk W y) (hya : y.aA = none) (hyk : y.kA = none)
    (ho : W2.ownsRow w0.heap.size 58 10 (.slice (some ⟨g, 0, none⟩) (len + 1) cap) (len + 1) (M.flatMap encN ++ encN y)) (hg : W.grownBy W2 v.ownBlock) (hat : v.ownBlock = some g ∨ g = W.heap.size) : AttRow r w0 W2 len q g cap M y := by
  have away : ∀ k, NodeAway k y := fun k => ⟨(fun b off hb => by rw [hya] at hb; cases hb), (fun b off hb => by rw [hyk] at hb; cases hb)⟩
  have hlow := h.low
  refine ⟨by simpa using ho, h.copy.hl, fun z hz => ?_, ?_, fun z hz => ?_, fun z hz => ?_⟩
  · rcases List.mem_append.1 hz with hz | hz
    · exact (h.copy.ok z hz).grown hg (fun k e => h.copy.away k (.inr e) z hz)
    · obtain rfl : z = y := by simpa using hz
      exact hy.grown hg (fun k _ => away k)
  · rcases hat with hat | hat
    · intro e
      exact h.ne (by rw [hat, e])
    · have := h.g.lt
      omega
  · rcases List.mem_append.1 hz with hz | hz
    · exact h.aq z hz
    · obtain rfl : z = y := by simpa using hz
      exact away q
  · rcases List.mem_append.1 hz with hz | hz
    · exact h.ar z hz
    · obtain rfl : z = y := by simpa using hz
      exact away _
theorem AttRow.finish {r : Nat} {w w0 W : World} {len q g cap : Nat} {M : List NodeD} {y : NodeD} (h : AttRow r w0 W len q g cap M y) (hsz : r < w0.heap.size) (hlo : w.heap.size ≤ r) (hq : w0.heap.size ≤ q) (hb : Below w.heap.size w w0) (hb2 : Below w0.heap.size w0 W) (u0 u1 u2 : Value) :
    NodeRow (((W.setCell ⟨q, 0, none⟩ u0).setCell ⟨r, 0, none⟩ u1).setCell ⟨r, 1, none⟩ u2) (some ⟨g, 0, none⟩) (len + 1) cap (M ++ [y]) ∧ Below w.heap.size w (((W.setCell ⟨q, 0, none⟩ u0).setCell ⟨r, 0, none⟩ u1).setCell ⟨r, 1, none⟩ u2) := by
  have n1 : (Value.slice (some ⟨g, 0, none⟩) (len + 1) cap).ownBlock ≠ some q := fun e => h.nq (by injection e)
  have n2 : (Value.slice (some ⟨g, 0, none⟩) (len + 1) cap).ownBlock ≠ some r := own_not h.own hsz
  have c2 : AttRow r w0 (((W.setCell ⟨q, 0, none⟩ u0).setCell ⟨r, 0, none⟩ u1).setCell ⟨r, 1, none⟩ u2) len q g cap M y :=
    ⟨own_boxCell (own_boxCell (own_boxCell h.own n1 _) n2 _) n2 _, h.hl, fun z hz => (((h.ok z hz).setCell (h.aq z hz) _).setCell (h.ar z hz) _).setCell (h.ar z hz) _, h.nq, h.aq, h.ar⟩
  have hsz2 := hb.size
  exact ⟨c2.row, (((hb.trans (hb2.mono hb.size)).setCell (p := ⟨q, 0, none⟩) (by show w.heap.size ≤ q; omega) _).setCell (p := ⟨r, 0, none⟩) hlo _).setCell (p := ⟨r, 1, none⟩) hlo _⟩
end Go.Proofs.YtbkhngoehoiccaaGreat
namespace Go.Proofs.YtbkhngoehoiccaaGreat
open Go.RowKit Go.Shelf
attribute [local go_sem] Oper.semAt_some
end Go.Proofs.YtbkhngoehoiccaaGreat
namespace Go.Proofs.YtbkhngoehoiccaaGreat
open Go.RowKit Go.Shelf
theorem OwnPostI.new {w w' : World} {l : List Int} {e : Ending} (h : OwnPostI w l e w') (hin : ∀ z ∈ l, In64 z) : ∃ a len cap, e = .returned (.slice a len cap) ∧ IntRow w' a len cap l ∧ Below w.heap.size w w' ∧ ∀ b off, a = some ⟨b, off, none⟩ → w.heap.size ≤ b := by
  obtain ⟨v, he, ho, hb⟩ := h
  obtain ⟨a9, cap9, hv9, hr9, hlo9⟩ := IntRow.of_own_new (M := l) (n := l.length) rfl ho hin
  exact ⟨a9, l.length, cap9, by rw [he, hv9], hr9, hb, hlo9⟩
def OrdNew (w : World) (l : List Int) (e : Ending) (w' : World) : Prop := ∃ a len cap, e = .returned (.slice a len cap) ∧ IntRow w' a len cap l ∧ Below w.heap.size w w' ∧ ∀ b off, a = some ⟨b, off, none⟩ → w.heap.size ≤ b
theorem OrdNew.post {w w' : World} {l : List Int} {e : Ending} (h : OrdNew w l e w') : OrdPost w l e w' := by
  obtain ⟨a, len, cap, h1, h2, h3, _⟩ := h
  exact ⟨a, len, cap, h1, h2, h3⟩
end Go.Proofs.YtbkhngoehoiccaaGreat
namespace Go.Proofs.YtbkhngoehoiccaaGreat
open Go.RowKit Go.Shelf
end Go.Proofs.YtbkhngoehoiccaaGreat
namespace Go.Proofs.YtbkhngoehoiccaaGreat
open Go.RowKit
end Go.Proofs.YtbkhngoehoiccaaGreat
namespace Go.Proofs.YtbkhngoehoiccaaGreat
open Go.RowKit
end Go.Proofs.YtbkhngoehoiccaaGreat
namespace Go.Proofs.YtbkhngoehoiccaaGreat
open Go.RowKit
end Go.Proofs.YtbkhngoehoiccaaGreat
namespace Go.Proofs.YtbkhngoehoiccaaGreat
open Go.RowKit
theorem vknows_nat {m : Int} {F : List Core} {n p c : Int} (h : vknowsB m F n p c = true) : rightF m F = true ∧ (∃ k : Nat, n = k ∧ k < F.length) ∧ (∃ k : Nat, p = k ∧ k < F.length) ∧ (c = -1 ∨ ∃ k : Nat, c = k ∧ k < F.length) := by
  unfold vknowsB at h
  rw [Bool.and_eq_true, Bool.and_eq_true, Bool.and_eq_true, Bool.or_eq_true, beq_iff_eq] at h
  refine ⟨h.2, inF_nat h.1.1.1, inF_nat h.1.1.2, ?_⟩
  rcases h.1.2 with h | h
  · exact .inl h
  · exact .inr (inF_nat h)
theorem may_ok {m : Int} {F : List Core} {n p c : Int} (h : mayZ m F n p c = 0) : vknowsB m F n p c = true ∧ kindK F p ≠ 2 ∧ overZ m F n p = false ∧ (c = -1 ∨ parentK F c = p) ∧ kindK F n ≠ 0 ∧ kindK F n ≠ 4 ∧ (kindK F p = 0 → docTakesB F n p (-1) = true) := by
  unfold mayZ at h
  split at h
  · rename_i hk
    unfold refuseE at h
    split at h
    · cases h
    rename_i h1
    split at h
    · cases h
    rename_i h2
    split at h
    · cases h
    rename_i h3
    split at h
    · cases h
    rename_i h4
    refine ⟨hk, fun e => h1 (.inl e), ?_, ?_, fun e => h3 (.inl e), fun e => h3 (.inr e), fun e => ?_⟩
    · cases hq : overZ m F n p with
      | false => rfl
      | true => exact absurd (.inr hq) h1
    · cases hq : (c == -1 || parentK F c == p) with
      | false => exact absurd hq h2
      | true =>
        rw [Bool.or_eq_true, beq_iff_eq, beq_iff_eq] at hq
        exact hq
    · cases hq : docTakesB F n p (-1) with
      | true => rfl
      | false => exact absurd ⟨e, hq⟩ h4
  · cases h
theorem par_facts {m : Int} {F : List Core} (h : rightF m F = true) {N P : Nat} {x y : Core} (hx : F[N]? = some x) (hp : x.parent = (P : Int)) (hy : F[P]? = some y) : (x.kind = 1 ∨ x.kind = 2) ∧ y.kind ≠ 2 ∧ hasZ y.kids N = 1 := by
  have h1 := (nodeOk_iff.1 (((rightF_iff m F).1 h).2.1 N _ hx)).2.1
  unfold parOk at h1
  rw [beq_eq_false_iff_ne.2 (show x.parent ≠ -1 by omega), Bool.false_or, hp, getC_nat, hy] at h1
  simp only [Bool.and_eq_true, Bool.or_eq_true, beq_iff_eq, bne_iff_ne] at h1
  exact ⟨h1.1, h1.2.1, h1.2.2⟩
theorem place_at {m : Int} {F : List Core} (h : rightF m F = true) {N P : Nat} {x y : Core} (hx : F[N]? = some x) (hp : x.parent = (P : Int)) (hy : F[P]? = some y) : ∃ k : Nat, placeZ m F N = k ∧ k < y.kids.length ∧ y.kids[k]? = some (N : Int) := by
  have hN := (List.getElem?_eq_some_iff.1 hx).1
  have hm := hasZ_mem (par_facts h hx hp hy).2.2
  obtain ⟨p, e1, e2, e3⟩ := right_par h hx (by omega)
  obtain rfl : P = p := by omega
  obtain ⟨k, h1, h2⟩ := find_at hm
  refine ⟨k, ?_, (List.getElem?_eq_some_iff.1 h2).1, h2⟩
  unfold placeZ
  rw [thereF_of h hN, if_pos rfl, Int.toNat_natCast]
  unfold placeF
  rw [e3]
  dsimp only
  rw [hy]
  exact h1
end Go.Proofs.YtbkhngoehoiccaaGreat
namespace Go.Proofs.YtbkhngoehoiccaaGreat
open Go.RowKit
end Go.Proofs.YtbkhngoehoiccaaGreat
namespace Go.Proofs.YtbkhngoehoiccaaGreat
open Go.RowKit
end Go.Proofs.YtbkhngoehoiccaaGreat
namespace Go.Proofs.YtbkhngoehoiccaaGreat
open Go.RowKit
structure RowOf (W V : World) (v : Value) (n : Nat) (L : List NodeD) : Prop where
  own : V.ownsRow W.heap.size 58 10 v n (L.flatMap encN)
  below : Below W.heap.size W V
structure LitOf (W V : World) (g : Nat) (y : NodeD) : Prop where
  row : SRow encN 10 V (some ⟨g, 0, none⟩) 1 1 [y]
  ge : W.heap.size ≤ g
  lt : g < V.heap.size
structure NilOf (W V : World) (g : Nat) : Prop where
  own : V.ownsRow W.heap.size 58 10 (.slice (some ⟨g, 0, none⟩) 0 0) 0 (([] : List NodeD).flatMap encN)
theorem RowOf.keep {W V V2 : World} {v : Value} {n : Nat} {L : List NodeD} (h : RowOf W V v n L) (hb : Below V.heap.size V V2) : RowOf W V2 v n L := ⟨own_below h.own hb, h.below.trans (hb.mono h.below.size)⟩
theorem LitOf.keep {W V V2 : World} {g : Nat} {y : NodeD} (h : LitOf W V g y) (hb : Below V.heap.size V V2) : LitOf W V2 g y := ⟨h.row.below hb, h.ge, Nat.lt_of_lt_of_le h.lt hb.size⟩
theorem NilOf.keep {W V V2 : World} {g : Nat} (h : NilOf W V g) (hb : Below V.heap.size V V2) : NilOf W V2 g := ⟨own_below h.own hb⟩
theorem LitOf.new {W V : World} {g : Nat} {y : NodeD} (hb : Below W.heap.size W V) (hg : g = V.heap.size) : LitOf W (V.alloc (nodB y)) g y := by
  subst hg
  exact ⟨own_one V 58 y (encN y).toArray (by simp) rfl, hb.size, by simp⟩
theorem NilOf.new {W V : World} {g : Nat} (hb : Below W.heap.size W V) (hg : g = V.heap.size) : NilOf W (V.alloc (.cells #[] 58)) g := by
  subst hg
  exact ⟨World.ownsRow_lit (base := W.heap.size) (e := 58) (size := 10) V #[] 0 hb.size (Nat.zero_le _) (by simp)⟩
theorem LitOf.grown {W V V2 : World} {g : Nat} {y : NodeD} {row : Option Nat} (h : LitOf W V g y) (hg : V.grownBy V2 row) (hne : some g ≠ row) : LitOf W V2 g y :=
  ⟨h.row.grown hg (fun b off e _ => by
    injection e with e
    injection e with e1
    rw [← e1]
    exact hne), h.ge, Nat.lt_of_lt_of_le h.lt hg.size⟩
theorem Box2.newAt {W : World} {g : Nat} {u v : Value} {t : TypeId} (hg : g = W.heap.size) : Box2 (W.alloc (.cells #[u, v] t)) g u v := by
  subst hg
  exact Box2.new W u v t
end Go.Proofs.YtbkhngoehoiccaaGreat
namespace Go.Proofs.YtbkhngoehoiccaaGreat
open Go.RowKit
def OutOf (m : Int) (F G : List Core) (n : Nat) : Prop := ∃ x, F[n]? = some x ∧ ((x.parent = -1 ∧ G = F) ∨ ∃ p, Out m F G n p x)
end Go.Proofs.YtbkhngoehoiccaaGreat
namespace Go.Proofs.YtbkhngoehoiccaaGreat
open Go.RowKit
theorem countNe_all {l : List Int} (h : ∀ z ∈ l, 0 ≤ z) : countNe l (-1) = l.length := by
  unfold countNe
  exact List.countP_eq_length.2 (fun z hz => bne_iff_ne.2 (by have := h z hz; omega))
theorem kids_nat {m : Int} {F : List Core} (h : rightF m F = true) {Y : Nat} {y : Core} (hy : F[Y]? = some y) : ∀ z ∈ y.kids, 0 ≤ z := fun z hz => by
  obtain ⟨c, h1, _⟩ := (right_node h hy).kids z hz
  exact (getC_some h1).1
theorem kidsK_get {F : List Core} {Y : Nat} {y : Core} (hy : F[Y]? = some y) : kidsK F (Y : Int) = y.kids := by unfold kidsK; rw [getC_nat, hy]
theorem kindK_at {F : List Core} {Y : Nat} {y : Core} (hy : F[Y]? = some y) : kindK F (Y : Int) = y.kind := by unfold kindK; rw [getC_nat, hy]
theorem parentK_at {F : List Core} {Y : Nat} {y : Core} (hy : F[Y]? = some y) : parentK F (Y : Int) = y.parent := by unfold parentK; rw [getC_nat, hy]
theorem parts_at {F : List Core} {Y : Nat} {y : Core} (hy : F[Y]? = some y) : partsZ F (Y : Int) = if y.kind = 3 then y.kids else [(Y : Int)] := by unfold partsZ; rw [getC_nat, hy]
end Go.Proofs.YtbkhngoehoiccaaGreat
namespace Go.Proofs.YtbkhngoehoiccaaGreat
open Go.RowKit
section
variable {F G : List Core} {P P' : Nat → Core → Int} {K K' : Nat → Core → List Int} {D D' : Nat → Core → Int} {M : List NodeD} {q : Nat} {x : NodeD}
theorem Edit.congr (h : Edit F G P K D) (hP : ∀ (j : Nat) c, F[j]? = some c → P j c = P' j c) (hK : ∀ (j : Nat) c, F[j]? = some c → K j c = K' j c) (hD : ∀ (j : Nat) c, F[j]? = some c → D j c = D' j c) : Edit F G P' K' D' :=
  ⟨h.len, fun j c hc => by rw [← hP j c hc, ← hK j c hc, ← hD j c hc]; exact h.at_ j c hc⟩
theorem core_set (M : List NodeD) (q : Nat) (y : NodeD) : coreL (M.set q y) = (coreL M).set q y.core := by unfold coreL; rw [List.map_set]
theorem Edit.setP (h : Edit F (coreL M) P K D) (hx : M[q]? = some x) (v : Int) : Edit F (coreL (M.set q (withP x v))) (fun j c => if j = q then v else P j c) K D := by
  refine ⟨by rw [core_set, List.length_set]; exact h.len, fun j c hc => ?_⟩
  have h1 := h.at_ j c hc
  rw [core_set]
  by_cases e : j = q
  · subst e
    rw [List.getElem?_set_self (List.getElem?_eq_some_iff.1 h1).1, if_pos rfl]
    rw [coreL_get hx] at h1
    have h2 := Option.some.inj h1
    show some (⟨x.core.kind, x.core.name, x.core.is, x.core.data, x.core.attrs, v, x.core.kids, x.core.host, x.core.under, x.core.doc⟩ : Core) = _
    rw [h2]
    rfl
  · rw [List.getElem?_set_ne (fun e2 => e e2.symm), h1, if_neg e]
theorem Edit.setK (h : Edit F (coreL M) P K D) (hx : M[q]? = some x) (a : Option Addr) (n c0 : Nat) (l : List Int) : Edit F (coreL (M.set q (withK x a n c0 l))) P (fun j c => if j = q then l else K j c) D := by
  refine ⟨by rw [core_set, List.length_set]; exact h.len, fun j c hc => ?_⟩
  have h1 := h.at_ j c hc
  rw [core_set]
  by_cases e : j = q
  · subst e
    rw [List.getElem?_set_self (List.getElem?_eq_some_iff.1 h1).1, if_pos rfl]
    rw [coreL_get hx] at h1
    have h2 := Option.some.inj h1
    show some (⟨x.core.kind, x.core.name, x.core.is, x.core.data, x.core.attrs, x.core.parent, l, x.core.host, x.core.under, x.core.doc⟩ : Core) = _
    rw [h2]
    rfl
  · rw [List.getElem?_set_ne (fun e2 => e e2.symm), h1, if_neg e]
end
theorem SRow.take {α : Type} {enc : α → List Value} {size : Nat} {w : World} {a : Option Addr} {len cap k : Nat} {L : List α} (h : SRow enc size w a len cap L) (hk : k ≤ len) : SRow enc size w a k cap (L.take k) := by
  refine ⟨by rw [List.length_take, h.hlen]; omega, Nat.le_trans hk h.hcap, h.hmax, fun x hx => h.henc x (List.mem_of_mem_take hx), ?_⟩
  rcases h.cells with h0 | ⟨b, off, ha, hb, hc⟩
  · exact .inl (by omega)
  · refine .inr ⟨b, off, ha, hb, fun i x j v hx hv => hc i x j v ?_ hv⟩
    rw [List.getElem?_take] at hx
    split at hx
    · exact hx
    · cases hx
theorem SRow.rest {α : Type} {enc : α → List Value} {w : World} {a : Option Addr} {len cap k : Nat} {L : List α} (h : SRow enc 1 w a len cap L) (hk : k ≤ len) : SRow enc 1 w (if cap = k then a else Option.map (fun x => x.add k) a) (len - k) (cap - k) (L.drop k) := by
  have hcap := h.hcap
  have hmax := h.hmax
  refine ⟨by rw [List.length_drop, h.hlen], by omega, by omega, fun x hx => h.henc x (List.mem_of_mem_drop hx), ?_⟩
  by_cases h0 : len - k = 0
  · exact .inl h0
  rcases h.cells with h1 | ⟨b, off, ha, hb, hc⟩
  · omega
  · refine .inr ⟨b, off + k, ?_, hb, fun i x j v hx hv => ?_⟩
    · rw [if_neg (by omega), ha, Option.map_some, Go.WideShapes.add_plain]
    · rw [List.getElem?_drop] at hx
      have := hc (k + i) x j v hx hv
      rw [show off + k + i * 1 + j = off + (k + i) * 1 + j by omega]
      exact this
structure OutsOf (m : Int) (F G : List Core) (l : List Int) (k : Nat) : Prop where
  right : rightF m G = true
  ed : Edit F G (fun j c => if (l.take k).contains (j : Int) then -1 else c.parent) (fun _ c => c.kids.filter (fun z => !(l.take k).contains z)) (fun _ c => c.doc)
theorem OutsOf.start {m : Int} {F : List Core} {l : List Int} (h : rightF m F = true) : OutsOf m F F l 0 := by
  refine ⟨h, rfl, fun j c hc => ?_⟩
  have : c.kids.filter (fun z => !(l.take 0).contains z) = c.kids := by simp
  rw [this, hc]
  rfl
theorem contains_take {l : List Int} {k : Nat} {q z : Int} (hq : l[k]? = some q) : (l.take (k + 1)).contains z = ((l.take k).contains z || z == q) := by
  obtain ⟨hl, hg⟩ := List.getElem?_eq_some_iff.1 hq
  rw [List.take_succ_eq_append_getElem hl, hg, List.contains_append]
  simp
  rfl
theorem OutsOf.step {m : Int} {F G G' : List Core} {l : List Int} {k q : Nat} (h : OutsOf m F G l k) (hq : l[k]? = some (q : Int)) (ho : OutOf m G G' q) : OutsOf m F G' l (k + 1) := by
  obtain ⟨x, hx, hcase⟩ := ho
  have hf : ∀ (ks : List Int), ks.filter (fun z => !(l.take (k + 1)).contains z) = (ks.filter (fun z => !(l.take k).contains z)).filter (fun z => z != (q : Int)) := fun ks => by
    rw [List.filter_filter]
    refine List.filter_congr (fun z _ => ?_)
    rw [contains_take hq]
    cases (l.take k).contains z <;> cases hz : (z == (q : Int)) <;> simp [bne, hz]
  have notin : ∀ (j : Nat) (y : Core), G[j]? = some y → (x.parent = -1 ∨ x.parent ≠ (j : Int)) → y.kids.filter (fun z => z != (q : Int)) = y.kids := fun j y hy hp => by
    refine List.filter_eq_self.2 (fun z hz => bne_iff_ne.2 (fun e => ?_))
    subst e
    obtain ⟨c, h1, _, h3, _⟩ := (right_node h.right hy).kids _ hz
    rw [getC_nat, hx] at h1
    rw [← Option.some.inj h1] at h3
    rcases hp with hp | hp
    · omega
    · exact hp h3
  have hP : ∀ (j : Nat) (c : Core), (if (l.take (k + 1)).contains (j : Int) then (-1 : Int) else c.parent) = if j = q then -1 else if (l.take k).contains (j : Int) then -1 else c.parent := fun j c => by
    rw [contains_take hq]
    by_cases e : j = q
    · subst e; simp
    · have e2 : ((j : Int) == (q : Int)) = false := beq_eq_false_iff_ne.2 (by omega)
      rw [if_neg e, e2, Bool.or_false]
  rcases hcase with ⟨h1, rfl⟩ | ⟨p, h1⟩
  · refine ⟨h.right, h.ed.len, fun j c hc => ?_⟩
    have h2 := h.ed.at_ j c hc
    have h9 : (c.kids.filter (fun z => !(l.take k).contains z)).filter (fun z => z != (q : Int)) = c.kids.filter (fun z => !(l.take k).contains z) := notin j _ h2 (.inl h1)
    rw [h2, hf, h9, hP]
    by_cases e : j = q
    · subst e
      rw [hx] at h2
      have h3 := congrArg Core.parent (Option.some.inj h2)
      rw [if_pos rfl]
      have h3b : x.parent = (if (l.take k).contains (j : Int) then (-1 : Int) else c.parent) := h3
      have h4 : (if (l.take k).contains (j : Int) then (-1 : Int) else c.parent) = -1 := h3b.symm.trans h1
      rw [h4]
    · rw [if_neg e]
  · refine ⟨h1.rightG, by rw [h1.ed.len]; exact h.ed.len, fun j c hc => ?_⟩
    have h2 := h.ed.at_ j c hc
    rw [h1.ed.at_ j _ h2, hf, hP]
    have hk : (if j = p then (edC c (if (l.take k).contains (j : Int) then -1 else c.parent) (c.kids.filter (fun z => !(l.take k).contains z)) c.doc).kids.filter (fun z => z != (q : Int)) else (edC c (if (l.take k).contains (j : Int) then -1 else c.parent) (c.kids.filter (fun z => !(l.take k).contains z)) c.doc).kids) = (c.kids.filter (fun z => !(l.take k).contains z)).filter (fun z => z != (q : Int)) := by
      by_cases e : j = p
      · rw [if_pos e]; rfl
      · rw [if_neg e]
        exact (notin j _ h2 (.inr (by
          have h3 := h1.hx
          rw [hx] at h3
          rw [h1.hp]
          omega))).symm
    rw [hk]
    rfl
def putP (l : List Int) (p : Nat) (i j : Nat) (c : Core) : Int := if (l.take i).contains (j : Int) then (p : Int) else if l.contains (j : Int) then -1 else c.parent
def putK (l : List Int) (p : Nat) (A B : List Int) (j : Nat) (c : Core) : List Int := if j = p then A ++ l ++ B else c.kids.filter (fun z => !l.contains z)
def mvL (F : List Core) (l : List Int) (i j : Nat) : Bool := (l.take i).any (fun q => (allI F q).contains (j : Int))
def putD (F : List Core) (l : List Int) (dp : Int) (i : Nat) (r : List Int) (j : Nat) (c : Core) : Int := if mvL F l i j || r.contains (j : Int) then dp else c.doc
section
variable {m : Int} {F : List Core} {n p : Nat} {c : Int} {cn cp : Core}
structure PutOk (m : Int) (F : List Core) (n p : Nat) (c : Int) (l : List Int) (cp : Core) : Prop where
  right : rightF m F = true
  hp : F[p]? = some cp
  kp : cp.kind ≠ 2
  once : l.Nodup
  ls : ∀ z ∈ l, ∃ (q : Nat) (c : Core), z = q ∧ F[q]? = some c ∧ (c.kind = 1 ∨ c.kind = 2)
  over : ∀ q : Nat, (q : Int) ∈ l → ¬ holdsT (parS F) q p
  root : cp.kind = 0 → cp.kids.length + l.length ≤ 1 ∧ ∀ k ∈ l, kindK F k = 1
  before : beforeZ m F n p c = -1 ∨ beforeZ m F n p c ∈ cp.kids.filter (fun z => !l.contains z)
theorem PutOk.of (h : mayZ m F n p c = 0) (hp : F[p]? = some cp) : PutOk m F n p c (partsZ F n) cp := by
  obtain ⟨hk, h2, h3, h4, h5, h6, h7⟩ := may_ok h
  obtain ⟨hr, ⟨N, hN1, hN⟩, ⟨p', hp1, hpl⟩, hcc⟩ := vknows_nat hk
  obtain rfl : n = N := by omega
  obtain rfl : p = p' := by omega
  obtain ⟨cn, hn⟩ : ∃ cn, F[n]? = some cn := ⟨_, List.getElem?_eq_getElem hN⟩
  have NN := right_node hr hn
  have NP := right_node hr hp
  rw [kindK_at hp] at h2 h7
  rw [kindK_at hn] at h5 h6
  have hov : ¬ holdsT (parS F) n p := fun hh => by rw [(overZ_iff hr hN hpl).2 hh] at h3; cases h3
  have hkind := NN.kind
  have hls : ∀ z ∈ partsZ F n, ∃ (q : Nat) (c : Core), z = q ∧ F[q]? = some c ∧ (c.kind = 1 ∨ c.kind = 2) := fun z hz => by
    rw [parts_at hn] at hz
    split at hz
    · obtain ⟨c1, g1, g2, _, _⟩ := NN.kids z hz
      obtain ⟨g3, _, g4⟩ := getC_some g1
      exact ⟨z.toNat, c1, by omega, g4, g2⟩
    · rw [List.mem_singleton] at hz
      exact ⟨n, cn, hz, hn, by omega⟩
  have hfrag : ∀ z ∈ partsZ F n, z = (n : Int) ∨ (cn.kind = 3 ∧ z ∈ cn.kids) := fun z hz => by
    rw [parts_at hn] at hz
    split at hz
    · next e => exact .inr ⟨e, hz⟩
    · exact .inl (List.mem_singleton.1 hz)
  have hholds : ∀ q : Nat, (q : Int) ∈ partsZ F n → holdsT (parS F) n q := fun q hq => by
    rcases hfrag _ hq with e | ⟨_, e⟩
    · rw [show q = n by omega]; exact holds_refl n
    · obtain ⟨c1, g1, _, g3, _⟩ := NN.kids _ e
      rw [getC_nat] at g1
      exact holds_par (parS_parent g1 g3)
  refine ⟨hr, hp, h2, ?_, hls, fun q hq hh => hov (holds_trans (hholds q hq) hh), fun e => ?_, ?_⟩
  · rw [parts_at hn]
    split
    · exact NN.once
    · simp
  · have h8 := h7 e
    unfold docTakesB at h8
    rw [Bool.and_eq_true, Bool.not_eq_true', decide_eq_true_eq, kidsK_get hp, countNe_all (kids_nat hr hp)] at h8
    refine ⟨h8.2, fun k hk2 => ?_⟩
    obtain ⟨q, c1, rfl, g1, g2⟩ := hls k hk2
    have := List.any_eq_false.1 h8.1 _ hk2
    rw [kindK_at g1] at this ⊢
    rcases g2 with g2 | g2
    · exact g2
    · simp [g2] at this
  · by_cases hb : beforeZ m F n p c = -1
    · exact .inl hb
    right
    unfold beforeZ at hb ⊢
    rw [if_pos h] at hb ⊢
    rw [List.mem_filter]
    by_cases hcn : c = (n : Int)
    · rw [if_pos hcn] at hb ⊢
      have hpar : cn.parent = (p : Int) := by
        rcases h4 with h4 | h4
        · omega
        · rw [hcn, parentK_at hn] at h4; exact h4
      obtain ⟨k, e1, e2, e3⟩ := place_at hr hn hpar hp
      have hk3 := (par_facts hr hn hpar hp).1
      rw [e1, kidsK_get hp, show ((k : Int) + 1).toNat = k + 1 by omega] at hb ⊢
      cases hz : cp.kids[k + 1]? with
      | none => rw [hz] at hb; exact absurd rfl hb
      | some z =>
        dsimp only
        refine ⟨List.mem_of_getElem? hz, ?_⟩
        rw [parts_at hn, if_neg (by omega)]
        have hne : z ≠ (n : Int) := fun e => by
          subst e
          have g1 := (List.getElem?_eq_some_iff.1 e3)
          have g2 := (List.getElem?_eq_some_iff.1 hz)
          obtain ⟨g3, g4⟩ := g1
          obtain ⟨g5, g6⟩ := g2
          exact List.pairwise_iff_getElem.1 NP.once k (k + 1) g3 g5 (by omega) (by rw [g4, g6])
        simpa using hne
    · rw [if_neg hcn] at hb ⊢
      have hpc : parentK F c = p := h4.resolve_left hb
      rcases hcc with e | ⟨C, rfl, hC⟩
      · exact absurd e hb
      obtain ⟨cc, hcc⟩ : ∃ cc, F[C]? = some cc := ⟨_, List.getElem?_eq_getElem hC⟩
      rw [parentK_at hcc] at hpc
      have hm := hasZ_mem (par_facts hr hcc hpc hp).2.2
      refine ⟨hm, ?_⟩
      have hnl : (C : Int) ∉ partsZ F n := fun hh => by
        rcases hfrag _ hh with e | ⟨_, e⟩
        · exact hcn e
        · obtain ⟨c1, g1, _, g3, _⟩ := NN.kids _ e
          rw [getC_nat, hcc] at g1
          rw [← Option.some.inj g1, hpc] at g3
          exact hov (by rw [show p = n by omega]; exact holds_refl n)
      simpa using hnl
theorem PutOk.rightG {l A B : List Int} {G : List Core} (h : PutOk m F n p c l cp) (hab : A ++ B = cp.kids.filter (fun z => !l.contains z)) (he : Edit F G (putP l p l.length) (putK l p A B) (putD F l cp.doc l.length [])) : rightF m G = true := by
  have T := PutIn.rightG (m := m) (F := F) (G := G) (l := l) (p := p) (cp := cp) (A := A) (B := B) (mv := mvL F l l.length)
  refine T ⟨h.right, h.hp, h.kp, h.once, h.ls, h.over, hab, fun e => ?_, fun j hj => ?_, he.congr (fun j c _ => ?_) (fun j c _ => rfl) (fun j c _ => ?_)⟩
  · obtain ⟨h1, h2⟩ := h.root e
    have hl : (A ++ l ++ B).length = (cp.kids.filter (fun z => !l.contains z)).length + l.length := by rw [← hab]; simp only [List.length_append]; omega
    refine ⟨by rw [hl]; have := List.length_filter_le (fun z => !l.contains z) cp.kids; omega, fun k hk => ?_⟩
    have hk2 : k ∈ l ∨ k ∈ A ++ B := by
      simp only [List.mem_append] at hk ⊢
      rcases hk with (h | h) | h
      · exact .inr (.inl h)
      · exact .inl h
      · exact .inr (.inr h)
    rcases hk2 with hk2 | hk2
    · exact h2 k hk2
    · rw [hab] at hk2
      exact ((right_node h.right h.hp).root e).2 k (List.mem_filter.1 hk2).1
  · unfold mvL
    rw [List.take_length, List.any_eq_true]
    constructor
    · rintro ⟨z, hz, hm⟩
      obtain ⟨q, c1, rfl, g1, _⟩ := h.ls z hz
      have hql := (List.getElem?_eq_some_iff.1 g1).1
      refine ⟨q, hz, (overZ_iff h.right hql hj).1 ?_⟩
      cases ho : overZ m F q j with
      | true => rfl
      | false =>
        have := hasZ_all h.right hql hj
        rw [ho] at this
        have h3 := hasZ_pos (List.contains_iff_mem.1 hm)
        rw [this] at h3
        exact absurd h3 (by decide)
    · rintro ⟨q, hq, hh⟩
      obtain ⟨q2, c1, e, g1, _⟩ := h.ls _ hq
      obtain rfl : q = q2 := by omega
      have hql := (List.getElem?_eq_some_iff.1 g1).1
      refine ⟨_, hq, List.contains_iff_mem.2 (hasZ_mem ?_)⟩
      rw [hasZ_all h.right hql hj, (overZ_iff h.right hql hj).2 hh]
      rfl
  · unfold putP
    rw [List.take_length]
    by_cases e : l.contains (j : Int) = true
    · rw [if_pos e, if_pos e]
    · rw [if_neg e, if_neg e, if_neg e]
  · unfold putD
    simp
end
end Go.Proofs.YtbkhngoehoiccaaGreat
namespace Go.Proofs.YtbkhngoehoiccaaGreat
open Go.RowKit
def oneGo (s : List UInt8) : List UInt8 → List UInt8 → Bool
  | cur, [] => cur == s
  | cur, c :: r => if c == 32 then (cur == s) || oneGo s [] r else oneGo s (cur ++ [c]) r
def oneL (s v : List UInt8) : Bool := oneGo s [] v
def OneAt (s v : List UInt8) (a i : Nat) : Prop := (a ≤ i ∧ i ≤ v.length ∧ oneGo s ((v.take i).drop a) (v.drop i) = oneL s v) ∨ (i = v.length + 1 ∧ oneL s v = false)
theorem OneAt.start (s v : List UInt8) : OneAt s v 0 0 := .inl ⟨Nat.le_refl _, Nat.zero_le _, by simp [oneL]⟩
theorem OneAt.last {s v : List UInt8} {a i : Nat} (h : OneAt s v a i) (hi : i = v.length) (he : ¬ (v.take i).drop a = s) (b : Nat) : OneAt s v b (i + 1) := by
  rcases h with ⟨h1, h2, h3⟩ | ⟨h1, _⟩
  · refine .inr ⟨by omega, ?_⟩
    rw [← h3]
    have : v.drop i = [] := by rw [hi]; simp
    rw [this]
    unfold oneGo
    simpa using he
  · omega
theorem OneAt.none {s v : List UInt8} {a i : Nat} (h : OneAt s v a i) (hi : ¬ i ≤ v.length) : oneL s v = false := by
  rcases h with ⟨h1, h2, h3⟩ | ⟨_, h⟩
  · omega
  · exact h
theorem OneAt.le {s v : List UInt8} {a i : Nat} (h : OneAt s v a i) (hi : i ≤ v.length) : a ≤ i := by
  rcases h with ⟨h1, _, _⟩ | ⟨h1, _⟩
  · exact h1
  · omega
end Go.Proofs.YtbkhngoehoiccaaGreat
namespace Go.Proofs.YtbkhngoehoiccaaGreat
open Go.RowKit
end Go.Proofs.YtbkhngoehoiccaaGreat
namespace Go.Proofs.YtbkhngoehoiccaaGreat
open Go.RowKit
end Go.Proofs.YtbkhngoehoiccaaGreat
namespace Go.Proofs.YtbkhngoehoiccaaGreat
open Go.RowKit
end Go.Proofs.YtbkhngoehoiccaaGreat
namespace Go.Proofs.YtbkhngoehoiccaaGreat
open Go.RowKit
structure FD (w W : World) (gf gd : Nat) (a : Option Addr) (len cap : Nat) (m : Int) (K : List NodeD) (da : Option Addr) (dl dc : Nat) (wa : Option Addr) (wl wc : Nat) (nx : Int) (bz : Bool) (L : List DefD) (M : List WaitD) : Prop where
  f : Box w W gf a len cap m K (coreL K)
  d : DBox w W gd da dl dc wa wl wc nx bz L M
section
variable {w W V : World} {gf gd : Nat} {a : Option Addr} {len cap : Nat} {m : Int} {K : List NodeD} {da wa : Option Addr} {dl dc wl wc : Nat} {nx : Int} {bz : Bool} {L : List DefD} {M : List WaitD}
theorem FD.keep (h : FD w W gf gd a len cap m K da dl dc wa wl wc nx bz L M) (hb : Below W.heap.size W V) : FD w V gf gd a len cap m K da dl dc wa wl wc nx bz L M := ⟨h.f.keep hb, h.d.keep hb⟩
theorem FD.lt (h : FD w W gf gd a len cap m K da dl dc wa wl wc nx bz L M) : gf < W.heap.size ∧ gd < W.heap.size := ⟨h.f.lt, h.d.lt⟩
theorem FD.start (h0 : NodeRow w a len cap K) (hd : DefRow w da dl dc L) (ht : WaitRow w wa wl wc M) : FD w ((w.alloc (forB a len cap m)).alloc (deskB da dl dc wa wl wc nx bz)) w.heap.size (w.heap.size + 1) a len cap m K da dl dc wa wl wc nx bz L M := by
  have hb := below_box w (forB a len cap m)
  have hb2 := below_box (w.alloc (forB a len cap m)) (deskB da dl dc wa wl wc nx bz)
  have hs : (w.alloc (forB a len cap m)).heap.size = w.heap.size + 1 := by simp
  have h2 := DBox.start (nx := nx) (bz := bz) (hd.below hb) (ht.below hb)
  rw [hs] at h2
  exact ⟨(Box.start h0).keep hb2, ⟨h2.d, h2.t, by omega, h2.lt, h2.c0, h2.c1, h2.c2, h2.c3, hb.trans (hb2.mono (by omega))⟩⟩
end
end Go.Proofs.YtbkhngoehoiccaaGreat
namespace Go.Proofs.YtbkhngoehoiccaaGreat
theorem step_wpS {P : Program} {ops : Array Oper} {o : Oper} {a : Act} {w : World} {K : Act → World → Prop} {Q : Exit → Act → World → Prop} {E : Prop} (hg : o.guard = none) (h : Oper.wp P o a w K Q) : if Region.wanted o (yielded ops a.tmps) = true then Oper.wp P o a w K Q else E := by
  have hw : Region.wanted o (yielded ops a.tmps) = true := by simp [Region.wanted, hg]
  rw [if_pos hw]
  exact h
end Go.Proofs.YtbkhngoehoiccaaGreat
