/- Texts joined in build order: ForestPut ValidPutMath ValidOut2 ShadeAllNew ValidPutFn. -/
import Derived.Test.YtllfkiifkkcinaaP09
import Derived.Test.YtllfkiifkkcinaaP21
import Derived.Test.YtllfkiifkkcinaaP18
import Derived.Test.YtllfkiifkkcinaaP16
import Derived.Test.YtllfkiifkkcinaaP08
import Derived.Test.YtllfkiifkkcinaaP12
import Derived.Deep.RegionWith
import Derived.Deep.DeepCutAuto
/- Nodes are put under another one: a forest that is right stays right. Plain mathematics, no program. -/
namespace Go.Proofs.Ytllfkiifkkcinaa
open Go.RowKit
/-- The nodes l go from where they are, and hang under p, between A and B; what they are over gets p's document. -/
structure PutIn (m : Int) (F G : List Core) (l : List Int) (p : Nat) (cp : Core) (A B : List Int) (mv : Nat → Bool) : Prop where
  right : rightF m F = true
  hp : F[p]? = some cp
  kp : cp.kind ≠ 2
  once : l.Nodup
  ls : ∀ z ∈ l, ∃ (q : Nat) (c : Core), z = q ∧ F[q]? = some c ∧ (c.kind = 1 ∨ c.kind = 2)
  over : ∀ q : Nat, (q : Int) ∈ l → ¬ holdsT (parS F) q p
  ab : A ++ B = cp.kids.filter (fun z => !l.contains z)
  root : cp.kind = 0 → (A ++ l ++ B).length ≤ 1 ∧ ∀ k ∈ A ++ l ++ B, kindK F k = 1
  hmv : ∀ j, j < F.length → (mv j = true ↔ ∃ q : Nat, (q : Int) ∈ l ∧ holdsT (parS F) q j)
  ed : Edit F G (fun j c => if l.contains (j : Int) then (p : Int) else c.parent) (fun j c => if j = p then A ++ l ++ B else c.kids.filter (fun z => !l.contains z)) (fun j c => if mv j then cp.doc else c.doc)
section
variable {m : Int} {F G : List Core} {l : List Int} {p : Nat} {cp : Core} {A B : List Int} {mv : Nat → Bool}
theorem parS_parent {c : Core} {j q : Nat} (hc : F[j]? = some c) (h : c.parent = (q : Int)) : parS F j = some q := parS_some (by rw [nextUp_at hc]; show (if c.parent = -1 then c.host else c.parent) = (q : Int); rw [if_neg (by omega), h])
theorem parS_host {c : Core} {j q : Nat} (hc : F[j]? = some c) (hp : c.parent = -1) (h : c.host = (q : Int)) : parS F j = some q := parS_some (by rw [nextUp_at hc]; show (if c.parent = -1 then c.host else c.parent) = (q : Int); rw [if_pos hp, h])
theorem PutIn.lt (h : PutIn m F G l p cp A B mv) : p < F.length := (List.getElem?_eq_some_iff.1 h.hp).1
theorem PutIn.mvp (h : PutIn m F G l p cp A B mv) : mv p = false := by
  cases hq : mv p with
  | false => rfl
  | true =>
    obtain ⟨q, h1, h2⟩ := (h.hmv p h.lt).1 hq
    exact absurd h2 (h.over q h1)
/-- Who isn't put itself is moved just if who is above it is. -/
theorem PutIn.mv_up (h : PutIn m F G l p cp A B mv) {j q : Nat} (hj : j < F.length) (hq : parS F j = some q) (hjl : (j : Int) ∉ l) : mv j = mv q := by
  have hql := (parS_next h.right hj hq).2
  rw [Bool.eq_iff_iff, h.hmv j hj, h.hmv q hql]
  constructor
  · rintro ⟨r, h1, h2⟩
    rcases holds_up h2 with e | ⟨s, e1, e2⟩
    · exact absurd (e ▸ h1) hjl
    · rw [hq] at e1
      obtain rfl := Option.some.inj e1
      exact ⟨r, h1, e2⟩
  · rintro ⟨r, h1, h2⟩
    exact ⟨r, h1, holds_trans h2 (holds_par hq)⟩
theorem PutIn.mem_k (h : PutIn m F G l p cp A B mv) {k : Int} : k ∈ A ++ l ++ B ↔ k ∈ l ∨ (k ∈ cp.kids ∧ k ∉ l) := by
  have e : k ∈ A ++ B ↔ k ∈ cp.kids ∧ k ∉ l := by
    rw [h.ab, List.mem_filter]
    simp
  rw [List.mem_append] at e
  rw [List.mem_append, List.mem_append, ← e]
  constructor
  · rintro ((h1 | h1) | h1)
    · exact .inr (.inl h1)
    · exact .inl h1
    · exact .inr (.inr h1)
  · rintro (h1 | h1 | h1)
    · exact .inl (.inr h1)
    · exact .inl (.inl h1)
    · exact .inr h1
theorem PutIn.once_k (h : PutIn m F G l p cp A B mv) : (A ++ l ++ B).Nodup := by
  have hab : (A ++ B).Nodup := by rw [h.ab]; exact (right_node h.right h.hp).once.filter _
  have hp : List.Perm (A ++ l ++ B) (l ++ (A ++ B)) := by
    rw [← List.append_assoc]
    exact List.Perm.append_right B List.perm_append_comm
  refine hp.nodup_iff.2 (List.nodup_append.2 ⟨h.once, hab, fun a ha b hb e => ?_⟩)
  rw [h.ab, List.mem_filter] at hb
  subst e
  simp at hb
  exact hb.2 ha
theorem PutIn.moved (h : PutIn m F G l p cp A B mv) {q : Nat} {c : Core} (hc : F[q]? = some c) (hq : (q : Int) ∈ l) : mv q = true := (h.hmv q (List.getElem?_eq_some_iff.1 hc).1).2 ⟨q, hq, holds_refl q⟩
theorem PutIn.node (h : PutIn m F G l p cp A B mv) {j : Nat} {y : Core} (hy : G[j]? = some y) : NodeP G j y := by
  obtain ⟨c, hc, rfl⟩ := h.ed.back hy
  have hjl := (List.getElem?_eq_some_iff.1 hc).1
  have N := right_node h.right hc
  have gp : ∃ z, getC G (p : Int) = some z ∧ z.kind = cp.kind ∧ z.kids = A ++ l ++ B := ⟨_, h.ed.getC (z := (p : Int)) (by rw [getC_nat]; exact h.hp), rfl, by show (if (p : Int).toNat = p then A ++ l ++ B else _) = _; rw [if_pos (by omega)]⟩
  have nokind : c.kind = 0 ∨ c.kind = 3 ∨ c.kind = 4 → (j : Int) ∉ l := fun hk hm => by
    obtain ⟨q, c2, h1, h2, h3⟩ := h.ls _ hm
    obtain rfl : q = j := by omega
    rw [hc] at h2
    obtain rfl := Option.some.inj h2
    omega
  refine ⟨N.kind, ?_, fun e => ?_, ?_, ?_, fun k hk => ?_, fun e => ?_, fun e => ?_, fun e => ?_, N.free, ?_, N.text⟩
  · show ∃ d, getC G (if mv j then cp.doc else c.doc) = some d ∧ d.kind = 0
    split
    · obtain ⟨d, h1, h2⟩ := (right_node h.right h.hp).doc
      exact ⟨_, h.ed.getC h1, h2⟩
    · obtain ⟨d, h1, h2⟩ := N.doc
      exact ⟨_, h.ed.getC h1, h2⟩
  · show (if mv j then cp.doc else c.doc) = (j : Int)
    have hnm : mv j = false := by
      cases hq : mv j with
      | false => rfl
      | true =>
        obtain ⟨q, h1, h2⟩ := (h.hmv j hjl).1 hq
        rcases holds_up h2 with e1 | ⟨s, e1, _⟩
        · subst e1
          exact absurd h1 (nokind (.inl e))
        · have hn := (parS_next h.right hjl e1).1
          rw [nextUp_at hc] at hn
          have hn2 : (if c.parent = -1 then c.host else c.parent) = (s : Int) := hn
          have hpar : c.parent = -1 := by
            rcases N.par with h3 | ⟨h3, _⟩
            · exact h3
            · have e : c.kind = 0 := e
              omega
          rw [if_pos hpar, N.free (by have e : c.kind = 0 := e; omega)] at hn2
          omega
    rw [hnm]
    exact N.own e
  · by_cases hm : (j : Int) ∈ l
    · obtain ⟨q, c2, h1, h2, h3⟩ := h.ls _ hm
      obtain rfl : q = j := by omega
      rw [hc] at h2
      obtain rfl := Option.some.inj h2
      obtain ⟨z, z1, z2, z3⟩ := gp
      refine .inr ⟨h3, z, ?_, by rw [z2]; exact h.kp, by rw [z3]; exact h.mem_k.2 (.inl hm)⟩
      show getC G (if l.contains (q : Int) then (p : Int) else c.parent) = _
      rw [if_pos (by simpa using hm)]
      exact z1
    · rcases N.par with h1 | ⟨h1, q, h2, h3, h4⟩
      · refine .inl ?_
        show (if l.contains (j : Int) then (p : Int) else c.parent) = -1
        rw [if_neg (by simpa using hm)]
        exact h1
      · have g := h.ed.getC h2
        refine .inr ⟨h1, edC q (if l.contains ((c.parent.toNat : Nat) : Int) then (p : Int) else q.parent) (if c.parent.toNat = p then A ++ l ++ B else q.kids.filter (fun z => !l.contains z)) (if mv c.parent.toNat then cp.doc else q.doc), ?_, h3, ?_⟩
        · show getC G (if l.contains (j : Int) then (p : Int) else c.parent) = _
          rw [if_neg (by simpa using hm)]
          exact g
        · show (j : Int) ∈ (if c.parent.toNat = p then A ++ l ++ B else q.kids.filter (fun z => !l.contains z))
          split
          · next hpp =>
            have hq : q = cp := by
              obtain ⟨_, _, h5⟩ := getC_some h2
              rw [hpp, h.hp] at h5
              exact (Option.some.inj h5).symm
            exact h.mem_k.2 (.inr ⟨hq ▸ h4, hm⟩)
          · rw [List.mem_filter]
            exact ⟨h4, by simpa using hm⟩
  · show (if j = p then A ++ l ++ B else c.kids.filter (fun z => !l.contains z)).Nodup
    split
    · exact h.once_k
    · exact N.once.filter _
  · have hk2 : k ∈ (if j = p then A ++ l ++ B else c.kids.filter (fun z => !l.contains z)) := hk
    show ∃ c', getC G k = some c' ∧ (c'.kind = 1 ∨ c'.kind = 2) ∧ c'.parent = (j : Int) ∧ c'.doc = (if mv j then cp.doc else c.doc)
    have old : k ∈ c.kids → k ∉ l → ∃ c', getC G k = some c' ∧ (c'.kind = 1 ∨ c'.kind = 2) ∧ c'.parent = (j : Int) ∧ c'.doc = (if mv j then cp.doc else c.doc) := fun h1 h2 => by
      obtain ⟨d, h3, h4, h5, h6⟩ := N.kids k h1
      obtain ⟨g0, g1, g2⟩ := getC_some h3
      have hkn : ((k.toNat : Nat) : Int) = k := by omega
      refine ⟨_, h.ed.getC h3, h4, ?_, ?_⟩
      · show (if l.contains ((k.toNat : Nat) : Int) then (p : Int) else d.parent) = (j : Int)
        rw [hkn, if_neg (by simpa using h2)]
        exact h5
      · show (if mv k.toNat then cp.doc else d.doc) = _
        rw [h.mv_up (List.getElem?_eq_some_iff.1 g2).1 (parS_parent g2 h5) (by rw [hkn]; exact h2), h6]
    by_cases e : j = p
    · subst e
      rw [if_pos rfl] at hk2
      have hcc : c = cp := by have := h.hp; rw [hc] at this; exact Option.some.inj this
      subst hcc
      rcases h.mem_k.1 hk2 with h1 | ⟨h1, h2⟩
      · obtain ⟨q, c2, rfl, h2, h3⟩ := h.ls _ h1
        refine ⟨_, h.ed.getC (z := (q : Int)) (by rw [getC_nat]; exact h2), h3, ?_, ?_⟩
        · show (if l.contains (((q : Int).toNat : Nat) : Int) then (j : Int) else c2.parent) = (j : Int)
          rw [show (((q : Int).toNat : Nat) : Int) = q by omega, if_pos (by simpa using h1)]
        · show (if mv (q : Int).toNat then c.doc else c2.doc) = _
          rw [show (q : Int).toNat = q by omega, h.moved h2 h1, h.mvp]
          rfl
      · exact old h1 h2
    · rw [if_neg e, List.mem_filter] at hk2
      exact old hk2.1 (by simpa using hk2.2)
  · show (if j = p then A ++ l ++ B else c.kids.filter (fun z => !l.contains z)) = []
    rw [if_neg (fun e2 => by
      subst e2
      have hcc : c = cp := by have := h.hp; rw [hc] at this; exact Option.some.inj this
      exact h.kp (hcc ▸ e)), N.leaf e]
    rfl
  · show (if j = p then A ++ l ++ B else c.kids.filter (fun z => !l.contains z)).length ≤ 1 ∧ ∀ k ∈ (if j = p then A ++ l ++ B else c.kids.filter (fun z => !l.contains z)), kindK G k = 1
    split
    · next e2 =>
      subst e2
      have hcc : c = cp := by have := h.hp; rw [hc] at this; exact Option.some.inj this
      obtain ⟨h1, h2⟩ := h.root (hcc ▸ e)
      exact ⟨h1, fun k hk => by rw [h.ed.kindK]; exact h2 k hk⟩
    · obtain ⟨h1, h2⟩ := N.root e
      exact ⟨Nat.le_trans (List.length_filter_le _ _) h1, fun k hk => by rw [h.ed.kindK]; exact h2 k (List.mem_filter.1 hk).1⟩
  · obtain ⟨d, h1, h2, h3, h4⟩ := N.host e
    obtain ⟨g0, g1, g2⟩ := getC_some h1
    refine ⟨_, h.ed.getC h1, h2, h3, ?_⟩
    show (if mv c.host.toNat then cp.doc else d.doc) = (if mv j then cp.doc else c.doc)
    have e4 : c.kind = 4 := e
    have hpar : c.parent = -1 := by
      rcases N.par with h5 | ⟨h5, _⟩
      · exact h5
      · omega
    rw [h.mv_up hjl (parS_host hc hpar (show c.host = ((c.host.toNat : Nat) : Int) by omega)) (nokind (.inr (.inr e4))), h4]
  · rcases N.under with h1 | ⟨h1, u, h2, h3, h4⟩
    · exact .inl h1
    · exact .inr ⟨h1, _, h.ed.getC h2, h3, h4⟩
theorem PutIn.next (h : PutIn m F G l p cp A B mv) {j : Nat} (hj : j < F.length) : nextUp G (j : Int) = if (j : Int) ∈ l then (p : Int) else nextUp F j := by
  have hc : F[j]? = some F[j] := List.getElem?_eq_getElem hj
  rw [h.ed.next hc]
  by_cases e : (j : Int) ∈ l
  · have e2 : l.contains (j : Int) = true := by simpa using e
    rw [if_pos e]
    simp only [e2, if_true]
    rw [if_neg (by omega)]
  · have e2 : l.contains (j : Int) = false := by simpa using e
    rw [if_neg e, nextUp_at hc]
    simp only [e2, Bool.false_eq_true, if_false]
    rfl
theorem PutIn.rightG (h : PutIn m F G l p cp A B mv) : rightF m G = true := by
  obtain ⟨⟨h1, h2, h3, h4⟩, _, _⟩ := (rightF_iff m F).1 h.right
  refine right_of h1 h2 (by rw [h.ed.len]; exact h3) (h.ed.head h4) (fun i y hy => h.node hy) (fun j => rankF F j + if mv j then rankF F p + 1 else 0) (fun i hi => ?_)
  rw [h.ed.len] at hi ⊢
  have hc : F[i]? = some F[i] := List.getElem?_eq_getElem hi
  rw [h.next hi]
  by_cases e : (i : Int) ∈ l
  · rw [if_pos e]
    refine .inr ⟨p, rfl, h.lt, ?_⟩
    rw [h.mvp, h.moved hc e]
    show rankF F p + 0 < rankF F i + (rankF F p + 1)
    omega
  · rw [if_neg e]
    rcases rank_next h.right hi with e1 | ⟨q, e1, e2, e3⟩
    · exact .inl e1
    · refine .inr ⟨q, e1, e2, ?_⟩
      rw [h.mv_up hi (parS_some e1) e]
      omega
end
end Go.Proofs.Ytllfkiifkkcinaa
/- The mathematics of the law ValidPut: parts go from where they are, one by one, and hang under a node. No program. -/
namespace Go.Proofs.Ytllfkiifkkcinaa
open Go.RowKit
section
variable {F G : List Core} {P P' : Nat → Core → Int} {K K' : Nat → Core → List Int} {D D' : Nat → Core → Int} {M : List NodeD} {q : Nat} {x : NodeD}
theorem Edit.congr (h : Edit F G P K D) (hP : ∀ (j : Nat) c, F[j]? = some c → P j c = P' j c) (hK : ∀ (j : Nat) c, F[j]? = some c → K j c = K' j c) (hD : ∀ (j : Nat) c, F[j]? = some c → D j c = D' j c) : Edit F G P' K' D' :=
  ⟨h.len, fun j c hc => by rw [← hP j c hc, ← hK j c hc, ← hD j c hc]; exact h.at_ j c hc⟩
theorem core_set (M : List NodeD) (q : Nat) (y : NodeD) : coreL (M.set q y) = (coreL M).set q y.core := by unfold coreL; rw [List.map_set]
theorem Edit.setP (h : Edit F (coreL M) P K D) (hx : M[q]? = some x) (v : Int) : Edit F (coreL (M.set q (withP x v))) (fun j c => if j = q then v else P j c) K D := by
  refine ⟨by rw [core_set, List.length_set]; exact h.len, fun j c hc => ?_⟩
  have h1 := h.at_ j c hc
  rw [core_set]
  by_cases e : j = q
  · subst e
    rw [List.getElem?_set_self (List.getElem?_eq_some_iff.1 h1).1, if_pos rfl]
    rw [coreL_get hx] at h1
    have h2 := Option.some.inj h1
    show some (⟨x.core.kind, x.core.name, x.core.is, x.core.data, x.core.attrs, v, x.core.kids, x.core.host, x.core.under, x.core.doc⟩ : Core) = _
    rw [h2]
    rfl
  · rw [List.getElem?_set_ne (fun e2 => e e2.symm), h1, if_neg e]
theorem Edit.setD (h : Edit F (coreL M) P K D) (hx : M[q]? = some x) (v : Int) : Edit F (coreL (M.set q (withD x v))) P K (fun j c => if j = q then v else D j c) := by
  refine ⟨by rw [core_set, List.length_set]; exact h.len, fun j c hc => ?_⟩
  have h1 := h.at_ j c hc
  rw [core_set]
  by_cases e : j = q
  · subst e
    rw [List.getElem?_set_self (List.getElem?_eq_some_iff.1 h1).1, if_pos rfl]
    rw [coreL_get hx] at h1
    have h2 := Option.some.inj h1
    show some (⟨x.core.kind, x.core.name, x.core.is, x.core.data, x.core.attrs, x.core.parent, x.core.kids, x.core.host, x.core.under, v⟩ : Core) = _
    rw [h2]
    rfl
  · rw [List.getElem?_set_ne (fun e2 => e e2.symm), h1, if_neg e]
theorem Edit.setK (h : Edit F (coreL M) P K D) (hx : M[q]? = some x) (a : Option Addr) (n c0 : Nat) (l : List Int) : Edit F (coreL (M.set q (withK x a n c0 l))) P (fun j c => if j = q then l else K j c) D := by
  refine ⟨by rw [core_set, List.length_set]; exact h.len, fun j c hc => ?_⟩
  have h1 := h.at_ j c hc
  rw [core_set]
  by_cases e : j = q
  · subst e
    rw [List.getElem?_set_self (List.getElem?_eq_some_iff.1 h1).1, if_pos rfl]
    rw [coreL_get hx] at h1
    have h2 := Option.some.inj h1
    show some (⟨x.core.kind, x.core.name, x.core.is, x.core.data, x.core.attrs, x.core.parent, l, x.core.host, x.core.under, x.core.doc⟩ : Core) = _
    rw [h2]
    rfl
  · rw [List.getElem?_set_ne (fun e2 => e e2.symm), h1, if_neg e]
end
/-- The first ones of a row, and the others. -/
theorem SRow.take {α : Type} {enc : α → List Value} {size : Nat} {w : World} {a : Option Addr} {len cap k : Nat} {L : List α} (h : SRow enc size w a len cap L) (hk : k ≤ len) : SRow enc size w a k cap (L.take k) := by
  refine ⟨by rw [List.length_take, h.hlen]; omega, Nat.le_trans hk h.hcap, h.hmax, fun x hx => h.henc x (List.mem_of_mem_take hx), ?_⟩
  rcases h.cells with h0 | ⟨b, off, ha, hb, hc⟩
  · exact .inl (by omega)
  · refine .inr ⟨b, off, ha, hb, fun i x j v hx hv => hc i x j v ?_ hv⟩
    rw [List.getElem?_take] at hx
    split at hx
    · exact hx
    · cases hx
theorem SRow.rest {α : Type} {enc : α → List Value} {w : World} {a : Option Addr} {len cap k : Nat} {L : List α} (h : SRow enc 1 w a len cap L) (hk : k ≤ len) : SRow enc 1 w (if cap = k then a else Option.map (fun x => x.add k) a) (len - k) (cap - k) (L.drop k) := by
  have hcap := h.hcap
  have hmax := h.hmax
  refine ⟨by rw [List.length_drop, h.hlen], by omega, by omega, fun x hx => h.henc x (List.mem_of_mem_drop hx), ?_⟩
  by_cases h0 : len - k = 0
  · exact .inl h0
  rcases h.cells with h1 | ⟨b, off, ha, hb, hc⟩
  · omega
  · refine .inr ⟨b, off + k, ?_, hb, fun i x j v hx hv => ?_⟩
    · rw [if_neg (by omega), ha, Option.map_some, Go.WideShapes.add_plain]
    · rw [List.getElem?_drop] at hx
      have := hc (k + i) x j v hx hv
      rw [show off + k + i * 1 + j = off + (k + i) * 1 + j by omega]
      exact this
/-- The first k of l have gone from where they were. -/
structure OutsOf (m : Int) (F G : List Core) (l : List Int) (k : Nat) : Prop where
  right : rightF m G = true
  ed : Edit F G (fun j c => if (l.take k).contains (j : Int) then -1 else c.parent) (fun _ c => c.kids.filter (fun z => !(l.take k).contains z)) (fun _ c => c.doc)
theorem OutsOf.start {m : Int} {F : List Core} {l : List Int} (h : rightF m F = true) : OutsOf m F F l 0 := by
  refine ⟨h, rfl, fun j c hc => ?_⟩
  have : c.kids.filter (fun z => !(l.take 0).contains z) = c.kids := by simp
  rw [this, hc]
  rfl
theorem contains_take {l : List Int} {k : Nat} {q z : Int} (hq : l[k]? = some q) : (l.take (k + 1)).contains z = ((l.take k).contains z || z == q) := by
  obtain ⟨hl, hg⟩ := List.getElem?_eq_some_iff.1 hq
  rw [List.take_succ_eq_append_getElem hl, hg, List.contains_append]
  simp
  rfl
theorem OutsOf.step {m : Int} {F G G' : List Core} {l : List Int} {k q : Nat} (h : OutsOf m F G l k) (hq : l[k]? = some (q : Int)) (ho : OutOf m G G' q) : OutsOf m F G' l (k + 1) := by
  obtain ⟨x, hx, hcase⟩ := ho
  have hf : ∀ (ks : List Int), ks.filter (fun z => !(l.take (k + 1)).contains z) = (ks.filter (fun z => !(l.take k).contains z)).filter (fun z => z != (q : Int)) := fun ks => by
    rw [List.filter_filter]
    refine List.filter_congr (fun z _ => ?_)
    rw [contains_take hq]
    cases (l.take k).contains z <;> cases hz : (z == (q : Int)) <;> simp [bne, hz]
  have notin : ∀ (j : Nat) (y : Core), G[j]? = some y → (x.parent = -1 ∨ x.parent ≠ (j : Int)) → y.kids.filter (fun z => z != (q : Int)) = y.kids := fun j y hy hp => by
    refine List.filter_eq_self.2 (fun z hz => bne_iff_ne.2 (fun e => ?_))
    subst e
    obtain ⟨c, h1, _, h3, _⟩ := (right_node h.right hy).kids _ hz
    rw [getC_nat, hx] at h1
    rw [← Option.some.inj h1] at h3
    rcases hp with hp | hp
    · omega
    · exact hp h3
  have hP : ∀ (j : Nat) (c : Core), (if (l.take (k + 1)).contains (j : Int) then (-1 : Int) else c.parent) = if j = q then -1 else if (l.take k).contains (j : Int) then -1 else c.parent := fun j c => by
    rw [contains_take hq]
    by_cases e : j = q
    · subst e; simp
    · have e2 : ((j : Int) == (q : Int)) = false := beq_eq_false_iff_ne.2 (by omega)
      rw [if_neg e, e2, Bool.or_false]
  rcases hcase with ⟨h1, rfl⟩ | ⟨p, h1⟩
  · refine ⟨h.right, h.ed.len, fun j c hc => ?_⟩
    have h2 := h.ed.at_ j c hc
    have h9 : (c.kids.filter (fun z => !(l.take k).contains z)).filter (fun z => z != (q : Int)) = c.kids.filter (fun z => !(l.take k).contains z) := notin j _ h2 (.inl h1)
    rw [h2, hf, h9, hP]
    by_cases e : j = q
    · subst e
      rw [hx] at h2
      have h3 := congrArg Core.parent (Option.some.inj h2)
      rw [if_pos rfl]
      have h3b : x.parent = (if (l.take k).contains (j : Int) then (-1 : Int) else c.parent) := h3
      have h4 : (if (l.take k).contains (j : Int) then (-1 : Int) else c.parent) = -1 := h3b.symm.trans h1
      rw [h4]
    · rw [if_neg e]
  · refine ⟨h1.rightG, by rw [h1.ed.len]; exact h.ed.len, fun j c hc => ?_⟩
    have h2 := h.ed.at_ j c hc
    rw [h1.ed.at_ j _ h2, hf, hP]
    have hk : (if j = p then (edC c (if (l.take k).contains (j : Int) then -1 else c.parent) (c.kids.filter (fun z => !(l.take k).contains z)) c.doc).kids.filter (fun z => z != (q : Int)) else (edC c (if (l.take k).contains (j : Int) then -1 else c.parent) (c.kids.filter (fun z => !(l.take k).contains z)) c.doc).kids) = (c.kids.filter (fun z => !(l.take k).contains z)).filter (fun z => z != (q : Int)) := by
      by_cases e : j = p
      · rw [if_pos e]; rfl
      · rw [if_neg e]
        exact (notin j _ h2 (.inr (by
          have h3 := h1.hx
          rw [hx] at h3
          rw [h1.hp]
          omega))).symm
    rw [hk]
    rfl
/-- The parents, while the parts are hung. -/
def putP (l : List Int) (p : Nat) (i j : Nat) (c : Core) : Int := if (l.take i).contains (j : Int) then (p : Int) else if l.contains (j : Int) then -1 else c.parent
def putK (l : List Int) (p : Nat) (A B : List Int) (j : Nat) (c : Core) : List Int := if j = p then A ++ l ++ B else c.kids.filter (fun z => !l.contains z)
def mvL (F : List Core) (l : List Int) (i j : Nat) : Bool := (l.take i).any (fun q => (allI F q).contains (j : Int))
def putD (F : List Core) (l : List Int) (dp : Int) (i : Nat) (r : List Int) (j : Nat) (c : Core) : Int := if mvL F l i j || r.contains (j : Int) then dp else c.doc
theorem putP_next {l : List Int} {p i q : Nat} (hq : l[i]? = some (q : Int)) (j : Nat) (c : Core) : (if j = q then (p : Int) else putP l p i j c) = putP l p (i + 1) j c := by
  unfold putP
  rw [contains_take hq]
  by_cases e : j = q
  · subst e; simp
  · have e2 : ((j : Int) == (q : Int)) = false := beq_eq_false_iff_ne.2 (by omega)
    rw [if_neg e, e2, Bool.or_false]
theorem putD_next {F : List Core} {l : List Int} {dp : Int} {i k t : Nat} {r : List Int} (ht : r[k]? = some (t : Int)) (j : Nat) (c : Core) : (if j = t then dp else putD F l dp i (r.take k) j c) = putD F l dp i (r.take (k + 1)) j c := by
  unfold putD
  rw [contains_take ht]
  by_cases e : j = t
  · subst e; simp
  · have e2 : ((j : Int) == (t : Int)) = false := beq_eq_false_iff_ne.2 (by omega)
    rw [if_neg e, e2, Bool.or_false]
theorem putD_all {F : List Core} {l : List Int} {dp : Int} {i q : Nat} (hq : l[i]? = some (q : Int)) (j : Nat) (c : Core) : putD F l dp i (allI F q) j c = putD F l dp (i + 1) [] j c := by
  obtain ⟨hl, hg⟩ := List.getElem?_eq_some_iff.1 hq
  unfold putD mvL
  rw [List.take_succ_eq_append_getElem hl, hg, List.any_append]
  simp
section
variable {m : Int} {F : List Core} {n p : Nat} {c : Int} {cn cp : Core}
/-- What is known of what may be put. -/
structure PutOk (m : Int) (F : List Core) (n p : Nat) (c : Int) (l : List Int) (cp : Core) : Prop where
  right : rightF m F = true
  hp : F[p]? = some cp
  kp : cp.kind ≠ 2
  once : l.Nodup
  ls : ∀ z ∈ l, ∃ (q : Nat) (c : Core), z = q ∧ F[q]? = some c ∧ (c.kind = 1 ∨ c.kind = 2)
  over : ∀ q : Nat, (q : Int) ∈ l → ¬ holdsT (parS F) q p
  root : cp.kind = 0 → cp.kids.length + l.length ≤ 1 ∧ ∀ k ∈ l, kindK F k = 1
  before : beforeZ m F n p c = -1 ∨ beforeZ m F n p c ∈ cp.kids.filter (fun z => !l.contains z)
theorem PutOk.of (h : mayZ m F n p c = 0) (hp : F[p]? = some cp) : PutOk m F n p c (partsZ F n) cp := by
  obtain ⟨hk, h2, h3, h4, h5, h6, h7⟩ := may_ok h
  obtain ⟨hr, ⟨N, hN1, hN⟩, ⟨p', hp1, hpl⟩, hcc⟩ := vknows_nat hk
  obtain rfl : n = N := by omega
  obtain rfl : p = p' := by omega
  obtain ⟨cn, hn⟩ : ∃ cn, F[n]? = some cn := ⟨_, List.getElem?_eq_getElem hN⟩
  have NN := right_node hr hn
  have NP := right_node hr hp
  rw [kindK_at hp] at h2 h7
  rw [kindK_at hn] at h5 h6
  have hov : ¬ holdsT (parS F) n p := fun hh => by rw [(overZ_iff hr hN hpl).2 hh] at h3; cases h3
  have hkind := NN.kind
  have hls : ∀ z ∈ partsZ F n, ∃ (q : Nat) (c : Core), z = q ∧ F[q]? = some c ∧ (c.kind = 1 ∨ c.kind = 2) := fun z hz => by
    rw [parts_at hn] at hz
    split at hz
    · obtain ⟨c1, g1, g2, _, _⟩ := NN.kids z hz
      obtain ⟨g3, _, g4⟩ := getC_some g1
      exact ⟨z.toNat, c1, by omega, g4, g2⟩
    · rw [List.mem_singleton] at hz
      exact ⟨n, cn, hz, hn, by omega⟩
  have hfrag : ∀ z ∈ partsZ F n, z = (n : Int) ∨ (cn.kind = 3 ∧ z ∈ cn.kids) := fun z hz => by
    rw [parts_at hn] at hz
    split at hz
    · next e => exact .inr ⟨e, hz⟩
    · exact .inl (List.mem_singleton.1 hz)
  have hholds : ∀ q : Nat, (q : Int) ∈ partsZ F n → holdsT (parS F) n q := fun q hq => by
    rcases hfrag _ hq with e | ⟨_, e⟩
    · rw [show q = n by omega]; exact holds_refl n
    · obtain ⟨c1, g1, _, g3, _⟩ := NN.kids _ e
      rw [getC_nat] at g1
      exact holds_par (parS_parent g1 g3)
  refine ⟨hr, hp, h2, ?_, hls, fun q hq hh => hov (holds_trans (hholds q hq) hh), fun e => ?_, ?_⟩
  · rw [parts_at hn]
    split
    · exact NN.once
    · simp
  · have h8 := h7 e
    unfold docTakesB at h8
    rw [Bool.and_eq_true, Bool.not_eq_true', decide_eq_true_eq, kidsK_get hp, countNe_all (kids_nat hr hp)] at h8
    refine ⟨h8.2, fun k hk2 => ?_⟩
    obtain ⟨q, c1, rfl, g1, g2⟩ := hls k hk2
    have := List.any_eq_false.1 h8.1 _ hk2
    rw [kindK_at g1] at this ⊢
    rcases g2 with g2 | g2
    · exact g2
    · simp [g2] at this
  · by_cases hb : beforeZ m F n p c = -1
    · exact .inl hb
    right
    unfold beforeZ at hb ⊢
    rw [if_pos h] at hb ⊢
    rw [List.mem_filter]
    by_cases hcn : c = (n : Int)
    · rw [if_pos hcn] at hb ⊢
      have hpar : cn.parent = (p : Int) := by
        rcases h4 with h4 | h4
        · omega
        · rw [hcn, parentK_at hn] at h4; exact h4
      obtain ⟨k, e1, e2, e3⟩ := place_at hr hn hpar hp
      have hk3 := (par_facts hr hn hpar hp).1
      rw [e1, kidsK_get hp, show ((k : Int) + 1).toNat = k + 1 by omega] at hb ⊢
      cases hz : cp.kids[k + 1]? with
      | none => rw [hz] at hb; exact absurd rfl hb
      | some z =>
        dsimp only
        refine ⟨List.mem_of_getElem? hz, ?_⟩
        rw [parts_at hn, if_neg (by omega)]
        have hne : z ≠ (n : Int) := fun e => by
          subst e
          have g1 := (List.getElem?_eq_some_iff.1 e3)
          have g2 := (List.getElem?_eq_some_iff.1 hz)
          obtain ⟨g3, g4⟩ := g1
          obtain ⟨g5, g6⟩ := g2
          exact List.pairwise_iff_getElem.1 NP.once k (k + 1) g3 g5 (by omega) (by rw [g4, g6])
        simpa using hne
    · rw [if_neg hcn] at hb ⊢
      have hpc : parentK F c = p := h4.resolve_left hb
      rcases hcc with e | ⟨C, rfl, hC⟩
      · exact absurd e hb
      obtain ⟨cc, hcc⟩ : ∃ cc, F[C]? = some cc := ⟨_, List.getElem?_eq_getElem hC⟩
      rw [parentK_at hcc] at hpc
      have hm := hasZ_mem (par_facts hr hcc hpc hp).2.2
      refine ⟨hm, ?_⟩
      have hnl : (C : Int) ∉ partsZ F n := fun hh => by
        rcases hfrag _ hh with e | ⟨_, e⟩
        · exact hcn e
        · obtain ⟨c1, g1, _, g3, _⟩ := NN.kids _ e
          rw [getC_nat, hcc] at g1
          rw [← Option.some.inj g1, hpc] at g3
          exact hov (by rw [show p = n by omega]; exact holds_refl n)
      simpa using hnl
/-- What is put has short lists. -/
theorem small_put {L M : List NodeD} {P : Nat → Core → Int} {D : Nat → Core → Int} {l A B : List Int} (hs : smallF L) (hk : ∀ x ∈ L, x.core.kids.length ≤ 60) (he : Edit (coreL L) (coreL M) P (putK l p A B) D) (hab : (A ++ l ++ B).length ≤ 120) : smallF M := by
  refine ⟨by have := he.len; rw [coreL_len, coreL_len] at this; rw [this]; exact hs.1, fun x hx => ?_⟩
  obtain ⟨j, hj⟩ := List.getElem?_of_mem hx
  obtain ⟨c, hc, e⟩ := he.back (coreL_get hj)
  obtain ⟨y, hy, rfl⟩ : ∃ y ∈ L, y.core = c := by
    have := List.mem_of_getElem? hc
    unfold coreL at this
    obtain ⟨y, h1, h2⟩ := List.mem_map.1 this
    exact ⟨y, h1, h2⟩
  have h1 := hs.2 y hy
  have h2 := hk y hy
  refine ⟨?_, ?_, ?_⟩
  · rw [e]
    show (putK l p A B j y.core).length ≤ 1000
    unfold putK
    split
    · omega
    · have := List.length_filter_le (fun z => !l.contains z) y.core.kids
      omega
  · rw [e]; exact h1.2.1
  · rw [e]; exact h1.2.2
/-- The last step: all is put. -/
theorem PutOk.rightG {l A B : List Int} {G : List Core} (h : PutOk m F n p c l cp) (hab : A ++ B = cp.kids.filter (fun z => !l.contains z)) (he : Edit F G (putP l p l.length) (putK l p A B) (putD F l cp.doc l.length [])) : rightF m G = true := by
  have T := PutIn.rightG (m := m) (F := F) (G := G) (l := l) (p := p) (cp := cp) (A := A) (B := B) (mv := mvL F l l.length)
  refine T ⟨h.right, h.hp, h.kp, h.once, h.ls, h.over, hab, fun e => ?_, fun j hj => ?_, he.congr (fun j c _ => ?_) (fun j c _ => rfl) (fun j c _ => ?_)⟩
  · obtain ⟨h1, h2⟩ := h.root e
    have hl : (A ++ l ++ B).length = (cp.kids.filter (fun z => !l.contains z)).length + l.length := by rw [← hab]; simp only [List.length_append]; omega
    refine ⟨by rw [hl]; have := List.length_filter_le (fun z => !l.contains z) cp.kids; omega, fun k hk => ?_⟩
    have hk2 : k ∈ l ∨ k ∈ A ++ B := by
      simp only [List.mem_append] at hk ⊢
      rcases hk with (h | h) | h
      · exact .inr (.inl h)
      · exact .inl h
      · exact .inr (.inr h)
    rcases hk2 with hk2 | hk2
    · exact h2 k hk2
    · rw [hab] at hk2
      exact ((right_node h.right h.hp).root e).2 k (List.mem_filter.1 hk2).1
  · unfold mvL
    rw [List.take_length, List.any_eq_true]
    constructor
    · rintro ⟨z, hz, hm⟩
      obtain ⟨q, c1, rfl, g1, _⟩ := h.ls z hz
      have hql := (List.getElem?_eq_some_iff.1 g1).1
      refine ⟨q, hz, (overZ_iff h.right hql hj).1 ?_⟩
      cases ho : overZ m F q j with
      | true => rfl
      | false =>
        have := hasZ_all h.right hql hj
        rw [ho] at this
        have h3 := hasZ_pos (List.contains_iff_mem.1 hm)
        rw [this] at h3
        exact absurd h3 (by decide)
    · rintro ⟨q, hq, hh⟩
      obtain ⟨q2, c1, e, g1, _⟩ := h.ls _ hq
      obtain rfl : q = q2 := by omega
      have hql := (List.getElem?_eq_some_iff.1 g1).1
      refine ⟨_, hq, List.contains_iff_mem.2 (hasZ_mem ?_)⟩
      rw [hasZ_all h.right hql hj, (overZ_iff h.right hql hj).2 hh]
      rfl
  · unfold putP
    rw [List.take_length]
    by_cases e : l.contains (j : Int) = true
    · rw [if_pos e, if_pos e]
    · rw [if_neg e, if_neg e, if_neg e]
  · unfold putD
    simp
end
end Go.Proofs.Ytllfkiifkkcinaa
/- instarlaw05's out, once more: whose lists lay away from a block, whose do still. (The walk of XValidOut.) -/
namespace Go.Proofs.Ytllfkiifkkcinaa
open Go.RowKit
set_option maxHeartbeats 8000000 in
set_option maxRecDepth 100000 in
theorem vout2_any (g len cap : Nat) (m : Int) (M : List NodeD) (n : Nat) (w : World) (h : WRow w g len cap M) (hr : rightF m (coreL M) = true) (hn : n < len) (hs : smallF M) :
    Calls Try.prog 55 #[forV (some ⟨g, 0, none⟩) len cap m, .int .i64 n] w fun e w' => e = .returned (forV (some ⟨g, 0, none⟩) len cap m) ∧ w.grownBy w' (some g) ∧ ∃ M', WRow w' g len cap M' ∧ OutOf m (coreL M) (coreL M') n ∧ smallF M' ∧ ∀ b, b < w.heap.size → (∀ z ∈ M, NodeAway b z) → ∀ z ∈ M', NodeAway b z := by
  have HLM : Hid (M.length = len) := Lib.hid h.row.hlen
  have hlen := h.row.len64
  have BX := Lib.hid (Box.start (m := m) h.row)
  obtain ⟨x, hx⟩ : ∃ x, M[n]? = some x := ⟨_, List.getElem?_eq_getElem (by rw [HLM.out]; exact hn)⟩
  have X5 := Lib.hid (stays (h.at_ hx).1.c5 h.lt)
  have HW := Lib.hid h
  have HS := Lib.hid hs
  have HRR := Lib.hid hr
  have HX := Lib.hid hx
  have hgl := h.lt
  have z0 := BX.out.c0
  have z1 := BX.out.c1
  have x5 := X5.out _ BX.out.below
  by_cases hp : x.core.parent = -1
  · have HO : Hid (OutOf m (coreL M) (coreL M) n) := Lib.hid ⟨x.core, coreL_get hx, .inl ⟨hp, rfl⟩⟩
    rw [hp] at x5
    clear h hr hs hx hp
    go_enter Try.func55, Try.ntmps55
    have DB := Lib.hid (Box2.newAt (W := w.alloc (forB (some ⟨g, 0, none⟩) len cap m)) (g := w.heap.size + 1) (u := .slice (some ⟨g, 0, none⟩) len cap) (v := .int .i64 m) (t := 24) (by simp))
    go_wp2
    have hb2 : Below w.heap.size w ((w.alloc (forB (some ⟨g, 0, none⟩) len cap m)).alloc (forB (some ⟨g, 0, none⟩) len cap m)) := (below_box _ _).alloc (by simp) _
    refine bodyPost_ret (v := forV (some ⟨g, 0, none⟩) len cap m) ?_ rfl ⟨rfl, grown_below hb2, M, HW.out.keep hb2, HO.out, HS.out, fun b _ h => h⟩
    have d0 := DB.out.c0
    have d1 := DB.out.c1
    simp [results, Try.results55, go_sem, d0, d1]
  · obtain ⟨p, hpp, hpl, -⟩ := right_par hr (coreL_get hx) hp
    rw [coreL_len, HLM.out] at hpl
    obtain ⟨y, hy⟩ : ∃ y, M[p]? = some y := ⟨_, List.getElem?_eq_getElem (by rw [HLM.out]; exact hpl)⟩
    have Y6 := Lib.hid (stays (h.at_ hy).1.c6 h.lt)
    have y6 := Y6.out _ BX.out.below
    rw [hpp] at x5
    have HY := Lib.hid hy
    have HPP := Lib.hid hpp
    have hpn : ((p : Int) == -1) = false := beq_eq_false_iff_ne.2 (by omega)
    clear h hr hs hx hp hy hpp
    go_enter Try.func55, Try.ntmps55
    obtain ⟨w1, hw1, hb1⟩ : ∃ w1, (w.alloc (forB (some ⟨g, 0, none⟩) len cap m)).alloc (.cells #[.slice none 0 0, .int .i64 0] 24) = w1 ∧ Below w.heap.size w w1 := ⟨_, rfl, ((below_box _ _).alloc (by simp) _)⟩
    have DB : Hid (Box2 w1 (w.heap.size + 1) (.slice none 0 0) (.int .i64 0)) := Lib.hid (by rw [← hw1]; exact Box2.newAt (by simp))
    have BX := Lib.hid (show Box w w1 w.heap.size (some ⟨g, 0, none⟩) len cap m M (coreL M) by rw [← hw1]; exact BX.out.keep (below_box _ _))
    have HW1 := Lib.hid hw1
    clear hw1 hb1
    have KR := Lib.hid ((HW.out.at_ HY.out).2.kids)
    have hk64 := KR.out.len64
    have HKL : Hid (y.core.kids.length ≤ 1000) := Lib.hid (HS.out.2 y (List.mem_of_getElem? HY.out)).1
    have hk1k : y.kN ≤ 1000 := by rw [← KR.out.hlen]; exact HKL.out
    have hsz : w.heap.size < w1.heap.size := BX.out.lt
    have OW0 : Hid (w1.ownsRow w1.heap.size 3 1 (.slice none 0 0) (restZ y.core.kids n 0).length ((restZ y.core.kids n 0).flatMap encZ)) := Lib.hid (World.ownsRow_nil _ _ _ _)
    obtain ⟨i0, hi0, hq0, hq1, hq2⟩ := info_parts int_info
    go_wp2
    rw [HW1.out]
    go_loopw [6, 7] (fun v i wr => ∃ k : Nat, k ≤ y.kN ∧ i = .int .i64 k ∧ Hid (Below w1.heap.size w1 wr) ∧ Hid (wr.ownsRow w1.heap.size 3 1 v (restZ y.core.kids n k).length ((restZ y.core.kids n k).flatMap encZ))) (fun _ i _ => y.kN - (intOf i).toNat)
    case atStart => exact ⟨0, Nat.zero_le _, rfl, Lib.hid (Below.refl _ _), OW0⟩
    case round =>
      clear OW0 z0 z1 x5 y6
      obtain ⟨k, hk, rfl, HBW, OW⟩ := hrel
      have BX2 := Lib.hid (BX.out.keep HBW.out)
      have z0 := BX2.out.c0
      have z1 := BX2.out.c1
      have y6 := Y6.out _ BX2.out.below
      by_cases hlt : k < y.kN
      · obtain ⟨bk, ok, z, hka, hbk, hz, hcz, hin⟩ := KR.out.get hlt
        have cz := stays hcz hbk _ BX2.out.below
        have HST := Lib.hid (restZ_step (n := (n : Int)) hz)
        have hsl : (restZ y.core.kids n k).length ≤ 1000 := Nat.le_trans (restZ_len _ _ _) HKL.out
        obtain ⟨n1, hn1⟩ : ∃ n1, (restZ y.core.kids n k).length = n1 := ⟨_, rfl⟩
        have HN1 := Lib.hid hn1
        rw [hn1] at OW hsl
        rw [hka] at y6
        obtain ⟨hz1, hz2⟩ := hin
        clear hz hn1 hcz
        by_cases he : z = (n : Int)
        · have e1 : (z != (n : Int)) = false := by rw [he]; simp
          have HS2 : Hid (restZ y.core.kids n (k + 1) = restZ y.core.kids n k) := Lib.hid (by rw [HST.out, e1]; simp)
          clear he
          go_wp2
          go_roundw
          case rel => exact ⟨k + 1, by omega, by go_num, HBW, Lib.hid (by rw [HS2.out, HN1.out]; exact OW.out)⟩
          case measure => simp [intOf]; omega
        · have e1 : (z != (n : Int)) = true := bne_iff_ne.2 he
          have HS2 : Hid (restZ y.core.kids n (k + 1) = restZ y.core.kids n k ++ [z]) := Lib.hid (by rw [HST.out, e1]; rfl)
          clear he
          go_wp2_with (at_builtin
                       refine wpList_append_rows rfl (.tmp 39) (.tmp 49) 26 rfl 3 i0 _ 1 8 Try.underlying26 hi0 hq0 hq1 hq2 rfl (by decide) w1.heap.size _ n1 (restZ y.core.kids n k) [z] rfl (OW.out.alloc _) _ 1 1 rfl (own_one _ _ _ _ rfl rfl) (fun x _ => encZ_one x) (by unfold maxLen; omega) (by omega) (by have := HBW.out.size; simp; omega) (fun h => by cases h) ?_
                       intro v3 w3 hown3 hg3 hat3
                       have HB3 := Lib.hid (below_own HBW.out OW.out hg3)
                       have HO3 := Lib.hid hown3
                       clear hown3 hg3 hat3)
          go_roundw
          case rel => exact ⟨k + 1, by omega, by go_num, HB3, Lib.hid (by
            have h1 := HO3.out
            rw [← HS2.out] at h1
            rwa [show n1 + 1 = (restZ y.core.kids n (k + 1)).length by rw [HS2.out, List.length_append, HN1.out]; rfl] at h1)⟩
          case measure => simp [intOf]; omega
      · have hkk : k = y.kN := by omega
        subst hkk
        have HIN : Hid (∀ z ∈ restZ y.core.kids n y.kN, In64 z) := Lib.hid (fun z hz => KR.out.inb z (restZ_mem hz))
        have HRZ : Hid (restZ y.core.kids n y.kN = y.core.kids.filter (fun z => z != (n : Int))) := Lib.hid (by unfold restZ; rw [List.take_of_length_le (by rw [KR.out.hlen]; exact Nat.le_refl _)])
        obtain ⟨a9, cap9, rfl, hr9, hlo9⟩ := IntRow.of_own_new (M := restZ y.core.kids n y.kN) (n := (restZ y.core.kids n y.kN).length) rfl OW.out HIN.out
        obtain ⟨N9, hN9⟩ : ∃ N9, (restZ y.core.kids n y.kN).length = N9 := ⟨_, rfl⟩
        rw [hN9] at hr9 ⊢
        have W2 := Lib.hid (HW.out.keep BX2.out.below)
        have W3 := Lib.hid (W2.out.setK HY.out hr9 (fun b off hb _ => by have := hlo9 b off hb; omega))
        obtain ⟨hnp, hO⟩ := out_made HRR.out HX.out HY.out HPP.out (a := a9) (l := N9) (c := cap9)
        have HO := Lib.hid hO
        have hxs : (M.set p (withK y a9 N9 cap9 (restZ y.core.kids n y.kN)))[n]? = some x := by rw [List.getElem?_set_ne (fun e => hnp e.symm)]; exact HX.out
        have hxs2 := Lib.hid hxs
        have W4 := Lib.hid (W3.out.setP hxs inM1)
        have DB2 := Lib.hid (DB.out.keep HBW.out)
        have HLO := Lib.hid hlo9
        clear hr9 hlo9 OW hO hxs hN9
        have far : ∀ (V : World) (o o' b : Nat) (u : Value), g < b → (V.setCell ⟨g, o, none⟩ u).cell? ⟨b, o', none⟩ = V.cell? ⟨b, o', none⟩ := fun V o o' b u hb => World.cell?_setCell_other _ _ _ _ (fun e => by injection e with e _; omega)
        have far2 : ∀ (V : World) (o o' b : Nat) (u : Value), g < b → (V.setCell ⟨g, o, none⟩ u).frozen? ⟨b, o', none⟩ = V.frozen? ⟨b, o', none⟩ := fun V o o' b u hb => World.frozen?_setCell _ _ _ _
        have f6 := W2.out.free (p * 10 + 6)
        have f5 := W3.out.free (n * 10 + 5)
        have x5 := (W3.out.at_ hxs2.out).1.c5
        have z0b : ∀ o u, (wr.setCell ⟨g, o, none⟩ u).cell? ⟨w.heap.size, 0, none⟩ = some (.slice (some ⟨g, 0, none⟩) len cap) := fun o u => (far _ _ _ _ _ hgl).trans z0
        have z1b : ∀ o u, (wr.setCell ⟨g, o, none⟩ u).cell? ⟨w.heap.size, 1, none⟩ = some (.int .i64 m) := fun o u => (far _ _ _ _ _ hgl).trans z1
        have z0c : ∀ o u o' u', ((wr.setCell ⟨g, o, none⟩ u).setCell ⟨g, o', none⟩ u').cell? ⟨w.heap.size, 0, none⟩ = some (.slice (some ⟨g, 0, none⟩) len cap) := fun o u o' u' => (far _ _ _ _ _ hgl).trans (z0b o u)
        have z1c : ∀ o u o' u', ((wr.setCell ⟨g, o, none⟩ u).setCell ⟨g, o', none⟩ u').cell? ⟨w.heap.size, 1, none⟩ = some (.int .i64 m) := fun o u o' u' => (far _ _ _ _ _ hgl).trans (z1b o u)
        have d0c : ∀ o u o' u', ((wr.setCell ⟨g, o, none⟩ u).setCell ⟨g, o', none⟩ u').cell? ⟨w.heap.size + 1, 0, none⟩ = some (.slice none 0 0) := fun o u o' u' => (far _ _ _ _ _ (by omega)).trans ((far _ _ _ _ _ (by omega)).trans DB2.out.c0)
        have d1c : ∀ o u o' u', ((wr.setCell ⟨g, o, none⟩ u).setCell ⟨g, o', none⟩ u').cell? ⟨w.heap.size + 1, 1, none⟩ = some (.int .i64 0) := fun o u o' u' => (far _ _ _ _ _ (by omega)).trans ((far _ _ _ _ _ (by omega)).trans DB2.out.c1)
        have e0c : ∀ o u o' u', ((wr.setCell ⟨g, o, none⟩ u).setCell ⟨g, o', none⟩ u').frozen? ⟨w.heap.size + 1, 0, none⟩ = false := fun o u o' u' => (far2 _ _ _ _ _ (by omega)).trans ((far2 _ _ _ _ _ (by omega)).trans DB2.out.f0)
        have e1c : ∀ o u o' u', ((wr.setCell ⟨g, o, none⟩ u).setCell ⟨g, o', none⟩ u').frozen? ⟨w.heap.size + 1, 1, none⟩ = false := fun o u o' u' => (far2 _ _ _ _ _ (by omega)).trans ((far2 _ _ _ _ _ (by omega)).trans DB2.out.f1)
        clear far far2
        have hnl2 : ((n * 10 + 5 : Nat)) ≠ p * 10 + 6 := by omega
        go_wp2
        have hd := DB.out.lt
        have haw : ∀ z ∈ (M.set p (withK y a9 N9 cap9 (restZ y.core.kids n y.kN))).set n (withP x (-1)), NodeAway (w.heap.size + 1) z := fun z hz => by
          have old : ∀ q ∈ M, NodeAway (w.heap.size + 1) q := fun q hq => (HW.out.row.ok q hq).away (by omega)
          rcases List.mem_or_eq_of_mem_set hz with hz | rfl
          · rcases List.mem_or_eq_of_mem_set hz with hz | rfl
            · exact old z hz
            · exact ⟨(old y (List.mem_of_getElem? HY.out)).1, fun b off hb _ => by have := HLO.out b off hb; omega⟩
          · exact old x (List.mem_of_getElem? HX.out)
        have W6 := (W4.out.other (b := w.heap.size + 1) (by omega) haw 0 (.slice (some ⟨g, 0, none⟩) len cap)).other (b := w.heap.size + 1) (by omega) haw 1 (.int .i64 m)
        rw [HRZ.out] at W6
        refine bodyPost_ret (v := forV (some ⟨g, 0, none⟩) len cap m) ?_ rfl ⟨rfl, grown_far (grown_far (grown_set (grown_set (grown_below BX2.out.below) _ _) _ _) (by omega) _ _) (by omega) _ _, _, W6, ⟨x.core, coreL_get HX.out, .inr ⟨p, HO.out⟩⟩, out_small HS.out HX.out HY.out, fun b hb9 h z hz => ?_⟩
        rotate_left
        · rcases List.mem_or_eq_of_mem_set hz with hz | rfl
          · rcases List.mem_or_eq_of_mem_set hz with hz | rfl
            · exact h z hz
            · exact ⟨(h y (List.mem_of_getElem? HY.out)).1, fun b off hb _ => by have := HLO.out b off hb; omega⟩
          · exact h x (List.mem_of_getElem? HX.out)
        have r1 : ∀ (V : World) (u v : Value), V.cell? ⟨w.heap.size + 1, 0, none⟩ = some u → ((V.setCell ⟨w.heap.size + 1, 0, none⟩ v).setCell ⟨w.heap.size + 1, 1, none⟩ (.int .i64 m)).cell? ⟨w.heap.size + 1, 0, none⟩ = some v := fun V u v h => (World.cell?_setCell_other _ _ _ _ (fun e => by injection e with _ e; omega)).trans (World.cell?_setCell_same _ _ _ h)
        have r2 : ∀ (V : World) (u v : Value), V.cell? ⟨w.heap.size + 1, 1, none⟩ = some u → ((V.setCell ⟨w.heap.size + 1, 0, none⟩ v).setCell ⟨w.heap.size + 1, 1, none⟩ (.int .i64 m)).cell? ⟨w.heap.size + 1, 1, none⟩ = some (.int .i64 m) := fun V u v h => World.cell?_setCell_same _ _ _ ((World.cell?_setCell_other _ _ _ _ (fun e => by injection e with _ e; omega)).trans h)
        have q1 := r1 _ _ (.slice (some ⟨g, 0, none⟩) len cap) (d0c (p * 10 + 6) (.slice a9 N9 cap9) (n * 10 + 5) (.int .i64 (-1)))
        have q2 := r2 _ _ (.slice (some ⟨g, 0, none⟩) len cap) (d1c (p * 10 + 6) (.slice a9 N9 cap9) (n * 10 + 5) (.int .i64 (-1)))
        simp [results, Try.results55, go_sem, q1, q2]
end Go.Proofs.Ytllfkiifkkcinaa
/- Package shade's All: what it hands back lies in new memory. (The walk of XShadeAllFn, its end said more of.) -/
namespace Go.Proofs.Ytllfkiifkkcinaa
open Go.RowKit
/-- A row of numbers, in new memory. -/
def OrdNew (w : World) (l : List Int) (e : Ending) (w' : World) : Prop := ∃ a len cap, e = .returned (.slice a len cap) ∧ IntRow w' a len cap l ∧ Below w.heap.size w w' ∧ ∀ b off, a = some ⟨b, off, none⟩ → w.heap.size ≤ b
attribute [local go_sem] Oper.semAt_some
set_option maxHeartbeats 8000000 in
set_option maxRecDepth 100000 in
theorem allNew_any (a : Option Addr) (len cap : Nat) (m : Int) (L : List NodeD) (n : Nat) (w : World) (h : NodeRow w a len cap L) (hm : In64 m) (hs : smallF L) (hq : thereF m (coreL L) n = true) :
    Calls Try.prog 41 #[forV a len cap m, .int .i64 n] w (OrdNew w (allZ m (coreL L) n)) := by
  have hn : In64 (n : Int) := ⟨by omega, by have h1 := (there_nat hq).2; obtain ⟨k, h2, h3⟩ := h1; rw [coreL_len, h.hlen] at h3; have := h.len64; omega⟩
  have BX := Lib.hid ((Box.start (m := m) h).keep (below_box _ (.cells #[.int .i64 n] 3)))
  have NB := Lib.hid (lit_one (w.alloc (forB a len cap m)) 3 n hn)
  have CK : Hid (∀ W b, NodeRow W a len cap L → IntRow W b 1 1 [(n : Int)] → Calls Try.prog 70 #[forV a len cap m, .slice b 1 1] W fun e w' => e = .returned (.bool true) ∧ Below W.heap.size W w') := Lib.hid (fun W b h1 h2 => by
    rw [← hq, ← knowsB_one]
    exact shknows_any a len cap m L b 1 1 [(n : Int)] W h1 hm hs h2)
  simp only [World.size_alloc] at NB
  have z0 := BX.out.c0
  have z1 := BX.out.c1
  obtain ⟨hr, k, hkn, hk⟩ := there_nat hq
  obtain rfl : n = k := Int.ofNat.inj hkn
  have HRT := Lib.hid hr
  have HL := Lib.hid h.hlen
  have HS := Lib.hid hs
  clear h hm hs hn hq hr hkn
  refine callsIn_wide (n := 8) |>.1 ?_
  refine callsIn_of_wp_marks Try.func41 rfl trivial ?_ rfl
  simp only [Try.ntmps41, List.size_toArray, List.length_cons, List.length_nil, Nat.reduceAdd, Nat.reduceSub, Array.replicate_succ, Array.replicate_zero, List.push_toArray, List.append_toArray, List.nil_append, List.cons_append]
  gi_wp2_with (refine ⟨trivial, ?_⟩; gi_at_call 70; refine (callsIn_wide.2 (CK.out _ _ BX.out.row NB.out)).mono ?_; rintro e w1 ⟨rfl, hb⟩; have BX := Lib.hid (BX.out.keep hb); have z0 := BX.out.c0; have z1 := BX.out.c1; clear hb)
  obtain ⟨b, off, x0, rfl, hb1, -, -, -⟩ := BX.out.row.get (k := n) (by rw [coreL_len, HL.out] at hk; exact hk)
  obtain ⟨i0, hi0, hz0, hz1, hz2⟩ := info_parts int_info
  have HN : Hid ((allI (coreL L) (n : Int)).length ≤ 1000) := Lib.hid (Nat.le_trans (allI_len HRT.out hk) (by rw [coreL_len]; exact HS.out.1))
  have GO0 := Lib.hid (GoingS.start hk)
  have HOZ : Hid (allZ m (coreL L) n = allI (coreL L) (n : Int)) := Lib.hid (by rw [allZ_eq HRT.out hk])
  have HA0 : Hid (Hand w1 ((w1.alloc (.cells #[.int .i64 n] 3)).alloc (.cells #[.slice (some ⟨w1.heap.size, 0, none⟩) 1 1] 26)) w1.heap.size (w1.heap.size + 1) w1.heap.size 1 (.slice none 0 0) [] [(n : Int)]) := Lib.hid (by
    have h1 : (w1.alloc (.cells #[.int .i64 n] 3)).heap.size = w1.heap.size + 1 := by simp
    have h2 := World.ownsRow_lit (base := w1.heap.size) (e := 3) (size := 1) w1 #[.int .i64 n] 1 (Nat.le_refl _) (by unfold maxLen; omega) (by simp)
    refine ⟨(below_box w1 _).alloc (by simp) _, ?_, by omega, h2.alloc _, World.ownsRow_nil _ _ _ _, by simp [Value.ownBlock]⟩
    have := Boxed.new (w1.alloc (.cells #[.int .i64 n] 3)) 26 (.slice (some ⟨w1.heap.size, 0, none⟩) 1 1)
    rwa [h1] at this)
  have HKN0 := Lib.hid hk
  clear z0 z1 hk NB CK
  refine wpIn_loop (fun a' W => ∃ (ds : List Nat) (out P : List Int) (vo : Value) (Bp g cp : Nat) (u7 u8 u9 u10 u11 u19 u20 u21 u22 u23 u24 u25 u26 u27 u28 u29 u30 u31 u32 u33 u34 u35 u36 u37 u38 u39 u40 u41 u42 u43 u44 u45 u46 u47 u48 u49 u50 u51 u52 u53 u54 u55 u56 u57 u58 u59 u60 u61 u62 : Value), Hid (Hand w1 W w1.heap.size Bp g cp vo out P) ∧ Hid (GoingS (coreL L) n out P) ∧ Hid (Marks w1.heap.size ds W) ∧ a' = { tmps := #[forV (some ⟨b, off, none⟩) len cap m, .int .i64 n, .pointer (some ⟨w.heap.size, 0, none⟩), undef, .slice none 0 0, vo, .pointer (some ⟨Bp, 0, none⟩), u7, u8, u9, u10, u11, .agg #[.slice (some ⟨b, off, none⟩) len cap, .int .i64 m], .int .i64 n, .slice (some ⟨w.heap.size + 1, 0, none⟩) 1 1, .bool true, .bool false, .int .i64 n, .slice (some ⟨w1.heap.size, 0, none⟩) 1 1, u19, u20, u21, u22, u23, u24, u25, u26, u27, u28, u29, u30, u31, u32, u33, u34, u35, u36, u37, u38, u39, u40, u41, u42, u43, u44, u45, u46, u47, u48, u49, u50, u51, u52, u53, u54, u55, u56, u57, u58, u59, u60, u61, u62], defers := ds.map markD })
    (fun a' _ => (allI (coreL L) (n : Int)).length - sliceN (a'.tmps.getD 5 undef)) ?_ ?_
  · exact ⟨[], [], [(n : Int)], _, _, _, _, _, _, _, _, _, _, _, _, _, _, _, _, _, _, _, _, _, _, _, _, _, _, _, _, _, _, _, _, _, _, _, _, _, _, _, _, _, _, _, _, _, _, _, _, _, _, _, _, _, HA0, GO0, Lib.hid ⟨List.nodup_nil, fun D hD => by cases hD⟩, rfl⟩
  · clear GO0 HA0
    rintro a' W ⟨ds, out, P, vo, Bp, g, cp, u7, u8, u9, u10, u11, u19, u20, u21, u22, u23, u24, u25, u26, u27, u28, u29, u30, u31, u32, u33, u34, u35, u36, u37, u38, u39, u40, u41, u42, u43, u44, u45, u46, u47, u48, u49, u50, u51, u52, u53, u54, u55, u56, u57, u58, u59, u60, u61, u62, HA, GO, MK, rfl⟩
    rcases List.eq_nil_or_concat P with rfl | ⟨Q, z, hP⟩
    · have pc : W.cell? ⟨Bp, 0, none⟩ = some (.slice (some ⟨g, 0, none⟩) 0 cp) := HA.out.pile.cell
      gi_wp2
      refine leaves_marks w1.heap.size (fun W => W.ownsRow w1.heap.size 3 1 vo out.length (out.map encI) ∧ Below w.heap.size w W) ?_ ?_ ds W MK.out ⟨HA.out.orow, BX.out.below.trans (HA.out.below.mono BX.out.below.size)⟩
      · rintro W5 D ⟨h1, h2⟩ hD hK
        have hlt := (Array.getElem?_eq_some_iff.1 hK).1
        have hwb := BX.out.below.size
        refine ⟨h1.kept (grownBy_putObj' W5 D _) ?_, (h2.grown (grownBy_putObj' W5 D _) (by omega) (fun k e => by injection e with e; omega))⟩
        cases hv : vo.ownBlock with
        | none => exact .inl rfl
        | some k =>
          refine .inr (fun e => ?_)
          injection e with e
          obtain ⟨c, t, f, hc⟩ := own_cells h1 k hv
          rw [e, hK] at hc
          cases hc
      · rintro W5 ⟨h1, h2⟩
        rw [map_encI] at h1
        have hout : out = allI (coreL L) (n : Int) := by
          have := GO.out.eq
          simpa using this
        have hin : ∀ z ∈ out, In64 z := fun z hz => by
          rw [hout] at hz
          unfold allI at hz
          obtain ⟨k, hk, rfl⟩ := List.mem_map.1 hz
          have hkl := (treeS HRT.out).ord_lt _ _ HKN0.out k (by rw [Int.toNat_natCast] at hk; exact hk)
          have := HS.out.1
          rw [coreL_len] at hkl
          exact ⟨by show (_ : Int) ≤ ((k : Nat) : Int); omega, by show ((k : Nat) : Int) ≤ _; omega⟩
        obtain ⟨a9, cap9, hv9, hr9, hlo9⟩ := IntRow.of_own_new (M := out) (n := out.length) rfl h1 hin
        refine ⟨vo, by simp [results, Try.results41], a9, out.length, cap9, by rw [hv9], ?_, h2, fun b off hb => Nat.le_trans BX.out.below.size (hlo9 b off hb)⟩
        rw [HOZ.out, ← hout]
        exact hr9
    · rw [List.concat_eq_append] at hP
      subst hP
      have pc : W.cell? ⟨Bp, 0, none⟩ = some (.slice (some ⟨g, 0, none⟩) (Q.length + 1) cp) := by simpa using HA.out.pile.cell
      have pf := HA.out.pile.frozen
      have zc : W.cell? ⟨g, Q.length, none⟩ = some (.int .i64 z) := by
        have := HA.out.prow.cells (g := g) rfl Q.length (.int .i64 z) (by simp)
        rwa [Go.WideShapes.add_plain, Nat.zero_add] at this
      obtain ⟨hz0, hz1'⟩ := GO.out.inF z (by simp)
      obtain ⟨zi, rfl⟩ : ∃ zi : Nat, z = zi := ⟨z.toNat, by omega⟩
      have hzl : zi < len := by rw [coreL_len, HL.out] at hz1'; omega
      have hcp : (Q.length : Int) ≤ (cp : Int) := by
        rcases HA.out.prow.2 with ⟨hv, _⟩ | ⟨_, _, _, hv, _, _, h1, _⟩
        · cases hv
        · injection hv with _ _ h3
          subst h3
          simp at h1
          omega
      have HA1 := Lib.hid HA.out.pop
      have hsz := HA.out.size
      have hlen := GO.out.len
      have hln := HN.out
      have hq64 : Q.length ≤ 1000 := by simp at hlen; omega
      have ho64 : out.length ≤ 1000 := by omega
      clear hz0 hz1' hlen hln
      gi_wp2_with (first
        | (gi_at_builtin
           refine wpListIn_append_keep _ rfl _ _ 26 rfl w1.heap.size 3 i0 _ 1 8 Try.underlying26 hi0 hz0 hz1 hz2 rfl (by decide) vo out.length (out.map encI) rfl (HA1.out.orow.alloc _) ⟨W.heap.size, 0, none⟩ 1 1 [encI (zi : Int)] rfl rfl (by simpa using cell_one_new (W.setCell ⟨Bp, 0, none⟩ (.slice (some ⟨g, 0, none⟩) Q.length cp)) (encI (zi : Int)) 3) (by simp [Value.oneCell']) (by decide) (by unfold maxLen; omega) (by omega) (by simp; omega) ?_
           intro g2 cap2 w2 hown2 hold2 hg2 hat2 hlt2
           have HA2 := Lib.hid (HA1.out.more hown2 hg2 hat2)
           have BX2 := Lib.hid (BX.out.keep HA2.out.below)
           have z0 := BX2.out.c0
           obtain ⟨b', off', y, hab, hb2, hx, hat, hok⟩ := BX2.out.row.get hzl
           injection hab with hab
           injection hab with e1 e2
           subst e1 e2
           have c6 := hat.c6
           have HX := Lib.hid hx
           have HKR := Lib.hid (hok.kids)
           have HKN : Hid (y.kN ≤ 1000) := Lib.hid (by rw [← hok.kids.hlen]; exact (HS.out.2 y (List.mem_of_getElem? hx)).1)
           have HLOW : Hid (∀ b' off', y.kA = some ⟨b', off', none⟩ → 0 < y.kN → b' < w1.heap.size) := Lib.hid (fun b' off' ha hp => by
             obtain ⟨_, _, y2, e1, _, hy, _, hoky⟩ := BX.out.row.get hzl
             obtain rfl : y = y2 := Option.some.inj (hx.symm.trans hy)
             rcases hoky.kids.row.cells with h0 | ⟨b2, o2, ha2, hlt, _⟩
             · omega
             · rw [ha] at ha2
               injection ha2 with ha2
               injection ha2 with e3
               omega)
           have MK2 := Lib.hid (((MK.out.kept (grownBy_setCell' W Bp _) (fun r e => .inl (by cases e; exact ⟨_, _, _, HA.out.pile⟩))).kept (World.grownBy_alloc _ (.cells #[.int .i64 (zi : Int)] 3) none) (fun r e => by cases e)).kept hg2 (fun r e => .inl (own_cells (HA1.out.orow.alloc _) r e)))
           clear hat hx hok hold2 hown2 hg2 hat2)
        | (refine ⟨trivial, ?_⟩; gi_at_call 66; refine (callsIn_wide.2 (backward_any _ _ _ _)).mono ?_; rintro e w3 ⟨rfl, rfl⟩))
      have hbs := Boxed.new w2 26 (.slice y.kA y.kN y.kC)
      have hsz2 := HA2.out.size
      refine wpIn_rangeFunc_ownG (F := Fence.wide) (n := 8) rfl (by decide) (gf := 89) (lb := #[.pointer (some ⟨w2.heap.size, 0, none⟩)]) rfl trivial (enters_of Try.func89 (by kernel_rfl) rfl)
        (back_stops Fence.wide 7 trivial rfl (by decide) w2.heap.size w1.heap.size y.kA y.kN y.kC y.core.kids (w2.alloc (.cells #[.slice y.kA y.kN y.kC] 26)) (by simp) hbs.cell (HKR.out.below (below_box _ _)) HLOW.out)
        (fun h k => ⟨k.1.trans h.1, h.2.trans k.2⟩) (fun W l o o' hl h hc hw => ⟨World.putObj_heap_other (by simp at hl; omega), belowK_b (w := w2.alloc (.cells #[.slice y.kA y.kN y.kC] 26)) (by simp; omega) W l o o' hl h hc hw⟩) (Below.refl _ _) (fun _ => rfl)
        (fun pre W' => ∃ g cp, Hand w1 W' w1.heap.size Bp g cp (.slice (some ⟨g2, 0, none⟩) (out.length + 1) cap2) (out ++ [(zi : Int)]) (Q ++ pre.map Prod.snd) ∧ Boxed W' w2.heap.size 26 (.slice y.kA y.kN y.kC) ∧ Marks w1.heap.size ds W')
        (fun _ _ _ => False)
        (fun pre X Y row h hg hr => by
          obtain ⟨g, cp, hh, hb, hm⟩ := h
          refine ⟨g, cp, hh.other hg (fun r e => ⟨by have := (hr r e).1; simp at this; omega, (hr r e).2⟩), hb.kept hg (fun e => ?_), hm.kept hg (fun r e => .inr (fun hd => ?_))⟩
          · have := (hr _ e.symm).1
            simp at this
            omega
          · have h1 := (hr r e).1
            have h2 := (Array.getElem?_eq_some_iff.1 (MK2.out.at_ r hd).2).1
            simp at h1
            omega)
        (fun _ _ _ _ _ hs _ _ => hs)
        ⟨g, cp, by simpa using HA2.out.alloc _, hbs, MK2.out.kept (World.grownBy_alloc _ _ none) (fun r e => by cases e)⟩
        (fun x => { tmps := #[forV (some ⟨b, off, none⟩) len cap m, .int .i64 n, .pointer (some ⟨w.heap.size, 0, none⟩), undef, .slice none 0 0, .slice (some ⟨g2, 0, none⟩) (out.length + 1) cap2, .pointer (some ⟨Bp, 0, none⟩), .int .i64 (Q.length : Int), .int .i64 (zi : Int), u9, .int .i64 x.2, u11, .agg #[.slice (some ⟨b, off, none⟩) len cap, .int .i64 m], .int .i64 n, .slice (some ⟨w.heap.size + 1, 0, none⟩) 1 1, .bool true, .bool false, .int .i64 n, .slice (some ⟨w1.heap.size, 0, none⟩) 1 1, .slice (some ⟨g, 0, none⟩) (Q.length + 1) cp, .int .i64 ((Q.length : Int) + 1), .bool true, .slice (some ⟨g, 0, none⟩) (Q.length + 1) cp, .int .i64 ((Q.length : Int) + 1), .int .i64 (Q.length : Int), .slice (some ⟨g, 0, none⟩) (Q.length + 1) cp, .int .i64 (Q.length : Int), .pointer (some ⟨g, Q.length, none⟩), .int .i64 (zi : Int), .slice (some ⟨g, 0, none⟩) (Q.length + 1) cp, .int .i64 (Q.length : Int), .slice (some ⟨g, 0, none⟩) Q.length cp, vo, .int .i64 (zi : Int), .slice (some ⟨W.heap.size, 0, none⟩) 1 1, .slice (some ⟨g2, 0, none⟩) (out.length + 1) cap2, .pointer (some ⟨w.heap.size, 0, none⟩), .slice (some ⟨b, off, none⟩) len cap, .int .i64 (zi : Int), .pointer (some ⟨b, off + zi * 10, none⟩), .pointer (some ⟨b, off + zi * 10 + 6, none⟩), .slice y.kA y.kN y.kC, .func (.func 89) #[] #[.pointer (some ⟨w2.heap.size, 0, none⟩)], .int .i64 x.1, .int .i64 x.2, u45, u46, u47, u48, u49, u50, u51, u52, u53, u54, u55, u56, u57, u58, u59, u60, u61, u62], defers := [] }) ?assign ?body ?done ?stop
      case assign =>
        intro l x W K hK
        gi_wp2
        exact hK
      case body =>
        rintro l pre x W5 ⟨g5, cp5, HH, hbx, hm⟩ hlt
        have pc5 := HH.pile.cell
        have hsz5 := HH.size
        have hkn := HKN.out
        have hpl : (Q ++ pre.map Prod.snd).length ≤ 2000 := by simp; omega
        obtain ⟨k5, hk5⟩ : ∃ k5, (Q ++ pre.map Prod.snd).length = k5 := ⟨_, rfl⟩
        have HK5 := Lib.hid hk5
        have HP := Lib.hid HH
        rw [hk5] at pc5 hpl
        have hrow := HH.prow
        rw [hk5] at hrow
        have HROW := Lib.hid hrow
        clear hrow hk5 HH
        gi_wp2_with (gi_at_builtin
                     refine wpListIn_append_keep _ rfl _ _ 26 rfl w1.heap.size 3 i0 _ 1 8 Try.underlying26 hi0 hz0 hz1 hz2 rfl (by decide) (.slice (some ⟨g5, 0, none⟩) k5 cp5) k5 ((Q ++ pre.map Prod.snd).map encI) rfl (HROW.out.alloc _) ⟨W5.heap.size, 0, none⟩ 1 1 [encI x.2] rfl rfl (cell_one_new W5 (encI x.2) 3) (by simp [Value.oneCell']) (by decide) (by unfold maxLen; omega) (by omega) (by simp; omega) ?_
                     intro g6 cap6 w6 hown6 hold6 hg6 hat6 hlt6
                     obtain ⟨hb6, hh6⟩ := HP.out.push (by rw [HK5.out]; exact hown6) (by rw [HK5.out]; exact hg6) (by rw [HK5.out]; exact hat6)
                     obtain ⟨-, -, -, hk6, hbl6⟩ := HP.out.pile.appended (by decide) HP.out.prow HP.out.size HP.out.low (by rw [← HK5.out] at hown6; exact hown6) (by rw [HK5.out]; exact hg6)
                     have c6 := hb6.cell
                     have f6 := hb6.frozen
                     rw [HK5.out] at c6 hh6 hk6 hbl6)
        have hne6 : w2.heap.size ≠ Bp := Nat.ne_of_gt HA2.out.pile.lt
        have hbx6 := (hbx.alloc (.cells #[encI x.2] 3)).kept hg6 ((hbx.alloc (.cells #[encI x.2] 3)).not_row (by decide) (HROW.out.alloc _))
        have hbx7 := hbx6.kept (grownBy_setCell' w6 Bp (.slice (some ⟨g6, 0, none⟩) (k5 + 1) cap6)) (fun e => hne6 (by injection e))
        have hm6 := ((hm.kept (World.grownBy_alloc _ (.cells #[encI x.2] 3) none) (fun r e => by cases e)).kept hg6 (fun r e => .inl (own_cells (HROW.out.alloc _) r e))).kept (grownBy_setCell' w6 Bp (.slice (some ⟨g6, 0, none⟩) (k5 + 1) cap6)) (fun r e => .inl (by cases e; exact ⟨_, _, _, hb6⟩))
        exact ⟨hk6.from _, ⟨hbx7.trans hbx.symm, hbl6⟩, g6, cap6, by simpa using hh6, hbx7, hm6⟩
      case done =>
        rintro D ys W4 hD rfl ⟨g4, cp4, HH, hbx, hm⟩ hK
        have hkl := HKR.out.hlen
        rw [← hkl, backTo_snd] at HH
        have pc4 := HH.pile.cell
        have hsz4 := HH.size
        have HP := Lib.hid HH
        have GO2 := Lib.hid (GO.out.step HRT.out (z := (zi : Int)) (x := y.core) (by rw [Int.toNat_natCast]; exact coreL_get HX.out))
        have SN1 := Lib.hid (sliceN_own HA.out.orow)
        have BX4 := Lib.hid (BX.out.keep HP.out.below)
        have z0 := BX4.out.c0
        obtain ⟨b', off', y', hab, hb4, hx4, hat4, -⟩ := BX4.out.row.get hzl
        injection hab with hab
        injection hab with e1 e2
        subst e1 e2
        obtain rfl : y = y' := Option.some.inj (HX.out.symm.trans hx4)
        have c8 := hat4.c8
        clear hx4 hat4
        have MD : Hid (Marks w1.heap.size (D :: ds) W4) := Lib.hid ⟨List.nodup_cons.2 ⟨fun hd => by
          have h2 := (Array.getElem?_eq_some_iff.1 (MK2.out.at_ D hd).2).1
          simp at hD
          omega, hm.nd⟩, fun E hE => by
          rcases List.mem_cons.1 hE with rfl | hE
          · exact ⟨by simp at hD; omega, hK⟩
          · exact hm.at_ E hE⟩
        have MEA : Hid (∀ cap : Nat, (allI (coreL L) (n : Int)).length - sliceN (.slice (some ⟨g2, 0, none⟩) (out.length + 1) cap) < (allI (coreL L) (n : Int)).length - sliceN vo) := Lib.hid (fun cap => by
          show (allI (coreL L) (n : Int)).length - (out.length + 1) < (allI (coreL L) (n : Int)).length - sliceN vo
          rw [SN1.out]
          have h1 := GO.out.len
          rw [List.length_append] at h1
          simp at h1
          omega)
        have hkn := HKN.out
        have hpl : (Q ++ y.core.kids.reverse).length ≤ 2000 := by rw [List.length_append, List.length_reverse]; omega
        obtain ⟨k4, hk4⟩ : ∃ k4, (Q ++ y.core.kids.reverse).length = k4 := ⟨_, rfl⟩
        have HK4 := Lib.hid hk4
        rw [hk4] at pc4 hpl
        have hrow := HH.prow
        rw [hk4] at hrow
        have HROW := Lib.hid hrow
        clear HH hrow hk4 hkl hkn
        by_cases hu : y.core.under = -1
        · have HNX := Lib.hid HP.out.next
          rw [HK4.out] at HNX
          have GO3 : Hid (GoingS (coreL L) n (out ++ [(zi : Int)]) (Q ++ y.core.kids.reverse)) := Lib.hid (by
            have := GO2.out
            unfold undL at this
            rwa [if_pos hu, List.append_nil] at this)
          rw [hu] at c8
          clear hu
          gi_wp2
          refine ⟨⟨D :: ds, out ++ [(zi : Int)], Q ++ y.core.kids.reverse, _, W4.heap.size, ⟨g4, cp4, HNX⟩, GO3, Lib.hid (MD.out.kept (World.grownBy_alloc _ _ none) (fun r e => by cases e)), ⟨rfl, rfl⟩, rfl⟩, ?_⟩
          exact MEA.out _
        · obtain ⟨s, u, hs, hsg, -⟩ := right_under HRT.out (coreL_get HX.out) hu
          have hsl := (List.getElem?_eq_some_iff.1 hsg).1
          rw [coreL_len, HL.out] at hsl
          have GO3 : Hid (GoingS (coreL L) n (out ++ [(zi : Int)]) (Q ++ y.core.kids.reverse ++ [(s : Int)])) := Lib.hid (by
            have := GO2.out
            unfold undL at this
            rwa [if_neg hu, hs] at this)
          rw [hs] at c8
          have hsn : ((s : Int) != -1) = true := bne_iff_ne.2 (by omega)
          clear hu hs hsg
          gi_wp2_with (gi_at_builtin
                       refine wpListIn_append_keep _ rfl _ _ 26 rfl w1.heap.size 3 i0 _ 1 8 Try.underlying26 hi0 hz0 hz1 hz2 rfl (by decide) (.slice (some ⟨g4, 0, none⟩) k4 cp4) k4 ((Q ++ y.core.kids.reverse).map encI) rfl (HROW.out.alloc _) ⟨W4.heap.size, 0, none⟩ 1 1 [encI (s : Int)] rfl rfl (cell_one_new W4 (encI (s : Int)) 3) (by simp [Value.oneCell']) (by decide) (by unfold maxLen; omega) (by omega) (by simp; omega) ?_
                       intro g6 cap6 w6 hown6 hold6 hg6 hat6 hlt6
                       obtain ⟨hb6, hh6⟩ := HP.out.push (by rw [HK4.out]; exact hown6) (by rw [HK4.out]; exact hg6) (by rw [HK4.out]; exact hat6)
                       have c6 := hb6.cell
                       have f6 := hb6.frozen
                       rw [HK4.out] at c6 hh6
                       have H6 := Lib.hid hh6
                       have M6 := Lib.hid (((MD.out.kept (World.grownBy_alloc _ (.cells #[encI (s : Int)] 3) none) (fun r e => by cases e)).kept hg6 (fun r e => .inl (own_cells (HROW.out.alloc _) r e))).kept (grownBy_setCell' w6 Bp (.slice (some ⟨g6, 0, none⟩) (k4 + 1) cap6)) (fun r e => .inl (by cases e; exact ⟨_, _, _, hb6⟩)))
                       clear hh6 hg6 hat6 hown6 hold6)
          have HNX := Lib.hid H6.out.next
          rw [List.length_append, HK4.out] at HNX
          refine ⟨⟨D :: ds, out ++ [(zi : Int)], Q ++ y.core.kids.reverse ++ [(s : Int)], _, (w6.setCell ⟨Bp, 0, none⟩ (.slice (some ⟨g6, 0, none⟩) (k4 + 1) cap6)).heap.size, ⟨g6, cap6, HNX⟩, GO3, Lib.hid (M6.out.kept (World.grownBy_alloc _ _ none) (fun r e => by cases e)), ⟨rfl, by simp [World.setCell]⟩, rfl⟩, ?_⟩
          exact MEA.out _
      case stop =>
        rintro D c pre W _ _ h _
        exact h.elim
end Go.Proofs.Ytllfkiifkkcinaa
/- instarlaw05's put: what may be put is put, by hand; the forest is right. -/
namespace Go.Proofs.Ytllfkiifkkcinaa
open Go.RowKit
/-- A forest whose nodes' lists are short. -/
def kidsLe (M : List NodeD) (b : Nat) : Prop := ∀ x ∈ M, x.core.kids.length ≤ b
set_option maxHeartbeats 16000000 in
set_option maxRecDepth 100000 in
theorem vput_any (P : Lay5) (a : Option Addr) (len cap : Nat) (m : Int) (L : List NodeD) (n p : Nat) (c : Int) (w : World) (h : NodeRow w a len cap L) (hm : In64 m) (hc : In64 c) (hs : smallF L) (hk60 : kidsLe L 60) (hn : n < len) (hp : p < len) (hmay : mayZ m (coreL L) n p c = 0) :
    Calls Try.prog 52 #[forV a len cap m, .int .i64 n, .int .i64 p, .int .i64 c] w fun e w' => ∃ g cap2 M, e = .returned (forV (some ⟨g, 0, none⟩) len cap2 m) ∧ NodeRow w' (some ⟨g, 0, none⟩) len cap2 M ∧ rightF m (coreL M) = true ∧ smallF M ∧ Below w.heap.size w w' := by
  obtain ⟨F, S, V⟩ := P
  have HL := Lib.hid h.hlen
  have HCL : Hid ((coreL L).length = len) := Lib.hid (by rw [coreL_len, HL.out])
  have hl1k : len ≤ 1000 := by rw [← HL.out]; exact hs.1
  obtain ⟨cp, hcp⟩ : ∃ cp, (coreL L)[p]? = some cp := ⟨_, List.getElem?_eq_getElem (by rw [HCL.out]; exact hp)⟩
  have PO := Lib.hid (PutOk.of hmay hcp)
  obtain ⟨l, hl⟩ : ∃ l, partsZ (coreL L) n = l := ⟨_, rfl⟩
  obtain ⟨bz, hbz⟩ : ∃ bz, beforeZ m (coreL L) n p c = bz := ⟨_, rfl⟩
  have CB : Hid (∀ W, NodeRow W a len cap L → Calls Try.prog 74 #[forV a len cap m, .int .i64 n, .int .i64 p, .int .i64 c] W fun e w' => e = .returned (.int .i64 bz) ∧ Below W.heap.size W w') := Lib.hid (fun W h => by
    rw [← hbz]
    exact V.before a len cap m L n p c W h hm ⟨by omega, by omega⟩ ⟨by omega, by omega⟩ hc hs)
  have CP : Hid (∀ W, NodeRow W a len cap L → Calls Try.prog 53 #[forV a len cap m, .int .i64 n] W (OrdPost W l)) := Lib.hid (fun W h => by
    rw [← hl]
    exact V.parts a len cap m L n W h hm ⟨by omega, by omega⟩ hs)
  rw [hl] at PO
  have HB0 : Hid (bz = -1 ∨ bz ∈ cp.kids.filter (fun z => !l.contains z)) := Lib.hid (by rw [← hbz]; exact PO.out.before)
  have HLN : Hid (l.length ≤ 60) := Lib.hid (by
    rw [← hl]
    obtain ⟨cn, hcn⟩ : ∃ cn, (coreL L)[n]? = some cn := ⟨_, List.getElem?_eq_getElem (by rw [HCL.out]; exact hn)⟩
    rw [parts_at hcn]
    split
    · obtain ⟨x, hx, rfl⟩ : ∃ x ∈ L, x.core = cn := by
        have := List.mem_of_getElem? hcn
        unfold coreL at this
        obtain ⟨x, h1, h2⟩ := List.mem_map.1 this
        exact ⟨x, h1, h2⟩
      exact hk60 x hx
    · simp)
  have HLT : Hid (∀ z ∈ l, ∃ q : Nat, z = q ∧ q < len) := Lib.hid (fun z hz => by
    obtain ⟨q, c1, h1, h2, _⟩ := PO.out.ls z hz
    exact ⟨q, h1, by have := (List.getElem?_eq_some_iff.1 h2).1; rwa [HCL.out] at this⟩)
  have CA : Hid (∀ W (q : Nat), NodeRow W a len cap L → q < len → Calls Try.prog 41 #[forV a len cap m, .int .i64 q] W (OrdNew W (allI (coreL L) q))) := Lib.hid (fun W q h hq => by
    have := allNew_any a len cap m L q W h hm hs (thereF_of PO.out.right (by rw [HCL.out]; exact hq))
    rwa [allZ_eq PO.out.right (by rw [HCL.out]; exact hq)] at this)
  have HAT : Hid (∀ (q : Nat), q < len → ∀ z ∈ allI (coreL L) q, ∃ t : Nat, z = t ∧ t < len) := Lib.hid (fun q hq z hz => by
    rw [← allZ_eq PO.out.right (by rw [HCL.out]; exact hq)] at hz
    obtain ⟨t, h1, h2⟩ := allZ_num hz
    exact ⟨t, h1, by rwa [HCL.out] at h2⟩)
  have HMN : Hid (∀ x ∈ L, NodeAway (w.heap.size + 1) x) := Lib.hid (fun x hx => (h.ok x hx).away (by omega))
  have HS := Lib.hid hs
  have HK60 := Lib.hid hk60
  have HOK := Lib.hid h.ok
  have HCP := Lib.hid hcp
  obtain ⟨w0, hw0, BX, RB⟩ : ∃ w0, (w.alloc (forB a len cap m)).alloc zeroFB = w0 ∧ Hid (Box w w0 w.heap.size a len cap m L (coreL L)) ∧ Hid (Box2 w0 (w.heap.size + 1) (.slice none 0 0) (.int .i64 0)) := ⟨_, rfl, Lib.hid ((Box.start h).keep (below_box _ _)), Lib.hid (Box2.newAt (by simp))⟩
  have HW := Lib.hid hw0
  have z0 := BX.out.c0
  have z1 := BX.out.c1
  clear h hs hk60 hmay hcp hl hbz hw0 F S V hm
  go_enter Try.func52, Try.ntmps52
  go_upto_region 1 with fail
  rw [HW.out]
  go_upto_region 3 with (first
    | (go_at_call 74; (with_reducible refine (CB.out _ BX.out.row).mono ?_); rintro e w1 ⟨rfl, hb⟩; have BX := Lib.hid (BX.out.keep hb); have RB := Lib.hid (RB.out.keep hb); have z0 := BX.out.c0; have z1 := BX.out.c1; clear hb)
    | (go_at_call 53; (with_reducible refine (CP.out _ BX.out.row).mono ?_); rintro e wb ⟨pa, pl, pc, rfl, hrl, hb⟩; have BX := Lib.hid (BX.out.keep hb); have RB := Lib.hid (RB.out.keep hb); have z0 := BX.out.c0; have z1 := BX.out.c1; have LR := Lib.hid hrl; clear hb hrl))
  clear CB CP HW
  refine copy1_region 4 26 27 28 29 30 31 32 11 132 _ (by kernel_rfl) (by exact Nat.le_refl _) (by decide) w.heap.size a len cap m L rfl BX.out.lt z0 z1 BX.out.row ⟨by omega, hl1k⟩ ?_
  intro v g gr cap2 w2 hc2
  have WR0 := Lib.hid (hc2.wrow HL.out (fun z hz => (HOK.out z hz).below BX.out.below))
  have HBW0 := Lib.hid hc2.row.below
  have GB0 := Lib.hid hc2.box
  have HNE := Lib.hid hc2.ne
  have HGG := Lib.hid hc2.ge
  have HGR := Lib.hid (hc2.row.own.lt gr rfl).1
  have OS0 := Lib.hid (OutsOf.start (l := l) PO.out.right)
  have hpl : l.length = pl := LR.out.hlen
  have HPL := Lib.hid hpl
  have hpl60 : pl ≤ 60 := by rw [← hpl]; exact HLN.out
  clear hc2 z0 z1 hpl
  simp only [puts, List.set_cons_succ, List.set_cons_zero]
  generalize v 0 = v0, v 1 = v1, v 2 = v2, v 3 = v3, v 4 = v4, v 5 = v5
  go_wp2
  go_loopw [12] (fun i wr => ∃ (k : Nat) (M : List NodeD), k ≤ pl ∧ i = .int .i64 k ∧ Hid (Below wb.heap.size wb wr) ∧ Hid (Box2 wr g (.slice (some ⟨gr, 0, none⟩) len cap2) (.int .i64 m)) ∧ Hid (WRow wr gr len cap2 M) ∧ Hid (OutsOf m (coreL L) (coreL M) l k) ∧ Hid (smallF M) ∧ Hid (∀ x ∈ M, NodeAway (w.heap.size + 1) x)) (fun i _ => pl - (intOf i).toNat)
  case atStart => exact ⟨0, L, Nat.zero_le _, rfl, HBW0, GB0, WR0, OS0, HS, HMN⟩
  case round =>
    obtain ⟨k, M, hk, rfl, HBW, GB, WR, OS, HSM, HAW⟩ := hrel
    have BXW := Lib.hid (BX.out.keep HBW.out)
    have LRW := Lib.hid (LR.out.below HBW.out)
    have G0 := GB.out.c0
    have G1 := GB.out.c1
    by_cases hlt : k < pl
    · obtain ⟨bp, op, z, hpa, hbp, hz, hcz, hin⟩ := LRW.out.get hlt
      obtain ⟨q, rfl, hql⟩ := HLT.out z (List.mem_of_getElem? hz)
      have HZ := Lib.hid hz
      subst hpa
      have OUTC : Hid (∀ V, Below wr.heap.size wr V → Calls Try.prog 55 #[forV (some ⟨gr, 0, none⟩) len cap2 m, .int .i64 q] V fun e w3 => e = .returned (forV (some ⟨gr, 0, none⟩) len cap2 m) ∧ ∃ M', Hid (Below wb.heap.size wb w3) ∧ Box2 w3 g (.slice (some ⟨gr, 0, none⟩) len cap2) (.int .i64 m) ∧ Hid (WRow w3 gr len cap2 M') ∧ Hid (OutsOf m (coreL L) (coreL M') l (k + 1)) ∧ Hid (smallF M') ∧ Hid (∀ x ∈ M', NodeAway (w.heap.size + 1) x)) := Lib.hid (fun V hV => (vout2_any gr len cap2 m M q V (WR.out.keep hV) OS.out.right hql HSM.out).mono (fun e w3 ⟨he, hg, M', h1, h2, h3, h4⟩ => by
        refine ⟨he, M', Lib.hid ?_, (GB.out.keep hV).grown hg (fun e => HNE.out (by injection e with e; exact e.symm)), Lib.hid h1, Lib.hid (OS.out.step HZ.out h2), Lib.hid h3, Lib.hid (h4 _ (Nat.lt_of_lt_of_le RB.out.lt (HBW.out.trans (hV.mono HBW.out.size)).size) HAW.out)⟩
        have hb2 := HBW.out.trans (hV.mono HBW.out.size)
        exact hb2.grown hg hb2.size (fun k hk => by injection hk with hk; rw [← hk]; exact HGR.out)))
      have hk64 : (k : Int) + 1 ≤ 9223372036854775807 := by omega
      clear hz hin
      go_upto_region 7 with fail
      go_region_with (go_at_call 55; (with_reducible refine (OUTC.out _ (Below.refl _ _).drew).mono ?_); rintro e w3 ⟨rfl, M', HB3, hbx, HW3, HO3, HS3, HA3⟩; have HBX3 := Lib.hid hbx; have G0 := hbx.c0; have G1 := hbx.c1; have G2 := hbx.f0; have G3 := hbx.f1; clear hbx)
      all_goals
        rw [setCell_id HBX3.out.c0, setCell_id HBX3.out.c1]
        go_wp2
        go_roundw
        case rel => exact ⟨k + 1, M', by omega, by go_num, HB3, HBX3, HW3, HO3, HS3, HA3⟩
        case measure => simp [intOf]; omega
    · have hkk : k = pl := by omega
      subst hkk
      have hplen := HL.out
      have HTK : Hid (l.take k = l) := Lib.hid (List.take_of_length_le (by rw [HPL.out]; exact Nat.le_refl _))
      have hyc := OS.out.ed.at_ p cp HCP.out
      rw [HTK.out] at hyc
      obtain ⟨y, hy, hyy⟩ : ∃ y, M[p]? = some y ∧ y.core.kids = cp.kids.filter (fun z => !l.contains z) := by
        unfold coreL at hyc
        rw [List.getElem?_map] at hyc
        cases hm : M[p]? with
        | none => rw [hm] at hyc; cases hyc
        | some y => rw [hm] at hyc; exact ⟨y, rfl, congrArg Core.kids (Option.some.inj hyc)⟩
      have HYK := Lib.hid hyy
      have HY := Lib.hid hy
      have hy6 := (WR.out.at_ hy).1.c6
      have KR := Lib.hid ((WR.out.at_ hy).2.kids)
      have hk64 := KR.out.len64
      have hkl : y.kN ≤ 60 := by
        have h1 := KR.out.hlen
        rw [HYK.out] at h1
        have h2 := List.length_filter_le (fun z => !l.contains z) cp.kids
        have h3 : cp.kids.length ≤ 60 := by
          obtain ⟨x0, hx0, e0⟩ : ∃ x ∈ L, x.core = cp := by
            have := List.mem_of_getElem? HCP.out
            unfold coreL at this
            obtain ⟨x, h1, h2⟩ := List.mem_map.1 this
            exact ⟨x, h1, h2⟩
          rw [← e0]
          exact HK60.out x0 hx0
        omega
      obtain ⟨fz, hfz⟩ : ∃ fz, findZ y.core.kids bz = fz := ⟨_, rfl⟩
      have HFZ := Lib.hid hfz
      have CF : Hid (Calls Try.prog 35 #[.slice y.kA y.kN y.kC, .int .i64 bz] wr fun e w' => e = .returned (.int .i64 fz) ∧ wr = w') := Lib.hid (by
        rw [← HFZ.out]
        exact reffind_any _ _ _ _ bz wr KR.out)
      have GB1 := GB
      clear hlt hy hyc hyy hfz hplen
      go_upto_if 54 with (go_at_call 35; (with_reducible refine CF.out.mono ?_); rintro e w3 ⟨rfl, rfl⟩)
      go_cut [13] (fun c wx => wx = wr ∧ ∃ at_ : Nat, at_ ≤ y.kN ∧ c = .int .i64 at_)
      case first =>
        by_cases hb : bz = -1
        · have e1 : (bz == -1) = true := beq_iff_eq.2 hb
          clear hb
          go_wp2
          go_meet
          exact ⟨rfl, y.kN, Nat.le_refl _, rfl⟩
        · have e1 : (bz == -1) = false := beq_eq_false_iff_ne.2 hb
          have hm := HB0.out.resolve_left hb
          rw [← HYK.out] at hm
          obtain ⟨j, h1, h2⟩ := find_at hm
          have hj := (List.getElem?_eq_some_iff.1 h2).1
          rw [KR.out.hlen] at hj
          have h3 : fz = j := HFZ.out.symm.trans h1
          clear hb hm h1 h2
          go_wp2
          go_meet
          exact ⟨rfl, j, by omega, by rw [h3]⟩
      case rest =>
        obtain ⟨rfl, at_, hat, rfl⟩ := hcut
        have g0 := fun o => (GB.out.keep (below_box wc o)).c0
        have y6 := fun o => (WR.out.keep (below_box wc o)).at_ HY.out
        have y6 := fun o => (y6 o).1.c6
        obtain ⟨i0, hi0, hq0, hq1, hq2⟩ := info_parts int_info
        have hkc : y.kN ≤ y.kC := KR.out.row.hcap
        have hac : (at_ : Int) ≤ y.kC := by omega
        have hmx : y.kC ≤ 9223372036854775807 := by have := KR.out.row.hmax; unfold maxLen at this; omega
        go_upto_region 11 with fail
        obtain ⟨A, hA⟩ : ∃ A, y.core.kids.take at_ = A := ⟨_, rfl⟩
        obtain ⟨B, hB⟩ : ∃ B, y.core.kids.drop at_ = B := ⟨_, rfl⟩
        have SA := Lib.hid (show SRow encZ 1 wc y.kA at_ y.kC A by rw [← hA]; exact KR.out.row.take hat)
        have SB := Lib.hid (show SRow encZ 1 wc (if y.kC = at_ then y.kA else Option.map (fun x => x.add at_) y.kA) (y.kN - at_) (y.kC - at_) B by rw [← hB]; exact KR.out.row.rest hat)
        have HAB : Hid (A ++ B = cp.kids.filter (fun z => !l.contains z)) := Lib.hid (by rw [← hA, ← hB, List.take_append_drop]; exact HYK.out)
        have hnil : y.kA = none → y.kC = 0 := KR.out.hnil
        have HNIL := Lib.hid hnil
        have HINA : Hid (∀ z ∈ A ++ l ++ B, In64 z) := Lib.hid (fun z hz => by
          have h1 : z ∈ l ∨ z ∈ y.core.kids := by
            simp only [List.mem_append, ← hA, ← hB] at hz
            rcases hz with (hz | hz) | hz
            · exact .inr (List.mem_of_mem_take hz)
            · exact .inl hz
            · exact .inr (List.mem_of_mem_drop hz)
          rcases h1 with h1 | h1
          · exact LR.out.inb z h1
          · exact KR.out.inb z h1)
        clear hA hB hnil
        go_upto_region 12 with (at_builtin; (refine wpList_append_rows rfl (.tmp 62) (.tmp 70) 26 rfl 3 i0 _ 1 8 Try.underlying26 hi0 hq0 hq1 hq2 rfl (by decide) wc.heap.size _ 0 [] A rfl (own_empty wc wc.heap.size _ (Nat.le_refl _)) _ _ _ rfl (SA.out.below (below_box _ _)) (fun x _ => encZ_one x) (by unfold maxLen; omega) (by omega) (by simp) HNIL.out ?_); intro v3 w3 hown3 hg3 hat3; have HB3 := Lib.hid (below_new (Below.refl _ _) hg3); have HO3 : Hid (w3.ownsRow wc.heap.size 3 1 v3 at_ (A.flatMap encZ)) := Lib.hid (by rw [Nat.zero_add] at hown3; exact hown3); clear hown3 hg3 hat3)
        go_upto_region 13 with (at_builtin; (refine wpList_append_rows rfl (.tmp 72) (.tmp 73) 26 rfl 3 i0 _ 1 8 Try.underlying26 hi0 hq0 hq1 hq2 rfl (by decide) wc.heap.size _ at_ A l rfl HO3.out _ _ _ rfl ((LR.out.below HBW.out).row.below HB3.out) (fun x _ => encZ_one x) (by unfold maxLen; omega) (by omega) HB3.out.size LR.out.hnil ?_); intro v4 w4 hown4 hg4 hat4; have HB4 := Lib.hid (HB3.out.grown hg4 HB3.out.size (fun j hj => (HO3.out.lt j hj).1)); have HO4 := Lib.hid hown4; clear hown4 hg4 hat4)
        have G4 := Lib.hid (GB.out.keep HB4.out)
        have W4 := Lib.hid (WR.out.keep HB4.out)
        clear g0 y6
        have g0 := G4.out.c0
        have g1 := G4.out.c1
        have y6 := (W4.out.at_ HY.out).1.c6
        have f6 := W4.out.free (p * 10 + 6)
        obtain ⟨N9, hN9⟩ : ∃ N9, at_ + k + (y.kN - at_) = N9 := ⟨_, rfl⟩
        have HLM : Hid ((A ++ l ++ B).length = N9) := Lib.hid (by
          rw [List.length_append, List.length_append, SA.out.hlen, SB.out.hlen, HPL.out]
          exact hN9)
        have hN9l : N9 ≤ 120 := by omega
        have HN9 := Lib.hid hN9
        go_cut [] (fun wx => True ∧ ∃ M2, Hid (Below wb.heap.size wb wx) ∧ Hid (Box2 wx g (.slice (some ⟨gr, 0, none⟩) len cap2) (.int .i64 m)) ∧ Hid (WRow wx gr len cap2 M2) ∧ Hid (Edit (coreL L) (coreL M2) (putP l p 0) (putK l p A B) (putD (coreL L) l cp.doc 0 [])) ∧ Hid (∀ x ∈ M2, NodeAway (w.heap.size + 1) x))
        case first =>
          go_region_law (refine step_append_rows rfl (.tmp 78) (.tmp 86) _ rfl 3 i0 _ 1 8 Try.underlying26 hi0 hq0 hq1 hq2 rfl (by decide) wc.heap.size _ (at_ + k) (A ++ l) B rfl HO4.out _ _ _ rfl (SB.out.below (HB4.out.trans (Below.refl _ _).drew)) (fun x _ => encZ_one x) (by unfold maxLen; omega) (by omega) HB4.out.size (fun e => by have := HNIL.out; revert e; split <;> (intro e; first | (have := this e; omega) | (cases hk9 : y.kA with | none => have := this hk9; omega | some z => rw [hk9] at e; cases e))) ?_; intro v5 w5 hown5 hg5 hat5; rw [HN9.out] at hown5; have HB5 := Lib.hid (HB4.out.drew.grown hg5 HB4.out.size (fun j hj => (HO4.out.lt j hj).1)); obtain ⟨a9, cap9, rfl, hr9, hlo9⟩ := IntRow.of_own_new (M := A ++ l ++ B) (n := N9) HLM.out hown5 HINA.out; have HR9 := Lib.hid hr9; have HLO9 := Lib.hid hlo9; have G5 := Lib.hid (GB.out.keep HB5.out); have W5 := Lib.hid (WR.out.keep HB5.out); have g0 := G5.out.c0; have g1 := G5.out.c1; have y6 := (W5.out.at_ HY.out).1.c6; have f6 := W5.out.free (p * 10 + 6); clear hown5 hg5 hat5 hr9 hlo9)
          all_goals go_wp2
          all_goals
            go_meet
            have hgw : gr < wc.heap.size := WR.out.lt
            exact ⟨trivial, M.set p (withK y a9 N9 cap9 (A ++ l ++ B)), Lib.hid ((HBW.out.trans (HB5.out.mono HBW.out.size)).setCell (p := ⟨gr, p * 10 + 6, none⟩) HGR.out _), Lib.hid (G5.out.grown (grown_set (grownBy_refl _ _) _ _) (fun e => HNE.out (by injection e with e; exact e.symm))), Lib.hid (W5.out.setK HY.out HR9.out (fun b off hb _ => by have := HLO9.out b off hb; omega)), Lib.hid ((OS.out.ed.setK HY.out a9 N9 cap9 (A ++ l ++ B)).congr (fun j c _ => by rw [HTK.out]; simp [putP]) (fun j c _ => by rw [HTK.out]; rfl) (fun j c _ => by simp [putD, mvL])), Lib.hid (fun z hz => by
              have hw1 : w.heap.size + 1 < wc.heap.size := Nat.lt_of_lt_of_le RB.out.lt HBW.out.size
              rcases List.mem_or_eq_of_mem_set hz with hz | rfl
              · exact HAW.out z hz
              · exact ⟨(HAW.out y (List.mem_of_getElem? HY.out)).1, fun b off hb _ => by have := HLO9.out b off hb; omega⟩)⟩
        case rest =>
          obtain ⟨-, M2, HBX, GX, WX, EX, AX⟩ := hcut
          clear GB HBW WR OS g0 g1 y6 f6 G4 W4 HAW
          have hp64 : In64 (p : Int) := ⟨by omega, by omega⟩
          go_wp2
          go_loopw [15] (fun i wr => ∃ (j : Nat) (M3 : List NodeD), j ≤ k ∧ i = .int .i64 j ∧ Hid (Below wb.heap.size wb wr) ∧ Hid (Box2 wr g (.slice (some ⟨gr, 0, none⟩) len cap2) (.int .i64 m)) ∧ Hid (WRow wr gr len cap2 M3) ∧ Hid (Edit (coreL L) (coreL M3) (putP l p j) (putK l p A B) (putD (coreL L) l cp.doc j [])) ∧ Hid (∀ x ∈ M3, NodeAway (w.heap.size + 1) x)) (fun i _ => k - (intOf i).toNat)
          case atStart => exact ⟨0, M2, Nat.zero_le _, rfl, HBX, GX, WX, EX, AX⟩
          case round =>
            clear HBX GX WX EX AX
            obtain ⟨j, M3, hj, rfl, HBW, GB, WR, EE, AA⟩ := hrel
            by_cases hlt : j < k
            · obtain ⟨bp, op, z, hpa, hbp, hz, hcz, -⟩ := LR.out.get hlt
              obtain ⟨q, rfl, hql⟩ := HLT.out z (List.mem_of_getElem? hz)
              subst hpa
              have HZ := Lib.hid hz
              have CZ := Lib.hid (stays hcz hbp)
              obtain ⟨xq, hxq⟩ : ∃ xq, M3[q]? = some xq := ⟨_, List.getElem?_eq_getElem (by rw [WR.out.row.hlen]; exact hql)⟩
              have HXQ := Lib.hid hxq
              have q5 := (WR.out.at_ hxq).1.c5
              have f5 := WR.out.free (q * 10 + 5)
              have g0 := GB.out.c0
              have cz := CZ.out _ HBW.out
              clear hz hxq hcz
              go_upto_region 17 with fail
              go_cut [] (fun wx => True ∧ Hid (Below wb.heap.size wb wx) ∧ Hid (Box2 wx g (.slice (some ⟨gr, 0, none⟩) len cap2) (.int .i64 m)) ∧ Hid (WRow wx gr len cap2 (M3.set q (withP xq p))))
              case first =>
                go_region
                all_goals go_wp2
                all_goals
                  go_meet
                  exact ⟨trivial, Lib.hid (HBW.out.setCell (p := ⟨gr, q * 10 + 5, none⟩) HGR.out _).drew, Lib.hid ((GB.out.grown (grown_set (grownBy_refl _ _) _ _) (fun e => HNE.out (by injection e with e; exact e.symm))).keep (Below.refl _ _).drew), Lib.hid ((WR.out.setP HXQ.out hp64).keep (Below.refl _ _).drew)⟩
              case rest =>
                obtain ⟨-, HBW, GB, WR⟩ := hcut
                have BXW := Lib.hid (BX.out.keep HBW.out)
                have z0 := BXW.out.c0
                have z1 := BXW.out.c1
                have cz := CZ.out _ HBW.out
                clear g0 q5 f5
                go_upto_region 18 with fail
                go_cut [16] (fun c wx => True ∧ ∃ (aa : Option Addr) (la ca : Nat), c = .slice aa la ca ∧ Hid (IntRow wx aa la ca (allI (coreL L) q)) ∧ Hid (∀ b off, aa = some ⟨b, off, none⟩ → b ≠ gr) ∧ Hid (Below wb.heap.size wb wx) ∧ Hid (Box2 wx g (.slice (some ⟨gr, 0, none⟩) len cap2) (.int .i64 m)) ∧ Hid (WRow wx gr len cap2 (M3.set q (withP xq p))))
                case first =>
                  have hgw : gr < wc.heap.size := WR.out.lt
                  go_region_with (go_at_call 41; (with_reducible refine (CA.out _ q (BXW.out.row.below (Below.refl _ _).drew) hql).mono ?_); rintro e w6 ⟨aa, la, ca, rfl, hra, hb, hlo⟩; have HRA := Lib.hid hra; have HB6 := Lib.hid hb; have HLO := Lib.hid hlo; clear hra hb hlo)
                  all_goals go_wp2
                  all_goals
                    go_meet
                    have hb7 := (Below.refl wc.heap.size wc).drew.trans (HB6.out.mono (Nat.le_refl _))
                    exact ⟨trivial, aa, la, ca, rfl, HRA, Lib.hid (fun b off e => by have := HLO.out b off e; have h9 : wc.heap.size ≤ b := this; omega), Lib.hid (HBW.out.trans (hb7.mono HBW.out.size)), Lib.hid (GB.out.keep hb7), Lib.hid (WR.out.keep hb7)⟩
                case rest =>
                  obtain ⟨-, aa, la, ca, rfl, AR, AN, HBW, GB, WR⟩ := hcut
                  clear z0 z1 cz BXW
                  have EE2 := Lib.hid ((EE.out.setP HXQ.out p).congr (P' := putP l p (j + 1)) (K' := putK l p A B) (D' := putD (coreL L) l cp.doc j ((allI (coreL L) q).take 0)) (fun i c _ => putP_next HZ.out i c) (fun _ _ _ => rfl) (fun _ _ _ => by rw [List.take_zero]))
                  have AA2 : Hid (∀ x ∈ M3.set q (withP xq p), NodeAway (w.heap.size + 1) x) := Lib.hid (fun z hz => by
                    rcases List.mem_or_eq_of_mem_set hz with hz | rfl
                    · exact AA.out z hz
                    · exact AA.out xq (List.mem_of_getElem? HXQ.out))
                  have hla64 := AR.out.len64
                  go_wp2
                  go_loopw [17] (fun i wr => ∃ (r : Nat) (M4 : List NodeD), r ≤ la ∧ i = .int .i64 r ∧ Hid (Below wb.heap.size wb wr) ∧ Hid (Box2 wr g (.slice (some ⟨gr, 0, none⟩) len cap2) (.int .i64 m)) ∧ Hid (WRow wr gr len cap2 M4) ∧ Hid (IntRow wr aa la ca (allI (coreL L) q)) ∧ Hid (Edit (coreL L) (coreL M4) (putP l p (j + 1)) (putK l p A B) (putD (coreL L) l cp.doc j ((allI (coreL L) q).take r))) ∧ Hid (∀ x ∈ M4, NodeAway (w.heap.size + 1) x)) (fun i _ => la - (intOf i).toNat)
                  case atStart => exact ⟨0, M3.set q (withP xq p), Nat.zero_le _, rfl, HBW, GB, WR, AR, EE2, AA2⟩
                  case round =>
                    clear HBW GB WR AR EE EE2 AA AA2
                    obtain ⟨r, M4, hr, rfl, HBW, GB, WR, AR, EE, AA⟩ := hrel
                    by_cases hlr : r < la
                    · obtain ⟨ba, oa, z, hpa, hba, hz, hcz, -⟩ := AR.out.get hlr
                      obtain ⟨t, rfl, htl⟩ := HAT.out q hql z (List.mem_of_getElem? hz)
                      subst hpa
                      have HZT := Lib.hid hz
                      obtain ⟨xt, hxt⟩ : ∃ xt, M4[t]? = some xt := ⟨_, List.getElem?_eq_getElem (by rw [WR.out.row.hlen]; exact htl)⟩
                      obtain ⟨yp, hyp⟩ : ∃ yp, M4[p]? = some yp := ⟨_, List.getElem?_eq_getElem (by rw [WR.out.row.hlen]; exact hp)⟩
                      have HXT := Lib.hid hxt
                      have hyd : yp.core.doc = cp.doc := by
                        have h1 := EE.out.at_ p cp HCP.out
                        rw [coreL_get hyp] at h1
                        have h2 : yp.core.doc = putD (coreL L) l cp.doc j ((allI (coreL L) q).take r) p cp := congrArg Core.doc (Option.some.inj h1)
                        rw [h2]
                        unfold putD
                        split <;> rfl
                      have p9 := (WR.out.at_ hyp).1.c9
                      have hd64 := (WR.out.at_ hyp).2.doc
                      rw [hyd] at p9 hd64
                      have HD64 := Lib.hid hd64
                      have t9 := (WR.out.at_ hxt).1.c9
                      have f9 := WR.out.free (t * 10 + 9)
                      have g0 := GB.out.c0
                      have hr64 : (r : Int) + 1 ≤ 9223372036854775807 := by omega
                      clear hz hxt hyp hyd hd64
                      go_upto_region 22 with fail
                      have EE3 := Lib.hid ((EE.out.setD HXT.out cp.doc).congr (P' := putP l p (j + 1)) (K' := putK l p A B) (D' := putD (coreL L) l cp.doc j ((allI (coreL L) q).take (r + 1))) (fun _ _ _ => rfl) (fun _ _ _ => rfl) (fun i c _ => putD_next HZT.out i c))
                      have AA3 : Hid (∀ x ∈ M4.set t (withD xt cp.doc), NodeAway (w.heap.size + 1) x) := Lib.hid (fun z hz => by
                        rcases List.mem_or_eq_of_mem_set hz with hz | rfl
                        · exact AA.out z hz
                        · exact AA.out xt (List.mem_of_getElem? HXT.out))
                      have HBW9 := Lib.hid (HBW.out.setCell (p := ⟨gr, t * 10 + 9, none⟩) HGR.out (.int .i64 cp.doc)).drew
                      have GB9 := Lib.hid ((GB.out.grown (grown_set (grownBy_refl _ _) (t * 10 + 9) (.int .i64 cp.doc)) (fun e => HNE.out (by injection e with e; exact e.symm))).keep (Below.refl _ _).drew)
                      have WR9 := Lib.hid ((WR.out.setD HXT.out HD64.out).keep (Below.refl _ _).drew)
                      have AR9 : Hid (IntRow (wr.setCell ⟨gr, t * 10 + 9, none⟩ (.int .i64 cp.doc)).drew (some ⟨ba, oa, none⟩) la ca (allI (coreL L) q)) := Lib.hid ⟨(AR.out.row.grown (grown_set (grownBy_refl _ _) _ _) (fun b off e _ h9 => AN.out b off e (by injection h9))).drew, AR.out.inb, AR.out.hnil⟩
                      clear EE AA
                      go_region
                      all_goals go_wp2
                      all_goals
                        go_roundw
                        case rel => exact ⟨r + 1, M4.set t (withD xt cp.doc), by omega, by go_num, HBW9, GB9, WR9, AR9, EE3, AA3⟩
                        case measure => simp [intOf]; omega
                    · have hrl : r = la := by omega
                      subst hrl
                      have HTA : Hid ((allI (coreL L) q).take r = allI (coreL L) q) := Lib.hid (List.take_of_length_le (by rw [AR.out.hlen]; exact Nat.le_refl _))
                      have EE3 := Lib.hid (EE.out.congr (P' := putP l p (j + 1)) (K' := putK l p A B) (D' := putD (coreL L) l cp.doc (j + 1) []) (fun _ _ _ => rfl) (fun _ _ _ => rfl) (fun i c _ => by rw [HTA.out]; exact putD_all HZ.out i c))
                      have hj64 : (j : Int) + 1 ≤ 9223372036854775807 := by omega
                      clear EE
                      go_wp2
                      go_roundw
                      case rel => exact ⟨j + 1, M4, by omega, by go_num, HBW, GB, WR, EE3, AA⟩
                      case measure => simp [intOf]; omega
            · have hjk : j = k := by omega
              subst hjk
              have RBW := Lib.hid (RB.out.keep HBW.out)
              have HRT : Hid (rightF m (coreL M3) = true) := Lib.hid (PO.out.rightG HAB.out (by rw [HPL.out]; exact EE.out))
              have HSM3 : Hid (smallF M3) := Lib.hid (small_put HS.out HK60.out EE.out (by rw [HLM.out]; exact hN9l))
              have hgrw : w.heap.size + 1 ≠ gr := by
                have h1 := RB.out.lt
                have h2 := HGR.out
                omega
              have W7 := Lib.hid ((WR.out.other (b := w.heap.size + 1) hgrw AA.out 0 (.slice (some ⟨gr, 0, none⟩) len cap2)).other (b := w.heap.size + 1) hgrw AA.out 1 (.int .i64 m))
              have g0 := GB.out.c0
              have g1 := GB.out.c1
              have e0 := RBW.out.c0
              have e1 := RBW.out.c1
              have e2 := RBW.out.f0
              have e3 := RBW.out.f1
              have hb7 := ((BX.out.below.trans (HBW.out.mono BX.out.below.size)).setCell (p := ⟨w.heap.size + 1, 0, none⟩) (by show w.heap.size ≤ w.heap.size + 1; omega) (.slice (some ⟨gr, 0, none⟩) len cap2)).setCell (p := ⟨w.heap.size + 1, 1, none⟩) (by show w.heap.size ≤ w.heap.size + 1; omega) (.int .i64 m)
              go_wp2
              refine bodyPost_ret (v := forV (some ⟨gr, 0, none⟩) len cap2 m) ?_ rfl ⟨gr, cap2, M3, rfl, W7.out.row, HRT.out, HSM3.out, hb7⟩
              simp [results, Try.results52, go_sem, e0, e1]
end Go.Proofs.Ytllfkiifkkcinaa
