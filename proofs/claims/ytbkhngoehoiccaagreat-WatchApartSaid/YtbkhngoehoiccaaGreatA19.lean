/- Texts joined in build order: ForestEdit NodeRowW ForestPut ValidAsk ValidMay ShadeRefuse WalkOrdMath WalkOrder ForestOrderFn ShadeAllFn ShadeElems ForestAheadFn Ref3Bare Ref3New RefOne RefName RefCustom Ref9Right Keep. -/
import Derived.Test.YtbkhngoehoiccaaGreatA18
import Derived.Test.YtbkhngoehoiccaaGreatA16
import Derived.Test.YtbkhngoehoiccaaGreatA08
import Derived.Test.YtbkhngoehoiccaaGreatChecked
import Derived.Test.YtbkhngoehoiccaaGreatA02
import Derived.WalkLawsBesides
import Derived.Lib.Hide
import Derived.Test.YtbkhngoehoiccaaGreatA03
import Derived.Lib.IndexBytes
import Derived.Test.YtbkhngoehoiccaaGreatA05
import Derived.Deep.CutBlock
import Derived.Test.YtbkhngoehoiccaaGreatA07
namespace Go.Proofs.YtbkhngoehoiccaaGreat
open Go.RowKit
def edC (c : Core) (p : Int) (ks : List Int) (d : Int) : Core := ⟨c.kind, c.name, c.is, c.data, c.attrs, p, ks, c.host, c.under, d⟩
structure Edit (F G : List Core) (P : Nat → Core → Int) (K : Nat → Core → List Int) (D : Nat → Core → Int) : Prop where
  len : G.length = F.length
  at_ : ∀ (j : Nat) c, F[j]? = some c → G[j]? = some (edC c (P j c) (K j c) (D j c))
section
variable {F G : List Core} {P : Nat → Core → Int} {K : Nat → Core → List Int} {D : Nat → Core → Int}
theorem Edit.back (h : Edit F G P K D) {j : Nat} {y : Core} (hy : G[j]? = some y) : ∃ c, F[j]? = some c ∧ y = edC c (P j c) (K j c) (D j c) := by
  have hl := (List.getElem?_eq_some_iff.1 hy).1
  rw [h.len] at hl
  have hc : F[j]? = some F[j] := List.getElem?_eq_getElem hl
  have := h.at_ j _ hc
  rw [hy] at this
  exact ⟨_, hc, Option.some.inj this⟩
theorem Edit.getC (h : Edit F G P K D) {z : Int} {c : Core} (hc : Go.Proofs.YtbkhngoehoiccaaGreat.getC F z = some c) : Go.Proofs.YtbkhngoehoiccaaGreat.getC G z = some (edC c (P z.toNat c) (K z.toNat c) (D z.toNat c)) := by
  obtain ⟨h0, _, h2⟩ := getC_some hc
  unfold Go.Proofs.YtbkhngoehoiccaaGreat.getC
  rw [if_pos h0]
  exact h.at_ _ _ h2
theorem Edit.kindK (h : Edit F G P K D) (z : Int) : Go.Proofs.YtbkhngoehoiccaaGreat.kindK G z = Go.Proofs.YtbkhngoehoiccaaGreat.kindK F z := by
  unfold Go.Proofs.YtbkhngoehoiccaaGreat.kindK
  cases hc : Go.Proofs.YtbkhngoehoiccaaGreat.getC F z with
  | some c => rw [h.getC hc]; rfl
  | none =>
    have : Go.Proofs.YtbkhngoehoiccaaGreat.getC G z = none := by
      unfold Go.Proofs.YtbkhngoehoiccaaGreat.getC at hc ⊢
      by_cases h0 : 0 ≤ z
      · rw [if_pos h0] at hc ⊢
        rw [List.getElem?_eq_none_iff] at hc ⊢
        rw [h.len]
        exact hc
      · rw [if_neg h0]
    rw [this]
theorem Edit.head (h : Edit F G P K D) (hd : headDoc F = true) : headDoc G = true := by
  rw [head_eq, isKd_iff] at hd ⊢
  obtain ⟨c, h1, h2⟩ := hd
  exact ⟨_, h.getC h1, h2⟩
theorem Edit.next (h : Edit F G P K D) {j : Nat} {c : Core} (hc : F[j]? = some c) : nextUp G (j : Int) = if P j c = -1 then c.host else P j c := by
  unfold nextUp
  rw [getC_nat, h.at_ j c hc]
  rfl
end
structure Out (m : Int) (F G : List Core) (n p : Nat) (x : Core) : Prop where
  right : rightF m F = true
  hx : F[n]? = some x
  hp : x.parent = (p : Int)
  ed : Edit F G (fun j c => if j = n then -1 else c.parent) (fun j c => if j = p then c.kids.filter (fun z => z != (n : Int)) else c.kids) (fun _ c => c.doc)
section
variable {m : Int} {F G : List Core} {n p : Nat} {x : Core}
theorem Out.kind (h : Out m F G n p x) : x.kind = 1 ∨ x.kind = 2 := right_held h.right h.hx (by rw [h.hp]; omega)
theorem Out.bare (h : Out m F G n p x) : x.host = -1 := (right_node h.right h.hx).free (by rcases h.kind with e | e <;> omega)
theorem Out.next (h : Out m F G n p x) {j : Nat} (hj : j < F.length) : nextUp G (j : Int) = if j = n then -1 else nextUp F j := by
  have hc : F[j]? = some F[j] := List.getElem?_eq_getElem hj
  rw [h.ed.next hc]
  by_cases e : j = n
  · subst e
    rw [if_pos rfl, if_pos rfl, if_pos rfl, ← h.bare]
    rw [h.hx] at hc
    rw [Option.some.inj hc]
  · rw [if_neg e, if_neg e, nextUp_at hc]
    rfl
theorem Out.node (h : Out m F G n p x) {j : Nat} {y : Core} (hy : G[j]? = some y) : NodeP G j y := by
  obtain ⟨c, hc, rfl⟩ := h.ed.back hy
  have N := right_node h.right hc
  refine ⟨N.kind, ?_, N.own, ?_, ?_, fun k hk => ?_, fun e => ?_, fun e => ?_, fun e => ?_, N.free, ?_, N.text⟩
  · obtain ⟨d, h1, h2⟩ := N.doc
    exact ⟨_, h.ed.getC h1, h2⟩
  · by_cases e : j = n
    · exact .inl (if_pos e)
    · rcases N.par with h1 | ⟨h1, q, h2, h3, h4⟩
      · exact .inl ((if_neg e).trans h1)
      · have g := h.ed.getC h2
        refine .inr ⟨h1, edC q (if c.parent.toNat = n then -1 else q.parent) (if c.parent.toNat = p then q.kids.filter (fun z => z != (n : Int)) else q.kids) q.doc, ?_, h3, ?_⟩
        · show getC G (if j = n then -1 else c.parent) = _
          rw [if_neg e]
          exact g
        show (j : Int) ∈ (if c.parent.toNat = p then q.kids.filter (fun z => z != (n : Int)) else q.kids)
        split
        · rw [List.mem_filter]
          exact ⟨h4, bne_iff_ne.2 (by omega)⟩
        · exact h4
  · show (if j = p then c.kids.filter (fun z => z != (n : Int)) else c.kids).Nodup
    split
    · exact N.once.filter _
    · exact N.once
  · have hk2 : k ∈ c.kids ∧ k ≠ (n : Int) := by
      have hk : k ∈ (if j = p then c.kids.filter (fun z => z != (n : Int)) else c.kids) := hk
      split at hk
      · rw [List.mem_filter] at hk
        exact ⟨hk.1, bne_iff_ne.1 hk.2⟩
      · rename_i hne
        refine ⟨hk, fun e => ?_⟩
        subst e
        obtain ⟨d, h1, _, h3, _⟩ := N.kids _ hk
        rw [getC_nat, h.hx] at h1
        rw [← Option.some.inj h1, h.hp] at h3
        exact hne (by omega)
    obtain ⟨d, h1, h2, h3, h4⟩ := N.kids k hk2.1
    obtain ⟨g1, _, _⟩ := getC_some h1
    refine ⟨_, h.ed.getC h1, h2, ?_, h4⟩
    show (if k.toNat = n then -1 else d.parent) = (j : Int)
    rw [if_neg (by have := hk2.2; omega)]
    exact h3
  · show (if j = p then c.kids.filter (fun z => z != (n : Int)) else c.kids) = []
    rw [N.leaf e]
    split <;> rfl
  · obtain ⟨h1, h2⟩ := N.root e
    have hsub : ∀ k ∈ (if j = p then c.kids.filter (fun z => z != (n : Int)) else c.kids), k ∈ c.kids := fun k hk => by
      split at hk
      · exact (List.mem_filter.1 hk).1
      · exact hk
    refine ⟨?_, fun k hk => by rw [h.ed.kindK]; exact h2 k (hsub k hk)⟩
    show (if j = p then c.kids.filter (fun z => z != (n : Int)) else c.kids).length ≤ 1
    split
    · exact Nat.le_trans (List.length_filter_le _ _) h1
    · exact h1
  · obtain ⟨d, h1, h2, h3, h4⟩ := N.host e
    exact ⟨_, h.ed.getC h1, h2, h3, h4⟩
  · rcases N.under with h1 | ⟨h1, u, h2, h3, h4⟩
    · exact .inl h1
    · exact .inr ⟨h1, _, h.ed.getC h2, h3, h4⟩
theorem Out.rightG (h : Out m F G n p x) : rightF m G = true := by
  obtain ⟨⟨h1, h2, h3, h4⟩, _, _⟩ := (rightF_iff m F).1 h.right
  refine right_of h1 h2 (by rw [h.ed.len]; exact h3) (h.ed.head h4) (fun i y hy => h.node hy) (rankF F) (fun i hi => ?_)
  rw [h.ed.len] at hi ⊢
  rw [h.next hi]
  by_cases e : i = n
  · exact .inl (if_pos e)
  · rw [if_neg e]
    exact rank_next h.right hi
theorem Out.parS (h : Out m F G n p x) {j : Nat} (hj : j < F.length) : Go.Proofs.YtbkhngoehoiccaaGreat.parS G j = if j = n then none else Go.Proofs.YtbkhngoehoiccaaGreat.parS F j := by
  unfold Go.Proofs.YtbkhngoehoiccaaGreat.parS
  rw [h.next hj]
  by_cases e : j = n
  · rw [if_pos e, if_pos rfl, if_pos e]
  · rw [if_neg e, if_neg e]
theorem Out.lt (h : Out m F G n p x) : n < F.length := (List.getElem?_eq_some_iff.1 h.hx).1
theorem Out.sub (h : Out m F G n p x) {a : Nat} : ∀ (k b : Nat), b < F.length → upN (Go.Proofs.YtbkhngoehoiccaaGreat.parS G) k b = some a → upN (Go.Proofs.YtbkhngoehoiccaaGreat.parS F) k b = some a
  | 0, b, _, hu => hu
  | k + 1, b, hb, hu => by
    unfold upN at hu ⊢
    rw [h.parS hb] at hu
    by_cases e : b = n
    · rw [if_pos e] at hu; cases hu
    · rw [if_neg e] at hu
      cases hq : Go.Proofs.YtbkhngoehoiccaaGreat.parS F b with
      | none => rw [hq] at hu; cases hu
      | some q =>
        rw [hq] at hu
        exact h.sub k q (parS_next h.right hb hq).2 hu
theorem Out.over (h : Out m F G n p x) {a b : Nat} (ha : a < F.length) (hb : b < F.length) : holdsT (Go.Proofs.YtbkhngoehoiccaaGreat.parS G) a b ↔ holdsT (Go.Proofs.YtbkhngoehoiccaaGreat.parS F) a b ∧ (holdsT (Go.Proofs.YtbkhngoehoiccaaGreat.parS F) n b → holdsT (Go.Proofs.YtbkhngoehoiccaaGreat.parS F) n a) := by
  have T := treeS h.right
  constructor
  · rintro ⟨k, hk⟩
    refine ⟨⟨k, h.sub k b hb hk⟩, fun hn => ?_⟩
    rcases holds_line ⟨k, h.sub k b hb hk⟩ hn with h1 | h1
    · -- a is over n; the way from b to a in G passes n only if a is n
      have key : ∀ (k b : Nat), b < F.length → upN (Go.Proofs.YtbkhngoehoiccaaGreat.parS G) k b = some a → holdsT (Go.Proofs.YtbkhngoehoiccaaGreat.parS F) n b → a = n := by
        intro k
        induction k with
        | zero =>
          intro b hb hu hn
          obtain rfl : b = a := Option.some.inj hu
          exact T.holds_anti ha h.lt h1 hn
        | succ k ih =>
          intro b hb hu hn
          unfold upN at hu
          rw [h.parS hb] at hu
          by_cases e : b = n
          · rw [if_pos e] at hu; cases hu
          · rw [if_neg e] at hu
            cases hq : Go.Proofs.YtbkhngoehoiccaaGreat.parS F b with
            | none => rw [hq] at hu; cases hu
            | some q =>
              rw [hq] at hu
              refine ih q (parS_next h.right hb hq).2 hu ?_
              rcases holds_up hn with e2 | ⟨q2, e2, e3⟩
              · exact absurd e2.symm e
              · rw [hq] at e2
                rw [Option.some.inj e2]
                exact e3
      rw [key k b hb hk hn]
      exact holds_refl n
    · exact h1
  · rintro ⟨⟨k, hk⟩, hn⟩
    have key : ∀ (k b : Nat), b < F.length → upN (Go.Proofs.YtbkhngoehoiccaaGreat.parS F) k b = some a → (holdsT (Go.Proofs.YtbkhngoehoiccaaGreat.parS F) n b → holdsT (Go.Proofs.YtbkhngoehoiccaaGreat.parS F) n a) → holdsT (Go.Proofs.YtbkhngoehoiccaaGreat.parS G) a b := by
      intro k
      induction k with
      | zero =>
        intro b hb hu _
        obtain rfl : b = a := Option.some.inj hu
        exact holds_refl b
      | succ k ih =>
        intro b hb hu hn
        unfold upN at hu
        cases hq : Go.Proofs.YtbkhngoehoiccaaGreat.parS F b with
        | none => rw [hq] at hu; cases hu
        | some q =>
          rw [hq] at hu
          have hql := (parS_next h.right hb hq).2
          by_cases e : b = n
          · subst e
            have h1 := hn (holds_refl b)
            have h2 : a = b := T.holds_anti ha hb (holds_trans ⟨k, hu⟩ (holds_par hq)) h1
            subst h2
            exact holds_refl a
          · have h1 := ih q hql hu (fun h2 => hn (holds_trans h2 (holds_par hq)))
            exact holds_trans h1 (holds_par (by rw [h.parS hb, if_neg e]; exact hq))
    exact key k b hb hk hn
end
end Go.Proofs.YtbkhngoehoiccaaGreat
namespace Go.Proofs.YtbkhngoehoiccaaGreat
open Go.RowKit
structure WRow (W : World) (g len cap : Nat) (M : List NodeD) : Prop where
  row : NodeRow W (some ⟨g, 0, none⟩) len cap M
  lt : g < W.heap.size
  free : ∀ o, W.frozen? ⟨g, o, none⟩ = false
  away : ∀ x ∈ M, NodeAway g x
theorem WRow.keep {W W2 : World} {g len cap : Nat} {M : List NodeD} (h : WRow W g len cap M) (hb : Below W.heap.size W W2) : WRow W2 g len cap M :=
  ⟨h.row.below hb, Nat.lt_of_lt_of_le h.lt hb.size, fun o => (hb.frozen (p := ⟨g, o, none⟩) h.lt).trans (h.free o), h.away⟩
theorem WRow.at_ {W : World} {g len cap : Nat} {M : List NodeD} (h : WRow W g len cap M) {k : Nat} {x : NodeD} (hk : M[k]? = some x) : NodeAt W g (k * 10) x ∧ NodeOk W x := by
  have hl : k < len := by have := (List.getElem?_eq_some_iff.1 hk).1; rwa [h.row.hlen] at this
  obtain ⟨b, off, y, hab, _, hy, hat, hok⟩ := h.row.get hl
  injection hab with hab
  injection hab with e1 e2
  subst e1 e2
  obtain rfl : x = y := Option.some.inj (hk.symm.trans hy)
  rw [Nat.zero_add] at hat
  exact ⟨hat, hok⟩
theorem WRow.of_own {W : World} {base n : Nat} {v : Value} {M : List NodeD} (hown : W.ownsRow base 58 10 v n (M.flatMap encN)) (hl : M.length = n) (hn : 0 < n) (hok : ∀ x ∈ M, NodeOk W x) (haw : ∀ g, v.ownBlock = some g → ∀ x ∈ M, NodeAway g x) :
    ∃ g cap, v = .slice (some ⟨g, 0, none⟩) n cap ∧ base ≤ g ∧ WRow W g n cap M := by
  obtain ⟨a, cap', he, hr, _⟩ := SRow.of_own (fun x _ => encN_len x) hl hown
  rcases hown.2 with ⟨_, h0⟩ | ⟨g, cap, cur, hv, hb, hg, _⟩
  · omega
  · rw [hv] at he
    injection he with h1 h2 h3
    subst h1; subst h3
    refine ⟨g, cap, hv, hb, ⟨hr, hok, fun h => by cases h⟩, (Array.getElem?_eq_some_iff.1 hg).1, fun o => row_free hg o, haw g (by rw [hv]; rfl)⟩
theorem WRow.set {W : World} {g len cap : Nat} {M : List NodeD} (h : WRow W g len cap M) {k j : Nat} {x y : NodeD} {u : Value} (hk : M[k]? = some x) (hj : j < 10) (he : encN y = (encN x).set j u) (hy : NodeOk W y) (hw : NodeAway g y) :
    WRow (W.setCell ⟨g, k * 10 + j, none⟩ u) g len cap (M.set k y) := by
  obtain ⟨hkl, _⟩ := List.getElem?_eq_some_iff.1 hk
  have hlen : k < len := by rw [h.row.hlen] at hkl; exact hkl
  have aw : ∀ z ∈ M.set k y, NodeAway g z := fun z hz => by
    rcases List.mem_or_eq_of_mem_set hz with hz | rfl
    · exact h.away z hz
    · exact hw
  have ok : ∀ z ∈ M.set k y, NodeOk W z := fun z hz => by
    rcases List.mem_or_eq_of_mem_set hz with hz | rfl
    · exact h.row.ok z hz
    · exact hy
  refine ⟨⟨⟨by rw [List.length_set]; exact h.row.hlen, h.row.row.hcap, h.row.row.hmax, fun z _ => encN_len z, .inr ⟨g, 0, rfl, by simpa [World.setCell] using h.lt, fun i z j' v hz hv => ?_⟩⟩, fun z hz => (ok z hz).setCell (aw z hz) u, fun e => by cases e⟩, by simpa [World.setCell] using h.lt, fun o => by rw [World.frozen?_setCell]; exact h.free o, aw⟩
  have hj' : j' < 10 := by
    have := (List.getElem?_eq_some_iff.1 hv).1
    rwa [encN_len] at this
  by_cases e : i = k
  · subst e
    rw [List.getElem?_set_self hkl] at hz
    obtain rfl : y = z := Option.some.inj hz
    rw [he] at hv
    by_cases ej : j = j'
    · subst ej
      rw [List.getElem?_set_self (by rw [encN_len]; exact hj)] at hv
      rw [← Option.some.inj hv, Nat.zero_add]
      have hc : ∃ v0, (encN x)[j]? = some v0 := ⟨_, List.getElem?_eq_getElem (by rw [encN_len]; exact hj)⟩
      obtain ⟨v0, hv0⟩ := hc
      rcases h.row.row.cells with h0 | ⟨b, off, ha, _, hcell⟩
      · omega
      · injection ha with ha
        injection ha with e1 e2
        subst e1 e2
        have := hcell i x j v0 hk hv0
        rw [Nat.zero_add] at this
        exact World.cell?_setCell_same _ _ _ this
    · rw [List.getElem?_set_ne ej] at hv
      rw [World.cell?_setCell_other _ _ _ _ (fun e' => by injection e' with _ e'; omega)]
      rcases h.row.row.cells with h0 | ⟨b, off, ha, _, hcell⟩
      · omega
      · injection ha with ha
        injection ha with e1 e2
        subst e1 e2
        exact hcell i x j' v hk hv
  · rw [List.getElem?_set_ne (fun e2 => e e2.symm)] at hz
    rw [World.cell?_setCell_other _ _ _ _ (fun e' => by injection e' with _ e'; have : k * 10 + j = 0 + i * 10 + j' := e'; omega)]
    rcases h.row.row.cells with h0 | ⟨b, off, ha, _, hcell⟩
    · omega
    · injection ha with ha
      injection ha with e1 e2
      subst e1 e2
      exact hcell i z j' v hz hv
theorem WRow.other {W : World} {g len cap : Nat} {M : List NodeD} (h : WRow W g len cap M) {b : Nat} (hb : b ≠ g) (ha : ∀ x ∈ M, NodeAway b x) (o : Nat) (u : Value) : WRow (W.setCell ⟨b, o, none⟩ u) g len cap M :=
  ⟨⟨h.row.row.keep (by simp [World.setCell]) (fun b' off he _ o' => World.cell?_setCell_other _ _ _ _ (fun e => by injection he with he; injection he with e1 _; injection e with e2 _; exact hb (e2.trans e1.symm))), fun x hx => (h.row.ok x hx).setCell (ha x hx) u, h.row.hnil⟩, by simpa [World.setCell] using h.lt, fun o' => by rw [World.frozen?_setCell]; exact h.free o', h.away⟩
def withK (x : NodeD) (a : Option Addr) (n c : Nat) (l : List Int) : NodeD := ⟨⟨x.core.kind, x.core.name, x.core.is, x.core.data, x.core.attrs, x.core.parent, l, x.core.host, x.core.under, x.core.doc⟩, x.aA, x.aN, x.aC, a, n, c⟩
def withP (x : NodeD) (p : Int) : NodeD := ⟨⟨x.core.kind, x.core.name, x.core.is, x.core.data, x.core.attrs, p, x.core.kids, x.core.host, x.core.under, x.core.doc⟩, x.aA, x.aN, x.aC, x.kA, x.kN, x.kC⟩
def withD (x : NodeD) (d : Int) : NodeD := ⟨⟨x.core.kind, x.core.name, x.core.is, x.core.data, x.core.attrs, x.core.parent, x.core.kids, x.core.host, x.core.under, d⟩, x.aA, x.aN, x.aC, x.kA, x.kN, x.kC⟩
theorem WRow.setK {W : World} {g len cap : Nat} {M : List NodeD} (h : WRow W g len cap M) {k : Nat} {x : NodeD} (hk : M[k]? = some x) {a : Option Addr} {n c : Nat} {l : List Int} (hl : IntRow W a n c l) (hw : ∀ b off, a = some ⟨b, off, none⟩ → 0 < n → b ≠ g) : WRow (W.setCell ⟨g, k * 10 + 6, none⟩ (.slice a n c)) g len cap (M.set k (withK x a n c l)) := by
  obtain ⟨_, hok⟩ := h.at_ hk
  have ha := h.away x (List.mem_of_getElem? hk)
  exact h.set hk (by omega) rfl ⟨hok.attrs, hl, hok.name, hok.is, hok.data, hok.kind, hok.parent, hok.host, hok.under, hok.doc⟩ ⟨ha.1, hw⟩
theorem WRow.setP {W : World} {g len cap : Nat} {M : List NodeD} (h : WRow W g len cap M) {k : Nat} {x : NodeD} (hk : M[k]? = some x) {p : Int} (hp : In64 p) : WRow (W.setCell ⟨g, k * 10 + 5, none⟩ (.int .i64 p)) g len cap (M.set k (withP x p)) := by
  obtain ⟨_, hok⟩ := h.at_ hk
  have ha := h.away x (List.mem_of_getElem? hk)
  exact h.set hk (by omega) rfl ⟨hok.attrs, hok.kids, hok.name, hok.is, hok.data, hok.kind, hp, hok.host, hok.under, hok.doc⟩ ha
end Go.Proofs.YtbkhngoehoiccaaGreat
namespace Go.Proofs.YtbkhngoehoiccaaGreat
open Go.RowKit
structure PutIn (m : Int) (F G : List Core) (l : List Int) (p : Nat) (cp : Core) (A B : List Int) (mv : Nat → Bool) : Prop where
  right : rightF m F = true
  hp : F[p]? = some cp
  kp : cp.kind ≠ 2
  once : l.Nodup
  ls : ∀ z ∈ l, ∃ (q : Nat) (c : Core), z = q ∧ F[q]? = some c ∧ (c.kind = 1 ∨ c.kind = 2)
  over : ∀ q : Nat, (q : Int) ∈ l → ¬ holdsT (parS F) q p
  ab : A ++ B = cp.kids.filter (fun z => !l.contains z)
  root : cp.kind = 0 → (A ++ l ++ B).length ≤ 1 ∧ ∀ k ∈ A ++ l ++ B, kindK F k = 1
  hmv : ∀ j, j < F.length → (mv j = true ↔ ∃ q : Nat, (q : Int) ∈ l ∧ holdsT (parS F) q j)
  ed : Edit F G (fun j c => if l.contains (j : Int) then (p : Int) else c.parent) (fun j c => if j = p then A ++ l ++ B else c.kids.filter (fun z => !l.contains z)) (fun j c => if mv j then cp.doc else c.doc)
section
variable {m : Int} {F G : List Core} {l : List Int} {p : Nat} {cp : Core} {A B : List Int} {mv : Nat → Bool}
theorem parS_parent {c : Core} {j q : Nat} (hc : F[j]? = some c) (h : c.parent = (q : Int)) : parS F j = some q := parS_some (by rw [nextUp_at hc]; show (if c.parent = -1 then c.host else c.parent) = (q : Int); rw [if_neg (by omega), h])
theorem parS_host {c : Core} {j q : Nat} (hc : F[j]? = some c) (hp : c.parent = -1) (h : c.host = (q : Int)) : parS F j = some q := parS_some (by rw [nextUp_at hc]; show (if c.parent = -1 then c.host else c.parent) = (q : Int); rw [if_pos hp, h])
theorem PutIn.lt (h : PutIn m F G l p cp A B mv) : p < F.length := (List.getElem?_eq_some_iff.1 h.hp).1
theorem PutIn.mvp (h : PutIn m F G l p cp A B mv) : mv p = false := by
  cases hq : mv p with
  | false => rfl
  | true =>
    obtain ⟨q, h1, h2⟩ := (h.hmv p h.lt).1 hq
    exact absurd h2 (h.over q h1)
theorem PutIn.mv_up (h : PutIn m F G l p cp A B mv) {j q : Nat} (hj : j < F.length) (hq : parS F j = some q) (hjl : (j : Int) ∉ l) : mv j = mv q := by
  have hql := (parS_next h.right hj hq).2
  rw [Bool.eq_iff_iff, h.hmv j hj, h.hmv q hql]
  constructor
  · rintro ⟨r, h1, h2⟩
    rcases holds_up h2 with e | ⟨s, e1, e2⟩
    · exact absurd (e ▸ h1) hjl
    · rw [hq] at e1
      obtain rfl := Option.some.inj e1
      exact ⟨r, h1, e2⟩
  · rintro ⟨r, h1, h2⟩
    exact ⟨r, h1, holds_trans h2 (holds_par hq)⟩
theorem PutIn.mem_k (h : PutIn m F G l p cp A B mv) {k : Int} : k ∈ A ++ l ++ B ↔ k ∈ l ∨ (k ∈ cp.kids ∧ k ∉ l) := by
  have e : k ∈ A ++ B ↔ k ∈ cp.kids ∧ k ∉ l := by
    rw [h.ab, List.mem_filter]
    simp
  rw [List.mem_append] at e
  rw [List.mem_append, List.mem_append, ← e]
  constructor
  · rintro ((h1 | h1) | h1)
    · exact .inr (.inl h1)
    · exact .inl h1
    · exact .inr (.inr h1)
  · rintro (h1 | h1 | h1)
    · exact .inl (.inr h1)
    · exact .inl (.inl h1)
    · exact .inr h1
theorem PutIn.once_k (h : PutIn m F G l p cp A B mv) : (A ++ l ++ B).Nodup := by
  have hab : (A ++ B).Nodup := by rw [h.ab]; exact (right_node h.right h.hp).once.filter _
  have hp : List.Perm (A ++ l ++ B) (l ++ (A ++ B)) := by
    rw [← List.append_assoc]
    exact List.Perm.append_right B List.perm_append_comm
  refine hp.nodup_iff.2 (List.nodup_append.2 ⟨h.once, hab, fun a ha b hb e => ?_⟩)
  rw [h.ab, List.mem_filter] at hb
  subst e
  simp at hb
  exact hb.2 ha
theorem PutIn.moved (h : PutIn m F G l p cp A B mv) {q : Nat} {c : Core} (hc : F[q]? = some c) (hq : (q : Int) ∈ l) : mv q = true := (h.hmv q (List.getElem?_eq_some_iff.1 hc).1).2 ⟨q, hq, holds_refl q⟩
theorem PutIn.node (h : PutIn m F G l p cp A B mv) {j : Nat} {y : Core} (hy : G[j]? = some y) : NodeP G j y := by
  obtain ⟨c, hc, rfl⟩ := h.ed.back hy
  have hjl := (List.getElem?_eq_some_iff.1 hc).1
  have N := right_node h.right hc
  have gp : ∃ z, getC G (p : Int) = some z ∧ z.kind = cp.kind ∧ z.kids = A ++ l ++ B := ⟨_, h.ed.getC (z := (p : Int)) (by rw [getC_nat]; exact h.hp), rfl, by show (if (p : Int).toNat = p then A ++ l ++ B else _) = _; rw [if_pos (by omega)]⟩
  have nokind : c.kind = 0 ∨ c.kind = 3 ∨ c.kind = 4 → (j : Int) ∉ l := fun hk hm => by
    obtain ⟨q, c2, h1, h2, h3⟩ := h.ls _ hm
    obtain rfl : q = j := by omega
    rw [hc] at h2
    obtain rfl := Option.some.inj h2
    omega
  refine ⟨N.kind, ?_, fun e => ?_, ?_, ?_, fun k hk => ?_, fun e => ?_, fun e => ?_, fun e => ?_, N.free, ?_, N.text⟩
  · show ∃ d, getC G (if mv j then cp.doc else c.doc) = some d ∧ d.kind = 0
    split
    · obtain ⟨d, h1, h2⟩ := (right_node h.right h.hp).doc
      exact ⟨_, h.ed.getC h1, h2⟩
    · obtain ⟨d, h1, h2⟩ := N.doc
      exact ⟨_, h.ed.getC h1, h2⟩
  · show (if mv j then cp.doc else c.doc) = (j : Int)
    have hnm : mv j = false := by
      cases hq : mv j with
      | false => rfl
      | true =>
        obtain ⟨q, h1, h2⟩ := (h.hmv j hjl).1 hq
        rcases holds_up h2 with e1 | ⟨s, e1, _⟩
        · subst e1
          exact absurd h1 (nokind (.inl e))
        · have hn := (parS_next h.right hjl e1).1
          rw [nextUp_at hc] at hn
          have hn2 : (if c.parent = -1 then c.host else c.parent) = (s : Int) := hn
          have hpar : c.parent = -1 := by
            rcases N.par with h3 | ⟨h3, _⟩
            · exact h3
            · have e : c.kind = 0 := e
              omega
          rw [if_pos hpar, N.free (by have e : c.kind = 0 := e; omega)] at hn2
          omega
    rw [hnm]
    exact N.own e
  · by_cases hm : (j : Int) ∈ l
    · obtain ⟨q, c2, h1, h2, h3⟩ := h.ls _ hm
      obtain rfl : q = j := by omega
      rw [hc] at h2
      obtain rfl := Option.some.inj h2
      obtain ⟨z, z1, z2, z3⟩ := gp
      refine .inr ⟨h3, z, ?_, by rw [z2]; exact h.kp, by rw [z3]; exact h.mem_k.2 (.inl hm)⟩
      show getC G (if l.contains (q : Int) then (p : Int) else c.parent) = _
      rw [if_pos (by simpa using hm)]
      exact z1
    · rcases N.par with h1 | ⟨h1, q, h2, h3, h4⟩
      · refine .inl ?_
        show (if l.contains (j : Int) then (p : Int) else c.parent) = -1
        rw [if_neg (by simpa using hm)]
        exact h1
      · have g := h.ed.getC h2
        refine .inr ⟨h1, edC q (if l.contains ((c.parent.toNat : Nat) : Int) then (p : Int) else q.parent) (if c.parent.toNat = p then A ++ l ++ B else q.kids.filter (fun z => !l.contains z)) (if mv c.parent.toNat then cp.doc else q.doc), ?_, h3, ?_⟩
        · show getC G (if l.contains (j : Int) then (p : Int) else c.parent) = _
          rw [if_neg (by simpa using hm)]
          exact g
        · show (j : Int) ∈ (if c.parent.toNat = p then A ++ l ++ B else q.kids.filter (fun z => !l.contains z))
          split
          · next hpp =>
            have hq : q = cp := by
              obtain ⟨_, _, h5⟩ := getC_some h2
              rw [hpp, h.hp] at h5
              exact (Option.some.inj h5).symm
            exact h.mem_k.2 (.inr ⟨hq ▸ h4, hm⟩)
          · rw [List.mem_filter]
            exact ⟨h4, by simpa using hm⟩
  · show (if j = p then A ++ l ++ B else c.kids.filter (fun z => !l.contains z)).Nodup
    split
    · exact h.once_k
    · exact N.once.filter _
  · have hk2 : k ∈ (if j = p then A ++ l ++ B else c.kids.filter (fun z => !l.contains z)) := hk
    show ∃ c', getC G k = some c' ∧ (c'.kind = 1 ∨ c'.kind = 2) ∧ c'.parent = (j : Int) ∧ c'.doc = (if mv j then cp.doc else c.doc)
    have old : k ∈ c.kids → k ∉ l → ∃ c', getC G k = some c' ∧ (c'.kind = 1 ∨ c'.kind = 2) ∧ c'.parent = (j : Int) ∧ c'.doc = (if mv j then cp.doc else c.doc) := fun h1 h2 => by
      obtain ⟨d, h3, h4, h5, h6⟩ := N.kids k h1
      obtain ⟨g0, g1, g2⟩ := getC_some h3
      have hkn : ((k.toNat : Nat) : Int) = k := by omega
      refine ⟨_, h.ed.getC h3, h4, ?_, ?_⟩
      · show (if l.contains ((k.toNat : Nat) : Int) then (p : Int) else d.parent) = (j : Int)
        rw [hkn, if_neg (by simpa using h2)]
        exact h5
      · show (if mv k.toNat then cp.doc else d.doc) = _
        rw [h.mv_up (List.getElem?_eq_some_iff.1 g2).1 (parS_parent g2 h5) (by rw [hkn]; exact h2), h6]
    by_cases e : j = p
    · subst e
      rw [if_pos rfl] at hk2
      have hcc : c = cp := by have := h.hp; rw [hc] at this; exact Option.some.inj this
      subst hcc
      rcases h.mem_k.1 hk2 with h1 | ⟨h1, h2⟩
      · obtain ⟨q, c2, rfl, h2, h3⟩ := h.ls _ h1
        refine ⟨_, h.ed.getC (z := (q : Int)) (by rw [getC_nat]; exact h2), h3, ?_, ?_⟩
        · show (if l.contains (((q : Int).toNat : Nat) : Int) then (j : Int) else c2.parent) = (j : Int)
          rw [show (((q : Int).toNat : Nat) : Int) = q by omega, if_pos (by simpa using h1)]
        · show (if mv (q : Int).toNat then c.doc else c2.doc) = _
          rw [show (q : Int).toNat = q by omega, h.moved h2 h1, h.mvp]
          rfl
      · exact old h1 h2
    · rw [if_neg e, List.mem_filter] at hk2
      exact old hk2.1 (by simpa using hk2.2)
  · show (if j = p then A ++ l ++ B else c.kids.filter (fun z => !l.contains z)) = []
    rw [if_neg (fun e2 => by
      subst e2
      have hcc : c = cp := by have := h.hp; rw [hc] at this; exact Option.some.inj this
      exact h.kp (hcc ▸ e)), N.leaf e]
    rfl
  · show (if j = p then A ++ l ++ B else c.kids.filter (fun z => !l.contains z)).length ≤ 1 ∧ ∀ k ∈ (if j = p then A ++ l ++ B else c.kids.filter (fun z => !l.contains z)), kindK G k = 1
    split
    · next e2 =>
      subst e2
      have hcc : c = cp := by have := h.hp; rw [hc] at this; exact Option.some.inj this
      obtain ⟨h1, h2⟩ := h.root (hcc ▸ e)
      exact ⟨h1, fun k hk => by rw [h.ed.kindK]; exact h2 k hk⟩
    · obtain ⟨h1, h2⟩ := N.root e
      exact ⟨Nat.le_trans (List.length_filter_le _ _) h1, fun k hk => by rw [h.ed.kindK]; exact h2 k (List.mem_filter.1 hk).1⟩
  · obtain ⟨d, h1, h2, h3, h4⟩ := N.host e
    obtain ⟨g0, g1, g2⟩ := getC_some h1
    refine ⟨_, h.ed.getC h1, h2, h3, ?_⟩
    show (if mv c.host.toNat then cp.doc else d.doc) = (if mv j then cp.doc else c.doc)
    have e4 : c.kind = 4 := e
    have hpar : c.parent = -1 := by
      rcases N.par with h5 | ⟨h5, _⟩
      · exact h5
      · omega
    rw [h.mv_up hjl (parS_host hc hpar (show c.host = ((c.host.toNat : Nat) : Int) by omega)) (nokind (.inr (.inr e4))), h4]
  · rcases N.under with h1 | ⟨h1, u, h2, h3, h4⟩
    · exact .inl h1
    · exact .inr ⟨h1, _, h.ed.getC h2, h3, h4⟩
theorem PutIn.next (h : PutIn m F G l p cp A B mv) {j : Nat} (hj : j < F.length) : nextUp G (j : Int) = if (j : Int) ∈ l then (p : Int) else nextUp F j := by
  have hc : F[j]? = some F[j] := List.getElem?_eq_getElem hj
  rw [h.ed.next hc]
  by_cases e : (j : Int) ∈ l
  · have e2 : l.contains (j : Int) = true := by simpa using e
    rw [if_pos e]
    simp only [e2, if_true]
    rw [if_neg (by omega)]
  · have e2 : l.contains (j : Int) = false := by simpa using e
    rw [if_neg e, nextUp_at hc]
    simp only [e2, Bool.false_eq_true, if_false]
    rfl
theorem PutIn.rightG (h : PutIn m F G l p cp A B mv) : rightF m G = true := by
  obtain ⟨⟨h1, h2, h3, h4⟩, _, _⟩ := (rightF_iff m F).1 h.right
  refine right_of h1 h2 (by rw [h.ed.len]; exact h3) (h.ed.head h4) (fun i y hy => h.node hy) (fun j => rankF F j + if mv j then rankF F p + 1 else 0) (fun i hi => ?_)
  rw [h.ed.len] at hi ⊢
  have hc : F[i]? = some F[i] := List.getElem?_eq_getElem hi
  rw [h.next hi]
  by_cases e : (i : Int) ∈ l
  · rw [if_pos e]
    refine .inr ⟨p, rfl, h.lt, ?_⟩
    rw [h.mvp, h.moved hc e]
    show rankF F p + 0 < rankF F i + (rankF F p + 1)
    omega
  · rw [if_neg e]
    rcases rank_next h.right hi with e1 | ⟨q, e1, e2, e3⟩
    · exact .inl e1
    · refine .inr ⟨q, e1, e2, ?_⟩
      rw [h.mv_up hi (parS_some e1) e]
      omega
end
end Go.Proofs.YtbkhngoehoiccaaGreat
namespace Go.Proofs.YtbkhngoehoiccaaGreat
open Go.RowKit
theorem inF_nat {F : List Core} {n : Int} (h : inF F n = true) : ∃ k : Nat, n = k ∧ k < F.length := by
  unfold inF at h
  rw [Bool.and_eq_true, decide_eq_true_eq, decide_eq_true_eq] at h
  exact ⟨n.toNat, by omega, by omega⟩
end Go.Proofs.YtbkhngoehoiccaaGreat
namespace Go.Proofs.YtbkhngoehoiccaaGreat
open Go.RowKit
end Go.Proofs.YtbkhngoehoiccaaGreat
namespace Go.Proofs.YtbkhngoehoiccaaGreat
open Go.RowKit
end Go.Proofs.YtbkhngoehoiccaaGreat
namespace Go.Proofs.YtbkhngoehoiccaaGreat
open Go.RowKit Go.Shelf
def ordI (F : List Core) (z : Int) : List Int := (ordF F z.toNat).map Int.ofNat
structure Going (F : List Core) (n : Nat) (out P : List Int) : Prop where
  eq : out ++ P.reverse.flatMap (ordI F) = ordI F (n : Int)
  inF : ∀ z ∈ P, 0 ≤ z ∧ z < (F.length : Int)
theorem Going.start {F : List Core} {n : Nat} (h : n < F.length) : Going F n [] [(n : Int)] := ⟨by simp, fun z hz => by
  obtain rfl : z = (n : Int) := by simpa using hz
  omega⟩
theorem Going.step {m : Int} {F : List Core} (hr : rightF m F = true) {n : Nat} {out Q : List Int} {z : Int} {x : Core} (h : Going F n out (Q ++ [z])) (hx : F[z.toNat]? = some x) : Going F n (out ++ [z]) (Q ++ x.kids.reverse) := by
  have T := tree_of_right hr
  obtain ⟨hz0, hz1⟩ := h.inF z (by simp)
  have hzl : z.toNat < F.length := by omega
  have hk : kidsF F z.toNat = x.kids.map Int.toNat := by unfold kidsF; rw [hx]
  have kin : ∀ k ∈ x.kids, 0 ≤ k ∧ k < (F.length : Int) := fun k hkk => by
    have hm : k.toNat ∈ kidsF F z.toNat := by rw [hk]; exact List.mem_map.2 ⟨k, hkk, rfl⟩
    have h1 := T.kid_lt _ _ hm
    have h2 := (nodeOk_iff.1 (((rightF_iff m F).1 hr).2.1 _ x hx)).2.2.1 k hkk
    obtain ⟨c, hc, _⟩ := kidB_iff.1 (kidOk_iff.1 h2).2
    obtain ⟨e1, _, _⟩ := getC_some hc
    omega
  have hord : ordI F z = z :: x.kids.flatMap (ordI F) := by
    unfold ordI ordF
    have h1 := T.ord_more (F.length + 1) z.toNat hzl (by omega)
    have h2 : ordN (kidsF F) (F.length + 1 + 1) z.toNat = z.toNat :: (kidsF F z.toNat).flatMap (ordN (kidsF F) (F.length + 1)) := rfl
    rw [← h1, h2, hk, List.map_cons, List.flatMap_map, List.map_flatMap]
    have e0 : Int.ofNat z.toNat = z := by show ((z.toNat : Nat) : Int) = z; omega
    rw [e0]
  refine ⟨?_, fun y hy => ?_⟩
  · rw [← h.eq, List.reverse_append, List.reverse_append, List.reverse_reverse, List.flatMap_append, List.reverse_singleton, List.singleton_append, List.flatMap_cons, hord]
    simp
  · rcases List.mem_append.1 hy with hy | hy
    · exact h.inF y (by simp [hy])
    · exact kin y (by simpa using hy)
theorem Going.len {F : List Core} {n : Nat} {out P : List Int} (h : Going F n out P) : out.length + P.length ≤ (ordI F (n : Int)).length := by
  have h1 := congrArg List.length h.eq
  rw [List.length_append] at h1
  have h2 : ∀ l : List Int, l.length ≤ (l.flatMap (ordI F)).length := fun l => by
    induction l with
    | nil => simp
    | cons a r ih =>
      have : 0 < (ordI F a).length := by
        unfold ordI ordF
        obtain ⟨t, ht⟩ := ordN_head (kids := kidsF F) (F.length + 1) a.toNat
        rw [ht]
        simp
      rw [List.flatMap_cons, List.length_append, List.length_cons]
      omega
  have h3 := h2 P.reverse
  rw [List.length_reverse] at h3
  omega
def undL (x : Core) : List Int := if x.under = -1 then [] else [x.under]
structure GoingS (F : List Core) (n : Nat) (out P : List Int) : Prop where
  eq : out ++ P.reverse.flatMap (allI F) = allI F (n : Int)
  inF : ∀ z ∈ P, 0 ≤ z ∧ z < (F.length : Int)
theorem GoingS.start {F : List Core} {n : Nat} (h : n < F.length) : GoingS F n [] [(n : Int)] := ⟨by simp, fun z hz => by
  obtain rfl : z = (n : Int) := by simpa using hz
  omega⟩
theorem GoingS.step {m : Int} {F : List Core} (hr : rightF m F = true) {n : Nat} {out Q : List Int} {z : Int} {x : Core} (h : GoingS F n out (Q ++ [z])) (hx : F[z.toNat]? = some x) : GoingS F n (out ++ [z]) (Q ++ x.kids.reverse ++ undL x) := by
  have T := treeS hr
  obtain ⟨hz0, hz1⟩ := h.inF z (by simp)
  have hzl : z.toNat < F.length := by omega
  have kin : ∀ k ∈ x.kids, 0 ≤ k ∧ k < (F.length : Int) := fun k hkk => by
    have h2 := (nodeOk_iff.1 (((rightF_iff m F).1 hr).2.1 _ x hx)).2.2.1 k hkk
    obtain ⟨c, hc, _⟩ := kidB_iff.1 (kidOk_iff.1 h2).2
    obtain ⟨e1, e2, _⟩ := getC_some hc
    omega
  have hord : allI F z = z :: (undL x ++ x.kids.flatMap (allI F)).take 0 ++ ((if x.under = -1 then [] else allI F x.under) ++ x.kids.flatMap (allI F)) := by
    have := allI_open hr hx
    rw [show ((z.toNat : Nat) : Int) = z by omega] at this
    rw [this]
    simp
  refine ⟨?_, fun y hy => ?_⟩
  · rw [← h.eq, List.reverse_append, List.reverse_append, List.reverse_append, List.reverse_reverse, List.flatMap_append, List.flatMap_append, List.reverse_singleton, List.singleton_append, List.flatMap_cons, hord]
    unfold undL
    by_cases hu : x.under = -1
    · rw [if_pos hu, if_pos hu]
      simp
    · rw [if_neg hu, if_neg hu]
      simp
  · rcases List.mem_append.1 hy with hy | hy
    · rcases List.mem_append.1 hy with hy | hy
      · exact h.inF y (by simp [hy])
      · exact kin y (by simpa using hy)
    · unfold undL at hy
      by_cases hu : x.under = -1
      · rw [if_pos hu] at hy; cases hy
      · rw [if_neg hu] at hy
        obtain ⟨s, u, e1, e2, _⟩ := right_under hr hx hu
        have := (List.getElem?_eq_some_iff.1 e2).1
        obtain rfl : y = x.under := by simpa using hy
        omega
theorem GoingS.len {F : List Core} {n : Nat} {out P : List Int} (h : GoingS F n out P) : out.length + P.length ≤ (allI F (n : Int)).length := by
  have h1 := congrArg List.length h.eq
  rw [List.length_append] at h1
  have h2 : ∀ l : List Int, l.length ≤ (l.flatMap (allI F)).length := fun l => by
    induction l with
    | nil => simp
    | cons a r ih =>
      have : 0 < (allI F a).length := by
        unfold allI allF
        obtain ⟨t, ht⟩ := ordN_head (kids := kidsS F) (F.length + 1) a.toNat
        rw [ht]
        simp
      rw [List.flatMap_cons, List.length_append, List.length_cons]
      omega
  have h3 := h2 P.reverse
  rw [List.length_reverse] at h3
  omega
def ordB (sh : Bool) (F : List Core) (n : Int) : List Int := if sh then allI F n else ordI F n
def undB (sh : Bool) (x : Core) : List Int := if sh then undL x else []
def GoingB (sh : Bool) (F : List Core) (n : Nat) (out P : List Int) : Prop := if sh then GoingS F n out P else Going F n out P
section
variable {sh : Bool} {F : List Core} {n : Nat} {out P Q : List Int}
theorem GoingB.start (h : n < F.length) : GoingB sh F n [] [(n : Int)] := by
  cases sh
  · exact Going.start h
  · exact GoingS.start h
theorem GoingB.eq (h : GoingB sh F n out P) : out ++ P.reverse.flatMap (ordB sh F) = ordB sh F (n : Int) := by
  cases sh
  · exact Going.eq h
  · exact GoingS.eq h
theorem GoingB.inF (h : GoingB sh F n out P) : ∀ z ∈ P, 0 ≤ z ∧ z < (F.length : Int) := by
  cases sh
  · exact Going.inF h
  · exact GoingS.inF h
theorem GoingB.len (h : GoingB sh F n out P) : out.length + P.length ≤ (ordB sh F (n : Int)).length := by
  cases sh
  · exact Going.len h
  · exact GoingS.len h
theorem GoingB.step {m : Int} (hr : rightF m F = true) {z : Int} {x : Core} (h : GoingB sh F n out (Q ++ [z])) (hx : F[z.toNat]? = some x) : GoingB sh F n (out ++ [z]) (Q ++ x.kids.reverse ++ undB sh x) := by
  cases sh
  · have := Going.step hr h hx
    show Going F n (out ++ [z]) (Q ++ x.kids.reverse ++ [])
    rw [List.append_nil]
    exact this
  · exact GoingS.step hr h hx
end
end Go.Proofs.YtbkhngoehoiccaaGreat
namespace Go.Proofs.YtbkhngoehoiccaaGreat
open Go.RowKit Go.Shelf
attribute [local go_sem] Oper.semAt_some
end Go.Proofs.YtbkhngoehoiccaaGreat
namespace Go.Proofs.YtbkhngoehoiccaaGreat
open Go.RowKit Go.Shelf
theorem OwnPostI.new {w w' : World} {l : List Int} {e : Ending} (h : OwnPostI w l e w') (hin : ∀ z ∈ l, In64 z) : ∃ a len cap, e = .returned (.slice a len cap) ∧ IntRow w' a len cap l ∧ Below w.heap.size w w' ∧ ∀ b off, a = some ⟨b, off, none⟩ → w.heap.size ≤ b := by
  obtain ⟨v, he, ho, hb⟩ := h
  obtain ⟨a9, cap9, hv9, hr9, hlo9⟩ := IntRow.of_own_new (M := l) (n := l.length) rfl ho hin
  exact ⟨a9, l.length, cap9, by rw [he, hv9], hr9, hb, hlo9⟩
def OrdNew (w : World) (l : List Int) (e : Ending) (w' : World) : Prop := ∃ a len cap, e = .returned (.slice a len cap) ∧ IntRow w' a len cap l ∧ Below w.heap.size w w' ∧ ∀ b off, a = some ⟨b, off, none⟩ → w.heap.size ≤ b
theorem OrdNew.post {w w' : World} {l : List Int} {e : Ending} (h : OrdNew w l e w') : OrdPost w l e w' := by
  obtain ⟨a, len, cap, h1, h2, h3, _⟩ := h
  exact ⟨a, len, cap, h1, h2, h3⟩
end Go.Proofs.YtbkhngoehoiccaaGreat
namespace Go.Proofs.YtbkhngoehoiccaaGreat
open Go.RowKit Go.Shelf
end Go.Proofs.YtbkhngoehoiccaaGreat
namespace Go.Proofs.YtbkhngoehoiccaaGreat
open Go.RowKit
end Go.Proofs.YtbkhngoehoiccaaGreat
namespace Go.Proofs.YtbkhngoehoiccaaGreat
open Go.RowKit
end Go.Proofs.YtbkhngoehoiccaaGreat
namespace Go.Proofs.YtbkhngoehoiccaaGreat
open Go.RowKit
end Go.Proofs.YtbkhngoehoiccaaGreat
namespace Go.Proofs.YtbkhngoehoiccaaGreat
open Go.RowKit
end Go.Proofs.YtbkhngoehoiccaaGreat
namespace Go.Proofs.YtbkhngoehoiccaaGreat
open Go.RowKit
def oneGo (s : List UInt8) : List UInt8 → List UInt8 → Bool
  | cur, [] => cur == s
  | cur, c :: r => if c == 32 then (cur == s) || oneGo s [] r else oneGo s (cur ++ [c]) r
def oneL (s v : List UInt8) : Bool := oneGo s [] v
def OneAt (s v : List UInt8) (a i : Nat) : Prop := (a ≤ i ∧ i ≤ v.length ∧ oneGo s ((v.take i).drop a) (v.drop i) = oneL s v) ∨ (i = v.length + 1 ∧ oneL s v = false)
theorem OneAt.start (s v : List UInt8) : OneAt s v 0 0 := .inl ⟨Nat.le_refl _, Nat.zero_le _, by simp [oneL]⟩
theorem OneAt.last {s v : List UInt8} {a i : Nat} (h : OneAt s v a i) (hi : i = v.length) (he : ¬ (v.take i).drop a = s) (b : Nat) : OneAt s v b (i + 1) := by
  rcases h with ⟨h1, h2, h3⟩ | ⟨h1, _⟩
  · refine .inr ⟨by omega, ?_⟩
    rw [← h3]
    have : v.drop i = [] := by rw [hi]; simp
    rw [this]
    unfold oneGo
    simpa using he
  · omega
theorem OneAt.none {s v : List UInt8} {a i : Nat} (h : OneAt s v a i) (hi : ¬ i ≤ v.length) : oneL s v = false := by
  rcases h with ⟨h1, h2, h3⟩ | ⟨_, h⟩
  · omega
  · exact h
theorem OneAt.le {s v : List UInt8} {a i : Nat} (h : OneAt s v a i) (hi : i ≤ v.length) : a ≤ i := by
  rcases h with ⟨h1, _, _⟩ | ⟨h1, _⟩
  · exact h1
  · omega
end Go.Proofs.YtbkhngoehoiccaaGreat
namespace Go.Proofs.YtbkhngoehoiccaaGreat
open Go.RowKit
end Go.Proofs.YtbkhngoehoiccaaGreat
namespace Go.Proofs.YtbkhngoehoiccaaGreat
open Go.RowKit
end Go.Proofs.YtbkhngoehoiccaaGreat
namespace Go.Proofs.YtbkhngoehoiccaaGreat
open Go.RowKit
end Go.Proofs.YtbkhngoehoiccaaGreat
namespace Go.Proofs.YtbkhngoehoiccaaGreat
open Go.RowKit
theorem keep_one {V W X : World} {p : Addr} {v : Option Value} {R R' : Prop} (lp : p.block < V.heap.size) (hV : V.heap.size ≤ W.heap.size) (hb : Below W.heap.size W X) (hR : R → R') (h : W.cell? p = v ∧ R) : X.cell? p = v ∧ R' :=
  ⟨(hb.cell (Nat.lt_of_lt_of_le lp hV)).trans h.1, hR h.2⟩
theorem kept6 {a0 a1 a2 a3 a4 a5 : Prop} {V W : World} (h : a0 ∧ a1 ∧ a2 ∧ a3 ∧ a4 ∧ a5 ∧ Below V.heap.size V W) : Below V.heap.size V W := h.2.2.2.2.2.2
theorem keep6 {V W X : World} {p0 p1 p2 p3 p4 p5 : Addr} {v0 v1 v2 v3 v4 v5 : Option Value} (l : p0.block < V.heap.size ∧ p1.block < V.heap.size ∧ p2.block < V.heap.size ∧ p3.block < V.heap.size ∧ p4.block < V.heap.size ∧ p5.block < V.heap.size) (h : W.cell? p0 = v0 ∧ W.cell? p1 = v1 ∧ W.cell? p2 = v2 ∧ W.cell? p3 = v3 ∧ W.cell? p4 = v4 ∧ W.cell? p5 = v5 ∧ Below V.heap.size V W) (hb : Below W.heap.size W X) : X.cell? p0 = v0 ∧ X.cell? p1 = v1 ∧ X.cell? p2 = v2 ∧ X.cell? p3 = v3 ∧ X.cell? p4 = v4 ∧ X.cell? p5 = v5 ∧ Below V.heap.size V X := by
  have hs := (kept6 h).size
  exact keep_one (l.1) hs hb (keep_one (l.2.1) hs hb (keep_one (l.2.2.1) hs hb (keep_one (l.2.2.2.1) hs hb (keep_one (l.2.2.2.2.1) hs hb (keep_one (l.2.2.2.2.2) hs hb (fun h => h.trans (hb.mono h.size))))))) h
theorem kept8 {a0 a1 a2 a3 a4 a5 a6 a7 : Prop} {V W : World} (h : a0 ∧ a1 ∧ a2 ∧ a3 ∧ a4 ∧ a5 ∧ a6 ∧ a7 ∧ Below V.heap.size V W) : Below V.heap.size V W := h.2.2.2.2.2.2.2.2
theorem keep8 {V W X : World} {p0 p1 p2 p3 p4 p5 p6 p7 : Addr} {v0 v1 v2 v3 v4 v5 v6 v7 : Option Value} (l : p0.block < V.heap.size ∧ p1.block < V.heap.size ∧ p2.block < V.heap.size ∧ p3.block < V.heap.size ∧ p4.block < V.heap.size ∧ p5.block < V.heap.size ∧ p6.block < V.heap.size ∧ p7.block < V.heap.size) (h : W.cell? p0 = v0 ∧ W.cell? p1 = v1 ∧ W.cell? p2 = v2 ∧ W.cell? p3 = v3 ∧ W.cell? p4 = v4 ∧ W.cell? p5 = v5 ∧ W.cell? p6 = v6 ∧ W.cell? p7 = v7 ∧ Below V.heap.size V W) (hb : Below W.heap.size W X) : X.cell? p0 = v0 ∧ X.cell? p1 = v1 ∧ X.cell? p2 = v2 ∧ X.cell? p3 = v3 ∧ X.cell? p4 = v4 ∧ X.cell? p5 = v5 ∧ X.cell? p6 = v6 ∧ X.cell? p7 = v7 ∧ Below V.heap.size V X := by
  have hs := (kept8 h).size
  exact keep_one (l.1) hs hb (keep_one (l.2.1) hs hb (keep_one (l.2.2.1) hs hb (keep_one (l.2.2.2.1) hs hb (keep_one (l.2.2.2.2.1) hs hb (keep_one (l.2.2.2.2.2.1) hs hb (keep_one (l.2.2.2.2.2.2.1) hs hb (keep_one (l.2.2.2.2.2.2.2) hs hb (fun h => h.trans (hb.mono h.size))))))))) h
theorem kept28 {a0 a1 a2 a3 a4 a5 a6 a7 a8 a9 a10 a11 a12 a13 a14 a15 a16 a17 a18 a19 a20 a21 a22 a23 a24 a25 a26 a27 : Prop} {V W : World} (h : a0 ∧ a1 ∧ a2 ∧ a3 ∧ a4 ∧ a5 ∧ a6 ∧ a7 ∧ a8 ∧ a9 ∧ a10 ∧ a11 ∧ a12 ∧ a13 ∧ a14 ∧ a15 ∧ a16 ∧ a17 ∧ a18 ∧ a19 ∧ a20 ∧ a21 ∧ a22 ∧ a23 ∧ a24 ∧ a25 ∧ a26 ∧ a27 ∧ Below V.heap.size V W) : Below V.heap.size V W := h.2.2.2.2.2.2.2.2.2.2.2.2.2.2.2.2.2.2.2.2.2.2.2.2.2.2.2.2
theorem keep28 {V W X : World} {p0 p1 p2 p3 p4 p5 p6 p7 p8 p9 p10 p11 p12 p13 p14 p15 p16 p17 p18 p19 p20 p21 p22 p23 p24 p25 p26 p27 : Addr} {v0 v1 v2 v3 v4 v5 v6 v7 v8 v9 v10 v11 v12 v13 v14 v15 v16 v17 v18 v19 v20 v21 v22 v23 v24 v25 v26 v27 : Option Value} (l : p0.block < V.heap.size ∧ p1.block < V.heap.size ∧ p2.block < V.heap.size ∧ p3.block < V.heap.size ∧ p4.block < V.heap.size ∧ p5.block < V.heap.size ∧ p6.block < V.heap.size ∧ p7.block < V.heap.size ∧ p8.block < V.heap.size ∧ p9.block < V.heap.size ∧ p10.block < V.heap.size ∧ p11.block < V.heap.size ∧ p12.block < V.heap.size ∧ p13.block < V.heap.size ∧ p14.block < V.heap.size ∧ p15.block < V.heap.size ∧ p16.block < V.heap.size ∧ p17.block < V.heap.size ∧ p18.block < V.heap.size ∧ p19.block < V.heap.size ∧ p20.block < V.heap.size ∧ p21.block < V.heap.size ∧ p22.block < V.heap.size ∧ p23.block < V.heap.size ∧ p24.block < V.heap.size ∧ p25.block < V.heap.size ∧ p26.block < V.heap.size ∧ p27.block < V.heap.size) (h : W.cell? p0 = v0 ∧ W.cell? p1 = v1 ∧ W.cell? p2 = v2 ∧ W.cell? p3 = v3 ∧ W.cell? p4 = v4 ∧ W.cell? p5 = v5 ∧ W.cell? p6 = v6 ∧ W.cell? p7 = v7 ∧ W.cell? p8 = v8 ∧ W.cell? p9 = v9 ∧ W.cell? p10 = v10 ∧ W.cell? p11 = v11 ∧ W.cell? p12 = v12 ∧ W.cell? p13 = v13 ∧ W.cell? p14 = v14 ∧ W.cell? p15 = v15 ∧ W.cell? p16 = v16 ∧ W.cell? p17 = v17 ∧ W.cell? p18 = v18 ∧ W.cell? p19 = v19 ∧ W.cell? p20 = v20 ∧ W.cell? p21 = v21 ∧ W.cell? p22 = v22 ∧ W.cell? p23 = v23 ∧ W.cell? p24 = v24 ∧ W.cell? p25 = v25 ∧ W.cell? p26 = v26 ∧ W.cell? p27 = v27 ∧ Below V.heap.size V W) (hb : Below W.heap.size W X) : X.cell? p0 = v0 ∧ X.cell? p1 = v1 ∧ X.cell? p2 = v2 ∧ X.cell? p3 = v3 ∧ X.cell? p4 = v4 ∧ X.cell? p5 = v5 ∧ X.cell? p6 = v6 ∧ X.cell? p7 = v7 ∧ X.cell? p8 = v8 ∧ X.cell? p9 = v9 ∧ X.cell? p10 = v10 ∧ X.cell? p11 = v11 ∧ X.cell? p12 = v12 ∧ X.cell? p13 = v13 ∧ X.cell? p14 = v14 ∧ X.cell? p15 = v15 ∧ X.cell? p16 = v16 ∧ X.cell? p17 = v17 ∧ X.cell? p18 = v18 ∧ X.cell? p19 = v19 ∧ X.cell? p20 = v20 ∧ X.cell? p21 = v21 ∧ X.cell? p22 = v22 ∧ X.cell? p23 = v23 ∧ X.cell? p24 = v24 ∧ X.cell? p25 = v25 ∧ X.cell? p26 = v26 ∧ X.cell? p27 = v27 ∧ Below V.heap.size V X := by
  have hs := (kept28 h).size
  exact keep_one (l.1) hs hb (keep_one (l.2.1) hs hb (keep_one (l.2.2.1) hs hb (keep_one (l.2.2.2.1) hs hb (keep_one (l.2.2.2.2.1) hs hb (keep_one (l.2.2.2.2.2.1) hs hb (keep_one (l.2.2.2.2.2.2.1) hs hb (keep_one (l.2.2.2.2.2.2.2.1) hs hb (keep_one (l.2.2.2.2.2.2.2.2.1) hs hb (keep_one (l.2.2.2.2.2.2.2.2.2.1) hs hb (keep_one (l.2.2.2.2.2.2.2.2.2.2.1) hs hb (keep_one (l.2.2.2.2.2.2.2.2.2.2.2.1) hs hb (keep_one (l.2.2.2.2.2.2.2.2.2.2.2.2.1) hs hb (keep_one (l.2.2.2.2.2.2.2.2.2.2.2.2.2.1) hs hb (keep_one (l.2.2.2.2.2.2.2.2.2.2.2.2.2.2.1) hs hb (keep_one (l.2.2.2.2.2.2.2.2.2.2.2.2.2.2.2.1) hs hb (keep_one (l.2.2.2.2.2.2.2.2.2.2.2.2.2.2.2.2.1) hs hb (keep_one (l.2.2.2.2.2.2.2.2.2.2.2.2.2.2.2.2.2.1) hs hb (keep_one (l.2.2.2.2.2.2.2.2.2.2.2.2.2.2.2.2.2.2.1) hs hb (keep_one (l.2.2.2.2.2.2.2.2.2.2.2.2.2.2.2.2.2.2.2.1) hs hb (keep_one (l.2.2.2.2.2.2.2.2.2.2.2.2.2.2.2.2.2.2.2.2.1) hs hb (keep_one (l.2.2.2.2.2.2.2.2.2.2.2.2.2.2.2.2.2.2.2.2.2.1) hs hb (keep_one (l.2.2.2.2.2.2.2.2.2.2.2.2.2.2.2.2.2.2.2.2.2.2.1) hs hb (keep_one (l.2.2.2.2.2.2.2.2.2.2.2.2.2.2.2.2.2.2.2.2.2.2.2.1) hs hb (keep_one (l.2.2.2.2.2.2.2.2.2.2.2.2.2.2.2.2.2.2.2.2.2.2.2.2.1) hs hb (keep_one (l.2.2.2.2.2.2.2.2.2.2.2.2.2.2.2.2.2.2.2.2.2.2.2.2.2.1) hs hb (keep_one (l.2.2.2.2.2.2.2.2.2.2.2.2.2.2.2.2.2.2.2.2.2.2.2.2.2.2.1) hs hb (keep_one (l.2.2.2.2.2.2.2.2.2.2.2.2.2.2.2.2.2.2.2.2.2.2.2.2.2.2.2) hs hb (fun h => h.trans (hb.mono h.size))))))))))))))))))))))))))))) h
end Go.Proofs.YtbkhngoehoiccaaGreat
