/- Texts joined in build order: NodeRowW ValidAsk ValidMay ShadeRefuse WalkOrdMath WalkOrder ForestOrderFn ShadeAllFn ShadeElems ForestAheadFn Ref3Bare Ref3New CBox RefOne RefName RefCustom Ref9Right DeskStand. -/
import Derived.Test.YtbkhngoehoiccaaGreatF18
import Derived.Test.YtbkhngoehoiccaaGreatF16
import Derived.Test.YtbkhngoehoiccaaGreatF19
import Derived.Test.YtbkhngoehoiccaaGreatF13
import Derived.Test.YtbkhngoehoiccaaGreatF03
import Derived.Test.YtbkhngoehoiccaaGreatChecked
import Derived.Test.YtbkhngoehoiccaaGreatF01
import Derived.WalkLawsBesides
import Derived.Lib.Hide
import Derived.Lib.IndexBytes
import Derived.Test.YtbkhngoehoiccaaGreatF08
import Derived.Test.YtbkhngoehoiccaaGreatF11
import Derived.Deep.CutBlock
namespace Go.Proofs.YtbkhngoehoiccaaGreat
open Go.RowKit
structure WRow (W : World) (g len cap : Nat) (M : List NodeD) : Prop where
  row : NodeRow W (some ⟨g, 0, none⟩) len cap M
  lt : g < W.heap.size
  free : ∀ o, W.frozen? ⟨g, o, none⟩ = false
  away : ∀ x ∈ M, NodeAway g x
theorem WRow.keep {W W2 : World} {g len cap : Nat} {M : List NodeD} (h : WRow W g len cap M) (hb : Below W.heap.size W W2) : WRow W2 g len cap M :=
  ⟨h.row.below hb, Nat.lt_of_lt_of_le h.lt hb.size, fun o => (hb.frozen (p := ⟨g, o, none⟩) h.lt).trans (h.free o), h.away⟩
theorem WRow.at_ {W : World} {g len cap : Nat} {M : List NodeD} (h : WRow W g len cap M) {k : Nat} {x : NodeD} (hk : M[k]? = some x) : NodeAt W g (k * 10) x ∧ NodeOk W x := by
  have hl : k < len := by have := (List.getElem?_eq_some_iff.1 hk).1; rwa [h.row.hlen] at this
  obtain ⟨b, off, y, hab, _, hy, hat, hok⟩ := h.row.get hl
  injection hab with hab
  injection hab with e1 e2
  subst e1 e2
  obtain rfl : x = y := Option.some.inj (hk.symm.trans hy)
  rw [Nat.zero_add] at hat
  exact ⟨hat, hok⟩
theorem WRow.of_own {W : World} {base n : Nat} {v : Value} {M : List NodeD} (hown : W.ownsRow base 58 10 v n (M.flatMap encN)) (hl : M.length = n) (hn : 0 < n) (hok : ∀ x ∈ M, NodeOk W x) (haw : ∀ g, v.ownBlock = some g → ∀ x ∈ M, NodeAway g x) :
    ∃ g cap, v = .slice (some ⟨g, 0, none⟩) n cap ∧ base ≤ g ∧ WRow W g n cap M := by
  obtain ⟨a, cap', he, hr, _⟩ := SRow.of_own (fun x _ => encN_len x) hl hown
  rcases hown.2 with ⟨_, h0⟩ | ⟨g, cap, cur, hv, hb, hg, _⟩
  · omega
  · rw [hv] at he
    injection he with h1 h2 h3
    subst h1; subst h3
    refine ⟨g, cap, hv, hb, ⟨hr, hok, fun h => by cases h⟩, (Array.getElem?_eq_some_iff.1 hg).1, fun o => row_free hg o, haw g (by rw [hv]; rfl)⟩
theorem WRow.set {W : World} {g len cap : Nat} {M : List NodeD} (h : WRow W g len cap M) {k j : Nat} {x y : NodeD} {u : Value} (hk : M[k]? = some x) (hj : j < 10) (he : encN y = (encN x).set j u) (hy : NodeOk W y) (hw : NodeAway g y) :
    WRow (W.setCell ⟨g, k * 10 + j, none⟩ u) g len cap (M.set k y) := by
  obtain ⟨hkl, _⟩ := List.getElem?_eq_some_iff.1 hk
  have hlen : k < len := by rw [h.row.hlen] at hkl; exact hkl
  have aw : ∀ z ∈ M.set k y, NodeAway g z := fun z hz => by
    rcases List.mem_or_eq_of_mem_set hz with hz | rfl
    · exact h.away z hz
    · exact hw
  have ok : ∀ z ∈ M.set k y, NodeOk W z := fun z hz => by
    rcases List.mem_or_eq_of_mem_set hz with hz | rfl
    · exact h.row.ok z hz
    · exact hy
  refine ⟨⟨⟨by rw [List.length_set]; exact h.row.hlen, h.row.row.hcap, h.row.row.hmax, fun z _ => encN_len z, .inr ⟨g, 0, rfl, by simpa [World.setCell] using h.lt, fun i z j' v hz hv => ?_⟩⟩, fun z hz => (ok z hz).setCell (aw z hz) u, fun e => by cases e⟩, by simpa [World.setCell] using h.lt, fun o => by rw [World.frozen?_setCell]; exact h.free o, aw⟩
  have hj' : j' < 10 := by
    have := (List.getElem?_eq_some_iff.1 hv).1
    rwa [encN_len] at this
  by_cases e : i = k
  · subst e
    rw [List.getElem?_set_self hkl] at hz
    obtain rfl : y = z := Option.some.inj hz
    rw [he] at hv
    by_cases ej : j = j'
    · subst ej
      rw [List.getElem?_set_self (by rw [encN_len]; exact hj)] at hv
      rw [← Option.some.inj hv, Nat.zero_add]
      have hc : ∃ v0, (encN x)[j]? = some v0 := ⟨_, List.getElem?_eq_getElem (by rw [encN_len]; exact hj)⟩
      obtain ⟨v0, hv0⟩ := hc
      rcases h.row.row.cells with h0 | ⟨b, off, ha, _, hcell⟩
      · omega
      · injection ha with ha
        injection ha with e1 e2
        subst e1 e2
        have := hcell i x j v0 hk hv0
        rw [Nat.zero_add] at this
        exact World.cell?_setCell_same _ _ _ this
    · rw [List.getElem?_set_ne ej] at hv
      rw [World.cell?_setCell_other _ _ _ _ (fun e' => by injection e' with _ e'; omega)]
      rcases h.row.row.cells with h0 | ⟨b, off, ha, _, hcell⟩
      · omega
      · injection ha with ha
        injection ha with e1 e2
        subst e1 e2
        exact hcell i x j' v hk hv
  · rw [List.getElem?_set_ne (fun e2 => e e2.symm)] at hz
    rw [World.cell?_setCell_other _ _ _ _ (fun e' => by injection e' with _ e'; have : k * 10 + j = 0 + i * 10 + j' := e'; omega)]
    rcases h.row.row.cells with h0 | ⟨b, off, ha, _, hcell⟩
    · omega
    · injection ha with ha
      injection ha with e1 e2
      subst e1 e2
      exact hcell i z j' v hz hv
theorem WRow.other {W : World} {g len cap : Nat} {M : List NodeD} (h : WRow W g len cap M) {b : Nat} (hb : b ≠ g) (ha : ∀ x ∈ M, NodeAway b x) (o : Nat) (u : Value) : WRow (W.setCell ⟨b, o, none⟩ u) g len cap M :=
  ⟨⟨h.row.row.keep (by simp [World.setCell]) (fun b' off he _ o' => World.cell?_setCell_other _ _ _ _ (fun e => by injection he with he; injection he with e1 _; injection e with e2 _; exact hb (e2.trans e1.symm))), fun x hx => (h.row.ok x hx).setCell (ha x hx) u, h.row.hnil⟩, by simpa [World.setCell] using h.lt, fun o' => by rw [World.frozen?_setCell]; exact h.free o', h.away⟩
def withK (x : NodeD) (a : Option Addr) (n c : Nat) (l : List Int) : NodeD := ⟨⟨x.core.kind, x.core.name, x.core.is, x.core.data, x.core.attrs, x.core.parent, l, x.core.host, x.core.under, x.core.doc⟩, x.aA, x.aN, x.aC, a, n, c⟩
def withP (x : NodeD) (p : Int) : NodeD := ⟨⟨x.core.kind, x.core.name, x.core.is, x.core.data, x.core.attrs, p, x.core.kids, x.core.host, x.core.under, x.core.doc⟩, x.aA, x.aN, x.aC, x.kA, x.kN, x.kC⟩
def withD (x : NodeD) (d : Int) : NodeD := ⟨⟨x.core.kind, x.core.name, x.core.is, x.core.data, x.core.attrs, x.core.parent, x.core.kids, x.core.host, x.core.under, d⟩, x.aA, x.aN, x.aC, x.kA, x.kN, x.kC⟩
theorem WRow.setK {W : World} {g len cap : Nat} {M : List NodeD} (h : WRow W g len cap M) {k : Nat} {x : NodeD} (hk : M[k]? = some x) {a : Option Addr} {n c : Nat} {l : List Int} (hl : IntRow W a n c l) (hw : ∀ b off, a = some ⟨b, off, none⟩ → 0 < n → b ≠ g) : WRow (W.setCell ⟨g, k * 10 + 6, none⟩ (.slice a n c)) g len cap (M.set k (withK x a n c l)) := by
  obtain ⟨_, hok⟩ := h.at_ hk
  have ha := h.away x (List.mem_of_getElem? hk)
  exact h.set hk (by omega) rfl ⟨hok.attrs, hl, hok.name, hok.is, hok.data, hok.kind, hok.parent, hok.host, hok.under, hok.doc⟩ ⟨ha.1, hw⟩
theorem WRow.setP {W : World} {g len cap : Nat} {M : List NodeD} (h : WRow W g len cap M) {k : Nat} {x : NodeD} (hk : M[k]? = some x) {p : Int} (hp : In64 p) : WRow (W.setCell ⟨g, k * 10 + 5, none⟩ (.int .i64 p)) g len cap (M.set k (withP x p)) := by
  obtain ⟨_, hok⟩ := h.at_ hk
  have ha := h.away x (List.mem_of_getElem? hk)
  exact h.set hk (by omega) rfl ⟨hok.attrs, hok.kids, hok.name, hok.is, hok.data, hok.kind, hp, hok.host, hok.under, hok.doc⟩ ha
end Go.Proofs.YtbkhngoehoiccaaGreat
namespace Go.Proofs.YtbkhngoehoiccaaGreat
open Go.RowKit
theorem inF_nat {F : List Core} {n : Int} (h : inF F n = true) : ∃ k : Nat, n = k ∧ k < F.length := by
  unfold inF at h
  rw [Bool.and_eq_true, decide_eq_true_eq, decide_eq_true_eq] at h
  exact ⟨n.toNat, by omega, by omega⟩
end Go.Proofs.YtbkhngoehoiccaaGreat
namespace Go.Proofs.YtbkhngoehoiccaaGreat
open Go.RowKit
end Go.Proofs.YtbkhngoehoiccaaGreat
namespace Go.Proofs.YtbkhngoehoiccaaGreat
open Go.RowKit
end Go.Proofs.YtbkhngoehoiccaaGreat
namespace Go.Proofs.YtbkhngoehoiccaaGreat
open Go.RowKit Go.Shelf
def ordI (F : List Core) (z : Int) : List Int := (ordF F z.toNat).map Int.ofNat
structure Going (F : List Core) (n : Nat) (out P : List Int) : Prop where
  eq : out ++ P.reverse.flatMap (ordI F) = ordI F (n : Int)
  inF : ∀ z ∈ P, 0 ≤ z ∧ z < (F.length : Int)
theorem Going.start {F : List Core} {n : Nat} (h : n < F.length) : Going F n [] [(n : Int)] := ⟨by simp, fun z hz => by
  obtain rfl : z = (n : Int) := by simpa using hz
  omega⟩
theorem Going.step {m : Int} {F : List Core} (hr : rightF m F = true) {n : Nat} {out Q : List Int} {z : Int} {x : Core} (h : Going F n out (Q ++ [z])) (hx : F[z.toNat]? = some x) : Going F n (out ++ [z]) (Q ++ x.kids.reverse) := by
  have T := tree_of_right hr
  obtain ⟨hz0, hz1⟩ := h.inF z (by simp)
  have hzl : z.toNat < F.length := by omega
  have hk : kidsF F z.toNat = x.kids.map Int.toNat := by unfold kidsF; rw [hx]
  have kin : ∀ k ∈ x.kids, 0 ≤ k ∧ k < (F.length : Int) := fun k hkk => by
    have hm : k.toNat ∈ kidsF F z.toNat := by rw [hk]; exact List.mem_map.2 ⟨k, hkk, rfl⟩
    have h1 := T.kid_lt _ _ hm
    have h2 := (nodeOk_iff.1 (((rightF_iff m F).1 hr).2.1 _ x hx)).2.2.1 k hkk
    obtain ⟨c, hc, _⟩ := kidB_iff.1 (kidOk_iff.1 h2).2
    obtain ⟨e1, _, _⟩ := getC_some hc
    omega
  have hord : ordI F z = z :: x.kids.flatMap (ordI F) := by
    unfold ordI ordF
    have h1 := T.ord_more (F.length + 1) z.toNat hzl (by omega)
    have h2 : ordN (kidsF F) (F.length + 1 + 1) z.toNat = z.toNat :: (kidsF F z.toNat).flatMap (ordN (kidsF F) (F.length + 1)) := rfl
    rw [← h1, h2, hk, List.map_cons, List.flatMap_map, List.map_flatMap]
    have e0 : Int.ofNat z.toNat = z := by show ((z.toNat : Nat) : Int) = z; omega
    rw [e0]
  refine ⟨?_, fun y hy => ?_⟩
  · rw [← h.eq, List.reverse_append, List.reverse_append, List.reverse_reverse, List.flatMap_append, List.reverse_singleton, List.singleton_append, List.flatMap_cons, hord]
    simp
  · rcases List.mem_append.1 hy with hy | hy
    · exact h.inF y (by simp [hy])
    · exact kin y (by simpa using hy)
theorem Going.len {F : List Core} {n : Nat} {out P : List Int} (h : Going F n out P) : out.length + P.length ≤ (ordI F (n : Int)).length := by
  have h1 := congrArg List.length h.eq
  rw [List.length_append] at h1
  have h2 : ∀ l : List Int, l.length ≤ (l.flatMap (ordI F)).length := fun l => by
    induction l with
    | nil => simp
    | cons a r ih =>
      have : 0 < (ordI F a).length := by
        unfold ordI ordF
        obtain ⟨t, ht⟩ := ordN_head (kids := kidsF F) (F.length + 1) a.toNat
        rw [ht]
        simp
      rw [List.flatMap_cons, List.length_append, List.length_cons]
      omega
  have h3 := h2 P.reverse
  rw [List.length_reverse] at h3
  omega
def undL (x : Core) : List Int := if x.under = -1 then [] else [x.under]
structure GoingS (F : List Core) (n : Nat) (out P : List Int) : Prop where
  eq : out ++ P.reverse.flatMap (allI F) = allI F (n : Int)
  inF : ∀ z ∈ P, 0 ≤ z ∧ z < (F.length : Int)
theorem GoingS.start {F : List Core} {n : Nat} (h : n < F.length) : GoingS F n [] [(n : Int)] := ⟨by simp, fun z hz => by
  obtain rfl : z = (n : Int) := by simpa using hz
  omega⟩
theorem GoingS.step {m : Int} {F : List Core} (hr : rightF m F = true) {n : Nat} {out Q : List Int} {z : Int} {x : Core} (h : GoingS F n out (Q ++ [z])) (hx : F[z.toNat]? = some x) : GoingS F n (out ++ [z]) (Q ++ x.kids.reverse ++ undL x) := by
  have T := treeS hr
  obtain ⟨hz0, hz1⟩ := h.inF z (by simp)
  have hzl : z.toNat < F.length := by omega
  have kin : ∀ k ∈ x.kids, 0 ≤ k ∧ k < (F.length : Int) := fun k hkk => by
    have h2 := (nodeOk_iff.1 (((rightF_iff m F).1 hr).2.1 _ x hx)).2.2.1 k hkk
    obtain ⟨c, hc, _⟩ := kidB_iff.1 (kidOk_iff.1 h2).2
    obtain ⟨e1, e2, _⟩ := getC_some hc
    omega
  have hord : allI F z = z :: (undL x ++ x.kids.flatMap (allI F)).take 0 ++ ((if x.under = -1 then [] else allI F x.under) ++ x.kids.flatMap (allI F)) := by
    have := allI_open hr hx
    rw [show ((z.toNat : Nat) : Int) = z by omega] at this
    rw [this]
    simp
  refine ⟨?_, fun y hy => ?_⟩
  · rw [← h.eq, List.reverse_append, List.reverse_append, List.reverse_append, List.reverse_reverse, List.flatMap_append, List.flatMap_append, List.reverse_singleton, List.singleton_append, List.flatMap_cons, hord]
    unfold undL
    by_cases hu : x.under = -1
    · rw [if_pos hu, if_pos hu]
      simp
    · rw [if_neg hu, if_neg hu]
      simp
  · rcases List.mem_append.1 hy with hy | hy
    · rcases List.mem_append.1 hy with hy | hy
      · exact h.inF y (by simp [hy])
      · exact kin y (by simpa using hy)
    · unfold undL at hy
      by_cases hu : x.under = -1
      · rw [if_pos hu] at hy; cases hy
      · rw [if_neg hu] at hy
        obtain ⟨s, u, e1, e2, _⟩ := right_under hr hx hu
        have := (List.getElem?_eq_some_iff.1 e2).1
        obtain rfl : y = x.under := by simpa using hy
        omega
theorem GoingS.len {F : List Core} {n : Nat} {out P : List Int} (h : GoingS F n out P) : out.length + P.length ≤ (allI F (n : Int)).length := by
  have h1 := congrArg List.length h.eq
  rw [List.length_append] at h1
  have h2 : ∀ l : List Int, l.length ≤ (l.flatMap (allI F)).length := fun l => by
    induction l with
    | nil => simp
    | cons a r ih =>
      have : 0 < (allI F a).length := by
        unfold allI allF
        obtain ⟨t, ht⟩ := ordN_head (kids := kidsS F) (F.length + 1) a.toNat
        rw [ht]
        simp
      rw [List.flatMap_cons, List.length_append, List.length_cons]
      omega
  have h3 := h2 P.reverse
  rw [List.length_reverse] at h3
  omega
def ordB (sh : Bool) (F : List Core) (n : Int) : List Int := if sh then allI F n else ordI F n
def undB (sh : Bool) (x : Core) : List Int := if sh then undL x else []
def GoingB (sh : Bool) (F : List Core) (n : Nat) (out P : List Int) : Prop := if sh then GoingS F n out P else Going F n out P
section
variable {sh : Bool} {F : List Core} {n : Nat} {out P Q : List Int}
theorem GoingB.start (h : n < F.length) : GoingB sh F n [] [(n : Int)] := by
  cases sh
  · exact Going.start h
  · exact GoingS.start h
theorem GoingB.eq (h : GoingB sh F n out P) : out ++ P.reverse.flatMap (ordB sh F) = ordB sh F (n : Int) := by
  cases sh
  · exact Going.eq h
  · exact GoingS.eq h
theorem GoingB.inF (h : GoingB sh F n out P) : ∀ z ∈ P, 0 ≤ z ∧ z < (F.length : Int) := by
  cases sh
  · exact Going.inF h
  · exact GoingS.inF h
theorem GoingB.len (h : GoingB sh F n out P) : out.length + P.length ≤ (ordB sh F (n : Int)).length := by
  cases sh
  · exact Going.len h
  · exact GoingS.len h
theorem GoingB.step {m : Int} (hr : rightF m F = true) {z : Int} {x : Core} (h : GoingB sh F n out (Q ++ [z])) (hx : F[z.toNat]? = some x) : GoingB sh F n (out ++ [z]) (Q ++ x.kids.reverse ++ undB sh x) := by
  cases sh
  · have := Going.step hr h hx
    show Going F n (out ++ [z]) (Q ++ x.kids.reverse ++ [])
    rw [List.append_nil]
    exact this
  · exact GoingS.step hr h hx
end
end Go.Proofs.YtbkhngoehoiccaaGreat
namespace Go.Proofs.YtbkhngoehoiccaaGreat
open Go.RowKit Go.Shelf
attribute [local go_sem] Oper.semAt_some
end Go.Proofs.YtbkhngoehoiccaaGreat
namespace Go.Proofs.YtbkhngoehoiccaaGreat
open Go.RowKit Go.Shelf
theorem OwnPostI.new {w w' : World} {l : List Int} {e : Ending} (h : OwnPostI w l e w') (hin : ∀ z ∈ l, In64 z) : ∃ a len cap, e = .returned (.slice a len cap) ∧ IntRow w' a len cap l ∧ Below w.heap.size w w' ∧ ∀ b off, a = some ⟨b, off, none⟩ → w.heap.size ≤ b := by
  obtain ⟨v, he, ho, hb⟩ := h
  obtain ⟨a9, cap9, hv9, hr9, hlo9⟩ := IntRow.of_own_new (M := l) (n := l.length) rfl ho hin
  exact ⟨a9, l.length, cap9, by rw [he, hv9], hr9, hb, hlo9⟩
def OrdNew (w : World) (l : List Int) (e : Ending) (w' : World) : Prop := ∃ a len cap, e = .returned (.slice a len cap) ∧ IntRow w' a len cap l ∧ Below w.heap.size w w' ∧ ∀ b off, a = some ⟨b, off, none⟩ → w.heap.size ≤ b
theorem OrdNew.post {w w' : World} {l : List Int} {e : Ending} (h : OrdNew w l e w') : OrdPost w l e w' := by
  obtain ⟨a, len, cap, h1, h2, h3, _⟩ := h
  exact ⟨a, len, cap, h1, h2, h3⟩
end Go.Proofs.YtbkhngoehoiccaaGreat
namespace Go.Proofs.YtbkhngoehoiccaaGreat
open Go.RowKit Go.Shelf
end Go.Proofs.YtbkhngoehoiccaaGreat
namespace Go.Proofs.YtbkhngoehoiccaaGreat
open Go.RowKit
end Go.Proofs.YtbkhngoehoiccaaGreat
namespace Go.Proofs.YtbkhngoehoiccaaGreat
open Go.RowKit
end Go.Proofs.YtbkhngoehoiccaaGreat
namespace Go.Proofs.YtbkhngoehoiccaaGreat
open Go.RowKit
end Go.Proofs.YtbkhngoehoiccaaGreat
namespace Go.Proofs.YtbkhngoehoiccaaGreat
open Go.RowKit
end Go.Proofs.YtbkhngoehoiccaaGreat
namespace Go.Proofs.YtbkhngoehoiccaaGreat
open Go.RowKit
structure CBox (W : World) (g : Nat) (cs : List Value) : Prop where
  lt : g < W.heap.size
  c : ∀ j v, cs[j]? = some v → W.cell? ⟨g, j, none⟩ = some v
  f : ∀ j, W.frozen? ⟨g, j, none⟩ = false
section
variable {W V : World} {g : Nat} {cs : List Value}
theorem CBox.keep (h : CBox W g cs) (hb : Below W.heap.size W V) : CBox V g cs :=
  ⟨Nat.lt_of_lt_of_le h.lt hb.size, fun j v hv => (hb.cell (p := ⟨g, j, none⟩) h.lt).trans (h.c j v hv), fun j => (hb.frozen (p := ⟨g, j, none⟩) h.lt).trans (h.f j)⟩
theorem CBox.drew (h : CBox W g cs) : CBox W.drew g cs := h.keep (Below.refl _ _).drew
theorem CBox.new (w : World) (cs : Array Value) (t : TypeId) : CBox (w.alloc (.cells cs t)) w.heap.size cs.toList := by
  refine ⟨by simp, fun j v hv => ?_, fun j => ?_⟩
  · have := cell_of_row (w.alloc (.cells cs t)) w.heap.size j cs t (0, 0) (heap_alloc_new w _)
    rw [this, ← Array.getElem?_toList]
    exact hv
  · have := heap_alloc_new w (.cells cs t)
    simp only [World.frozen?, this]
    rfl
theorem CBox.put (h : CBox W g cs) (j : Nat) (u : Value) (hj : j < cs.length) : CBox (W.setCell ⟨g, j, none⟩ u) g (cs.set j u) := by
  refine ⟨by have := h.lt; simpa [World.setCell] using this, fun i v hv => ?_, fun i => by rw [World.frozen?_setCell]; exact h.f i⟩
  by_cases e : j = i
  · subst e
    rw [List.getElem?_set_self hj] at hv
    injection hv with hv
    subst hv
    exact World.cell?_setCell_same _ _ _ (h.c j _ (List.getElem?_eq_getElem hj))
  · rw [List.getElem?_set_ne e] at hv
    rw [World.cell?_setCell_other _ _ _ _ (fun e2 => by injection e2 with _ e2; exact e e2)]
    exact h.c i v hv
theorem CBox.off (h : CBox W g cs) {b : Nat} (hb : b ≠ g) (o : Nat) (u : Value) : CBox (W.setCell ⟨b, o, none⟩ u) g cs :=
  ⟨by have := h.lt; simpa [World.setCell] using this, fun i v hv => by
    rw [World.cell?_setCell_other _ _ _ _ (fun e2 => by injection e2 with e2 _; exact hb e2)]
    exact h.c i v hv, fun i => by rw [World.frozen?_setCell]; exact h.f i⟩
end
theorem box_below (w : World) (B : Obj) : Below w.heap.size w (w.alloc B) := (Below.refl _ _).alloc (Nat.le_refl _) B
theorem boxes1 (w : World) (c0 : Array Value) (t0 : TypeId) :
    ∃ W, w.alloc (.cells c0 t0) = W ∧ CBox W w.heap.size c0.toList ∧ W.heap.size = w.heap.size + 1 ∧ Below w.heap.size w W :=
  ⟨_, rfl, CBox.new _ _ _, by simp, box_below _ _⟩
theorem boxes2 (w : World) (c0 c1 : Array Value) (t0 t1 : TypeId) :
    ∃ W, (w.alloc (.cells c0 t0)).alloc (.cells c1 t1) = W ∧ CBox W w.heap.size c0.toList ∧ CBox W (w.heap.size + 1) c1.toList ∧ W.heap.size = w.heap.size + 1 + 1 ∧ Below w.heap.size w W := by
  obtain ⟨V, e, h0, hs, hb⟩ := boxes1 w c0 t0
  have h1 := CBox.new V c1 t1
  have b1 := box_below V (.cells c1 t1)
  rw [hs] at h1
  exact ⟨_, by rw [e], h0.keep b1, h1, by simp [hs], hb.trans (b1.mono hb.size)⟩
theorem boxes3 (w : World) (c0 c1 c2 : Array Value) (t0 t1 t2 : TypeId) :
    ∃ W, ((w.alloc (.cells c0 t0)).alloc (.cells c1 t1)).alloc (.cells c2 t2) = W ∧ CBox W w.heap.size c0.toList ∧ CBox W (w.heap.size + 1) c1.toList ∧ CBox W (w.heap.size + 1 + 1) c2.toList ∧ W.heap.size = w.heap.size + 1 + 1 + 1 ∧ Below w.heap.size w W := by
  obtain ⟨V, e, h0, h1, hs, hb⟩ := boxes2 w c0 c1 t0 t1
  have h2 := CBox.new V c2 t2
  have b1 := box_below V (.cells c2 t2)
  rw [hs] at h2
  exact ⟨_, by rw [e], h0.keep b1, h1.keep b1, h2, by simp [hs], hb.trans (b1.mono hb.size)⟩
theorem boxes4 (w : World) (c0 c1 c2 c3 : Array Value) (t0 t1 t2 t3 : TypeId) :
    ∃ W, (((w.alloc (.cells c0 t0)).alloc (.cells c1 t1)).alloc (.cells c2 t2)).alloc (.cells c3 t3) = W ∧ CBox W w.heap.size c0.toList ∧ CBox W (w.heap.size + 1) c1.toList ∧ CBox W (w.heap.size + 1 + 1) c2.toList ∧ CBox W (w.heap.size + 1 + 1 + 1) c3.toList ∧ W.heap.size = w.heap.size + 1 + 1 + 1 + 1 ∧ Below w.heap.size w W := by
  obtain ⟨V, e, h0, h1, h2, hs, hb⟩ := boxes3 w c0 c1 c2 t0 t1 t2
  have h3 := CBox.new V c3 t3
  have b1 := box_below V (.cells c3 t3)
  rw [hs] at h3
  exact ⟨_, by rw [e], h0.keep b1, h1.keep b1, h2.keep b1, h3, by simp [hs], hb.trans (b1.mono hb.size)⟩
theorem boxes5 (w : World) (c0 c1 c2 c3 c4 : Array Value) (t0 t1 t2 t3 t4 : TypeId) :
    ∃ W, ((((w.alloc (.cells c0 t0)).alloc (.cells c1 t1)).alloc (.cells c2 t2)).alloc (.cells c3 t3)).alloc (.cells c4 t4) = W ∧ CBox W w.heap.size c0.toList ∧ CBox W (w.heap.size + 1) c1.toList ∧ CBox W (w.heap.size + 1 + 1) c2.toList ∧ CBox W (w.heap.size + 1 + 1 + 1) c3.toList ∧ CBox W (w.heap.size + 1 + 1 + 1 + 1) c4.toList ∧ W.heap.size = w.heap.size + 1 + 1 + 1 + 1 + 1 ∧ Below w.heap.size w W := by
  obtain ⟨V, e, h0, h1, h2, h3, hs, hb⟩ := boxes4 w c0 c1 c2 c3 t0 t1 t2 t3
  have h4 := CBox.new V c4 t4
  have b1 := box_below V (.cells c4 t4)
  rw [hs] at h4
  exact ⟨_, by rw [e], h0.keep b1, h1.keep b1, h2.keep b1, h3.keep b1, h4, by simp [hs], hb.trans (b1.mono hb.size)⟩
theorem boxes8 (w : World) (c0 c1 c2 c3 c4 c5 c6 c7 : Array Value) (t0 t1 t2 t3 t4 t5 t6 t7 : TypeId) :
    ∃ W, (((((((w.alloc (.cells c0 t0)).alloc (.cells c1 t1)).alloc (.cells c2 t2)).alloc (.cells c3 t3)).alloc (.cells c4 t4)).alloc (.cells c5 t5)).alloc (.cells c6 t6)).alloc (.cells c7 t7) = W ∧ (CBox W w.heap.size c0.toList ∧ CBox W (w.heap.size + 1) c1.toList ∧ CBox W (w.heap.size + 1 + 1) c2.toList ∧ CBox W (w.heap.size + 1 + 1 + 1) c3.toList ∧ CBox W (w.heap.size + 1 + 1 + 1 + 1) c4.toList ∧ CBox W (w.heap.size + 1 + 1 + 1 + 1 + 1) c5.toList ∧ CBox W (w.heap.size + 1 + 1 + 1 + 1 + 1 + 1) c6.toList ∧ CBox W (w.heap.size + 1 + 1 + 1 + 1 + 1 + 1 + 1) c7.toList) ∧ W.heap.size = w.heap.size + 1 + 1 + 1 + 1 + 1 + 1 + 1 + 1 ∧ Below w.heap.size w W := by
  obtain ⟨V, e, h0, h1, h2, h3, h4, hs, hb⟩ := boxes5 w c0 c1 c2 c3 c4 t0 t1 t2 t3 t4
  obtain ⟨X, e2, g0, g1, g2, hs2, hb2⟩ := boxes3 V c5 c6 c7 t5 t6 t7
  rw [hs] at g0 g1 g2 hs2
  exact ⟨X, by rw [e, e2], ⟨h0.keep hb2, h1.keep hb2, h2.keep hb2, h3.keep hb2, h4.keep hb2, g0, g1, g2⟩, hs2, hb.trans (hb2.mono hb.size)⟩
theorem CBox.row {α : Type} {enc : α → List Value} {size : Nat} {W : World} {g : Nat} {L : List α} {n : Nat} (h : CBox W g (L.flatMap enc)) (henc : ∀ x, (enc x).length = size) (hl : L.length = n) (hn : n ≤ maxLen) : SRow enc size W (some ⟨g, 0, none⟩) n n L := by
  refine ⟨hl, Nat.le_refl _, hn, fun x _ => henc x, .inr ⟨g, 0, rfl, h.lt, fun i x j v hx hv => ?_⟩⟩
  have hj : j < size := by
    have := (List.getElem?_eq_some_iff.1 hv).1
    rwa [henc x] at this
  rw [Nat.zero_add]
  refine h.c _ _ ?_
  rw [flat_get (fun y _ => henc y) hx hj]
  exact hv
end Go.Proofs.YtbkhngoehoiccaaGreat
namespace Go.Proofs.YtbkhngoehoiccaaGreat
open Go.RowKit
def oneGo (s : List UInt8) : List UInt8 → List UInt8 → Bool
  | cur, [] => cur == s
  | cur, c :: r => if c == 32 then (cur == s) || oneGo s [] r else oneGo s (cur ++ [c]) r
def oneL (s v : List UInt8) : Bool := oneGo s [] v
def OneAt (s v : List UInt8) (a i : Nat) : Prop := (a ≤ i ∧ i ≤ v.length ∧ oneGo s ((v.take i).drop a) (v.drop i) = oneL s v) ∨ (i = v.length + 1 ∧ oneL s v = false)
theorem OneAt.start (s v : List UInt8) : OneAt s v 0 0 := .inl ⟨Nat.le_refl _, Nat.zero_le _, by simp [oneL]⟩
theorem OneAt.last {s v : List UInt8} {a i : Nat} (h : OneAt s v a i) (hi : i = v.length) (he : ¬ (v.take i).drop a = s) (b : Nat) : OneAt s v b (i + 1) := by
  rcases h with ⟨h1, h2, h3⟩ | ⟨h1, _⟩
  · refine .inr ⟨by omega, ?_⟩
    rw [← h3]
    have : v.drop i = [] := by rw [hi]; simp
    rw [this]
    unfold oneGo
    simpa using he
  · omega
theorem OneAt.none {s v : List UInt8} {a i : Nat} (h : OneAt s v a i) (hi : ¬ i ≤ v.length) : oneL s v = false := by
  rcases h with ⟨h1, h2, h3⟩ | ⟨_, h⟩
  · omega
  · exact h
theorem OneAt.le {s v : List UInt8} {a i : Nat} (h : OneAt s v a i) (hi : i ≤ v.length) : a ≤ i := by
  rcases h with ⟨h1, _, _⟩ | ⟨h1, _⟩
  · exact h1
  · omega
end Go.Proofs.YtbkhngoehoiccaaGreat
namespace Go.Proofs.YtbkhngoehoiccaaGreat
open Go.RowKit
end Go.Proofs.YtbkhngoehoiccaaGreat
namespace Go.Proofs.YtbkhngoehoiccaaGreat
open Go.RowKit
end Go.Proofs.YtbkhngoehoiccaaGreat
namespace Go.Proofs.YtbkhngoehoiccaaGreat
open Go.RowKit
end Go.Proofs.YtbkhngoehoiccaaGreat
namespace Go.Proofs.YtbkhngoehoiccaaGreat
open Go.RowKit
def okS (n o : ByteArray) (c : Int) : Bool := customL n.toList && (o.toList == n.toList || knownL o.toList) && decide (0 ≤ c) && decide (c < 12)
theorem DefRow.take {w : World} {a : Option Addr} {len cap : Nat} {L : List DefD} (h : DefRow w a len cap L) {k : Nat} (hk : k ≤ len) : DefRow w a k cap (L.take k) := by
  have h1 := h.row.hcap
  refine ⟨⟨?_, by omega, h.row.hmax, fun x hx => h.row.henc x (List.mem_of_mem_take hx), ?_⟩, fun x hx => h.ok x (List.mem_of_mem_take hx), h.hnil⟩
  · rw [List.length_take, h.row.hlen]; omega
  · rcases h.row.cells with h0 | ⟨b, off, ha, hb, hc⟩
    · exact .inl (by omega)
    · refine .inr ⟨b, off, ha, hb, fun i x j v hx hv => hc i x j v ?_ hv⟩
      rw [List.getElem?_take] at hx
      split at hx
      · exact hx
      · cases hx
theorem like_taken {L : List DefD} {k : Nat} {n o : ByteArray} {c : Int} (hx : L[k]? = some ⟨n, o, c⟩) : (namedZ L n.toList == (k : Int) && classedZ L c == (k : Int)) = !decide (0 ≤ firstZ (isLike n c) (L.take k)) := by
  rcases firstZ_cases (isLike n c) (L.take k) with ⟨h1, h2⟩ | ⟨j, y, h1, h2, h3, _⟩
  · have hn : ∀ (j : Nat) y, j < k → L[j]? = some y → isLike n c y = false := fun j y hj hy => h2 y (List.mem_of_getElem? (i := j) (by rw [List.getElem?_take, if_pos hj]; exact hy))
    have e1 : namedZ L n.toList = (k : Int) := firstZ_is hx (by unfold isName; simp) fun j y hj hy => by
      have := hn j y hj hy
      unfold isLike at this
      unfold isName
      revert this
      cases y.name.toList == n.toList <;> simp
    have e2 : classedZ L c = (k : Int) := firstZ_is hx (by unfold isCls; simp) fun j y hj hy => by
      have := hn j y hj hy
      unfold isLike at this
      unfold isCls
      revert this
      cases y.cls == c <;> simp
    rw [h1, e1, e2]
    simp
  · obtain ⟨hj, hy⟩ : j < k ∧ L[j]? = some y := by
      rw [List.getElem?_take] at h2
      split at h2
      · exact ⟨by assumption, h2⟩
      · cases h2
    rw [h1, decide_eq_true (by omega : (0 : Int) ≤ (j : Int))]
    unfold isLike at h3
    rcases (Bool.or_eq_true _ _).mp h3 with h4 | h4
    · have : namedZ L n.toList ≠ (k : Int) := fun e => by
        have h5 : ¬ (k ≤ firstN (isName n.toList) L) := fun h6 => by
          have := first_here (p := isName n.toList) (L := L) (k := j) (x := y)
          have h7 : firstN (isName n.toList) L ≤ j := by
            have := List.not_of_lt_findIdx (p := isName n.toList) (xs := L) (i := j)
            by_cases h8 : j < firstN (isName n.toList) L
            · have h9 := this h8
              obtain ⟨hl, hg⟩ := List.getElem?_eq_some_iff.1 hy
              rw [hg] at h9
              unfold isName at h9
              rw [h4] at h9
              cases h9
            · omega
          omega
        unfold namedZ firstZ at e
        split at e
        · exact h5 (by omega)
        · omega
      rw [beq_eq_false_iff_ne.2 this]
      rfl
    · have : classedZ L c ≠ (k : Int) := fun e => by
        have h5 : ¬ (k ≤ firstN (isCls c) L) := fun h6 => by
          have h7 : firstN (isCls c) L ≤ j := by
            have := List.not_of_lt_findIdx (p := isCls c) (xs := L) (i := j)
            by_cases h8 : j < firstN (isCls c) L
            · have h9 := this h8
              obtain ⟨hl, hg⟩ := List.getElem?_eq_some_iff.1 hy
              rw [hg] at h9
              unfold isCls at h9
              rw [h4] at h9
              cases h9
            · omega
          omega
        unfold classedZ firstZ at e
        split at e
        · exact h5 (by omega)
        · omega
      rw [beq_eq_false_iff_ne.2 this, Bool.and_false]
      rfl
theorem okD_parts {L : List DefD} {k : Nat} {n o : ByteArray} {c : Int} (hx : L[k]? = some ⟨n, o, c⟩) : okD L k ⟨n, o, c⟩ = (okS n o c && !decide (0 ≤ firstZ (isLike n c) (L.take k))) := by
  rw [← like_taken hx]
  unfold okD okS
  dsimp only
  have : decide (c ≤ 11) = decide (c < 12) := decide_eq_decide.2 (by omega)
  rw [this]
  simp only [Bool.and_assoc]
set_option maxHeartbeats 8000000 in
set_option maxRecDepth 100000 in
theorem maystand_any (n o : ByteArray) (c : Int) (w : World) (hn : n.size ≤ maxLen) :
    Calls Tryz.prog 90 #[.agg #[.string n, .string o, .int .i64 c]] w fun e w' => e = .returned (.bool (okS n o c)) ∧ Below w.heap.size w w' := by
  obtain ⟨q1, hq1⟩ : ∃ q, customL n.toList = q := ⟨_, rfl⟩
  obtain ⟨q2, hq2⟩ : ∃ q, knownL o.toList = q := ⟨_, rfl⟩
  obtain ⟨e1, he1⟩ : ∃ q, (o.toList == n.toList) = q := ⟨_, rfl⟩
  have CU : Hid (∀ V, Calls Tryz.prog 92 #[.string n] V fun e w' => e = .returned (.bool q1) ∧ Below V.heap.size V w') := Lib.hid (fun V => by
    have h := custom_any n V hn
    rwa [hq1] at h)
  have KN : Hid (∀ V, Calls Tryz.prog 108 #[.string o] V fun e w' => e = .returned (.bool q2) ∧ Below V.heap.size V w') := Lib.hid (fun V => by
    have h := known_any o V
    rw [hq2] at h
    exact h.mono (fun e w' h => ⟨h.1, by rw [← h.2]; exact Below.refl _ _⟩))
  have HO : Hid (okS n o c = (q1 && (e1 || q2) && decide (0 ≤ c) && decide (c < 12))) := Lib.hid (by unfold okS; rw [hq1, hq2, he1])
  have XX := Lib.hid (XBox.new w n o c)
  have HB := Lib.hid (below_desk w (.cells #[.string n, .string o, .int .i64 c] 78))
  have x0 := XX.out.c0
  have x1 := XX.out.c1
  have x2 := XX.out.c2
  have HV := Lib.hid (Below.refl (w.alloc (.cells #[.string n, .string o, .int .i64 c] 78)).heap.size (w.alloc (.cells #[.string n, .string o, .int .i64 c] 78)))
  clear hq1 hq2
  have fin : ∀ V, Below (w.alloc (.cells #[.string n, .string o, .int .i64 c] 78)).heap.size (w.alloc (.cells #[.string n, .string o, .int .i64 c] 78)) V → Below w.heap.size w V := fun V h => HB.out.trans (h.mono HB.out.size)
  have FIN := Lib.hid fin
  clear fin
  cases q1 with
  | false =>
    have HR : Hid (okS n o c = false) := Lib.hid (by rw [HO.out]; rfl)
    go_enter Tryz.func90, Tryz.ntmps90
    go_wp2_with (first
                    | (go_at_call 92; (with_reducible refine (CU.out _).mono ?_); rintro e w5 ⟨rfl, hb⟩; (have HV := Lib.hid (HV.out.trans (hb.mono HV.out.size)); clear x0 x1 x2 hb; have x0 := (XX.out.keep HV.out).c0; have x1 := (XX.out.keep HV.out).c1; have x2 := (XX.out.keep HV.out).c2))
                    | (go_at_call 108; (with_reducible refine (KN.out _).mono ?_); rintro e w5 ⟨rfl, hb⟩; (have HV := Lib.hid (HV.out.trans (hb.mono HV.out.size)); clear x0 x1 x2 hb; have x0 := (XX.out.keep HV.out).c0; have x1 := (XX.out.keep HV.out).c1; have x2 := (XX.out.keep HV.out).c2)))
    go_ret
    exact ⟨ret_bool HR.out.symm, FIN.out _ HV.out⟩
  | true =>
    cases e1 <;> cases q2 <;> by_cases d0 : 0 ≤ c <;> by_cases d1 : c < 12
    all_goals first | (exfalso; omega) | skip
    all_goals
      have HR : Hid (okS n o c = _) := Lib.hid (HO.out.trans (by rw [show decide (0 ≤ c) = _ from (by first | exact decide_eq_true d0 | exact decide_eq_false d0), show decide (c < 12) = _ from (by first | exact decide_eq_true d1 | exact decide_eq_false d1)]))
      go_enter Tryz.func90, Tryz.ntmps90
      go_wp2_with (first
                      | (go_at_call 92; (with_reducible refine (CU.out _).mono ?_); rintro e w5 ⟨rfl, hb⟩; (have HV := Lib.hid (HV.out.trans (hb.mono HV.out.size)); clear x0 x1 x2 hb; have x0 := (XX.out.keep HV.out).c0; have x1 := (XX.out.keep HV.out).c1; have x2 := (XX.out.keep HV.out).c2))
                      | (go_at_call 108; (with_reducible refine (KN.out _).mono ?_); rintro e w5 ⟨rfl, hb⟩; (have HV := Lib.hid (HV.out.trans (hb.mono HV.out.size)); clear x0 x1 x2 hb; have x0 := (XX.out.keep HV.out).c0; have x1 := (XX.out.keep HV.out).c1; have x2 := (XX.out.keep HV.out).c2)))
      go_ret
      exact ⟨ret_bool (by rw [HR.out]; first | rfl | (simp; try omega)), FIN.out _ HV.out⟩
end Go.Proofs.YtbkhngoehoiccaaGreat
