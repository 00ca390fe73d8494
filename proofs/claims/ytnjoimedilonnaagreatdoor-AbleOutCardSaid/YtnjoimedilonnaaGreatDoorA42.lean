/- Texts joined in build order: MoveToggle MoveAttrMath OwnerBackMath AbleMath AbleRiseMath AbleShutMath AbleSmall AbleShutAt AbleShut. -/
import Derived.Test.YtnjoimedilonnaaGreatDoorA39
import Derived.Test.YtnjoimedilonnaaGreatDoorA40
import Derived.Test.YtnjoimedilonnaaGreatDoorA18
import Derived.Test.YtnjoimedilonnaaGreatDoorA21
import Derived.Test.YtnjoimedilonnaaGreatDoorA41
import Derived.Test.YtnjoimedilonnaaGreatDoorA15
import Derived.Test.YtnjoimedilonnaaGreatDoorA10
import Derived.Test.YtnjoimedilonnaaGreatDoorA12
namespace Go.Proofs.YtnjoimedilonnaaGreatDoor
open Go.RowKit
end Go.Proofs.YtnjoimedilonnaaGreatDoor
namespace Go.Proofs.YtnjoimedilonnaaGreatDoor
open Go.RowKit
structure Worn (c d : Core) : Prop where
  kind : d.kind = c.kind
  parent : d.parent = c.parent
  kids : d.kids = c.kids
  host : d.host = c.host
  under : d.under = c.under
  doc : d.doc = c.doc
theorem Worn.refl (c : Core) : Worn c c := ⟨rfl, rfl, rfl, rfl, rfl, rfl⟩
theorem chg_at {F : List Core} {n : Nat} {l : AL} {j : Nat} {c : Core} (hc : F[j]? = some c) : (chgF F n l)[j]? = some (if j = n then withAC c l else c) := by
  unfold chgF
  cases hx : F[n]? with
  | none =>
    have h1 := List.getElem?_eq_none_iff.1 hx
    have h2 := (List.getElem?_eq_some_iff.1 hc).1
    rw [if_neg (by omega), hc]
  | some x =>
    dsimp only
    by_cases e : j = n
    · subst e
      rw [List.getElem?_set_self (List.getElem?_eq_some_iff.1 hc).1, if_pos rfl, Option.some.inj (hx.symm.trans hc)]
    · rw [List.getElem?_set_ne (fun e2 => e e2.symm), if_neg e, hc]
theorem chg_len {F : List Core} {n : Nat} {l : AL} : (chgF F n l).length = F.length := by
  unfold chgF
  split
  · rw [List.length_set]
  · rfl
theorem chg_worn {F : List Core} {n : Nat} {l : AL} {k : Int} {c : Core} (hc : getC F k = some c) : ∃ d, getC (chgF F n l) k = some d ∧ Worn c d := by
  obtain ⟨h1, h2, h3⟩ := getC_some hc
  refine ⟨if k.toNat = n then withAC c l else c, ?_, ?_⟩
  · unfold getC
    rw [if_pos h1]
    exact chg_at h3
  · split
    · exact ⟨rfl, rfl, rfl, rfl, rfl, rfl⟩
    · exact Worn.refl c
theorem chg_kindK {F : List Core} {n : Nat} {l : AL} (k : Int) : kindK (chgF F n l) k = kindK F k := by
  unfold kindK
  cases hc : getC F k with
  | some c =>
    obtain ⟨d, h1, h2⟩ := chg_worn (n := n) (l := l) hc
    rw [h1]
    exact h2.kind
  | none =>
    have : getC (chgF F n l) k = none := by
      unfold getC at hc ⊢
      by_cases h0 : 0 ≤ k
      · rw [if_pos h0] at hc ⊢
        have := List.getElem?_eq_none_iff.1 hc
        exact List.getElem?_eq_none (by rw [chg_len]; exact this)
      · rw [if_neg h0]
    rw [this]
theorem chg_next {F : List Core} {n : Nat} {l : AL} {j : Nat} {c : Core} (hc : F[j]? = some c) : nextUp (chgF F n l) (j : Int) = nextUp F j := by
  have hg : getC F (j : Int) = some c := by rw [getC_nat, hc]
  obtain ⟨d, h1, h2⟩ := chg_worn (n := n) (l := l) hg
  unfold nextUp
  rw [hg, h1]
  dsimp only
  rw [h2.parent, h2.host]
theorem chg_node {F : List Core} {n : Nat} {l : AL} (hl : rightA l = true) (hk : kindK F n = 1) {i : Nat} {c : Core} (h : NodeP F i c) (hc : F[i]? = some c) : NodeP (chgF F n l) i (if i = n then withAC c l else c) := by
  obtain ⟨d, hd, w⟩ : ∃ d, (if i = n then withAC c l else c) = d ∧ Worn c d := by
    refine ⟨_, rfl, ?_⟩
    split
    · exact ⟨rfl, rfl, rfl, rfl, rfl, rfl⟩
    · exact Worn.refl c
  have ht : textOk d = true := by
    rw [← hd]
    by_cases e : i = n
    · subst e
      rw [if_pos rfl]
      have h1 := h.text
      have h2 : c.kind = 1 := by rw [kindK_at hc] at hk; exact hk
      unfold textOk at h1 ⊢
      rw [if_pos h2] at h1
      rw [if_pos (show (withAC c l).kind = 1 from h2)]
      simp only [Bool.and_eq_true] at h1 ⊢
      exact ⟨h1.1, hl⟩
    · rw [if_neg e]; exact h.text
  rw [hd]
  refine ⟨by rw [w.kind]; exact h.kind, ?_, by rw [w.kind, w.doc]; exact h.own, ?_, by rw [w.kids]; exact h.once, fun k hk2 => ?_, by rw [w.kind, w.kids]; exact h.leaf, fun e => ?_, fun e => ?_, by rw [w.kind, w.host]; exact h.free, ?_, ht⟩
  · obtain ⟨u, h1, h2⟩ := h.doc
    obtain ⟨u2, h3, h4⟩ := chg_worn (n := n) (l := l) h1
    rw [w.doc]
    exact ⟨u2, h3, h4.kind.trans h2⟩
  · rw [w.parent, w.kind]
    rcases h.par with e | ⟨h1, u, h2, h3, h5⟩
    · exact .inl e
    · obtain ⟨u2, h6, h7⟩ := chg_worn (n := n) (l := l) h2
      exact .inr ⟨h1, u2, h6, by rw [h7.kind]; exact h3, by rw [h7.kids]; exact h5⟩
  · rw [w.kids] at hk2
    obtain ⟨u, h1, h2, h3, h5⟩ := h.kids k hk2
    obtain ⟨u2, h6, h7⟩ := chg_worn (n := n) (l := l) h1
    exact ⟨u2, h6, by rw [h7.kind]; exact h2, h7.parent.trans h3, by rw [h7.doc, w.doc]; exact h5⟩
  · rw [w.kind] at e
    obtain ⟨h1, h2⟩ := h.root e
    rw [w.kids]
    exact ⟨h1, fun k hk2 => by rw [chg_kindK]; exact h2 k hk2⟩
  · rw [w.kind] at e
    obtain ⟨u, h1, h2, h3, h5⟩ := h.host e
    obtain ⟨u2, h6, h7⟩ := chg_worn (n := n) (l := l) h1
    rw [w.host]
    exact ⟨u2, h6, h7.kind.trans h2, h7.under.trans h3, by rw [h7.doc, w.doc]; exact h5⟩
  · rw [w.under, w.kind]
    rcases h.under with e | ⟨h1, u, h2, h3, h5⟩
    · exact .inl e
    · obtain ⟨u2, h6, h7⟩ := chg_worn (n := n) (l := l) h2
      exact .inr ⟨h1, u2, h6, h7.kind.trans h3, h7.host.trans h5⟩
theorem chg_right {m : Int} {F : List Core} (h : rightF m F = true) {n : Nat} {l : AL} (hk : kindK F n = 1) (hl : rightA l = true) : rightF m (chgF F n l) = true := by
  obtain ⟨⟨h1, h2, h3, h4⟩, h5, _⟩ := (rightF_iff m F).1 h
  have hb : ∀ (i : Nat) d, (chgF F n l)[i]? = some d → ∃ c, F[i]? = some c ∧ d = if i = n then withAC c l else c := fun i d hd => by
    have hi := (List.getElem?_eq_some_iff.1 hd).1
    rw [chg_len] at hi
    have hc : F[i]? = some F[i] := List.getElem?_eq_getElem hi
    have h6 := chg_at (n := n) (l := l) hc
    exact ⟨_, hc, Option.some.inj (hd.symm.trans h6)⟩
  refine right_of h1 h2 (by rw [chg_len]; exact h3) ?_ (fun i d hd => ?_) (rankF F) (fun i hi => ?_)
  · have hl0 : 0 < F.length := right_len h
    have hc : F[0]? = some F[0] := List.getElem?_eq_getElem hl0
    have h6 := chg_at (n := n) (l := l) hc
    have h7 : headDoc F = (F[0].kind == 0) := by
      cases F with
      | nil => cases hl0
      | cons c r => rfl
    cases hG : chgF F n l with
    | nil => rw [hG] at h6; cases h6
    | cons c r =>
      rw [hG] at h6
      have h8 : c = if 0 = n then withAC F[0] l else F[0] := Option.some.inj h6
      show (c.kind == 0) = true
      rw [h8]
      rw [h7] at h4
      split
      · exact h4
      · exact h4
  · obtain ⟨c, hc, rfl⟩ := hb i d hd
    exact chg_node hl hk (right_node h hc) hc
  · rw [chg_len] at hi ⊢
    rw [chg_next (List.getElem?_eq_getElem hi)]
    exact rank_next h hi
end Go.Proofs.YtnjoimedilonnaaGreatDoor
namespace Go.Proofs.YtnjoimedilonnaaGreatDoor
open Go.RowKit
theorem chg_none {F : List Core} {n j : Nat} {l : AL} (h : F[j]? = none) : (chgF F n l)[j]? = none := by
  have := List.getElem?_eq_none_iff.1 h
  exact List.getElem?_eq_none (by rw [chg_len]; exact this)
theorem chg_kidsF (F : List Core) (n : Nat) (l : AL) : kidsF (chgF F n l) = kidsF F := by
  funext j
  unfold kidsF
  cases h : F[j]? with
  | none => rw [chg_none h]
  | some c =>
    rw [chg_at h]
    dsimp only
    split <;> rfl
theorem setZ_yes {m : Int} {F : List Core} (hr : rightF m F = true) {n : Nat} {x : Core} (hx : F[n]? = some x) {s : List UInt8} {v : ByteArray} (h : (setZ m F n s v).2.2 = 0) :
    x.kind = 1 ∧ setE x.attrs s v = 0 ∧ setZ m F n s v = (chgF F n (setA x.attrs s v), [chgN n s x.attrs (setA x.attrs s v)], 0) ∧ rightF m (chgF F n (setA x.attrs s v)) = true := by
  have hn : n < F.length := (List.getElem?_eq_some_iff.1 hx).1
  have hk : x.kind = 1 := by
    by_cases hk : x.kind = 1
    · exact hk
    · unfold setZ elemE at h
      rw [thereF_of hr hn, if_pos rfl, kindK_at hx, if_neg hk] at h
      cases h
  have he : elemE m F n = 0 := by unfold elemE; rw [thereF_of hr hn, if_pos rfl, kindK_at hx, if_pos hk]
  have hs : setE x.attrs s v = 0 := by
    by_cases hs : setE x.attrs s v = 0
    · exact hs
    · unfold setZ at h
      rw [if_pos he, attrsK_at hx, if_neg hs] at h
      exact absurd h hs
  refine ⟨hk, hs, ?_, chg_right hr (by rw [kindK_at hx]; exact hk) (setA_right hs)⟩
  unfold setZ
  rw [if_pos he, attrsK_at hx, if_pos hs]
  unfold chgZ
  rw [attrsK_at hx, Int.toNat_natCast]
theorem rem_has {L : AL} {n : List UInt8} : hasA (remA L n) n = false := by
  cases hq : hasA (remA L n) n with
  | false => rfl
  | true =>
    by_cases h : hasA L n = true
    · obtain ⟨x, h1, h2⟩ := has_mem hq
      unfold remA at h1
      rw [if_pos h] at h1
      have h3 := (List.mem_filter.1 h1).2
      rw [show keyIs (smallL n) x = true from keyIs_iff.2 h2] at h3
      cases h3
    · unfold remA at hq
      rw [if_neg h] at hq
      exact absurd hq h
end Go.Proofs.YtnjoimedilonnaaGreatDoor
namespace Go.Proofs.YtnjoimedilonnaaGreatDoor
open Go.RowKit
def disT : List UInt8 := [100, 105, 115, 97, 98, 108, 101, 100]
def fsetT : List UInt8 := [102, 105, 101, 108, 100, 115, 101, 116]
def legT : List UInt8 := [108, 101, 103, 101, 110, 100]
def nameK (F : List Core) (k : Int) : List UInt8 := match getC F k with | some x => x.name.toList | none => []
def fsetB (F : List Core) (i : Nat) : Bool := nameK F i == fsetT
def disB (F : List Core) (i : Nat) : Bool := match F[i]? with | some x => hasA x.attrs disT | none => false
def kidsZ (F : List Core) (i : Nat) : List Int := match F[i]? with | some x => x.kids | none => []
def legF (F : List Core) (i : Nat) : Int := match (kidsZ F i).find? (fun k => nameK F k == legT) with | some k => k | none => -1
def barsF (F : List Core) (p i : Nat) : Bool := fsetB F p && disB F p && decide (p ≠ i) && holdsF F p i && (decide (legF F p = -1) || !holdsF F (legF F p).toNat i)
def barF (F : List Core) (i : Nat) : Bool := decide (kindK F i = 1) && (disB F i || (List.range F.length).any (fun p => barsF F p i))
def barO (m : Int) (F : List Core) (n : Int) : Bool := thereF m F n && barF F n.toNat
def legO (m : Int) (F : List Core) (n : Int) : Int := if thereF m F n then legF F n.toNat else -1
def barL (F : List Core) : List Int := ((List.range F.length).filter (barF F)).map Int.ofNat
def allB (m : Int) (F : List Core) : List Int := if rightF m F then barL F else []
theorem disB_at {F : List Core} {i : Nat} {x : Core} (h : F[i]? = some x) : disB F i = hasA x.attrs disT := by unfold disB; rw [h]
theorem barO_nat {m : Int} {F : List Core} (h : rightF m F = true) {n : Nat} (hn : n < F.length) : barO m F n = barF F n := by unfold barO; rw [thereF_of h hn, Bool.true_and, Int.toNat_natCast]
theorem legO_nat {m : Int} {F : List Core} (h : rightF m F = true) {n : Nat} (hn : n < F.length) : legO m F n = legF F n := by unfold legO; rw [thereF_of h hn, if_pos rfl, Int.toNat_natCast]
theorem holdsF_iff {m : Int} {F : List Core} (h : rightF m F = true) {a b : Nat} (ha : a < F.length) (hb : b < F.length) : holdsF F a b = true ↔ holdsT (parF F) a b := by
  rw [← holdsZ_iff h ha hb]
  unfold holdsZ
  rw [thereF_of h ha, thereF_of h hb, Int.toNat_natCast, Int.toNat_natCast]
  rfl
theorem holdsZ_nat {m : Int} {F : List Core} (h : rightF m F = true) {a b : Nat} (ha : a < F.length) (hb : b < F.length) : holdsZ m F a b = holdsF F a b := by
  rw [Bool.eq_iff_iff, holdsZ_iff h ha hb, holdsF_iff h ha hb]
theorem leg_is {m : Int} {F : List Core} (h : rightF m F = true) {p : Nat} (hp : p < F.length) : legF F p = -1 ∨ ∃ k : Nat, legF F p = k ∧ k < F.length ∧ parF F k = some p ∧ nameK F k = legT := by
  unfold legF
  cases hf : (kidsZ F p).find? (fun k => nameK F k == legT) with
  | none => exact .inl rfl
  | some z =>
    have hx : F[p]? = some F[p] := List.getElem?_eq_getElem hp
    have hm := List.mem_of_find?_eq_some hf
    have hn : (nameK F z == legT) = true := List.find?_some (p := fun k => nameK F k == legT) hf
    unfold kidsZ at hm
    rw [hx] at hm
    obtain ⟨u, h1, h2, h3, _⟩ := (right_node h hx).kids z hm
    obtain ⟨g1, g2, g3⟩ := getC_some h1
    refine .inr ⟨z.toNat, by show z = _; omega, g2, ?_, by rw [show ((z.toNat : Nat) : Int) = z by omega]; exact beq_iff_eq.1 hn⟩
    unfold parF
    rw [g3]
    dsimp only
    rw [h3, if_neg (by omega), Int.toNat_natCast]
theorem chg_nameK (F : List Core) (n : Nat) (l : AL) : nameK (chgF F n l) = nameK F := by
  funext k
  unfold nameK getC
  by_cases h0 : 0 ≤ k
  · rw [if_pos h0, if_pos h0]
    cases h : F[k.toNat]? with
    | none => rw [chg_none h]
    | some c =>
      rw [chg_at h]
      dsimp only
      split <;> rfl
  · rw [if_neg h0, if_neg h0]
theorem chg_kidsZ (F : List Core) (n : Nat) (l : AL) : kidsZ (chgF F n l) = kidsZ F := by
  funext j
  unfold kidsZ
  cases h : F[j]? with
  | none => rw [chg_none h]
  | some c =>
    rw [chg_at h]
    dsimp only
    split <;> rfl
theorem chg_legF (F : List Core) (n : Nat) (l : AL) (i : Nat) : legF (chgF F n l) i = legF F i := by
  unfold legF
  rw [chg_kidsZ, chg_nameK]
theorem chg_holdsF (F : List Core) (n : Nat) (l : AL) (a b : Nat) : holdsF (chgF F n l) a b = holdsF F a b := by
  unfold holdsF ordF
  rw [chg_kidsF, chg_len]
theorem chg_disB {F : List Core} {n : Nat} {l : AL} {x : Core} (hx : F[n]? = some x) (j : Nat) : disB (chgF F n l) j = if j = n then hasA l disT else disB F j := by
  unfold disB
  cases h : F[j]? with
  | none =>
    rw [chg_none h]
    by_cases e : j = n
    · subst e; rw [hx] at h; cases h
    · rw [if_neg e]
  | some c =>
    rw [chg_at h]
    by_cases e : j = n
    · rw [if_pos e, if_pos e]; rfl
    · rw [if_neg e, if_neg e]
theorem more_is {F : List Core} {n : Nat} {l : AL} {x : Core} (hx : F[n]? = some x) (hk : x.kind = 1) (hl : hasA l disT = true) {i : Nat} :
    barF (chgF F n l) i = (barF F i || decide (i = n) || (fsetB F n && decide (kindK F i = 1) && holdsF F n i && (decide (legF F n = -1) || !holdsF F (legF F n).toNat i))) := by
  have hn : n < F.length := (List.getElem?_eq_some_iff.1 hx).1
  have hb : ∀ p, barsF (chgF F n l) p i = (fsetB F p && (if p = n then true else disB F p) && decide (p ≠ i) && holdsF F p i && (decide (legF F p = -1) || !holdsF F (legF F p).toNat i)) := fun p => by
    unfold barsF fsetB
    rw [chg_nameK, chg_disB hx, hl, chg_legF, chg_holdsF, chg_holdsF]
  have hkk : kindK (chgF F n l) (i : Int) = kindK F i := chg_kindK _
  by_cases hi : i = n
  · subst hi
    have h1 : barF (chgF F i l) i = true := by
      unfold barF
      rw [hkk, kindK_at hx, hk, chg_disB hx, if_pos rfl, hl]
      rfl
    rw [h1, decide_eq_true rfl, Bool.or_true, Bool.true_or]
  · have hdis : disB (chgF F n l) i = disB F i := by rw [chg_disB hx, if_neg hi]
    unfold barF
    rw [hkk, hdis, chg_len, decide_eq_false hi, Bool.or_false]
    by_cases hki : kindK F (i : Int) = 1
    · rw [decide_eq_true hki, Bool.true_and, Bool.true_and, Bool.and_true]
      have hany : (List.range F.length).any (fun p => barsF (chgF F n l) p i) = ((List.range F.length).any (fun p => barsF F p i) || (fsetB F n && holdsF F n i && (decide (legF F n = -1) || !holdsF F (legF F n).toNat i))) := by
        rw [Bool.eq_iff_iff, Bool.or_eq_true, List.any_eq_true, List.any_eq_true]
        constructor
        · rintro ⟨p, hp, hq⟩
          rw [hb p] at hq
          by_cases e : p = n
          · subst e
            rw [if_pos rfl] at hq
            simp only [Bool.and_true, Bool.and_eq_true] at hq
            exact .inr (by simp only [Bool.and_eq_true]; exact ⟨⟨hq.1.1.1, hq.1.2⟩, hq.2⟩)
          · rw [if_neg e] at hq
            exact .inl ⟨p, hp, hq⟩
        · rintro (⟨p, hp, hq⟩ | hq)
          · refine ⟨p, hp, ?_⟩
            rw [hb p]
            by_cases e : p = n
            · rw [if_pos e]
              unfold barsF at hq
              simp only [Bool.and_eq_true] at hq ⊢
              exact ⟨⟨⟨⟨hq.1.1.1.1, trivial⟩, hq.1.1.2⟩, hq.1.2⟩, hq.2⟩
            · rw [if_neg e]
              exact hq
          · refine ⟨n, List.mem_range.2 hn, ?_⟩
            rw [hb n, if_pos rfl]
            simp only [Bool.and_eq_true] at hq ⊢
            exact ⟨⟨⟨⟨hq.1.1, trivial⟩, decide_eq_true (fun e => hi e.symm)⟩, hq.1.2⟩, hq.2⟩
      rw [hany, Bool.or_assoc]
    · rw [decide_eq_false hki]
      simp
theorem bar_kind {F : List Core} {i : Nat} (h : barF F i = true) : kindK F (i : Int) = 1 := by
  unfold barF at h
  rw [Bool.and_eq_true, decide_eq_true_eq] at h
  exact h.1
theorem bar_own {F : List Core} {i : Nat} (h : disB F i = true) (hk : kindK F (i : Int) = 1) : barF F i = true := by
  unfold barF
  rw [h, hk]
  rfl
end Go.Proofs.YtnjoimedilonnaaGreatDoor
namespace Go.Proofs.YtnjoimedilonnaaGreatDoor
open Go.RowKit
def barC (F : List Core) (i : Nat) : Nat := ((List.range i).filter (barF F)).length
theorem barC_step (F : List Core) (i : Nat) : barC F (i + 1) = barC F i + if barF F i then 1 else 0 := by
  unfold barC
  rw [List.range_succ, List.filter_append, List.length_append]
  congr 1
  cases h : barF F i with
  | true => rw [List.filter_cons, h]; rfl
  | false => rw [List.filter_cons, h]; rfl
theorem barC_yes {F : List Core} {i : Nat} (h : barF F i = true) : barC F (i + 1) = barC F i + 1 := by rw [barC_step, h, if_pos rfl]
theorem barC_no {F : List Core} {i : Nat} (h : barF F i = false) : barC F (i + 1) = barC F i := by rw [barC_step, h, if_neg Bool.false_ne_true]; rfl
theorem barC_len (F : List Core) : (barL F).length = barC F F.length := by unfold barL barC; rw [List.length_map]
theorem range_split {i n : Nat} (h : i ≤ n) : ∃ r, List.range n = List.range i ++ r := by
  obtain ⟨k, rfl⟩ : ∃ k, n = i + k := ⟨n - i, by omega⟩
  exact ⟨_, List.range_add⟩
theorem barC_at {F : List Core} {i : Nat} (hi : i < F.length) (hb : barF F i = true) : (barL F)[barC F i]? = some (i : Int) := by
  obtain ⟨r, hr⟩ := range_split (show i + 1 ≤ F.length by omega)
  unfold barL
  rw [hr, List.filter_append, List.range_succ, List.filter_append, List.getElem?_map]
  have h1 : List.filter (barF F) [i] = [i] := by rw [List.filter_cons, hb]; rfl
  rw [h1, List.append_assoc, List.getElem?_append_right (by unfold barC; exact Nat.le_refl _)]
  unfold barC
  rw [Nat.sub_self]
  rfl
end Go.Proofs.YtnjoimedilonnaaGreatDoor
namespace Go.Proofs.YtnjoimedilonnaaGreatDoor
open Go.RowKit
def shutB (F : List Core) (i : Nat) : Bool := (List.range F.length).any (fun p => barsF F p i)
theorem barF_shut (F : List Core) (i : Nat) : barF F i = (decide (kindK F i = 1) && (disB F i || shutB F i)) := rfl
theorem bars_iff {F : List Core} {p i : Nat} : barsF F p i = true ↔ fsetB F p = true ∧ disB F p = true ∧ p ≠ i ∧ holdsF F p i = true ∧ (legF F p = -1 ∨ holdsF F (legF F p).toNat i = false) := by
  unfold barsF
  simp only [Bool.and_eq_true, Bool.or_eq_true, decide_eq_true_eq, Bool.not_eq_true']
  constructor
  · rintro ⟨⟨⟨⟨h1, h2⟩, h3⟩, h4⟩, h5⟩; exact ⟨h1, h2, h3, h4, h5⟩
  · rintro ⟨h1, h2, h3, h4, h5⟩; exact ⟨⟨⟨⟨h1, h2⟩, h3⟩, h4⟩, h5⟩
theorem shut_iff {F : List Core} {i : Nat} : shutB F i = true ↔ ∃ p, p < F.length ∧ barsF F p i = true := by
  unfold shutB
  rw [List.any_eq_true]
  constructor
  · rintro ⟨p, h1, h2⟩; exact ⟨p, List.mem_range.1 h1, h2⟩
  · rintro ⟨p, h1, h2⟩; exact ⟨p, List.mem_range.2 h1, h2⟩
theorem shut_top {m : Int} {F : List Core} (h : rightF m F = true) {n : Nat} (hn : n < F.length) (hp : parF F n = none) : shutB F n = false := by
  cases hs : shutB F n with
  | false => rfl
  | true =>
    obtain ⟨p, h1, h2⟩ := shut_iff.1 hs
    obtain ⟨_, _, h3, h4, _⟩ := bars_iff.1 h2
    rcases holds_up ((holdsF_iff h h1 hn).1 h4) with e | ⟨q, e, _⟩
    · exact absurd e h3
    · rw [hp] at e; cases e
theorem shut_step {m : Int} {F : List Core} (h : rightF m F = true) {n k : Nat} (hk : k < F.length) (hp : parF F k = some n) : shutB F k = (shutB F n || (fsetB F n && disB F n && decide ((k : Int) ≠ legF F n))) := by
  have T := tree_of_right h
  obtain ⟨hn, hrk⟩ := par_lt h hk hp
  have hnk : n ≠ k := fun e => by subst e; omega
  have hup : ∀ q, holdsT (parF F) q n → holdsT (parF F) q k := fun q hq => holds_trans hq (holds_par hp)
  have hdn : ∀ q, holdsT (parF F) q k → q = k ∨ holdsT (parF F) q n := fun q hq => by
    rcases holds_up hq with e | ⟨r, e, h2⟩
    · exact .inl e
    · rw [hp] at e
      injection e with e
      rw [e]
      exact .inr h2
  have hkn : ¬ holdsT (parF F) k n := fun h1 => hnk (T.holds_anti hn hk (holds_par hp) h1)
  have fls : ∀ {a b : Nat}, a < F.length → b < F.length → (holdsF F a b = false ↔ ¬ holdsT (parF F) a b) := fun ha hb => by
    rw [← holdsF_iff h ha hb]; simp
  rw [Bool.eq_iff_iff, Bool.or_eq_true, shut_iff, shut_iff]
  simp only [Bool.and_eq_true, decide_eq_true_eq]
  constructor
  · rintro ⟨p, hpl, hb⟩
    obtain ⟨h1, h2, h3, h4, h5⟩ := bars_iff.1 hb
    have hh := (hdn p ((holdsF_iff h hpl hk).1 h4)).resolve_left h3
    by_cases e : p = n
    · subst e
      refine .inr ⟨⟨h1, h2⟩, fun e => ?_⟩
      rcases h5 with h5 | h5
      · omega
      · rw [← e, Int.toNat_natCast] at h5
        exact (fls hk hk).1 h5 (holds_refl k)
    · refine .inl ⟨p, hpl, bars_iff.2 ⟨h1, h2, e, (holdsF_iff h hpl hn).2 hh, ?_⟩⟩
      rcases leg_is h hpl with h6 | ⟨l, h6, h7, _, _⟩
      · exact .inl h6
      · rw [h6, Int.toNat_natCast] at h5 ⊢
        rcases h5 with h5 | h5
        · omega
        · exact .inr ((fls h7 hn).2 (fun h8 => (fls h7 hk).1 h5 (hup l h8)))
  · rintro (⟨p, hpl, hb⟩ | ⟨⟨h1, h2⟩, h3⟩)
    · obtain ⟨h1, h2, h3, h4, h5⟩ := bars_iff.1 hb
      have hh := (holdsF_iff h hpl hn).1 h4
      have hpk : p ≠ k := fun e => by subst e; exact hkn hh
      refine ⟨p, hpl, bars_iff.2 ⟨h1, h2, hpk, (holdsF_iff h hpl hk).2 (hup p hh), ?_⟩⟩
      rcases leg_is h hpl with h6 | ⟨l, h6, h7, h8, _⟩
      · exact .inl h6
      · rw [h6, Int.toNat_natCast] at h5 ⊢
        rcases h5 with h5 | h5
        · omega
        · refine .inr ((fls h7 hk).2 (fun h9 => ?_))
          rcases hdn l h9 with e | h10
          · subst e
            rw [hp] at h8
            injection h8 with h8
            exact h3 h8.symm
          · exact (fls h7 hn).1 h5 h10
    · refine ⟨n, hn, bars_iff.2 ⟨h1, h2, hnk, (holdsF_iff h hn hk).2 (holds_par hp), ?_⟩⟩
      rcases leg_is h hn with h6 | ⟨l, h6, h7, h8, _⟩
      · exact .inl h6
      · rw [h6, Int.toNat_natCast]
        refine .inr ((fls h7 hk).2 (fun h9 => ?_))
        rcases hdn l h9 with e | h10
        · exact h3 (by rw [h6, e])
        · have e := T.holds_anti hn h7 (holds_par h8) h10
          subst e
          have := (par_lt h h7 h8).2
          omega
def parIn (F : List Core) (t : List Nat) (i : Nat) : Bool := match parF F i with | some p => decide (p ∈ t) | none => false
theorem parIn_iff {F : List Core} {t : List Nat} {i : Nat} : parIn F t i = true ↔ ∃ p, parF F i = some p ∧ p ∈ t := by
  unfold parIn
  cases hp : parF F i with
  | none => simp
  | some p => simp
theorem kid_in {m : Int} {F : List Core} (h : rightF m F = true) {n : Nat} {x : Core} (hx : F[n]? = some x) {i : Nat} (hi : i < F.length) : (i : Int) ∈ x.kids ↔ parF F i = some n := by
  have T := tree_of_right h
  have hkf : kidsF F n = x.kids.map Int.toNat := by unfold kidsF; rw [hx]
  constructor
  · intro hm
    exact T.kid_par n i (by rw [hkf]; exact List.mem_map.2 ⟨i, hm, Int.toNat_natCast i⟩)
  · intro hp
    have := (T.par_kid n i hi hp).2
    rw [hkf] at this
    obtain ⟨z, hz, e⟩ := List.mem_map.1 this
    obtain ⟨u, h1, _⟩ := (right_node h hx).kids z hz
    have h0 := (getC_some h1).1
    have : z = (i : Int) := by omega
    rw [← this]
    exact hz
theorem tree_ahead {m : Int} {F : List Core} (h : rightF m F = true) {r k n : Nat} (hr : r < F.length) (hk : (ordF F r)[k]? = some n) : n = r ∨ parIn F ((ordF F r).take k) n = true := by
  have T := tree_of_right h
  cases k with
  | zero =>
    obtain ⟨rr, hrr⟩ := ordN_head (kids := kidsF F) (F.length + 1) r
    unfold ordF at hk
    rw [hrr] at hk
    exact .inl (by simpa using hk.symm)
  | succ k =>
    obtain ⟨j, p, hj, hp, hjp, _⟩ := T.ord_between (F.length + 1) r hr (by omega) (k + 1) n (by omega) hk
    refine .inr (parIn_iff.2 ⟨p, hp, ?_⟩)
    refine List.mem_of_getElem? (i := j) ?_
    rw [List.getElem?_take, if_pos hj]
    exact hjp
theorem parIn_step {F : List Core} {t : List Nat} {k n : Nat} (hk : t[k]? = some n) (i : Nat) : parIn F (t.take (k + 1)) i = (parIn F (t.take k) i || decide (parF F i = some n)) := by
  have hm : ∀ x, x ∈ t.take (k + 1) ↔ x ∈ t.take k ∨ x = n := fun x => by
    rw [List.take_add_one, hk]
    simp
  unfold parIn
  cases hp : parF F i with
  | none => simp
  | some p =>
    rw [Bool.eq_iff_iff]
    simp [hm]
theorem parIn_nil (F : List Core) (i : Nat) : parIn F [] i = false := by
  unfold parIn
  cases parF F i <;> simp
end Go.Proofs.YtnjoimedilonnaaGreatDoor
namespace Go.Proofs.YtnjoimedilonnaaGreatDoor
open Go.RowKit
theorem disK : (⟨#[100, 105, 115, 97, 98, 108, 101, 100]⟩ : ByteArray).toList = disT := toList_ofL [100, 105, 115, 97, 98, 108, 101, 100]
set_option maxHeartbeats 2000000 in
theorem disabled_any (x : NodeD) (w : World) (h : NodeOk w x) : Calls Tryz.prog 41 #[nodVal x] w fun e w' => e = .returned (.bool (hasA x.core.attrs disT)) ∧ Below w.heap.size w w' := by
  have C : Hid (∀ W, Below w.heap.size w W → Calls Tryz.prog 13 #[.slice x.aA x.aN x.aC, .string ⟨#[100, 105, 115, 97, 98, 108, 101, 100]⟩] W fun e w' => e = .returned (.tuple #[.string (valA x.core.attrs disT), .bool (hasA x.core.attrs disT)]) ∧ Below W.heap.size W w') := Lib.hid (fun W hb => by
    have := attrget_any x.aA x.aN x.aC x.core.attrs ⟨#[100, 105, 115, 97, 98, 108, 101, 100]⟩ W (h.attrs.below hb) (by decide)
    rwa [disK] at this)
  obtain ⟨V, hV⟩ : ∃ V, valA x.core.attrs disT = V := ⟨_, rfl⟩
  obtain ⟨q, hq⟩ : ∃ q, hasA x.core.attrs disT = q := ⟨_, rfl⟩
  rw [hV, hq] at C
  rw [hq]
  obtain ⟨⟨kind, name, is, data, attrs, parent, kids, host, under, doc⟩, aA, aN, aC, kA, kN, kC⟩ := x
  clear h hV hq
  dsimp only at C
  go_enter Tryz.func41, Tryz.ntmps41
  go_wp2_with (go_at_call 13; (with_reducible refine (C.out _ (below_box _ _)).mono ?_); rintro e w1 ⟨rfl, hb⟩; have HB := Lib.hid ((below_box w _).trans (hb.mono (below_box w _).size)); clear hb)
  go_ret
  exact ⟨rfl, HB.out⟩
theorem legF_at {F : List Core} {n : Nat} {x : Core} (h : F[n]? = some x) : legF F n = (x.kids.find? (fun k => nameK F k == legT)).getD (-1) := by
  have e : kidsZ F n = x.kids := by unfold kidsZ; rw [h]
  unfold legF
  rw [e]
  cases x.kids.find? (fun k => nameK F k == legT) <;> rfl
theorem legF_found {F : List Core} {n : Nat} {x : Core} (h : F[n]? = some x) {k : Nat} (hn : ∀ (j : Nat) z, j < k → x.kids[j]? = some z → (nameK F z == legT) = false) {z : Int} (hz : x.kids[k]? = some z) (hl : (nameK F z == legT) = true) : legF F n = z := by
  rw [legF_at h]
  have : x.kids.find? (fun k => nameK F k == legT) = some z := by
    rw [List.find?_eq_some_iff_getElem]
    obtain ⟨hk, e⟩ := List.getElem?_eq_some_iff.1 hz
    exact ⟨hl, k, hk, e, fun j hj => by rw [hn j _ hj (List.getElem?_eq_getElem (by omega))]; rfl⟩
  rw [this]
  rfl
theorem legF_not {F : List Core} {n : Nat} {x : Core} (h : F[n]? = some x) (hn : ∀ (j : Nat) z, j < x.kids.length → x.kids[j]? = some z → (nameK F z == legT) = false) : legF F n = -1 := by
  rw [legF_at h]
  have : x.kids.find? (fun k => nameK F k == legT) = none := by
    rw [List.find?_eq_none]
    intro z hz
    obtain ⟨j, hj, e⟩ := List.getElem_of_mem hz
    rw [hn j z hj (by rw [← e]; exact List.getElem?_eq_getElem hj)]
    exact Bool.false_ne_true
  rw [this]
  rfl
theorem nameK_nat {F : List Core} {k : Nat} {x : Core} (h : F[k]? = some x) : nameK F (k : Int) = x.name.toList := by
  unfold nameK
  rw [getC_nat, h]
set_option maxHeartbeats 8000000 in
set_option maxRecDepth 100000 in
theorem legendOf_any (a : Option Addr) (len cap : Nat) (m : Int) (L : List NodeD) (n : Nat) (w : World) (h : NodeRow w a len cap L) (hr : rightF m (coreL L) = true) (hn : n < len) :
    Calls Tryz.prog 30 #[.slice a len cap, .int .i64 n] w fun e w' => e = .returned (.int .i64 (legF (coreL L) n)) ∧ Below w.heap.size w w' := by
  have HCL : Hid ((coreL L).length = len) := Lib.hid (by rw [coreL_len, h.hlen])
  have hlen := h.len64
  have NR := Lib.hid h
  obtain ⟨b, off, x, rfl, hb, hx, hat, hok⟩ := h.get hn
  have c6 := hat.c6
  have HXC := Lib.hid (coreL_get hx)
  have HK := Lib.hid hok.kids
  have hkn := hok.kids.len64
  have HKL := Lib.hid hok.kids.hlen
  have NUM : Hid (∀ z ∈ x.core.kids, ∃ i : Nat, z = i ∧ i < len) := Lib.hid (fun z hz => by
    obtain ⟨u, h1, _⟩ := (right_node hr (coreL_get hx)).kids z hz
    obtain ⟨g1, g2, _⟩ := getC_some h1
    exact ⟨z.toNat, by omega, by rw [← HCL.out]; exact g2⟩)
  clear h hx hat hok hb hr
  go_enter Tryz.func30, Tryz.ntmps30
  go_wp2
  clear c6
  go_loopw [13] (fun i wr => ∃ k : Nat, k ≤ x.kN ∧ i = .int .i64 k ∧ Hid (∀ (j : Nat) z, j < k → x.core.kids[j]? = some z → (nameK (coreL L) z == legT) = false) ∧ Hid (Below w.heap.size w wr)) (fun i _ => x.kN - (intOf i).toNat)
  case atStart => exact ⟨0, Nat.zero_le _, rfl, Lib.hid (fun j z hj => absurd hj (by omega)), Lib.hid (Below.refl _ _)⟩
  case round =>
    obtain ⟨k, hk, rfl, HA, HB⟩ := hrel
    by_cases hlt : k < x.kN
    · obtain ⟨b2, off2, z, hkA, hb2, hz, hcz, -⟩ := (HK.out.below HB.out).get hlt
      obtain ⟨i, rfl, hi⟩ := NUM.out z (List.mem_of_getElem? hz)
      obtain ⟨b3, off3, y, hab, hb3, hy, haty, -⟩ := (NR.out.below HB.out).get hi
      injection hab with hab
      injection hab with hab1 hab2
      subst hab1
      subst hab2
      have c1 := haty.c1
      have HZ := Lib.hid hz
      have HYN := Lib.hid (nameK_nat (coreL_get hy))
      rw [hkA]
      clear hy haty hz hb2 hb3
      obtain ⟨q, hq⟩ : ∃ q, (y.core.name.toList == [108, 101, 103, 101, 110, 100]) = q := ⟨_, rfl⟩
      have HQ : Hid ((nameK (coreL L) (i : Int) == legT) = q) := Lib.hid (by rw [HYN.out]; exact hq)
      cases q with
      | true =>
        have HR := Lib.hid (legF_found HXC.out HA.out HZ.out HQ.out)
        go_wp2
        go_ret
        exact ⟨ret_int HR.out.symm, HB.out⟩
      | false =>
        go_wp2
        go_roundw
        case rel => exact ⟨k + 1, by omega, by go_num, Lib.hid (fun j z hj hz => by
          rcases Nat.lt_or_ge j k with h1 | h1
          · exact HA.out j z h1 hz
          · obtain rfl : j = k := by omega
            rw [HZ.out] at hz
            injection hz with hz
            subst hz
            exact HQ.out), HB⟩
        case measure => simp [intOf]; omega
    · obtain rfl : k = x.kN := by omega
      have HR := Lib.hid (legF_not HXC.out (by rw [HKL.out]; exact HA.out))
      go_wp2
      go_ret
      exact ⟨ret_int HR.out.symm, HB.out⟩
set_option maxHeartbeats 1000000 in
set_option maxRecDepth 100000 in
theorem indexI_any (a : Option Addr) (len cap : Nat) (L : List Int) (s : Int) (w : World) (h : IntRow w a len cap L) :
    Calls Tryz.prog 54 #[.slice a len cap, .int .i64 s] w fun e w' => ∃ z : Int, e = .returned (.int .i64 z) ∧ decide (0 ≤ z) = decide (s ∈ L) ∧ Below w.heap.size w w' := by
  have H := Lib.hid h
  have HL := Lib.hid h.hlen
  have h64 := h.len64
  have hcap := h.row.hcap
  have hmax := h.row.hmax
  have hcap64 : cap ≤ 9223372036854775807 := by unfold maxLen at hmax; omega
  clear h hmax
  go_enter Tryz.func54, Tryz.ntmps54
  go_wp2
  go_loopw [5, 8] (fun j i wr => ∃ k : Nat, k ≤ len ∧ i = .int .i64 k ∧ Hid (∀ (j : Nat) z, j < k → L[j]? = some z → z ≠ s) ∧ Hid (Below w.heap.size w wr)) (fun _ i _ => len - (intOf i).toNat)
  case atStart => exact ⟨0, Nat.zero_le _, rfl, Lib.hid (fun j x hj => absurd hj (by omega)), Lib.hid (Below.refl _ _)⟩
  case round =>
    obtain ⟨k, hkl, rfl, HA, HR⟩ := hrel
    by_cases hlt : k < len
    · obtain ⟨b, off, y, rfl, hb, hy, y0, -⟩ := (H.out.below HR.out).get hlt
      have HY := Lib.hid hy
      clear hy
      by_cases hq : y = s
      · have hq1 : (s == y) = true := beq_iff_eq.2 hq.symm
        have HM : Hid (s ∈ L) := Lib.hid (by rw [← hq]; exact List.mem_of_getElem? HY.out)
        go_wp2
        go_ret
        refine ⟨k, rfl, ?_, HR.out⟩
        rw [decide_eq_true (by omega : (0 : Int) ≤ k), decide_eq_true HM.out]
      · have hq1 : (s == y) = false := beq_eq_false_iff_ne.2 (fun e => hq e.symm)
        have HQ := Lib.hid hq
        clear hq
        go_wp2
        go_roundw
        case rel => exact ⟨k + 1, by omega, by go_num, Lib.hid (fun j z hj hz => by
          rcases Nat.lt_or_ge j k with h1 | h1
          · exact HA.out j z h1 hz
          · obtain rfl : j = k := by omega
            rw [HY.out] at hz
            injection hz with hz
            subst hz
            exact HQ.out), HR⟩
        case measure => simp [intOf]; omega
    · have hkn : k = len := by omega
      subst hkn
      go_wp2
      go_ret
      refine ⟨-1, rfl, ?_, HR.out⟩
      rw [decide_eq_false (by omega)]
      refine (decide_eq_false fun hm => ?_).symm
      obtain ⟨j, hj⟩ := List.getElem?_of_mem hm
      exact HA.out j s (by have := (List.getElem?_eq_some_iff.1 hj).1; rw [HL.out] at this; exact this) hj rfl
set_option maxHeartbeats 1000000 in
set_option maxRecDepth 100000 in
theorem containsI_any (a : Option Addr) (len cap : Nat) (L : List Int) (s : Int) (w : World) (h : IntRow w a len cap L) :
    Calls Tryz.prog 32 #[.slice a len cap, .int .i64 s] w fun e w' => e = .returned (.bool (decide (s ∈ L))) ∧ Below w.heap.size w w' := by
  have C := Lib.hid (indexI_any a len cap L s w h)
  have h64 := h.len64
  clear h
  go_enter Tryz.func32, Tryz.ntmps32
  go_wp2_with (go_at_call 54; (with_reducible refine C.out.mono ?_); rintro e w1 ⟨z, rfl, hz, hb⟩; have HZ := Lib.hid hz; have HB := Lib.hid hb; clear hz hb)
  go_ret
  exact ⟨by rw [HZ.out]; rfl, HB.out⟩
end Go.Proofs.YtnjoimedilonnaaGreatDoor
namespace Go.Proofs.YtnjoimedilonnaaGreatDoor
open Go.RowKit
structure ShutAt (F : List Core) (w0 w3 W : World) (g len : Nat) (S0 : List Bool) (D : Nat → Bool) (S : List Bool) : Prop where
  below : Below w0.heap.size w0 W
  grown : w3.grownBy W (some g)
  row : ORow encT W g S
  hl : S.length = len
  at_ : ∀ i : Nat, i < len → S[i]? = if D i then some (shutB F i) else S0[i]?
section
variable {F : List Core} {w0 w3 W X : World} {g len : Nat} {S0 S : List Bool} {D E : Nat → Bool}
theorem ShutAt.keep (h : ShutAt F w0 w3 W g len S0 D S) (hb : Below W.heap.size W X) : ShutAt F w0 w3 X g len S0 D S :=
  ⟨h.below.trans (hb.mono h.below.size), grown_then h.grown hb, h.row.keep hb, h.hl, h.at_⟩
theorem ShutAt.same (h : ShutAt F w0 w3 W g len S0 D S) (he : ∀ i, i < len → D i = E i) : ShutAt F w0 w3 W g len S0 E S :=
  ⟨h.below, h.grown, h.row, h.hl, fun i hi => by rw [← he i hi]; exact h.at_ i hi⟩
theorem ShutAt.put (h : ShutAt F w0 w3 W g len S0 D S) (hg : w0.heap.size ≤ g) {i : Nat} (hil : i < len) {z : Bool} (hz : shutB F i = z) (he : ∀ j, j < len → E j = (D j || decide (j = i))) : ShutAt F w0 w3 (W.setCell ⟨g, i, none⟩ (.bool z)) g len S0 E (S.set i z) := by
  refine ⟨h.below.setCell (p := ⟨g, i, none⟩) hg _, grown_set13 h.grown _ _, h.row.set (by rw [h.hl]; exact hil) z, by rw [List.length_set]; exact h.hl, fun j hj => ?_⟩
  rw [he j hj]
  by_cases e : i = j
  · subst e
    rw [List.getElem?_set_self (by rw [h.hl]; exact hil), decide_eq_true rfl, Bool.or_true, if_pos rfl, hz]
  · rw [List.getElem?_set_ne e, h.at_ j hj, decide_eq_false (fun h2 => e h2.symm), Bool.or_false]
theorem ShutAt.val (h : ShutAt F w0 w3 W g len S0 D S) {n : Nat} (hn : n < len) (h0 : D n = true ∨ S0[n]? = some (shutB F n)) : S[n]? = some (shutB F n) := by
  rw [h.at_ n hn]
  by_cases hd : D n = true
  · rw [if_pos hd]
  · rw [if_neg hd]
    exact h0.resolve_left hd
end
def ShutBy (F : List Core) (w0 w : World) (g len : Nat) (S0 : List Bool) (t : List Nat) (e : Ending) (w' : World) : Prop :=
  e = .returned (.tuple #[]) ∧ ∃ S, ShutAt F w0 w w' g len S0 (parIn F t) S
end Go.Proofs.YtnjoimedilonnaaGreatDoor
namespace Go.Proofs.YtnjoimedilonnaaGreatDoor
open Go.RowKit
theorem grown_next {w V W : World} {r : Option Nat} (hb : Below w.heap.size w V) (h : V.grownBy W r) : w.grownBy W r :=
  ⟨h.os.trans hb.os, h.tape.trans hb.tape, h.output.trans hb.output, Nat.le_trans hb.size h.size, fun k hk hne => (h.block k (Nat.lt_of_lt_of_le hk hb.size) hne).trans (hb.block k hk)⟩
theorem ShutAt.from {F : List Core} {w0 w w1 W : World} {g len : Nat} {S0 S : List Bool} {D : Nat → Bool} (h : ShutAt F w0 w1 W g len S0 D S) (hb : Below w.heap.size w w1) : ShutAt F w0 w W g len S0 D S :=
  ⟨h.below, grown_next hb h.grown, h.row, h.hl, h.at_⟩
def kidD (F : List Core) (t : List Nat) (k : Nat) (K : List Int) (j : Nat) (i : Nat) : Bool := parIn F (t.take k) i || decide ((i : Int) ∈ K.take j)
theorem kidD_zero (F : List Core) (t : List Nat) (k : Nat) (K : List Int) (i : Nat) : kidD F t k K 0 i = parIn F (t.take k) i := by
  unfold kidD
  simp
theorem kidD_step {F : List Core} {t : List Nat} {k : Nat} {K : List Int} {j : Nat} {i : Nat} (h : K[j]? = some (i : Int)) (x : Nat) : kidD F t k K (j + 1) x = (kidD F t k K j x || decide (x = i)) := by
  unfold kidD
  rw [List.take_add_one, h, Bool.or_assoc]
  congr 1
  rw [Bool.eq_iff_iff, Bool.or_eq_true, decide_eq_true_eq, decide_eq_true_eq, decide_eq_true_eq, List.mem_append]
  simp only [Option.toList, List.mem_singleton]
  constructor
  · rintro (h | h)
    · exact .inl h
    · exact .inr (by omega)
  · rintro (h | h)
    · exact .inl h
    · exact .inr (by omega)
theorem kidD_all {m : Int} {F : List Core} (hr : rightF m F = true) {t : List Nat} {k n : Nat} {x : Core} (hx : F[n]? = some x) (hk : t[k]? = some n) {i : Nat} (hi : i < F.length) : kidD F t k x.kids x.kids.length i = parIn F (t.take (k + 1)) i := by
  unfold kidD
  rw [parIn_step hk, List.take_length]
  congr 1
  rw [Bool.eq_iff_iff, decide_eq_true_eq, decide_eq_true_eq]
  exact kid_in hr hx hi
set_option maxHeartbeats 8000000 in
set_option maxRecDepth 100000 in
theorem shutIn_any (a : Option Addr) (len cap : Nat) (m : Int) (L : List NodeD) (r g : Nat) (S0 : List Bool) (w0 w : World) (h : NodeRow w0 a len cap L) (hs : smallF L) (hr : rightF m (coreL L) = true) (hrl : r < len) (hp : parF (coreL L) r = none)
    (hb : Below w0.heap.size w0 w) (hg : w0.heap.size ≤ g) (hv : ORow encT w g S0) (hvl : S0.length = len) (h0 : S0[r]? = some false) :
    Calls Tryz.prog 40 #[.slice a len cap, .int .i64 r, .slice (some ⟨g, 0, none⟩) len len] w (ShutBy (coreL L) w0 w g len S0 (ordF (coreL L) r)) := by
  have hlen := h.len64
  have HCL : Hid ((coreL L).length = len) := Lib.hid (by rw [coreL_len, h.hlen])
  have HB := Lib.hid hb
  have HG := Lib.hid hg
  have NR : Hid (∀ W, Below w0.heap.size w0 W → NodeRow W a len cap L) := Lib.hid (fun W hb => h.below hb)
  have hrc : r < (coreL L).length := by rw [HCL.out]; exact hrl
  have CT : Hid (Calls Tryz.prog 67 #[.slice a len cap, .int .i64 r] w (OrdNew w (natL (ordF (coreL L) r)))) := Lib.hid (by
    rw [← ordI_nat]
    exact wtree_any _ len cap m L r w (h.below hb) hs hr hrl)
  have HT : Hid (∀ i ∈ ordF (coreL L) r, i < len) := Lib.hid (fun i hi => by rw [← HCL.out]; exact ordF_lt hr hrc i hi)
  have HTA : Hid (∀ (k n : Nat), (ordF (coreL L) r)[k]? = some n → parIn (coreL L) ((ordF (coreL L) r).take k) n = true ∨ S0[n]? = some (shutB (coreL L) n)) := Lib.hid (fun k n hk => by
    rcases tree_ahead hr hrc hk with e | e
    · subst e
      exact .inr (by rw [shut_top hr hrc hp]; exact h0)
    · exact .inl e)
  have HRT := Lib.hid hr
  have HV := Lib.hid hv
  have HVL := Lib.hid hvl
  obtain ⟨t, ht⟩ : ∃ t, ordF (coreL L) r = t := ⟨_, rfl⟩
  rw [ht] at HT CT HTA ⊢
  clear h hs hr hb hv hvl hrc hp ht h0
  go_enter Tryz.func40, Tryz.ntmps40
  go_wp2_with (go_at_call 67; ((with_reducible refine CT.out.mono ?_); rintro e w1 ⟨ta, tl, tc, rfl, hti, hb, hnew⟩; have HW1 := Lib.hid hb; have IR := Lib.hid hti; have HNEW := Lib.hid hnew; have htl64 := hti.len64; clear hti hb hnew))
  have HTL : Hid (t.length = tl) := Lib.hid (by have := IR.out.hlen; unfold natL at this; rwa [List.length_map] at this)
  have HGL := HV.out.lt
  have HNE : Hid (∀ b o, ta = some ⟨b, o, none⟩ → some b ≠ some g) := Lib.hid (fun b o h e => by have := HNEW.out b o h; injection e with e; omega)
  have HIR : Hid (∀ W, w1.grownBy W (some g) → IntRow W ta tl tc (natL t)) := Lib.hid (fun W h => IR.out.stay h HNE.out)
  have OW0 : Hid (ShutAt (coreL L) w0 w1 w1 g len S0 (parIn (coreL L) (t.take 0)) S0) := Lib.hid
    ⟨HB.out.trans (HW1.out.mono HB.out.size), grown_refl _ _, HV.out.keep HW1.out, HVL.out, fun i _ => by rw [List.take_zero, parIn_nil, if_neg Bool.false_ne_true]⟩
  have G0 : Hid (w1.grownBy w1 (some g)) := Lib.hid (grown_refl _ _)
  clear CT IR HNE HNEW HV
  go_loopw [16] (fun i wr => ∃ (k : Nat) (S : List Bool), k ≤ tl ∧ i = .int .i64 k ∧ Hid (ShutAt (coreL L) w0 w1 wr g len S0 (parIn (coreL L) (t.take k)) S) ∧ Hid (w1.grownBy wr (some g))) (fun i _ => tl - (intOf i).toNat)
  case atStart => exact ⟨0, _, Nat.zero_le _, rfl, OW0, G0⟩
  case round =>
    clear OW0 G0
    obtain ⟨k, S, hk, rfl, OW, GW⟩ := hrel
    by_cases hlt : k < tl
    · obtain ⟨b2, off2, z, rfl, hb2, hz, hcz, -⟩ := (HIR.out wr GW.out).get hlt
      obtain ⟨n, htn, rfl⟩ := natL_get hz
      have hnl := HT.out n (List.mem_of_getElem? htn)
      have VAL := Lib.hid (HTA.out k n htn)
      obtain ⟨b, off, y, hab, hbl, hy, hat, hok⟩ := (NR.out wr OW.out.below).get hnl
      subst hab
      have HBL := Lib.hid hbl
      have HYC := Lib.hid (coreL_get hy)
      have HTI := Lib.hid htn
      have HKL := Lib.hid hok.kids.hlen
      have hkn := hok.kids.len64
      have HKR : Hid (∀ W, Below w0.heap.size w0 W → IntRow W y.kA y.kN y.kC y.core.kids) := Lib.hid (fun W hb => by
        obtain ⟨b', off', y', -, -, hy', -, hok'⟩ := (NR.out W hb).get hnl
        obtain rfl : y = y' := Option.some.inj (hy.symm.trans hy')
        exact hok'.kids)
      have HAT := Lib.hid hat
      obtain ⟨c0, c1, c2, c3, c4, c5, c6, c7, c8, c9⟩ := hat
      obtain ⟨lg, hlg⟩ : ∃ lg, legF (coreL L) n = lg := ⟨_, rfl⟩
      obtain ⟨bs, hbs⟩ : ∃ bs, (fsetB (coreL L) n && disB (coreL L) n) = bs := ⟨_, rfl⟩
      have CE : Hid (∀ W, Below wr.heap.size wr W → Calls Tryz.prog 30 #[.slice (some ⟨b, off, none⟩) len cap, .int .i64 n] W fun e w' => e = .returned (.int .i64 lg) ∧ Below W.heap.size W w') := Lib.hid (fun W hb => by
        rw [← hlg]
        exact legendOf_any _ len cap m L n W (NR.out W (OW.out.below.trans (hb.mono OW.out.below.size))) HRT.out hnl)
      have CD : Hid (∀ W, Below wr.heap.size wr W → Calls Tryz.prog 41 #[nodVal y] W fun e w' => e = .returned (.bool (disB (coreL L) n)) ∧ Below W.heap.size W w') := Lib.hid (fun W hb => by
        rw [disB_at HYC.out]
        exact disabled_any y W (hok.below hb))
      have KID : Hid (∀ z ∈ y.core.kids, ∃ i : Nat, z = i ∧ i < len ∧ shutB (coreL L) i = (shutB (coreL L) n || (bs && decide ((i : Int) ≠ lg)))) := Lib.hid (fun z hz => by
        obtain ⟨u, h1, _⟩ := (right_node HRT.out HYC.out).kids z hz
        obtain ⟨g1, g2, _⟩ := getC_some h1
        refine ⟨z.toNat, by omega, by rw [← HCL.out]; exact g2, ?_⟩
        have hpi := (kid_in HRT.out HYC.out g2).1 (by rw [show ((z.toNat : Nat) : Int) = z by omega]; exact hz)
        rw [shut_step HRT.out g2 hpi, hbs, hlg])
      have FS : Hid (fsetB (coreL L) n = (y.core.name.toList == [102, 105, 101, 108, 100, 115, 101, 116])) := Lib.hid (by unfold fsetB; rw [nameK_nat HYC.out]; rfl)
      have HBS := Lib.hid hbs
      clear hz htn hy hok hlg hbs hb2
      go_upto_region 3 with fail
      clear hcz
      go_cut [8, 9] (fun tb tg wx => True ∧ tb = .bool bs ∧ tg = .int .i64 lg ∧ Hid (Below wr.heap.size wr wx))
      case first =>
        cases fs : (y.core.name.toList == [102, 105, 101, 108, 100, 115, 101, 116]) with
        | true =>
          have HQ : Hid (disB (coreL L) n = bs) := Lib.hid (by rw [← HBS.out, FS.out, fs, Bool.true_and])
          rw [HQ.out] at CD
          go_wp2_with (first
                          | (go_at_call 41; (with_reducible refine (CD.out _ (Below.refl _ _)).mono ?_); rintro e w2 ⟨rfl, hb⟩; have HB2 := Lib.hid hb; clear hb)
                          | (go_at_call 30; (with_reducible refine (CE.out _ HB2.out).mono ?_); rintro e w3 ⟨rfl, hb⟩; have HB3 := Lib.hid (HB2.out.trans (hb.mono HB2.out.size)); clear hb))
          go_meet
          exact ⟨trivial, rfl, rfl, HB3⟩
        | false =>
          have HQ : bs = false := by rw [← HBS.out, FS.out, fs, Bool.false_and]
          subst HQ
          have HB2 : Hid (Below wr.heap.size wr wr) := Lib.hid (Below.refl _ _)
          go_wp2_with (first
                          | (go_at_call 41; (with_reducible refine (CD.out _ (Below.refl _ _)).mono ?_); rintro e w2 ⟨rfl, hb⟩; have HB2 := Lib.hid hb; clear hb)
                          | (go_at_call 30; (with_reducible refine (CE.out _ HB2.out).mono ?_); rintro e w3 ⟨rfl, hb⟩; have HB3 := Lib.hid (HB2.out.trans (hb.mono HB2.out.size)); clear hb))
          go_meet
          exact ⟨trivial, rfl, rfl, HB3⟩
      case rest =>
        obtain ⟨-, rfl, rfl, HB3⟩ := hcut
        have OW1 := Lib.hid (OW.out.keep HB3.out)
        have GW1 := Lib.hid (grown_then GW.out HB3.out)
        have c6a := (HAT.out.below HBL.out HB3.out).c6
        clear c0 c1 c2 c3 c4 c5 c6 c7 c8 c9 OW GW HB3 CD CE FS HBS HAT
        go_wp2
        clear c6a
        have OI0 : Hid (ShutAt (coreL L) w0 w1 wc g len S0 (kidD (coreL L) t k y.core.kids 0) S) := Lib.hid (OW1.out.same (fun i _ => (kidD_zero _ _ _ _ i).symm))
        clear OW1
        go_loopw [42] (fun v wr => ∃ (j : Nat) (S' : List Bool), j ≤ y.kN ∧ v = .int .i64 j ∧ Hid (ShutAt (coreL L) w0 w1 wr g len S0 (kidD (coreL L) t k y.core.kids j) S') ∧ Hid (w1.grownBy wr (some g))) (fun v _ => y.kN - (intOf v).toNat)
        case atStart => exact ⟨0, _, Nat.zero_le _, rfl, OI0, GW1⟩
        case round =>
          clear OI0 GW1
          obtain ⟨j, S', hj, rfl, OI, GI⟩ := hrel
          by_cases hjt : j < y.kN
          · obtain ⟨bk, ok, z, hkA, hbk, hz, hcz, -⟩ := (HKR.out _ OI.out.below).get hjt
            obtain ⟨i, rfl, hil, hsi⟩ := KID.out z (List.mem_of_getElem? hz)
            have HSI := Lib.hid hsi
            obtain ⟨s0, hs0⟩ : ∃ s0, S'[i]? = some s0 := ⟨_, List.getElem?_eq_getElem (by rw [OI.out.hl]; exact hil)⟩
            have hTc := OI.out.row.cell i _ hs0
            have hTf := OI.out.row.free i
            have hTn := OI.out.row.cell n _ (OI.out.val hnl (by rw [kidD, Bool.or_eq_true]; exact VAL.out.imp .inl id))
            have HKZ := Lib.hid hz
            rw [hkA]
            clear hs0 hz hsi hbk
            unfold encT at hTc hTn
            obtain ⟨q, hq⟩ : ∃ q, ((i : Int) != lg) = q := ⟨_, rfl⟩
            obtain ⟨v, hv⟩ : ∃ v, (shutB (coreL L) n || (bs && q)) = v := ⟨_, rfl⟩
            have HVI : Hid (shutB (coreL L) i = v) := Lib.hid (by
              rw [HSI.out, ← hv, ← hq]
              congr 2
              rw [Bool.eq_iff_iff, decide_eq_true_eq, bne_iff_ne])
            obtain ⟨sn, hsn⟩ : ∃ sn, shutB (coreL L) n = sn := ⟨_, rfl⟩
            rw [hsn] at hv hTn
            have NX : Hid (∀ W, W = wr.setCell ⟨g, i, none⟩ (.bool v) → ShutAt (coreL L) w0 w1 W g len S0 (kidD (coreL L) t k y.core.kids (j + 1)) (S'.set i v) ∧ w1.grownBy W (some g)) := Lib.hid (fun W e => by
              subst e
              exact ⟨OI.out.put HG.out hil HVI.out (fun x _ => kidD_step HKZ.out x), grown_set13 GI.out _ _⟩)
            have hjn := hj
            clear hsn HVI HSI OI GI HKZ
            cases sn with
            | true =>
              obtain rfl : true = v := hv
              clear hq
              go_wp2
              go_roundw
              case rel => exact ⟨j + 1, _, by omega, by go_num, Lib.hid (NX.out _ rfl).1, Lib.hid (NX.out _ rfl).2⟩
              case measure => simp [intOf]; omega
            | false =>
              cases bs with
              | false =>
                obtain rfl : false = v := hv
                clear hq
                go_wp2
                go_roundw
                case rel => exact ⟨j + 1, _, by omega, by go_num, Lib.hid (NX.out _ rfl).1, Lib.hid (NX.out _ rfl).2⟩
                case measure => simp [intOf]; omega
              | true =>
                obtain rfl : q = v := hv
                go_wp2
                go_roundw
                case rel => exact ⟨j + 1, _, by omega, by go_num, Lib.hid (NX.out _ rfl).1, Lib.hid (NX.out _ rfl).2⟩
                case measure => simp [intOf]; omega
          · obtain rfl : j = y.kN := by omega
            go_wp2
            go_roundw
            case rel => exact ⟨k + 1, S', by omega, by go_num, Lib.hid (OI.out.same (fun i hi => by rw [← HKL.out]; exact kidD_all HRT.out HYC.out HTI.out (by rw [HCL.out]; exact hi))), GI⟩
            case measure => simp [intOf]; omega
    · obtain rfl : k = tl := by omega
      go_wp2
      go_end0
      refine ⟨rfl, S, ?_⟩
      have h1 := OW.out.from HW1.out
      rwa [← HTL.out, List.take_length] at h1
end Go.Proofs.YtnjoimedilonnaaGreatDoor
