/- Texts joined in build order: WalkOrdMath OwnerMath OwnerNearMath OwnerNamedMath NodeRowW ShadeAsk ValidAsk ValidMay ShadeRefuse ShadeAttach WalkOrder ForestOrderFn ShadeAllFn ShadeElems ForestAheadFn ShadeProof ValidProof Ref3Bare Ref3New Ref3Two ValidOut ValidSwapMath ValidPutMath AttrRem2 AttrTog2 OwnerSmall XKeepOne Ref3Ask. -/
import Derived.Test.YtnjoimedilonnaaGreatC24
import Derived.Test.YtnjoimedilonnaaGreatC18
import Derived.Test.YtnjoimedilonnaaGreatC23
import Derived.Test.YtnjoimedilonnaaGreatC13
import Derived.Maps.OwnSet
import Derived.Test.YtnjoimedilonnaaGreatC21
import Derived.Test.YtnjoimedilonnaaGreatC22
import Derived.Deep.RegionLaw
import Derived.Test.YtnjoimedilonnaaGreatC05
import Derived.Test.YtnjoimedilonnaaGreatC11
namespace Go.Proofs.YtnjoimedilonnaaGreat
open Go.RowKit Go.Shelf
def ordI (F : List Core) (z : Int) : List Int := (ordF F z.toNat).map Int.ofNat
structure Going (F : List Core) (n : Nat) (out P : List Int) : Prop where
  eq : out ++ P.reverse.flatMap (ordI F) = ordI F (n : Int)
  inF : ∀ z ∈ P, 0 ≤ z ∧ z < (F.length : Int)
theorem Going.start {F : List Core} {n : Nat} (h : n < F.length) : Going F n [] [(n : Int)] := ⟨by simp, fun z hz => by
  obtain rfl : z = (n : Int) := by simpa using hz
  omega⟩
theorem Going.step {m : Int} {F : List Core} (hr : rightF m F = true) {n : Nat} {out Q : List Int} {z : Int} {x : Core} (h : Going F n out (Q ++ [z])) (hx : F[z.toNat]? = some x) : Going F n (out ++ [z]) (Q ++ x.kids.reverse) := by
  have T := tree_of_right hr
  obtain ⟨hz0, hz1⟩ := h.inF z (by simp)
  have hzl : z.toNat < F.length := by omega
  have hk : kidsF F z.toNat = x.kids.map Int.toNat := by unfold kidsF; rw [hx]
  have kin : ∀ k ∈ x.kids, 0 ≤ k ∧ k < (F.length : Int) := fun k hkk => by
    have hm : k.toNat ∈ kidsF F z.toNat := by rw [hk]; exact List.mem_map.2 ⟨k, hkk, rfl⟩
    have h1 := T.kid_lt _ _ hm
    have h2 := (nodeOk_iff.1 (((rightF_iff m F).1 hr).2.1 _ x hx)).2.2.1 k hkk
    obtain ⟨c, hc, _⟩ := kidB_iff.1 (kidOk_iff.1 h2).2
    obtain ⟨e1, _, _⟩ := getC_some hc
    omega
  have hord : ordI F z = z :: x.kids.flatMap (ordI F) := by
    unfold ordI ordF
    have h1 := T.ord_more (F.length + 1) z.toNat hzl (by omega)
    have h2 : ordN (kidsF F) (F.length + 1 + 1) z.toNat = z.toNat :: (kidsF F z.toNat).flatMap (ordN (kidsF F) (F.length + 1)) := rfl
    rw [← h1, h2, hk, List.map_cons, List.flatMap_map, List.map_flatMap]
    have e0 : Int.ofNat z.toNat = z := by show ((z.toNat : Nat) : Int) = z; omega
    rw [e0]
  refine ⟨?_, fun y hy => ?_⟩
  · rw [← h.eq, List.reverse_append, List.reverse_append, List.reverse_reverse, List.flatMap_append, List.reverse_singleton, List.singleton_append, List.flatMap_cons, hord]
    simp
  · rcases List.mem_append.1 hy with hy | hy
    · exact h.inF y (by simp [hy])
    · exact kin y (by simpa using hy)
theorem Going.len {F : List Core} {n : Nat} {out P : List Int} (h : Going F n out P) : out.length + P.length ≤ (ordI F (n : Int)).length := by
  have h1 := congrArg List.length h.eq
  rw [List.length_append] at h1
  have h2 : ∀ l : List Int, l.length ≤ (l.flatMap (ordI F)).length := fun l => by
    induction l with
    | nil => simp
    | cons a r ih =>
      have : 0 < (ordI F a).length := by
        unfold ordI ordF
        obtain ⟨t, ht⟩ := ordN_head (kids := kidsF F) (F.length + 1) a.toNat
        rw [ht]
        simp
      rw [List.flatMap_cons, List.length_append, List.length_cons]
      omega
  have h3 := h2 P.reverse
  rw [List.length_reverse] at h3
  omega
theorem ordI_len {m : Int} {F : List Core} (hr : rightF m F = true) {n : Nat} (hn : n < F.length) : (ordI F (n : Int)).length ≤ F.length := by
  have T := tree_of_right hr
  unfold ordI
  rw [List.length_map, Int.toNat_natCast]
  exact nodup_lt F.length _ (T.ord_nodup _ n hn (by omega)) (fun x hx => T.ord_lt _ n hn x hx)
theorem map_encI : ∀ l : List Int, l.map encI = l.flatMap encZ
  | [] => rfl
  | c :: r => by rw [List.map_cons, List.flatMap_cons, map_encI r]; rfl
def sliceN : Value → Nat
  | .slice _ l _ => l
  | _ => 0
theorem sliceN_own {w : World} {base : Nat} {e : TypeId} {size n : Nat} {v : Value} {xs : List Value} (h : w.ownsRow base e size v n xs) : sliceN v = n := by
  rcases h.2 with ⟨rfl, h0⟩ | ⟨g, cap, cur, rfl, _⟩
  · exact h0.symm
  · rfl
theorem backTo_snd (K : List Int) : (backTo K K.length).map Prod.snd = K.reverse := by
  apply List.ext_getElem
  · simp [backTo]
  · intro i h1 h2
    have hi : i < K.length := by simpa using h2
    simp [backTo, backF]
    rw [List.getElem?_eq_getElem (by omega)]
    rfl
def undL (x : Core) : List Int := if x.under = -1 then [] else [x.under]
structure GoingS (F : List Core) (n : Nat) (out P : List Int) : Prop where
  eq : out ++ P.reverse.flatMap (allI F) = allI F (n : Int)
  inF : ∀ z ∈ P, 0 ≤ z ∧ z < (F.length : Int)
theorem GoingS.start {F : List Core} {n : Nat} (h : n < F.length) : GoingS F n [] [(n : Int)] := ⟨by simp, fun z hz => by
  obtain rfl : z = (n : Int) := by simpa using hz
  omega⟩
theorem GoingS.step {m : Int} {F : List Core} (hr : rightF m F = true) {n : Nat} {out Q : List Int} {z : Int} {x : Core} (h : GoingS F n out (Q ++ [z])) (hx : F[z.toNat]? = some x) : GoingS F n (out ++ [z]) (Q ++ x.kids.reverse ++ undL x) := by
  have T := treeS hr
  obtain ⟨hz0, hz1⟩ := h.inF z (by simp)
  have hzl : z.toNat < F.length := by omega
  have kin : ∀ k ∈ x.kids, 0 ≤ k ∧ k < (F.length : Int) := fun k hkk => by
    have h2 := (nodeOk_iff.1 (((rightF_iff m F).1 hr).2.1 _ x hx)).2.2.1 k hkk
    obtain ⟨c, hc, _⟩ := kidB_iff.1 (kidOk_iff.1 h2).2
    obtain ⟨e1, e2, _⟩ := getC_some hc
    omega
  have hord : allI F z = z :: (undL x ++ x.kids.flatMap (allI F)).take 0 ++ ((if x.under = -1 then [] else allI F x.under) ++ x.kids.flatMap (allI F)) := by
    have := allI_open hr hx
    rw [show ((z.toNat : Nat) : Int) = z by omega] at this
    rw [this]
    simp
  refine ⟨?_, fun y hy => ?_⟩
  · rw [← h.eq, List.reverse_append, List.reverse_append, List.reverse_append, List.reverse_reverse, List.flatMap_append, List.flatMap_append, List.reverse_singleton, List.singleton_append, List.flatMap_cons, hord]
    unfold undL
    by_cases hu : x.under = -1
    · rw [if_pos hu, if_pos hu]
      simp
    · rw [if_neg hu, if_neg hu]
      simp
  · rcases List.mem_append.1 hy with hy | hy
    · rcases List.mem_append.1 hy with hy | hy
      · exact h.inF y (by simp [hy])
      · exact kin y (by simpa using hy)
    · unfold undL at hy
      by_cases hu : x.under = -1
      · rw [if_pos hu] at hy; cases hy
      · rw [if_neg hu] at hy
        obtain ⟨s, u, e1, e2, _⟩ := right_under hr hx hu
        have := (List.getElem?_eq_some_iff.1 e2).1
        obtain rfl : y = x.under := by simpa using hy
        omega
theorem GoingS.len {F : List Core} {n : Nat} {out P : List Int} (h : GoingS F n out P) : out.length + P.length ≤ (allI F (n : Int)).length := by
  have h1 := congrArg List.length h.eq
  rw [List.length_append] at h1
  have h2 : ∀ l : List Int, l.length ≤ (l.flatMap (allI F)).length := fun l => by
    induction l with
    | nil => simp
    | cons a r ih =>
      have : 0 < (allI F a).length := by
        unfold allI allF
        obtain ⟨t, ht⟩ := ordN_head (kids := kidsS F) (F.length + 1) a.toNat
        rw [ht]
        simp
      rw [List.flatMap_cons, List.length_append, List.length_cons]
      omega
  have h3 := h2 P.reverse
  rw [List.length_reverse] at h3
  omega
def ordB (sh : Bool) (F : List Core) (n : Int) : List Int := if sh then allI F n else ordI F n
def undB (sh : Bool) (x : Core) : List Int := if sh then undL x else []
def GoingB (sh : Bool) (F : List Core) (n : Nat) (out P : List Int) : Prop := if sh then GoingS F n out P else Going F n out P
section
variable {sh : Bool} {F : List Core} {n : Nat} {out P Q : List Int}
theorem GoingB.start (h : n < F.length) : GoingB sh F n [] [(n : Int)] := by
  cases sh
  · exact Going.start h
  · exact GoingS.start h
theorem GoingB.eq (h : GoingB sh F n out P) : out ++ P.reverse.flatMap (ordB sh F) = ordB sh F (n : Int) := by
  cases sh
  · exact Going.eq h
  · exact GoingS.eq h
theorem GoingB.inF (h : GoingB sh F n out P) : ∀ z ∈ P, 0 ≤ z ∧ z < (F.length : Int) := by
  cases sh
  · exact Going.inF h
  · exact GoingS.inF h
theorem GoingB.len (h : GoingB sh F n out P) : out.length + P.length ≤ (ordB sh F (n : Int)).length := by
  cases sh
  · exact Going.len h
  · exact GoingS.len h
theorem GoingB.step {m : Int} (hr : rightF m F = true) {z : Int} {x : Core} (h : GoingB sh F n out (Q ++ [z])) (hx : F[z.toNat]? = some x) : GoingB sh F n (out ++ [z]) (Q ++ x.kids.reverse ++ undB sh x) := by
  cases sh
  · have := Going.step hr h hx
    show Going F n (out ++ [z]) (Q ++ x.kids.reverse ++ [])
    rw [List.append_nil]
    exact this
  · exact GoingS.step hr h hx
theorem ordB_len {m : Int} (hr : rightF m F = true) (hn : n < F.length) : (ordB sh F (n : Int)).length ≤ F.length := by
  cases sh
  · exact ordI_len hr hn
  · exact allI_len hr hn
end
end Go.Proofs.YtnjoimedilonnaaGreat
namespace Go.Proofs.YtnjoimedilonnaaGreat
open Go.RowKit Go.Maps Go.WideMaps
def idT : List UInt8 := [105, 100]
def formT : List UInt8 := [102, 111, 114, 109]
def formC (x : Core) : Bool := x.name.toList == formT
def formB (F : List Core) (i : Nat) : Bool := match F[i]? with | some x => formC x | none => false
def idC (x : Core) : List UInt8 := (valA x.attrs idT).toList
def idF (F : List Core) (i : Nat) : List UInt8 := match F[i]? with | some x => idC x | none => []
def nearN (F : List Core) : Nat → Nat → Int
  | 0, _ => -1
  | f + 1, i => match parF F i with
    | none => -1
    | some p => if formB F p then (p : Int) else nearN F f p
def nearF (F : List Core) (i : Nat) : Int := nearN F (F.length + 1) i
def pickF (F : List Core) (t : List Nat) (v : List UInt8) : Int :=
  if v = [] then -1 else match t.find? (fun k => idF F k == v) with
    | some k => if formB F k then (k : Int) else -1
    | none => -1
def linkF (F : List Core) (i : Nat) : Bool := kindK F (topF F i) == 0
def asksC (x : Core) : Bool := hasA x.attrs formT
def wantC (x : Core) : List UInt8 := (valA x.attrs formT).toList
def ownC (F : List Core) (i : Nat) (x : Core) : Int :=
  if x.kind = 1 then (if asksC x && linkF F i then pickF F (ordF F (rootF F i)) (wantC x) else nearF F i) else -1
def ownF (F : List Core) (i : Nat) : Int := match F[i]? with | some x => ownC F i x | none => -1
theorem par_lt {m : Int} {F : List Core} (h : rightF m F = true) {i p : Nat} (hi : i < F.length) (hp : parF F i = some p) : p < F.length ∧ rankF F i = rankF F p + 1 := by
  have T := tree_of_right h
  have := T.holds_rank hi (holds_par hp)
  exact ⟨this.1, T.rank_up p i hi hp⟩
theorem rank_len {m : Int} {F : List Core} (h : rightF m F = true) {i : Nat} (hi : i < F.length) : rankF F i ≤ F.length + 1 := by
  have := (tree_of_right h).rank_le i hi
  omega
theorem ordF_lt {m : Int} {F : List Core} (h : rightF m F = true) {i : Nat} (hi : i < F.length) : ∀ k ∈ ordF F i, k < F.length := fun k hk => (tree_of_right h).ord_lt _ i hi k hk
theorem rootF_lt2 {m : Int} {F : List Core} (h : rightF m F = true) {i : Nat} (hi : i < F.length) : rootF F i < F.length := (tree_of_right h).root_lt hi
theorem root_self {m : Int} {F : List Core} (h : rightF m F = true) {r i : Nat} (hr : r < F.length) (hp : parF F r = none) (hi : i ∈ ordF F r) : i < F.length ∧ rootF F i = r := by
  have T := tree_of_right h
  have hil := ordF_lt h hr i hi
  have hh := (T.mem_ord _ _ hr (by omega) i hil).1 hi
  exact ⟨hil, T.root_of (f := F.length + 1) hil (by have := T.rank_le i hil; omega) hh hp⟩
theorem in_tree {m : Int} {F : List Core} (h : rightF m F = true) {i : Nat} (hi : i < F.length) : i ∈ ordF F (rootF F i) := (tree_of_right h).in_root hi (Nat.le_refl _)
theorem root_none {m : Int} {F : List Core} (h : rightF m F = true) {i : Nat} (hi : i < F.length) : parF F (rootF F i) = none := (tree_of_right h).root_top _ i hi (rank_len h hi)
theorem isKey (l : List UInt8) : WideAt.IsKeyLit (.string l) := trivial
structure ById (F : List Core) (t : List Nat) (k : Nat) (D : DataW Unit) : Prop where
  tidy : Tidy D
  has : ∀ v, Maps.has D (.string v) = (decide (v ≠ []) && ((t.take k).find? (fun i => idF F i == v)).isSome)
  at_ : ∀ v i, v ≠ [] → (t.take k).find? (fun i => idF F i == v) = some i → ∀ z, D.atKey (.string v) z = .lit (.int .i64 i)
theorem ById.start (F : List Core) (t : List Nat) : ById F t 0 (.map []) := ⟨tidy_empty, fun v => by rw [List.take_zero]; simp [Maps.has], fun v i _ h => by rw [List.take_zero] at h; cases h⟩
theorem find_take {F : List Core} {t : List Nat} {k i : Nat} (hi : t[k]? = some i) (v : List UInt8) :
    (t.take (k + 1)).find? (fun i => idF F i == v) = ((t.take k).find? (fun i => idF F i == v)).or (if idF F i = v then some i else none) := by
  rw [List.take_add_one, hi, List.find?_append]
  congr 1
  simp only [Option.toList, List.find?_cons, List.find?_nil]
  by_cases e : idF F i = v
  · rw [if_pos e, beq_iff_eq.2 e]
  · rw [if_neg e, beq_eq_false_iff_ne.2 e]
theorem ById.put {F : List Core} {t : List Nat} {k i : Nat} {D : DataW Unit} (h : ById F t k D) (hi : t[k]? = some i) (hne : idF F i ≠ []) (hv : Maps.has D (.string (idF F i)) = false) : ById F t (k + 1) (D.put (.string (idF F i)) (.lit (.int .i64 i))) := by
  have hno : (t.take k).find? (fun j => idF F j == idF F i) = none := by
    rw [h.has, decide_eq_true hne, Bool.true_and] at hv
    cases hj : (t.take k).find? (fun j => idF F j == idF F i) with
    | none => rfl
    | some j => rw [hj] at hv; cases hv
  have sne : ∀ {v : List UInt8}, v ≠ idF F i → (Lit.string v) ≠ Lit.string (idF F i) := fun h e => h (by injection e)
  refine ⟨h.tidy.put (isKey _) _, fun v => ?_, fun v j hn hf z => ?_⟩
  · by_cases e : v = idF F i
    · rw [e, has_put_same h.tidy.isMap (isKey _), decide_eq_true hne, find_take hi, hno, if_pos rfl]
      rfl
    · rw [has_put_other (sne e), h.has, find_take hi, if_neg (fun h => e h.symm)]
      cases (t.take k).find? (fun i => idF F i == v) <;> rfl
  · by_cases e : v = idF F i
    · subst e
      rw [find_take hi, hno, if_pos rfl] at hf
      injection hf with hf
      subst hf
      exact atKey_put_same h.tidy.isMap (isKey _) _ _
    · rw [atKey_put_other (sne e)]
      rw [find_take hi, if_neg (fun h => e h.symm)] at hf
      refine h.at_ v j hn ?_ z
      cases hj : (t.take k).find? (fun i => idF F i == v) with
      | none => rw [hj] at hf; cases hf
      | some y => rw [hj] at hf; exact hf
end Go.Proofs.YtnjoimedilonnaaGreat
namespace Go.Proofs.YtnjoimedilonnaaGreat
open Go.RowKit
end Go.Proofs.YtnjoimedilonnaaGreat
namespace Go.Proofs.YtnjoimedilonnaaGreat
open Go.RowKit
end Go.Proofs.YtnjoimedilonnaaGreat
namespace Go.Proofs.YtnjoimedilonnaaGreat
open Go.RowKit
structure WRow (W : World) (g len cap : Nat) (M : List NodeD) : Prop where
  row : NodeRow W (some ⟨g, 0, none⟩) len cap M
  lt : g < W.heap.size
  free : ∀ o, W.frozen? ⟨g, o, none⟩ = false
  away : ∀ x ∈ M, NodeAway g x
theorem WRow.keep {W W2 : World} {g len cap : Nat} {M : List NodeD} (h : WRow W g len cap M) (hb : Below W.heap.size W W2) : WRow W2 g len cap M :=
  ⟨h.row.below hb, Nat.lt_of_lt_of_le h.lt hb.size, fun o => (hb.frozen (p := ⟨g, o, none⟩) h.lt).trans (h.free o), h.away⟩
theorem WRow.at_ {W : World} {g len cap : Nat} {M : List NodeD} (h : WRow W g len cap M) {k : Nat} {x : NodeD} (hk : M[k]? = some x) : NodeAt W g (k * 10) x ∧ NodeOk W x := by
  have hl : k < len := by have := (List.getElem?_eq_some_iff.1 hk).1; rwa [h.row.hlen] at this
  obtain ⟨b, off, y, hab, _, hy, hat, hok⟩ := h.row.get hl
  injection hab with hab
  injection hab with e1 e2
  subst e1 e2
  obtain rfl : x = y := Option.some.inj (hk.symm.trans hy)
  rw [Nat.zero_add] at hat
  exact ⟨hat, hok⟩
theorem WRow.of_own {W : World} {base n : Nat} {v : Value} {M : List NodeD} (hown : W.ownsRow base 37 10 v n (M.flatMap encN)) (hl : M.length = n) (hn : 0 < n) (hok : ∀ x ∈ M, NodeOk W x) (haw : ∀ g, v.ownBlock = some g → ∀ x ∈ M, NodeAway g x) :
    ∃ g cap, v = .slice (some ⟨g, 0, none⟩) n cap ∧ base ≤ g ∧ WRow W g n cap M := by
  obtain ⟨a, cap', he, hr, _⟩ := SRow.of_own (fun x _ => encN_len x) hl hown
  rcases hown.2 with ⟨_, h0⟩ | ⟨g, cap, cur, hv, hb, hg, _⟩
  · omega
  · rw [hv] at he
    injection he with h1 h2 h3
    subst h1; subst h3
    refine ⟨g, cap, hv, hb, ⟨hr, hok, fun h => by cases h⟩, (Array.getElem?_eq_some_iff.1 hg).1, fun o => row_free hg o, haw g (by rw [hv]; rfl)⟩
theorem WRow.set {W : World} {g len cap : Nat} {M : List NodeD} (h : WRow W g len cap M) {k j : Nat} {x y : NodeD} {u : Value} (hk : M[k]? = some x) (hj : j < 10) (he : encN y = (encN x).set j u) (hy : NodeOk W y) (hw : NodeAway g y) :
    WRow (W.setCell ⟨g, k * 10 + j, none⟩ u) g len cap (M.set k y) := by
  obtain ⟨hkl, _⟩ := List.getElem?_eq_some_iff.1 hk
  have hlen : k < len := by rw [h.row.hlen] at hkl; exact hkl
  have aw : ∀ z ∈ M.set k y, NodeAway g z := fun z hz => by
    rcases List.mem_or_eq_of_mem_set hz with hz | rfl
    · exact h.away z hz
    · exact hw
  have ok : ∀ z ∈ M.set k y, NodeOk W z := fun z hz => by
    rcases List.mem_or_eq_of_mem_set hz with hz | rfl
    · exact h.row.ok z hz
    · exact hy
  refine ⟨⟨⟨by rw [List.length_set]; exact h.row.hlen, h.row.row.hcap, h.row.row.hmax, fun z _ => encN_len z, .inr ⟨g, 0, rfl, by simpa [World.setCell] using h.lt, fun i z j' v hz hv => ?_⟩⟩, fun z hz => (ok z hz).setCell (aw z hz) u, fun e => by cases e⟩, by simpa [World.setCell] using h.lt, fun o => by rw [World.frozen?_setCell]; exact h.free o, aw⟩
  have hj' : j' < 10 := by
    have := (List.getElem?_eq_some_iff.1 hv).1
    rwa [encN_len] at this
  by_cases e : i = k
  · subst e
    rw [List.getElem?_set_self hkl] at hz
    obtain rfl : y = z := Option.some.inj hz
    rw [he] at hv
    by_cases ej : j = j'
    · subst ej
      rw [List.getElem?_set_self (by rw [encN_len]; exact hj)] at hv
      rw [← Option.some.inj hv, Nat.zero_add]
      have hc : ∃ v0, (encN x)[j]? = some v0 := ⟨_, List.getElem?_eq_getElem (by rw [encN_len]; exact hj)⟩
      obtain ⟨v0, hv0⟩ := hc
      rcases h.row.row.cells with h0 | ⟨b, off, ha, _, hcell⟩
      · omega
      · injection ha with ha
        injection ha with e1 e2
        subst e1 e2
        have := hcell i x j v0 hk hv0
        rw [Nat.zero_add] at this
        exact World.cell?_setCell_same _ _ _ this
    · rw [List.getElem?_set_ne ej] at hv
      rw [World.cell?_setCell_other _ _ _ _ (fun e' => by injection e' with _ e'; omega)]
      rcases h.row.row.cells with h0 | ⟨b, off, ha, _, hcell⟩
      · omega
      · injection ha with ha
        injection ha with e1 e2
        subst e1 e2
        exact hcell i x j' v hk hv
  · rw [List.getElem?_set_ne (fun e2 => e e2.symm)] at hz
    rw [World.cell?_setCell_other _ _ _ _ (fun e' => by injection e' with _ e'; have : k * 10 + j = 0 + i * 10 + j' := e'; omega)]
    rcases h.row.row.cells with h0 | ⟨b, off, ha, _, hcell⟩
    · omega
    · injection ha with ha
      injection ha with e1 e2
      subst e1 e2
      exact hcell i z j' v hz hv
theorem WRow.other {W : World} {g len cap : Nat} {M : List NodeD} (h : WRow W g len cap M) {b : Nat} (hb : b ≠ g) (ha : ∀ x ∈ M, NodeAway b x) (o : Nat) (u : Value) : WRow (W.setCell ⟨b, o, none⟩ u) g len cap M :=
  ⟨⟨h.row.row.keep (by simp [World.setCell]) (fun b' off he _ o' => World.cell?_setCell_other _ _ _ _ (fun e => by injection he with he; injection he with e1 _; injection e with e2 _; exact hb (e2.trans e1.symm))), fun x hx => (h.row.ok x hx).setCell (ha x hx) u, h.row.hnil⟩, by simpa [World.setCell] using h.lt, fun o' => by rw [World.frozen?_setCell]; exact h.free o', h.away⟩
def withK (x : NodeD) (a : Option Addr) (n c : Nat) (l : List Int) : NodeD := ⟨⟨x.core.kind, x.core.name, x.core.is, x.core.data, x.core.attrs, x.core.parent, l, x.core.host, x.core.under, x.core.doc⟩, x.aA, x.aN, x.aC, a, n, c⟩
def withP (x : NodeD) (p : Int) : NodeD := ⟨⟨x.core.kind, x.core.name, x.core.is, x.core.data, x.core.attrs, p, x.core.kids, x.core.host, x.core.under, x.core.doc⟩, x.aA, x.aN, x.aC, x.kA, x.kN, x.kC⟩
def withD (x : NodeD) (d : Int) : NodeD := ⟨⟨x.core.kind, x.core.name, x.core.is, x.core.data, x.core.attrs, x.core.parent, x.core.kids, x.core.host, x.core.under, d⟩, x.aA, x.aN, x.aC, x.kA, x.kN, x.kC⟩
theorem WRow.setK {W : World} {g len cap : Nat} {M : List NodeD} (h : WRow W g len cap M) {k : Nat} {x : NodeD} (hk : M[k]? = some x) {a : Option Addr} {n c : Nat} {l : List Int} (hl : IntRow W a n c l) (hw : ∀ b off, a = some ⟨b, off, none⟩ → 0 < n → b ≠ g) : WRow (W.setCell ⟨g, k * 10 + 6, none⟩ (.slice a n c)) g len cap (M.set k (withK x a n c l)) := by
  obtain ⟨_, hok⟩ := h.at_ hk
  have ha := h.away x (List.mem_of_getElem? hk)
  exact h.set hk (by omega) rfl ⟨hok.attrs, hl, hok.name, hok.is, hok.data, hok.kind, hok.parent, hok.host, hok.under, hok.doc⟩ ⟨ha.1, hw⟩
theorem WRow.setP {W : World} {g len cap : Nat} {M : List NodeD} (h : WRow W g len cap M) {k : Nat} {x : NodeD} (hk : M[k]? = some x) {p : Int} (hp : In64 p) : WRow (W.setCell ⟨g, k * 10 + 5, none⟩ (.int .i64 p)) g len cap (M.set k (withP x p)) := by
  obtain ⟨_, hok⟩ := h.at_ hk
  have ha := h.away x (List.mem_of_getElem? hk)
  exact h.set hk (by omega) rfl ⟨hok.attrs, hok.kids, hok.name, hok.is, hok.data, hok.kind, hp, hok.host, hok.under, hok.doc⟩ ha
end Go.Proofs.YtnjoimedilonnaaGreat
namespace Go.Proofs.YtnjoimedilonnaaGreat
open Go.RowKit
end Go.Proofs.YtnjoimedilonnaaGreat
namespace Go.Proofs.YtnjoimedilonnaaGreat
open Go.RowKit
end Go.Proofs.YtnjoimedilonnaaGreat
namespace Go.Proofs.YtnjoimedilonnaaGreat
open Go.RowKit
end Go.Proofs.YtnjoimedilonnaaGreat
namespace Go.Proofs.YtnjoimedilonnaaGreat
open Go.RowKit
end Go.Proofs.YtnjoimedilonnaaGreat
namespace Go.Proofs.YtnjoimedilonnaaGreat
open Go.RowKit
attribute [local go_sem ↓] Go.wp_at_zero Go.wp_at_succ
structure AttSt (w W : World) (a : Option Addr) (len cap : Nat) (m : Int) (L : List NodeD) : Prop where
  box : Box w W w.heap.size a len cap m L (coreL L)
  res : Box2 W (w.heap.size + 1) (.slice none 0 0) (.int .i64 0)
theorem AttSt.keep {w W W2 : World} {a : Option Addr} {len cap : Nat} {m : Int} {L : List NodeD} (h : AttSt w W a len cap m L) (hb : Below W.heap.size W W2) : AttSt w W2 a len cap m L := ⟨h.box.keep hb, h.res.keep hb⟩
theorem AttSt.start {w : World} {a : Option Addr} {len cap : Nat} {m : Int} {L : List NodeD} (h : NodeRow w a len cap L) : AttSt w ((w.alloc (forB a len cap m)).alloc zeroFB) a len cap m L := by
  refine ⟨(Box.start h).keep (below_box _ _), ?_⟩
  have := Box2.new (w.alloc (forB a len cap m)) (.slice none 0 0) (.int .i64 0) 24
  rwa [show (w.alloc (forB a len cap m)).heap.size = w.heap.size + 1 by simp] at this
structure AttCp (r : Nat) (w0 W : World) (len : Nat) (m : Int) (F : List Core) (q : Nat) (v : Value) (M : List NodeD) : Prop where
  copy : Copy w0.heap.size w0 W v len M F
  g : Box2 W q v (.int .i64 m)
  low : w0.heap.size ≤ q
  ne : v.ownBlock ≠ some q
  aq : ∀ y ∈ M, NodeAway q y
  ar : ∀ y ∈ M, NodeAway r y
theorem AttCp.keep {r : Nat} {w0 W W2 : World} {len : Nat} {m : Int} {F : List Core} {q : Nat} {v : Value} {M : List NodeD} (h : AttCp r w0 W len m F q v M) (hb : Below W.heap.size W W2) : AttCp r w0 W2 len m F q v M :=
  ⟨h.copy.keep hb, h.g.keep hb, h.low, h.ne, h.aq, h.ar⟩
theorem AttCp.finish {r : Nat} {w w0 W : World} {len : Nat} {m : Int} {F : List Core} {q : Nat} {v : Value} {M : List NodeD} (h : AttCp r w0 W len m F q v M) (hsz : r < w0.heap.size) (hlo : w.heap.size ≤ r) (hb : Below w.heap.size w w0) (u1 u2 : Value) :
    ∃ a cap, v = .slice a len cap ∧ NodeRow ((W.setCell ⟨r, 0, none⟩ u1).setCell ⟨r, 1, none⟩ u2) a len cap M ∧ coreL M = F ∧ Below w.heap.size w ((W.setCell ⟨r, 0, none⟩ u1).setCell ⟨r, 1, none⟩ u2) := by
  have hne : v.ownBlock ≠ some r := own_not h.copy.own hsz
  have c2 : Copy w.heap.size w ((W.setCell ⟨r, 0, none⟩ u1).setCell ⟨r, 1, none⟩ u2) v len M F :=
    ⟨own_base (own_boxCell (own_boxCell h.copy.own hne _) hne _) hb.size, h.copy.hl, h.copy.core, fun x hx => ((h.copy.ok x hx).setCell (h.ar x hx) _).setCell (h.ar x hx) _, fun g hg => by
      rcases hg with hg | hg
      · omega
      · exact h.copy.away g (.inr hg), ((hb.trans (h.copy.below.mono hb.size)).setCell (p := ⟨r, 0, none⟩) hlo _).setCell (p := ⟨r, 1, none⟩) hlo _⟩
  obtain ⟨a, cap, hv, hr, _⟩ := c2.row
  exact ⟨a, cap, hv, hr, h.copy.core, c2.below⟩
def withUD (x : NodeD) (u : Int) : NodeD := ⟨withU x.core u, x.aA, x.aN, x.aC, x.kA, x.kN, x.kC⟩
theorem Copy.at {lo : Nat} {w W : World} {g n cap k : Nat} {M : List NodeD} {F : List Core} {x : NodeD} (h : Copy lo w W (.slice (some ⟨g, 0, none⟩) n cap) n M F) (hx : M[k]? = some x) : NodeAt W g (k * 10) x := by
  obtain ⟨a, cap', he, hr, _⟩ := h.row
  injection he with e1 e2 e3
  subst e1
  have hk : k < n := by
    have := (List.getElem?_eq_some_iff.1 hx).1
    rw [h.hl] at this
    exact this
  obtain ⟨b', off, y, hab, _, hy, hat, _⟩ := hr.get hk
  injection hab with hab
  injection hab with e1 e2
  subst e1 e2
  obtain rfl : x = y := Option.some.inj (hx.symm.trans hy)
  rwa [Nat.zero_add] at hat
theorem AttCp.under {r : Nat} {w0 W : World} {len cap : Nat} {m : Int} {F : List Core} {q g : Nat} {M : List NodeD} {k : Nat} {x : NodeD} {u : Int} (h : AttCp r w0 W len m F q (.slice (some ⟨g, 0, none⟩) len cap) M) (hk : M[k]? = some x) (hu : In64 u) :
    AttCp r w0 (W.setCell ⟨g, k * 10 + 8, none⟩ (.int .i64 u)) len m (F.set k (withU x.core u)) q (.slice (some ⟨g, 0, none⟩) len cap) (M.set k (withUD x u)) := by
  obtain ⟨hl, he⟩ := List.getElem?_eq_some_iff.1 hk
  have hkn : k < len := by have := h.copy.hl; omega
  have hgl : w0.heap.size ≤ g := (h.copy.own.lt g rfl).1
  have hgq : g ≠ q := fun e => h.ne (by rw [← e]; rfl)
  have o1 := own_setCell h.copy.own (j := k * 10 + 8) (by omega) (.int .i64 u)
  rw [flat_set (L := M) (fun z _ => encN_len z) (i := k) (j := 8) (y := withUD x u) (u := .int .i64 u) (x := x) hk rfl (by omega)] at o1
  have mem : ∀ y ∈ M.set k (withUD x u), y ∈ M ∨ y = withUD x u := fun y hy => List.mem_or_eq_of_mem_set hy
  have hxm := List.mem_of_getElem? hk
  have hox := h.copy.ok x hxm
  have haw := h.copy.away g (.inr rfl)
  have away : ∀ g', (∀ y ∈ M, NodeAway g' y) → ∀ y ∈ M.set k (withUD x u), NodeAway g' y := fun g' hg' y hy => by
    rcases mem y hy with hy | rfl
    · exact hg' y hy
    · exact hg' x hxm
  refine ⟨⟨o1, by rw [List.length_set]; exact h.copy.hl, ?_, fun y hy => ?_, fun g' hg' => away g' (h.copy.away g' hg'), h.copy.below.setCell (p := ⟨g, k * 10 + 8, none⟩) hgl _⟩, ?_, h.low, h.ne, away q h.aq, away r h.ar⟩
  · rw [← h.copy.core]
    unfold coreL
    rw [List.map_set]
    rfl
  · rcases mem y hy with hy | rfl
    · exact (h.copy.ok y hy).setCell (haw y hy) _
    · have hq : NodeOk W (withUD x u) := ⟨hox.attrs, hox.kids, hox.name, hox.is, hox.data, hox.kind, hox.parent, hox.host, hu, hox.doc⟩
      exact hq.setCell (haw x hxm) _
  · have hb : ∀ o, (⟨g, k * 10 + 8, none⟩ : Addr) ≠ ⟨q, o, none⟩ := fun o e => hgq (by injection e)
    exact ⟨by simpa [World.setCell] using h.g.lt, (World.cell?_setCell_other _ _ _ _ (hb 0)).trans h.g.c0, (World.cell?_setCell_other _ _ _ _ (hb 1)).trans h.g.c1, by rw [World.frozen?_setCell]; exact h.g.f0, by rw [World.frozen?_setCell]; exact h.g.f1⟩
theorem AttCp.grown {r : Nat} {w0 W W2 : World} {len : Nat} {m : Int} {F : List Core} {q : Nat} {v : Value} {M : List NodeD} (h : AttCp r w0 W len m F q v M) (hg : W.grownBy W2 v.ownBlock) (ho : W2.ownsRow w0.heap.size 37 10 v len (M.flatMap encN)) : AttCp r w0 W2 len m F q v M :=
  ⟨⟨ho, h.copy.hl, h.copy.core, fun x hx => (h.copy.ok x hx).grown hg (fun g e => h.copy.away g (.inr e) x hx), h.copy.away, h.copy.below.grown hg h.copy.below.size (fun k e => (h.copy.own.lt k e).1)⟩, h.g.grown hg (fun e => h.ne e.symm), h.low, h.ne, h.aq, h.ar⟩
structure AttRow (r : Nat) (w0 W : World) (len : Nat) (q g cap : Nat) (M : List NodeD) (y : NodeD) : Prop where
  own : W.ownsRow w0.heap.size 37 10 (.slice (some ⟨g, 0, none⟩) (len + 1) cap) (len + 1) ((M ++ [y]).flatMap encN)
  hl : M.length = len
  ok : ∀ z ∈ M ++ [y], NodeOk W z
  nq : g ≠ q
  aq : ∀ z ∈ M ++ [y], NodeAway q z
  ar : ∀ z ∈ M ++ [y], NodeAway r z
theorem AttRow.row {r : Nat} {w0 W : World} {len q g cap : Nat} {M : List NodeD} {y : NodeD} (h : AttRow r w0 W len q g cap M y) : NodeRow W (some ⟨g, 0, none⟩) (len + 1) cap (M ++ [y]) := by
  obtain ⟨a, cap', he, hr, _⟩ := SRow.of_own (L := M ++ [y]) (fun x _ => encN_len x) (by rw [List.length_append, h.hl]; rfl) h.own
  injection he with h1 h2 h3
  subst h1; subst h3
  exact ⟨hr, h.ok, fun h => by cases h⟩
theorem AttRow.new {r : Nat} {w0 W W2 : World} {len : Nat} {m : Int} {F : List Core} {q g cap : Nat} {v : Value} {M : List NodeD} {y : NodeD} (h : AttCp r w0 W len m F q v M) (hy : NodeOk W y) (hya : y.aA = none) (hyk : y.kA = none)
    (ho : W2.ownsRow w0.heap.size 37 10 (.slice (some ⟨g, 0, none⟩) (len + 1) cap) (len + 1) (M.flatMap encN ++ encN y)) (hg : W.grownBy W2 v.ownBlock) (hat : v.ownBlock = some g ∨ g = W.heap.size) : AttRow r w0 W2 len q g cap M y := by
  have away : ∀ k, NodeAway k y := fun k => ⟨(fun b off hb => by rw [hya] at hb; cases hb), (fun b off hb => by rw [hyk] at hb; cases hb)⟩
  have hlow := h.low
  refine ⟨by simpa using ho, h.copy.hl, fun z hz => ?_, ?_, fun z hz => ?_, fun z hz => ?_⟩
  · rcases List.mem_append.1 hz with hz | hz
    · exact (h.copy.ok z hz).grown hg (fun k e => h.copy.away k (.inr e) z hz)
    · obtain rfl : z = y := by simpa using hz
      exact hy.grown hg (fun k _ => away k)
  · rcases hat with hat | hat
    · intro e
      exact h.ne (by rw [hat, e])
    · have := h.g.lt
      omega
  · rcases List.mem_append.1 hz with hz | hz
    · exact h.aq z hz
    · obtain rfl : z = y := by simpa using hz
      exact away q
  · rcases List.mem_append.1 hz with hz | hz
    · exact h.ar z hz
    · obtain rfl : z = y := by simpa using hz
      exact away _
theorem AttRow.finish {r : Nat} {w w0 W : World} {len q g cap : Nat} {M : List NodeD} {y : NodeD} (h : AttRow r w0 W len q g cap M y) (hsz : r < w0.heap.size) (hlo : w.heap.size ≤ r) (hq : w0.heap.size ≤ q) (hb : Below w.heap.size w w0) (hb2 : Below w0.heap.size w0 W) (u0 u1 u2 : Value) :
    NodeRow (((W.setCell ⟨q, 0, none⟩ u0).setCell ⟨r, 0, none⟩ u1).setCell ⟨r, 1, none⟩ u2) (some ⟨g, 0, none⟩) (len + 1) cap (M ++ [y]) ∧ Below w.heap.size w (((W.setCell ⟨q, 0, none⟩ u0).setCell ⟨r, 0, none⟩ u1).setCell ⟨r, 1, none⟩ u2) := by
  have n1 : (Value.slice (some ⟨g, 0, none⟩) (len + 1) cap).ownBlock ≠ some q := fun e => h.nq (by injection e)
  have n2 : (Value.slice (some ⟨g, 0, none⟩) (len + 1) cap).ownBlock ≠ some r := own_not h.own hsz
  have c2 : AttRow r w0 (((W.setCell ⟨q, 0, none⟩ u0).setCell ⟨r, 0, none⟩ u1).setCell ⟨r, 1, none⟩ u2) len q g cap M y :=
    ⟨own_boxCell (own_boxCell (own_boxCell h.own n1 _) n2 _) n2 _, h.hl, fun z hz => (((h.ok z hz).setCell (h.aq z hz) _).setCell (h.ar z hz) _).setCell (h.ar z hz) _, h.nq, h.aq, h.ar⟩
  have hsz2 := hb.size
  exact ⟨c2.row, (((hb.trans (hb2.mono hb.size)).setCell (p := ⟨q, 0, none⟩) (by show w.heap.size ≤ q; omega) _).setCell (p := ⟨r, 0, none⟩) hlo _).setCell (p := ⟨r, 1, none⟩) hlo _⟩
end Go.Proofs.YtnjoimedilonnaaGreat
namespace Go.Proofs.YtnjoimedilonnaaGreat
open Go.RowKit Go.Shelf
attribute [local go_sem] Oper.semAt_some
set_option maxHeartbeats 8000000 in
set_option maxRecDepth 100000 in
theorem worder_any (a : Option Addr) (len cap : Nat) (m : Int) (L : List NodeD) (n : Nat) (sh : Bool) (w : World) (h : NodeRow w a len cap L) (hs : smallF L) (hr : rightF m (coreL L) = true) (hkl : n < len) :
    Calls Tryz.prog 46 #[.slice a len cap, .int .i64 n, .bool sh] w (OwnPostI w (ordB sh (coreL L) n)) := by
  have hk : n < (coreL L).length := by rw [coreL_len, h.hlen]; exact hkl
  have hn : In64 (n : Int) := ⟨by omega, by have := h.len64; omega⟩
  have NR := Lib.hid h
  have HRT := Lib.hid hr
  have HL := Lib.hid h.hlen
  have HS := Lib.hid hs
  obtain ⟨b, off, x0, rfl, hb1, -, -, -⟩ := h.get (k := n) hkl
  clear h hs hn hr
  refine callsIn_wide (n := 8) |>.1 ?_
  refine callsIn_of_wp_marks Tryz.func46 rfl trivial ?_ rfl
  simp only [Tryz.ntmps46, List.size_toArray, List.length_cons, List.length_nil, Nat.reduceAdd, Nat.reduceSub, Array.replicate_succ, Array.replicate_zero, List.push_toArray, List.append_toArray, List.nil_append, List.cons_append]
  gi_wp2
  obtain ⟨i0, hi0, hz0, hz1, hz2⟩ := info_parts int_info
  have HN : Hid ((ordB sh (coreL L) n).length ≤ 1000) := Lib.hid (Nat.le_trans (ordB_len HRT.out hk) (by rw [coreL_len]; exact HS.out.1))
  have GO0 := Lib.hid (GoingB.start (sh := sh) hk)
  have HA0 : Hid (Hand w ((w.alloc (.cells #[.int .i64 n] 3)).alloc (.cells #[.slice (some ⟨w.heap.size, 0, none⟩) 1 1] 27)) w.heap.size (w.heap.size + 1) w.heap.size 1 (.slice none 0 0) [] [(n : Int)]) := Lib.hid (by
    have h1 : (w.alloc (.cells #[.int .i64 n] 3)).heap.size = w.heap.size + 1 := by simp
    have h2 := World.ownsRow_lit (base := w.heap.size) (e := 3) (size := 1) w #[.int .i64 n] 1 (Nat.le_refl _) (by unfold maxLen; omega) (by simp)
    refine ⟨(below_box w _).alloc (by simp) _, ?_, by omega, h2.alloc _, World.ownsRow_nil _ _ _ _, by simp [Value.ownBlock]⟩
    have := Boxed.new (w.alloc (.cells #[.int .i64 n] 3)) 27 (.slice (some ⟨w.heap.size, 0, none⟩) 1 1)
    rwa [h1] at this)
  have HKN0 := Lib.hid hk
  clear hk
  refine wpIn_loop (fun a' W => ∃ (ds : List Nat) (out P : List Int) (vo : Value) (Bp g cp : Nat) (u9 u10 u11 u12 u13 u16 u17 u18 u19 u20 u21 u22 u23 u24 u25 u26 u27 u28 u29 u30 u31 u32 u33 u34 u35 u36 u37 u38 u39 u40 u41 u42 u43 u44 u45 u46 u47 u48 u49 u50 u51 u52 u53 u54 u55 u56 u57 u58 u59 u60 : Value), Hid (Hand w W w.heap.size Bp g cp vo out P) ∧ Hid (GoingB sh (coreL L) n out P) ∧ Hid (Marks w.heap.size ds W) ∧ a' = { tmps := #[.slice (some ⟨b, off, none⟩) len cap, .int .i64 n, .bool sh, undef, undef, undef, .slice none 0 0, vo, .pointer (some ⟨Bp, 0, none⟩), u9, u10, u11, u12, u13, .int .i64 n, .slice (some ⟨w.heap.size, 0, none⟩) 1 1, u16, u17, u18, u19, u20, u21, u22, u23, u24, u25, u26, u27, u28, u29, u30, u31, u32, u33, u34, u35, u36, u37, u38, u39, u40, u41, u42, u43, u44, u45, u46, u47, u48, u49, u50, u51, u52, u53, u54, u55, u56, u57, u58, u59, u60], defers := ds.map markD })
    (fun a' _ => (ordB sh (coreL L) n).length - sliceN (a'.tmps.getD 7 undef)) ?_ ?_
  · exact ⟨[], [], [(n : Int)], _, _, _, _, _, _, _, _, _, _, _, _, _, _, _, _, _, _, _, _, _, _, _, _, _, _, _, _, _, _, _, _, _, _, _, _, _, _, _, _, _, _, _, _, _, _, _, _, _, _, _, _, _, _, HA0, GO0, Lib.hid ⟨List.nodup_nil, fun D hD => by cases hD⟩, rfl⟩
  · clear GO0 HA0
    rintro a' W ⟨ds, out, P, vo, Bp, g, cp, u9, u10, u11, u12, u13, u16, u17, u18, u19, u20, u21, u22, u23, u24, u25, u26, u27, u28, u29, u30, u31, u32, u33, u34, u35, u36, u37, u38, u39, u40, u41, u42, u43, u44, u45, u46, u47, u48, u49, u50, u51, u52, u53, u54, u55, u56, u57, u58, u59, u60, HA, GO, MK, rfl⟩
    rcases List.eq_nil_or_concat P with rfl | ⟨Q, z, hP⟩
    · have pc : W.cell? ⟨Bp, 0, none⟩ = some (.slice (some ⟨g, 0, none⟩) 0 cp) := HA.out.pile.cell
      gi_wp2
      refine leaves_marks w.heap.size (fun W => W.ownsRow w.heap.size 3 1 vo out.length (out.map encI) ∧ Below w.heap.size w W) ?_ ?_ ds W MK.out ⟨HA.out.orow, HA.out.below⟩
      · rintro W5 D ⟨h1, h2⟩ hD hK
        have hlt := (Array.getElem?_eq_some_iff.1 hK).1
        refine ⟨h1.kept (grownBy_putObj' W5 D _) ?_, (h2.grown (grownBy_putObj' W5 D _) (by omega) (fun k e => by injection e with e; omega))⟩
        cases hv : vo.ownBlock with
        | none => exact .inl rfl
        | some k =>
          refine .inr (fun e => ?_)
          injection e with e
          obtain ⟨c, t, f, hc⟩ := own_cells h1 k hv
          rw [e, hK] at hc
          cases hc
      · rintro W5 ⟨h1, h2⟩
        rw [map_encI] at h1
        have hout : out = ordB sh (coreL L) n := by
          have := GO.out.eq
          simpa using this
        rw [hout] at h1
        exact ⟨vo, by simp [results, Tryz.results46], vo, rfl, h1, h2⟩
    · rw [List.concat_eq_append] at hP
      subst hP
      have pc : W.cell? ⟨Bp, 0, none⟩ = some (.slice (some ⟨g, 0, none⟩) (Q.length + 1) cp) := by simpa using HA.out.pile.cell
      have pf := HA.out.pile.frozen
      have zc : W.cell? ⟨g, Q.length, none⟩ = some (.int .i64 z) := by
        have := HA.out.prow.cells (g := g) rfl Q.length (.int .i64 z) (by simp)
        rwa [Go.WideShapes.add_plain, Nat.zero_add] at this
      obtain ⟨hz0, hz1'⟩ := GO.out.inF z (by simp)
      obtain ⟨zi, rfl⟩ : ∃ zi : Nat, z = zi := ⟨z.toNat, by omega⟩
      have hzl : zi < len := by rw [coreL_len, HL.out] at hz1'; omega
      have hcp : (Q.length : Int) ≤ (cp : Int) := by
        rcases HA.out.prow.2 with ⟨hv, _⟩ | ⟨_, _, _, hv, _, _, h1, _⟩
        · cases hv
        · injection hv with _ _ h3
          subst h3
          simp at h1
          omega
      have HA1 := Lib.hid HA.out.pop
      have hsz := HA.out.size
      have hlen := GO.out.len
      have hln := HN.out
      have hq64 : Q.length ≤ 1000 := by simp at hlen; omega
      have ho64 : out.length ≤ 1000 := by omega
      clear hz0 hz1' hlen hln
      gi_wp2_with (first
        | (gi_at_builtin
           refine wpListIn_append_keep _ rfl _ _ 27 rfl w.heap.size 3 i0 _ 1 8 Tryz.underlying27 hi0 hz0 hz1 hz2 rfl (by decide) vo out.length (out.map encI) rfl (HA1.out.orow.alloc _) ⟨W.heap.size, 0, none⟩ 1 1 [encI (zi : Int)] rfl rfl (by simpa using cell_one_new (W.setCell ⟨Bp, 0, none⟩ (.slice (some ⟨g, 0, none⟩) Q.length cp)) (encI (zi : Int)) 3) (by simp [Value.oneCell']) (by decide) (by unfold maxLen; omega) (by omega) (by simp; omega) ?_
           intro g2 cap2 w2 hown2 hold2 hg2 hat2 hlt2
           have HA2 := Lib.hid (HA1.out.more hown2 hg2 hat2)
           have BX2 := Lib.hid (NR.out.below HA2.out.below)
           obtain ⟨b', off', y, hab, hb2, hx, hat, hok⟩ := BX2.out.get hzl
           injection hab with hab
           injection hab with e1 e2
           subst e1 e2
           have c6 := hat.c6
           have HX := Lib.hid hx
           have HKR := Lib.hid (hok.kids)
           have HKN : Hid (y.kN ≤ 1000) := Lib.hid (by rw [← hok.kids.hlen]; exact (HS.out.2 y (List.mem_of_getElem? hx)).1)
           have HLOW : Hid (∀ b' off', y.kA = some ⟨b', off', none⟩ → 0 < y.kN → b' < w.heap.size) := Lib.hid (fun b' off' ha hp => by
             obtain ⟨_, _, y2, e1, _, hy, _, hoky⟩ := NR.out.get hzl
             obtain rfl : y = y2 := Option.some.inj (hx.symm.trans hy)
             rcases hoky.kids.row.cells with h0 | ⟨b2, o2, ha2, hlt, _⟩
             · omega
             · rw [ha] at ha2
               injection ha2 with ha2
               injection ha2 with e3
               omega)
           have MK2 := Lib.hid (((MK.out.kept (grownBy_setCell' W Bp _) (fun r e => .inl (by cases e; exact ⟨_, _, _, HA.out.pile⟩))).kept (World.grownBy_alloc _ (.cells #[.int .i64 (zi : Int)] 3) none) (fun r e => by cases e)).kept hg2 (fun r e => .inl (own_cells (HA1.out.orow.alloc _) r e)))
           clear hat hx hok hold2 hown2 hg2 hat2)
        | (refine ⟨trivial, ?_⟩; gi_at_call 59; refine (callsIn_wide.2 (backward_any _ _ _ _)).mono ?_; rintro e w3 ⟨rfl, rfl⟩))
      have hbs := Boxed.new w2 27 (.slice y.kA y.kN y.kC)
      have hsz2 := HA2.out.size
      refine wpIn_rangeFunc_ownG (F := Fence.wide) (n := 8) rfl (by decide) (gf := 73) (lb := #[.pointer (some ⟨w2.heap.size, 0, none⟩)]) rfl trivial (enters_of Tryz.func73 (by kernel_rfl) rfl)
        (back_stops Fence.wide 7 trivial rfl (by decide) w2.heap.size w.heap.size y.kA y.kN y.kC y.core.kids (w2.alloc (.cells #[.slice y.kA y.kN y.kC] 27)) (by simp) hbs.cell (HKR.out.below (below_box _ _)) HLOW.out)
        (fun h k => ⟨k.1.trans h.1, h.2.trans k.2⟩) (fun W l o o' hl h hc hw => ⟨World.putObj_heap_other (by simp at hl; omega), belowK_b (w := w2.alloc (.cells #[.slice y.kA y.kN y.kC] 27)) (by simp; omega) W l o o' hl h hc hw⟩) (Below.refl _ _) (fun _ => rfl)
        (fun pre W' => ∃ g cp, Hand w W' w.heap.size Bp g cp (.slice (some ⟨g2, 0, none⟩) (out.length + 1) cap2) (out ++ [(zi : Int)]) (Q ++ pre.map Prod.snd) ∧ Boxed W' w2.heap.size 27 (.slice y.kA y.kN y.kC) ∧ Marks w.heap.size ds W')
        (fun _ _ _ => False)
        (fun pre X Y row h hg hr => by
          obtain ⟨g, cp, hh, hb, hm⟩ := h
          refine ⟨g, cp, hh.other hg (fun r e => ⟨by have := (hr r e).1; simp at this; omega, (hr r e).2⟩), hb.kept hg (fun e => ?_), hm.kept hg (fun r e => .inr (fun hd => ?_))⟩
          · have := (hr _ e.symm).1
            simp at this
            omega
          · have h1 := (hr r e).1
            have h2 := (Array.getElem?_eq_some_iff.1 (MK2.out.at_ r hd).2).1
            simp at h1
            omega)
        (fun _ _ _ _ _ hs _ _ => hs)
        ⟨g, cp, by simpa using HA2.out.alloc _, hbs, MK2.out.kept (World.grownBy_alloc _ _ none) (fun r e => by cases e)⟩
        (fun x => { tmps := #[.slice (some ⟨b, off, none⟩) len cap, .int .i64 n, .bool sh, undef, undef, undef, .slice none 0 0, .slice (some ⟨g2, 0, none⟩) (out.length + 1) cap2, .pointer (some ⟨Bp, 0, none⟩), .int .i64 (Q.length : Int), .int .i64 (zi : Int), u11, .int .i64 x.2, u13, .int .i64 n, .slice (some ⟨w.heap.size, 0, none⟩) 1 1, .slice (some ⟨g, 0, none⟩) (Q.length + 1) cp, .int .i64 ((Q.length : Int) + 1), .bool true, .slice (some ⟨g, 0, none⟩) (Q.length + 1) cp, .int .i64 ((Q.length : Int) + 1), .int .i64 (Q.length : Int), .slice (some ⟨g, 0, none⟩) (Q.length + 1) cp, .int .i64 (Q.length : Int), .pointer (some ⟨g, Q.length, none⟩), .int .i64 (zi : Int), .slice (some ⟨g, 0, none⟩) (Q.length + 1) cp, .int .i64 (Q.length : Int), .slice (some ⟨g, 0, none⟩) Q.length cp, vo, .int .i64 (zi : Int), .slice (some ⟨W.heap.size, 0, none⟩) 1 1, .slice (some ⟨g2, 0, none⟩) (out.length + 1) cap2, .slice (some ⟨b, off, none⟩) len cap, .int .i64 (zi : Int), .pointer (some ⟨b, off + zi * 10, none⟩), .pointer (some ⟨b, off + zi * 10 + 6, none⟩), .slice y.kA y.kN y.kC, .func (.func 73) #[] #[.pointer (some ⟨w2.heap.size, 0, none⟩)], .int .i64 x.1, .int .i64 x.2, u41, u42, u43, u44, u45, u46, u47, u48, u49, u50, u51, u52, u53, u54, u55, u56, u57, u58, u59, u60], defers := [] }) ?assign ?body ?done ?stop
      case assign =>
        intro l x W K hK
        gi_wp2
        exact hK
      case body =>
        rintro l pre x W5 ⟨g5, cp5, HH, hbx, hm⟩ hlt
        have pc5 := HH.pile.cell
        have hsz5 := HH.size
        have hkn := HKN.out
        have hpl : (Q ++ pre.map Prod.snd).length ≤ 2000 := by simp; omega
        obtain ⟨k5, hk5⟩ : ∃ k5, (Q ++ pre.map Prod.snd).length = k5 := ⟨_, rfl⟩
        have HK5 := Lib.hid hk5
        have HP := Lib.hid HH
        rw [hk5] at pc5 hpl
        have hrow := HH.prow
        rw [hk5] at hrow
        have HROW := Lib.hid hrow
        clear hrow hk5 HH
        gi_wp2_with (gi_at_builtin
                     refine wpListIn_append_keep _ rfl _ _ 27 rfl w.heap.size 3 i0 _ 1 8 Tryz.underlying27 hi0 hz0 hz1 hz2 rfl (by decide) (.slice (some ⟨g5, 0, none⟩) k5 cp5) k5 ((Q ++ pre.map Prod.snd).map encI) rfl (HROW.out.alloc _) ⟨W5.heap.size, 0, none⟩ 1 1 [encI x.2] rfl rfl (cell_one_new W5 (encI x.2) 3) (by simp [Value.oneCell']) (by decide) (by unfold maxLen; omega) (by omega) (by simp; omega) ?_
                     intro g6 cap6 w6 hown6 hold6 hg6 hat6 hlt6
                     obtain ⟨hb6, hh6⟩ := HP.out.push (by rw [HK5.out]; exact hown6) (by rw [HK5.out]; exact hg6) (by rw [HK5.out]; exact hat6)
                     obtain ⟨-, -, -, hk6, hbl6⟩ := HP.out.pile.appended (by decide) HP.out.prow HP.out.size HP.out.low (by rw [← HK5.out] at hown6; exact hown6) (by rw [HK5.out]; exact hg6)
                     have c6 := hb6.cell
                     have f6 := hb6.frozen
                     rw [HK5.out] at c6 hh6 hk6 hbl6)
        have hne6 : w2.heap.size ≠ Bp := Nat.ne_of_gt HA2.out.pile.lt
        have hbx6 := (hbx.alloc (.cells #[encI x.2] 3)).kept hg6 ((hbx.alloc (.cells #[encI x.2] 3)).not_row (by decide) (HROW.out.alloc _))
        have hbx7 := hbx6.kept (grownBy_setCell' w6 Bp (.slice (some ⟨g6, 0, none⟩) (k5 + 1) cap6)) (fun e => hne6 (by injection e))
        have hm6 := ((hm.kept (World.grownBy_alloc _ (.cells #[encI x.2] 3) none) (fun r e => by cases e)).kept hg6 (fun r e => .inl (own_cells (HROW.out.alloc _) r e))).kept (grownBy_setCell' w6 Bp (.slice (some ⟨g6, 0, none⟩) (k5 + 1) cap6)) (fun r e => .inl (by cases e; exact ⟨_, _, _, hb6⟩))
        exact ⟨hk6.from _, ⟨hbx7.trans hbx.symm, hbl6⟩, g6, cap6, by simpa using hh6, hbx7, hm6⟩
      case done =>
        rintro D ys W4 hD rfl ⟨g4, cp4, HH, hbx, hm⟩ hK
        have hkl := HKR.out.hlen
        rw [← hkl, backTo_snd] at HH
        have pc4 := HH.pile.cell
        have hsz4 := HH.size
        have HP := Lib.hid HH
        have GO2 := Lib.hid (GO.out.step HRT.out (z := (zi : Int)) (x := y.core) (by rw [Int.toNat_natCast]; exact coreL_get HX.out))
        have SN1 := Lib.hid (sliceN_own HA.out.orow)
        have BX4 := Lib.hid (NR.out.below HP.out.below)
        obtain ⟨b', off', y', hab, hb4, hx4, hat4, -⟩ := BX4.out.get hzl
        injection hab with hab
        injection hab with e1 e2
        subst e1 e2
        obtain rfl : y = y' := Option.some.inj (HX.out.symm.trans hx4)
        have c8 := hat4.c8
        clear hx4 hat4
        have MD : Hid (Marks w.heap.size (D :: ds) W4) := Lib.hid ⟨List.nodup_cons.2 ⟨fun hd => by
          have h2 := (Array.getElem?_eq_some_iff.1 (MK2.out.at_ D hd).2).1
          simp at hD
          omega, hm.nd⟩, fun E hE => by
          rcases List.mem_cons.1 hE with rfl | hE
          · exact ⟨by simp at hD; omega, hK⟩
          · exact hm.at_ E hE⟩
        have MEA : Hid (∀ cap : Nat, (ordB sh (coreL L) n).length - sliceN (.slice (some ⟨g2, 0, none⟩) (out.length + 1) cap) < (ordB sh (coreL L) n).length - sliceN vo) := Lib.hid (fun cap => by
          show (ordB sh (coreL L) n).length - (out.length + 1) < (ordB sh (coreL L) n).length - sliceN vo
          rw [SN1.out]
          have h1 := GO.out.len
          rw [List.length_append] at h1
          simp at h1
          omega)
        have hkn := HKN.out
        have hpl : (Q ++ y.core.kids.reverse).length ≤ 2000 := by rw [List.length_append, List.length_reverse]; omega
        obtain ⟨k4, hk4⟩ : ∃ k4, (Q ++ y.core.kids.reverse).length = k4 := ⟨_, rfl⟩
        have HK4 := Lib.hid hk4
        rw [hk4] at pc4 hpl
        have hrow := HH.prow
        rw [hk4] at hrow
        have HROW := Lib.hid hrow
        clear HH hrow hk4 hkl hkn
        cases sh with
        | false =>
          have HNX := Lib.hid HP.out.next
          rw [HK4.out] at HNX
          have GO3 : Hid (GoingB false (coreL L) n (out ++ [(zi : Int)]) (Q ++ y.core.kids.reverse)) := Lib.hid (by
            have := GO2.out
            unfold undB at this
            rwa [if_neg (by decide), List.append_nil] at this)
          gi_wp2
          refine ⟨⟨D :: ds, out ++ [(zi : Int)], Q ++ y.core.kids.reverse, _, W4.heap.size, ⟨g4, cp4, HNX⟩, GO3, Lib.hid (MD.out.kept (World.grownBy_alloc _ _ none) (fun r e => by cases e)), ⟨rfl, rfl⟩, rfl⟩, ?_⟩
          exact MEA.out _
        | true =>
          by_cases hu : y.core.under = -1
          · have HNX := Lib.hid HP.out.next
            rw [HK4.out] at HNX
            have GO3 : Hid (GoingB true (coreL L) n (out ++ [(zi : Int)]) (Q ++ y.core.kids.reverse)) := Lib.hid (by
              have := GO2.out
              unfold undB undL at this
              rw [if_pos rfl] at this
              rwa [if_pos hu, List.append_nil] at this)
            rw [hu] at c8
            clear hu
            gi_wp2
            refine ⟨⟨D :: ds, out ++ [(zi : Int)], Q ++ y.core.kids.reverse, _, W4.heap.size, ⟨g4, cp4, HNX⟩, GO3, Lib.hid (MD.out.kept (World.grownBy_alloc _ _ none) (fun r e => by cases e)), ⟨rfl, rfl⟩, rfl⟩, ?_⟩
            exact MEA.out _
          · obtain ⟨s, u, hs, hsg, -⟩ := right_under HRT.out (coreL_get HX.out) hu
            have hsl := (List.getElem?_eq_some_iff.1 hsg).1
            rw [coreL_len, HL.out] at hsl
            have GO3 : Hid (GoingB true (coreL L) n (out ++ [(zi : Int)]) (Q ++ y.core.kids.reverse ++ [(s : Int)])) := Lib.hid (by
              have := GO2.out
              unfold undB undL at this
              rw [if_pos rfl] at this
              rwa [if_neg hu, hs] at this)
            rw [hs] at c8
            have hsn : ((s : Int) != -1) = true := bne_iff_ne.2 (by omega)
            clear hu hs hsg
            gi_wp2_with (gi_at_builtin
                         refine wpListIn_append_keep _ rfl _ _ 27 rfl w.heap.size 3 i0 _ 1 8 Tryz.underlying27 hi0 hz0 hz1 hz2 rfl (by decide) (.slice (some ⟨g4, 0, none⟩) k4 cp4) k4 ((Q ++ y.core.kids.reverse).map encI) rfl (HROW.out.alloc _) ⟨W4.heap.size, 0, none⟩ 1 1 [encI (s : Int)] rfl rfl (cell_one_new W4 (encI (s : Int)) 3) (by simp [Value.oneCell']) (by decide) (by unfold maxLen; omega) (by omega) (by simp; omega) ?_
                         intro g6 cap6 w6 hown6 hold6 hg6 hat6 hlt6
                         obtain ⟨hb6, hh6⟩ := HP.out.push (by rw [HK4.out]; exact hown6) (by rw [HK4.out]; exact hg6) (by rw [HK4.out]; exact hat6)
                         have c6 := hb6.cell
                         have f6 := hb6.frozen
                         rw [HK4.out] at c6 hh6
                         have H6 := Lib.hid hh6
                         have M6 := Lib.hid (((MD.out.kept (World.grownBy_alloc _ (.cells #[encI (s : Int)] 3) none) (fun r e => by cases e)).kept hg6 (fun r e => .inl (own_cells (HROW.out.alloc _) r e))).kept (grownBy_setCell' w6 Bp (.slice (some ⟨g6, 0, none⟩) (k4 + 1) cap6)) (fun r e => .inl (by cases e; exact ⟨_, _, _, hb6⟩)))
                         clear hh6 hg6 hat6 hown6 hold6)
            have HNX := Lib.hid H6.out.next
            rw [List.length_append, HK4.out] at HNX
            refine ⟨⟨D :: ds, out ++ [(zi : Int)], Q ++ y.core.kids.reverse ++ [(s : Int)], _, (w6.setCell ⟨Bp, 0, none⟩ (.slice (some ⟨g6, 0, none⟩) (k4 + 1) cap6)).heap.size, ⟨g6, cap6, HNX⟩, GO3, Lib.hid (M6.out.kept (World.grownBy_alloc _ _ none) (fun r e => by cases e)), ⟨rfl, by simp [World.setCell]⟩, rfl⟩, ?_⟩
            exact MEA.out _
      case stop =>
        rintro D c pre W _ _ h _
        exact h.elim
end Go.Proofs.YtnjoimedilonnaaGreat
namespace Go.Proofs.YtnjoimedilonnaaGreat
open Go.RowKit Go.Shelf
theorem OwnPostI.new {w w' : World} {l : List Int} {e : Ending} (h : OwnPostI w l e w') (hin : ∀ z ∈ l, In64 z) : ∃ a len cap, e = .returned (.slice a len cap) ∧ IntRow w' a len cap l ∧ Below w.heap.size w w' ∧ ∀ b off, a = some ⟨b, off, none⟩ → w.heap.size ≤ b := by
  obtain ⟨v, he, ho, hb⟩ := h
  obtain ⟨a9, cap9, hv9, hr9, hlo9⟩ := IntRow.of_own_new (M := l) (n := l.length) rfl ho hin
  exact ⟨a9, l.length, cap9, by rw [he, hv9], hr9, hb, hlo9⟩
def OrdNew (w : World) (l : List Int) (e : Ending) (w' : World) : Prop := ∃ a len cap, e = .returned (.slice a len cap) ∧ IntRow w' a len cap l ∧ Below w.heap.size w w' ∧ ∀ b off, a = some ⟨b, off, none⟩ → w.heap.size ≤ b
theorem OrdNew.post {w w' : World} {l : List Int} {e : Ending} (h : OrdNew w l e w') : OrdPost w l e w' := by
  obtain ⟨a, len, cap, h1, h2, h3, _⟩ := h
  exact ⟨a, len, cap, h1, h2, h3⟩
theorem ordB_in {m : Int} {sh : Bool} {F : List Core} (hr : rightF m F = true) {n : Nat} (hn : n < F.length) : ∀ z ∈ ordB sh F (n : Int), ∃ t : Nat, z = t ∧ t < F.length := by
  intro z hz
  cases sh
  · have hz : z ∈ ordI F (n : Int) := hz
    unfold ordI at hz
    obtain ⟨k, hk, rfl⟩ := List.mem_map.1 hz
    exact ⟨k, rfl, (tree_of_right hr).ord_lt _ n hn k (by rw [Int.toNat_natCast] at hk; exact hk)⟩
  · have hz : z ∈ allI F (n : Int) := hz
    unfold allI at hz
    obtain ⟨k, hk, rfl⟩ := List.mem_map.1 hz
    exact ⟨k, rfl, (treeS hr).ord_lt _ _ hn k (by rw [Int.toNat_natCast] at hk; exact hk)⟩
set_option maxHeartbeats 4000000 in
theorem wtree_any (a : Option Addr) (len cap : Nat) (m : Int) (L : List NodeD) (n : Nat) (w : World) (h : NodeRow w a len cap L) (hs : smallF L) (hr : rightF m (coreL L) = true) (hn : n < len) :
    Calls Tryz.prog 28 #[.slice a len cap, .int .i64 n] w (OrdNew w (ordI (coreL L) n)) := by
  have CO : Hid (Calls Tryz.prog 46 #[.slice a len cap, .int .i64 n, .bool false] w (OwnPostI w (ordI (coreL L) n))) := Lib.hid (worder_any a len cap m L n false w h hs hr hn)
  have HIN : Hid (∀ z ∈ ordI (coreL L) n, In64 z) := Lib.hid (fun z hz => by
    obtain ⟨t, rfl, ht⟩ := ordB_in (sh := false) hr (by rw [coreL_len, h.hlen]; exact hn) z hz
    rw [coreL_len, h.hlen] at ht
    have := h.len64
    exact ⟨by omega, by omega⟩)
  clear h hs hr
  go_enter Tryz.func28, Tryz.ntmps28
  go_wp2_with (go_at_call 46; (with_reducible refine CO.out.mono ?_); intro e w1 hp; obtain ⟨a9, len9, cap9, rfl, hr9, hb9, hlo9⟩ := hp.new HIN.out)
  go_ret
  exact ⟨a9, len9, cap9, rfl, hr9, hb9, hlo9⟩
end Go.Proofs.YtnjoimedilonnaaGreat
namespace Go.Proofs.YtnjoimedilonnaaGreat
open Go.RowKit Go.Shelf
end Go.Proofs.YtnjoimedilonnaaGreat
namespace Go.Proofs.YtnjoimedilonnaaGreat
open Go.RowKit
end Go.Proofs.YtnjoimedilonnaaGreat
namespace Go.Proofs.YtnjoimedilonnaaGreat
open Go.RowKit
end Go.Proofs.YtnjoimedilonnaaGreat
namespace Go.Proofs.YtnjoimedilonnaaGreat
open Go.RowKit
end Go.Proofs.YtnjoimedilonnaaGreat
namespace Go.Proofs.YtnjoimedilonnaaGreat
open Go.RowKit
end Go.Proofs.YtnjoimedilonnaaGreat
namespace Go.Proofs.YtnjoimedilonnaaGreat
open Go.RowKit
end Go.Proofs.YtnjoimedilonnaaGreat
namespace Go.Proofs.YtnjoimedilonnaaGreat
open Go.RowKit
end Go.Proofs.YtnjoimedilonnaaGreat
namespace Go.Proofs.YtnjoimedilonnaaGreat
open Go.RowKit
structure RowOf (W V : World) (v : Value) (n : Nat) (L : List NodeD) : Prop where
  own : V.ownsRow W.heap.size 37 10 v n (L.flatMap encN)
  below : Below W.heap.size W V
structure LitOf (W V : World) (g : Nat) (y : NodeD) : Prop where
  row : SRow encN 10 V (some ⟨g, 0, none⟩) 1 1 [y]
  ge : W.heap.size ≤ g
  lt : g < V.heap.size
structure NilOf (W V : World) (g : Nat) : Prop where
  own : V.ownsRow W.heap.size 37 10 (.slice (some ⟨g, 0, none⟩) 0 0) 0 (([] : List NodeD).flatMap encN)
theorem RowOf.keep {W V V2 : World} {v : Value} {n : Nat} {L : List NodeD} (h : RowOf W V v n L) (hb : Below V.heap.size V V2) : RowOf W V2 v n L := ⟨own_below h.own hb, h.below.trans (hb.mono h.below.size)⟩
theorem LitOf.keep {W V V2 : World} {g : Nat} {y : NodeD} (h : LitOf W V g y) (hb : Below V.heap.size V V2) : LitOf W V2 g y := ⟨h.row.below hb, h.ge, Nat.lt_of_lt_of_le h.lt hb.size⟩
theorem NilOf.keep {W V V2 : World} {g : Nat} (h : NilOf W V g) (hb : Below V.heap.size V V2) : NilOf W V2 g := ⟨own_below h.own hb⟩
theorem LitOf.new {W V : World} {g : Nat} {y : NodeD} (hb : Below W.heap.size W V) (hg : g = V.heap.size) : LitOf W (V.alloc (nodB y)) g y := by
  subst hg
  exact ⟨own_one V 37 y (encN y).toArray (by simp) rfl, hb.size, by simp⟩
theorem NilOf.new {W V : World} {g : Nat} (hb : Below W.heap.size W V) (hg : g = V.heap.size) : NilOf W (V.alloc (.cells #[] 37)) g := by
  subst hg
  exact ⟨World.ownsRow_lit (base := W.heap.size) (e := 37) (size := 10) V #[] 0 hb.size (Nat.zero_le _) (by simp)⟩
theorem LitOf.grown {W V V2 : World} {g : Nat} {y : NodeD} {row : Option Nat} (h : LitOf W V g y) (hg : V.grownBy V2 row) (hne : some g ≠ row) : LitOf W V2 g y :=
  ⟨h.row.grown hg (fun b off e _ => by
    injection e with e
    injection e with e1
    rw [← e1]
    exact hne), h.ge, Nat.lt_of_lt_of_le h.lt hg.size⟩
theorem Box2.newAt {W : World} {g : Nat} {u v : Value} {t : TypeId} (hg : g = W.heap.size) : Box2 (W.alloc (.cells #[u, v] t)) g u v := by
  subst hg
  exact Box2.new W u v t
end Go.Proofs.YtnjoimedilonnaaGreat
namespace Go.Proofs.YtnjoimedilonnaaGreat
open Go.RowKit
def OutOf (m : Int) (F G : List Core) (n : Nat) : Prop := ∃ x, F[n]? = some x ∧ ((x.parent = -1 ∧ G = F) ∨ ∃ p, Out m F G n p x)
end Go.Proofs.YtnjoimedilonnaaGreat
namespace Go.Proofs.YtnjoimedilonnaaGreat
open Go.RowKit
theorem kidsK_get {F : List Core} {Y : Nat} {y : Core} (hy : F[Y]? = some y) : kidsK F (Y : Int) = y.kids := by unfold kidsK; rw [getC_nat, hy]
theorem kindK_at {F : List Core} {Y : Nat} {y : Core} (hy : F[Y]? = some y) : kindK F (Y : Int) = y.kind := by unfold kindK; rw [getC_nat, hy]
theorem parentK_at {F : List Core} {Y : Nat} {y : Core} (hy : F[Y]? = some y) : parentK F (Y : Int) = y.parent := by unfold parentK; rw [getC_nat, hy]
end Go.Proofs.YtnjoimedilonnaaGreat
namespace Go.Proofs.YtnjoimedilonnaaGreat
open Go.RowKit
section
variable {F G : List Core} {P P' : Nat → Core → Int} {K K' : Nat → Core → List Int} {D D' : Nat → Core → Int} {M : List NodeD} {q : Nat} {x : NodeD}
theorem Edit.congr (h : Edit F G P K D) (hP : ∀ (j : Nat) c, F[j]? = some c → P j c = P' j c) (hK : ∀ (j : Nat) c, F[j]? = some c → K j c = K' j c) (hD : ∀ (j : Nat) c, F[j]? = some c → D j c = D' j c) : Edit F G P' K' D' :=
  ⟨h.len, fun j c hc => by rw [← hP j c hc, ← hK j c hc, ← hD j c hc]; exact h.at_ j c hc⟩
theorem core_set (M : List NodeD) (q : Nat) (y : NodeD) : coreL (M.set q y) = (coreL M).set q y.core := by unfold coreL; rw [List.map_set]
theorem Edit.setP (h : Edit F (coreL M) P K D) (hx : M[q]? = some x) (v : Int) : Edit F (coreL (M.set q (withP x v))) (fun j c => if j = q then v else P j c) K D := by
  refine ⟨by rw [core_set, List.length_set]; exact h.len, fun j c hc => ?_⟩
  have h1 := h.at_ j c hc
  rw [core_set]
  by_cases e : j = q
  · subst e
    rw [List.getElem?_set_self (List.getElem?_eq_some_iff.1 h1).1, if_pos rfl]
    rw [coreL_get hx] at h1
    have h2 := Option.some.inj h1
    show some (⟨x.core.kind, x.core.name, x.core.is, x.core.data, x.core.attrs, v, x.core.kids, x.core.host, x.core.under, x.core.doc⟩ : Core) = _
    rw [h2]
    rfl
  · rw [List.getElem?_set_ne (fun e2 => e e2.symm), h1, if_neg e]
theorem Edit.setK (h : Edit F (coreL M) P K D) (hx : M[q]? = some x) (a : Option Addr) (n c0 : Nat) (l : List Int) : Edit F (coreL (M.set q (withK x a n c0 l))) P (fun j c => if j = q then l else K j c) D := by
  refine ⟨by rw [core_set, List.length_set]; exact h.len, fun j c hc => ?_⟩
  have h1 := h.at_ j c hc
  rw [core_set]
  by_cases e : j = q
  · subst e
    rw [List.getElem?_set_self (List.getElem?_eq_some_iff.1 h1).1, if_pos rfl]
    rw [coreL_get hx] at h1
    have h2 := Option.some.inj h1
    show some (⟨x.core.kind, x.core.name, x.core.is, x.core.data, x.core.attrs, x.core.parent, l, x.core.host, x.core.under, x.core.doc⟩ : Core) = _
    rw [h2]
    rfl
  · rw [List.getElem?_set_ne (fun e2 => e e2.symm), h1, if_neg e]
end
theorem SRow.take {α : Type} {enc : α → List Value} {size : Nat} {w : World} {a : Option Addr} {len cap k : Nat} {L : List α} (h : SRow enc size w a len cap L) (hk : k ≤ len) : SRow enc size w a k cap (L.take k) := by
  refine ⟨by rw [List.length_take, h.hlen]; omega, Nat.le_trans hk h.hcap, h.hmax, fun x hx => h.henc x (List.mem_of_mem_take hx), ?_⟩
  rcases h.cells with h0 | ⟨b, off, ha, hb, hc⟩
  · exact .inl (by omega)
  · refine .inr ⟨b, off, ha, hb, fun i x j v hx hv => hc i x j v ?_ hv⟩
    rw [List.getElem?_take] at hx
    split at hx
    · exact hx
    · cases hx
theorem SRow.rest {α : Type} {enc : α → List Value} {w : World} {a : Option Addr} {len cap k : Nat} {L : List α} (h : SRow enc 1 w a len cap L) (hk : k ≤ len) : SRow enc 1 w (if cap = k then a else Option.map (fun x => x.add k) a) (len - k) (cap - k) (L.drop k) := by
  have hcap := h.hcap
  have hmax := h.hmax
  refine ⟨by rw [List.length_drop, h.hlen], by omega, by omega, fun x hx => h.henc x (List.mem_of_mem_drop hx), ?_⟩
  by_cases h0 : len - k = 0
  · exact .inl h0
  rcases h.cells with h1 | ⟨b, off, ha, hb, hc⟩
  · omega
  · refine .inr ⟨b, off + k, ?_, hb, fun i x j v hx hv => ?_⟩
    · rw [if_neg (by omega), ha, Option.map_some, Go.WideShapes.add_plain]
    · rw [List.getElem?_drop] at hx
      have := hc (k + i) x j v hx hv
      rw [show off + k + i * 1 + j = off + (k + i) * 1 + j by omega]
      exact this
structure OutsOf (m : Int) (F G : List Core) (l : List Int) (k : Nat) : Prop where
  right : rightF m G = true
  ed : Edit F G (fun j c => if (l.take k).contains (j : Int) then -1 else c.parent) (fun _ c => c.kids.filter (fun z => !(l.take k).contains z)) (fun _ c => c.doc)
theorem OutsOf.start {m : Int} {F : List Core} {l : List Int} (h : rightF m F = true) : OutsOf m F F l 0 := by
  refine ⟨h, rfl, fun j c hc => ?_⟩
  have : c.kids.filter (fun z => !(l.take 0).contains z) = c.kids := by simp
  rw [this, hc]
  rfl
theorem contains_take {l : List Int} {k : Nat} {q z : Int} (hq : l[k]? = some q) : (l.take (k + 1)).contains z = ((l.take k).contains z || z == q) := by
  obtain ⟨hl, hg⟩ := List.getElem?_eq_some_iff.1 hq
  rw [List.take_succ_eq_append_getElem hl, hg, List.contains_append]
  simp
  rfl
theorem OutsOf.step {m : Int} {F G G' : List Core} {l : List Int} {k q : Nat} (h : OutsOf m F G l k) (hq : l[k]? = some (q : Int)) (ho : OutOf m G G' q) : OutsOf m F G' l (k + 1) := by
  obtain ⟨x, hx, hcase⟩ := ho
  have hf : ∀ (ks : List Int), ks.filter (fun z => !(l.take (k + 1)).contains z) = (ks.filter (fun z => !(l.take k).contains z)).filter (fun z => z != (q : Int)) := fun ks => by
    rw [List.filter_filter]
    refine List.filter_congr (fun z _ => ?_)
    rw [contains_take hq]
    cases (l.take k).contains z <;> cases hz : (z == (q : Int)) <;> simp [bne, hz]
  have notin : ∀ (j : Nat) (y : Core), G[j]? = some y → (x.parent = -1 ∨ x.parent ≠ (j : Int)) → y.kids.filter (fun z => z != (q : Int)) = y.kids := fun j y hy hp => by
    refine List.filter_eq_self.2 (fun z hz => bne_iff_ne.2 (fun e => ?_))
    subst e
    obtain ⟨c, h1, _, h3, _⟩ := (right_node h.right hy).kids _ hz
    rw [getC_nat, hx] at h1
    rw [← Option.some.inj h1] at h3
    rcases hp with hp | hp
    · omega
    · exact hp h3
  have hP : ∀ (j : Nat) (c : Core), (if (l.take (k + 1)).contains (j : Int) then (-1 : Int) else c.parent) = if j = q then -1 else if (l.take k).contains (j : Int) then -1 else c.parent := fun j c => by
    rw [contains_take hq]
    by_cases e : j = q
    · subst e; simp
    · have e2 : ((j : Int) == (q : Int)) = false := beq_eq_false_iff_ne.2 (by omega)
      rw [if_neg e, e2, Bool.or_false]
  rcases hcase with ⟨h1, rfl⟩ | ⟨p, h1⟩
  · refine ⟨h.right, h.ed.len, fun j c hc => ?_⟩
    have h2 := h.ed.at_ j c hc
    have h9 : (c.kids.filter (fun z => !(l.take k).contains z)).filter (fun z => z != (q : Int)) = c.kids.filter (fun z => !(l.take k).contains z) := notin j _ h2 (.inl h1)
    rw [h2, hf, h9, hP]
    by_cases e : j = q
    · subst e
      rw [hx] at h2
      have h3 := congrArg Core.parent (Option.some.inj h2)
      rw [if_pos rfl]
      have h3b : x.parent = (if (l.take k).contains (j : Int) then (-1 : Int) else c.parent) := h3
      have h4 : (if (l.take k).contains (j : Int) then (-1 : Int) else c.parent) = -1 := h3b.symm.trans h1
      rw [h4]
    · rw [if_neg e]
  · refine ⟨h1.rightG, by rw [h1.ed.len]; exact h.ed.len, fun j c hc => ?_⟩
    have h2 := h.ed.at_ j c hc
    rw [h1.ed.at_ j _ h2, hf, hP]
    have hk : (if j = p then (edC c (if (l.take k).contains (j : Int) then -1 else c.parent) (c.kids.filter (fun z => !(l.take k).contains z)) c.doc).kids.filter (fun z => z != (q : Int)) else (edC c (if (l.take k).contains (j : Int) then -1 else c.parent) (c.kids.filter (fun z => !(l.take k).contains z)) c.doc).kids) = (c.kids.filter (fun z => !(l.take k).contains z)).filter (fun z => z != (q : Int)) := by
      by_cases e : j = p
      · rw [if_pos e]; rfl
      · rw [if_neg e]
        exact (notin j _ h2 (.inr (by
          have h3 := h1.hx
          rw [hx] at h3
          rw [h1.hp]
          omega))).symm
    rw [hk]
    rfl
def putP (l : List Int) (p : Nat) (i j : Nat) (c : Core) : Int := if (l.take i).contains (j : Int) then (p : Int) else if l.contains (j : Int) then -1 else c.parent
def putK (l : List Int) (p : Nat) (A B : List Int) (j : Nat) (c : Core) : List Int := if j = p then A ++ l ++ B else c.kids.filter (fun z => !l.contains z)
def mvL (F : List Core) (l : List Int) (i j : Nat) : Bool := (l.take i).any (fun q => (allI F q).contains (j : Int))
def putD (F : List Core) (l : List Int) (dp : Int) (i : Nat) (r : List Int) (j : Nat) (c : Core) : Int := if mvL F l i j || r.contains (j : Int) then dp else c.doc
section
variable {m : Int} {F : List Core} {n p : Nat} {c : Int} {cn cp : Core}
structure PutOk (m : Int) (F : List Core) (n p : Nat) (c : Int) (l : List Int) (cp : Core) : Prop where
  right : rightF m F = true
  hp : F[p]? = some cp
  kp : cp.kind ≠ 2
  once : l.Nodup
  ls : ∀ z ∈ l, ∃ (q : Nat) (c : Core), z = q ∧ F[q]? = some c ∧ (c.kind = 1 ∨ c.kind = 2)
  over : ∀ q : Nat, (q : Int) ∈ l → ¬ holdsT (parS F) q p
  root : cp.kind = 0 → cp.kids.length + l.length ≤ 1 ∧ ∀ k ∈ l, kindK F k = 1
  before : beforeZ m F n p c = -1 ∨ beforeZ m F n p c ∈ cp.kids.filter (fun z => !l.contains z)
theorem PutOk.rightG {l A B : List Int} {G : List Core} (h : PutOk m F n p c l cp) (hab : A ++ B = cp.kids.filter (fun z => !l.contains z)) (he : Edit F G (putP l p l.length) (putK l p A B) (putD F l cp.doc l.length [])) : rightF m G = true := by
  have T := PutIn.rightG (m := m) (F := F) (G := G) (l := l) (p := p) (cp := cp) (A := A) (B := B) (mv := mvL F l l.length)
  refine T ⟨h.right, h.hp, h.kp, h.once, h.ls, h.over, hab, fun e => ?_, fun j hj => ?_, he.congr (fun j c _ => ?_) (fun j c _ => rfl) (fun j c _ => ?_)⟩
  · obtain ⟨h1, h2⟩ := h.root e
    have hl : (A ++ l ++ B).length = (cp.kids.filter (fun z => !l.contains z)).length + l.length := by rw [← hab]; simp only [List.length_append]; omega
    refine ⟨by rw [hl]; have := List.length_filter_le (fun z => !l.contains z) cp.kids; omega, fun k hk => ?_⟩
    have hk2 : k ∈ l ∨ k ∈ A ++ B := by
      simp only [List.mem_append] at hk ⊢
      rcases hk with (h | h) | h
      · exact .inr (.inl h)
      · exact .inl h
      · exact .inr (.inr h)
    rcases hk2 with hk2 | hk2
    · exact h2 k hk2
    · rw [hab] at hk2
      exact ((right_node h.right h.hp).root e).2 k (List.mem_filter.1 hk2).1
  · unfold mvL
    rw [List.take_length, List.any_eq_true]
    constructor
    · rintro ⟨z, hz, hm⟩
      obtain ⟨q, c1, rfl, g1, _⟩ := h.ls z hz
      have hql := (List.getElem?_eq_some_iff.1 g1).1
      refine ⟨q, hz, (overZ_iff h.right hql hj).1 ?_⟩
      cases ho : overZ m F q j with
      | true => rfl
      | false =>
        have := hasZ_all h.right hql hj
        rw [ho] at this
        have h3 := hasZ_pos (List.contains_iff_mem.1 hm)
        rw [this] at h3
        exact absurd h3 (by decide)
    · rintro ⟨q, hq, hh⟩
      obtain ⟨q2, c1, e, g1, _⟩ := h.ls _ hq
      obtain rfl : q = q2 := by omega
      have hql := (List.getElem?_eq_some_iff.1 g1).1
      refine ⟨_, hq, List.contains_iff_mem.2 (hasZ_mem ?_)⟩
      rw [hasZ_all h.right hql hj, (overZ_iff h.right hql hj).2 hh]
      rfl
  · unfold putP
    rw [List.take_length]
    by_cases e : l.contains (j : Int) = true
    · rw [if_pos e, if_pos e]
    · rw [if_neg e, if_neg e, if_neg e]
  · unfold putD
    simp
end
end Go.Proofs.YtnjoimedilonnaaGreat
namespace Go.Proofs.YtnjoimedilonnaaGreat
open Go.RowKit
def RemNew (w : World) (M : AL) (z : Bool) (e : Ending) (w' : World) : Prop := ∃ a len cap, e = .returned (.tuple #[.slice a len cap, .bool z]) ∧ AttrRow w' a len cap M ∧ Below w.heap.size w w' ∧ ∀ b off, a = some ⟨b, off, none⟩ → w.heap.size ≤ b
def TogNew (w : World) (M : AL) (t : Bool) (z : Int) (e : Ending) (w' : World) : Prop := ∃ a len cap, e = .returned (.tuple #[.slice a len cap, .bool t, .int .i64 z]) ∧ AttrRow w' a len cap M ∧ Below w.heap.size w w' ∧ ∀ b off, a = some ⟨b, off, none⟩ → w.heap.size ≤ b
theorem RemNew.post {w w' : World} {M : AL} {z : Bool} {e : Ending} (h : RemNew w M z e w') : RemPost w M z e w' := by
  obtain ⟨a, len, cap, h1, h2, h3, _⟩ := h
  exact ⟨a, len, cap, h1, h2, h3⟩
theorem TogNew.post {w w' : World} {M : AL} {t : Bool} {z : Int} {e : Ending} (h : TogNew w M t z e w') : TogPost w M t z e w' := by
  obtain ⟨a, len, cap, h1, h2, h3, _⟩ := h
  exact ⟨a, len, cap, h1, h2, h3⟩
theorem RemNew.mk {w w' : World} {M : AL} {z : Bool} {e : Ending} {v : Value} {n : Nat} (he : e = .returned (.tuple #[v, .bool z])) (hl : M.length = n) (h : w'.ownsRow w.heap.size 67 2 v n (M.flatMap encA)) (hs : ∀ x ∈ M, x.1.size ≤ maxLen ∧ x.2.size ≤ maxLen) (hb : Below w.heap.size w w') : RemNew w M z e w' := by
  obtain ⟨a, cap, rfl, h1, h2⟩ := AttrRow.of_own_new hl h hs
  exact ⟨a, n, cap, he, h1, hb, h2⟩
theorem TogNew.mk {w w' : World} {M : AL} {t : Bool} {z : Int} {e : Ending} {v : Value} {n : Nat} (he : e = .returned (.tuple #[v, .bool t, .int .i64 z])) (hl : M.length = n) (h : w'.ownsRow w.heap.size 67 2 v n (M.flatMap encA)) (hs : ∀ x ∈ M, x.1.size ≤ maxLen ∧ x.2.size ≤ maxLen) (hb : Below w.heap.size w w') : TogNew w M t z e w' := by
  obtain ⟨a, cap, rfl, h1, h2⟩ := AttrRow.of_own_new hl h hs
  exact ⟨a, n, cap, he, h1, hb, h2⟩
end Go.Proofs.YtnjoimedilonnaaGreat
namespace Go.Proofs.YtnjoimedilonnaaGreat
open Go.RowKit
end Go.Proofs.YtnjoimedilonnaaGreat
namespace Go.Proofs.YtnjoimedilonnaaGreat
open Go.RowKit Go.Maps Go.WideMaps
abbrev natL (t : List Nat) : List Int := t.map Int.ofNat
theorem natL_get {t : List Nat} {k : Nat} {z : Int} (h : (natL t)[k]? = some z) : ∃ i : Nat, t[k]? = some i ∧ z = i := by
  unfold natL at h
  rw [List.getElem?_map] at h
  cases hi : t[k]? with
  | none => rw [hi] at h; cases h
  | some i => rw [hi] at h; exact ⟨i, rfl, (Option.some.inj h).symm⟩
theorem IntRow.stay {W V : World} {a : Option Addr} {len cap : Nat} {l : List Int} (h : IntRow W a len cap l) {r : Option Nat} (hg : W.grownBy V r) (hne : ∀ b o, a = some ⟨b, o, none⟩ → some b ≠ r) : IntRow V a len cap l := by
  refine ⟨⟨h.row.hlen, h.row.hcap, h.row.hmax, h.row.henc, ?_⟩, h.inb, h.hnil⟩
  rcases h.row.cells with h0 | ⟨b, off, ha, hlt, hc⟩
  · exact .inl h0
  · refine .inr ⟨b, off, ha, Nat.lt_of_lt_of_le hlt hg.size, fun i x j v hx hv => ?_⟩
    rw [World.cell?_of_block (w := W) (hg.block b hlt (hne b off ha))]
    exact hc i x j v hx hv
end Go.Proofs.YtnjoimedilonnaaGreat
namespace Go.Proofs.YtnjoimedilonnaaGreat
open Go.RowKit
end Go.Proofs.YtnjoimedilonnaaGreat
namespace Go.Proofs.YtnjoimedilonnaaGreat
open Go.RowKit
end Go.Proofs.YtnjoimedilonnaaGreat
