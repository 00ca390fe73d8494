/- Texts joined in build order: ShadeTree ShadeFns ShadeAwake ShadeFacts ShadeOver ShadeAsk. -/
import Derived.Test.YtdalljhgmhjibaaK04
import Derived.Test.YtdalljhgmhjibaaK07
import Derived.Test.YtdalljhgmhjibaaK02
import Derived.Test.YtdalljhgmhjibaaK03
import Derived.Deep.DeepCutAuto
import Derived.Test.YtdalljhgmhjibaaK05
/- Shadows, over data: who comes next up, full order; a forest that is right is trees with shadows, too. Plain mathematics, no program. -/
namespace Go.Proofs.Ytdalljhgmhjibaa
open Go.RowKit
/-! ### trees in general -/
section
variable {n : Nat} {par : Nat → Option Nat} {kids : Nat → List Nat} {rank : Nat → Nat}
theorem Tree.ord_fuel (T : Tree n par kids rank) {f g i : Nat} (hi : i < n) (hf : n + 1 ≤ rank i + f) (hg : n + 1 ≤ rank i + g) : ordN kids f i = ordN kids g i := by
  have key : ∀ d, ordN kids (f + d) i = ordN kids f i := fun d => by
    induction d with
    | zero => rfl
    | succ d ih => rw [← ih]; exact T.ord_more (f + d) i hi (by omega)
  have key2 : ∀ d, ordN kids (g + d) i = ordN kids g i := fun d => by
    induction d with
    | zero => rfl
    | succ d ih => rw [← ih]; exact T.ord_more (g + d) i hi (by omega)
  rw [← key g, ← key2 f, Nat.add_comm]
/-- Order from a node: it, then order from each of its children. -/
theorem Tree.ord_open (T : Tree n par kids rank) {i : Nat} (hi : i < n) : ordN kids (n + 1) i = i :: (kids i).flatMap (ordN kids (n + 1)) := by
  rw [← T.ord_more (n + 1) i hi (by omega)]
  rfl
theorem Tree.block_kids (T : Tree n par kids rank) {f i : Nat} (ih : ∀ k ∈ kids i, ∀ j x, (ordN kids f k)[j]? = some x → ∃ pre post, ordN kids f k = pre ++ ordN kids (n + 1) x ++ post ∧ pre.length = j) :
    ∀ (ks : List Nat), (∀ k ∈ ks, k ∈ kids i) → ∀ j x, (ks.flatMap (ordN kids f))[j]? = some x → ∃ pre post, ks.flatMap (ordN kids f) = pre ++ ordN kids (n + 1) x ++ post ∧ pre.length = j
  | [], _, j, x, h => by simp at h
  | k :: r, hk, j, x, h => by
    rw [List.flatMap_cons] at h ⊢
    by_cases hj : j < (ordN kids f k).length
    · rw [List.getElem?_append_left hj] at h
      obtain ⟨pre, post, e, hl⟩ := ih k (hk k (by simp)) j x h
      exact ⟨pre, post ++ r.flatMap (ordN kids f), by rw [e]; simp, hl⟩
    · rw [List.getElem?_append_right (by omega)] at h
      obtain ⟨pre, post, e, hl⟩ := T.block_kids ih r (fun q hq => hk q (by simp [hq])) _ x h
      exact ⟨ordN kids f k ++ pre, post, by rw [e]; simp, by rw [List.length_append]; omega⟩
/-- Where a node stands in an order, its own order follows. -/
theorem Tree.ord_block (T : Tree n par kids rank) : ∀ (f i : Nat), i < n → n + 1 ≤ rank i + f → ∀ j x, (ordN kids f i)[j]? = some x → ∃ pre post, ordN kids f i = pre ++ ordN kids (n + 1) x ++ post ∧ pre.length = j
  | 0, i, hi, hf, j, x, h => by
    have e : ordN kids (n + 1) i = ordN kids 0 i := T.ord_fuel hi (by omega) hf
    unfold ordN at h
    obtain ⟨hj, hx⟩ := List.getElem?_eq_some_iff.1 h
    have hj0 : j = 0 := by simpa using hj
    subst hj0
    have hxi : i = x := by simpa using hx
    subst hxi
    exact ⟨[], [], by rw [e]; simp, rfl⟩
  | f + 1, i, hi, hf, j, x, h => by
    match j, h with
    | 0, h =>
      have hxi : i = x := by simpa [ordN] using h
      subst hxi
      exact ⟨[], [], by rw [T.ord_fuel (g := n + 1) hi hf (by omega)]; simp, rfl⟩
    | j + 1, h =>
      have h2 : ((kids i).flatMap (ordN kids f))[j]? = some x := by simpa [ordN] using h
      obtain ⟨pre, post, e, hl⟩ := T.block_kids (fun k hk => T.ord_block f k (T.kid_rank hk).1 (by have := (T.kid_rank hk).2; omega)) (kids i) (fun k hk => hk) j x h2
      refine ⟨i :: pre, post, ?_, by rw [List.length_cons, hl]⟩
      show i :: (kids i).flatMap (ordN kids f) = _
      rw [e]
      simp
end
theorem flat_sub {α β : Type} {f g : α → List β} (hfg : ∀ x, (f x).Sublist (g x)) : ∀ {l m : List α}, l.Sublist m → (l.flatMap f).Sublist (m.flatMap g)
  | _, _, .slnil => by simp
  | _, _, .cons a h => by
    rw [List.flatMap_cons]
    exact (flat_sub hfg h).trans (List.sublist_append_right _ _)
  | _, _, .cons_cons a h => by
    rw [List.flatMap_cons, List.flatMap_cons]
    exact (hfg a).append (flat_sub hfg h)
/-- Who has more children has more in order. -/
theorem ord_sub {kids kids' : Nat → List Nat} (h : ∀ i, (kids i).Sublist (kids' i)) : ∀ (f i : Nat), (ordN kids f i).Sublist (ordN kids' f i)
  | 0, _ => List.Sublist.refl _
  | f + 1, i => .cons_cons i (flat_sub (fun k => ord_sub h f k) (h i))
theorem findN_cons {y z : Int} {l : List Int} : findN (y :: l) z = if y = z then 0 else findN l z + 1 := by
  unfold findN
  rw [List.findIdx_cons]
  by_cases e : y = z
  · subst e; simp
  · rw [if_neg e, beq_eq_false_iff_ne.2 e]; rfl
theorem findN_mem {l : List Int} {z : Int} (h : z ∈ l) : findN l z < l.length := List.findIdx_lt_length_of_exists ⟨z, h, by simp⟩
theorem findZ_mem {l : List Int} {z : Int} (h : z ∈ l) : findZ l z = (findN l z : Int) := by unfold findZ; rw [if_pos (findN_mem h)]
/-- In a part of a list that has nothing twice, who comes later stands further behind in the whole. -/
theorem sub_find {o l : List Int} (hs : o.Sublist l) : l.Nodup → ∀ (i : Nat) (a b : Int), o[i]? = some a → o[i + 1]? = some b → findN l a < findN l b := by
  induction hs with
  | slnil => intro _ i a b ha; simp at ha
  | @cons o' l' y h ih =>
    intro hn i a b ha hb
    rw [List.nodup_cons] at hn
    have h1 : y ≠ a := fun e => hn.1 (e ▸ h.subset (List.mem_of_getElem? ha))
    have h2 : y ≠ b := fun e => hn.1 (e ▸ h.subset (List.mem_of_getElem? hb))
    rw [findN_cons, findN_cons, if_neg h1, if_neg h2]
    have := ih hn.2 i a b ha hb
    omega
  | @cons_cons o' l' y h ih =>
    intro hn i a b ha hb
    rw [List.nodup_cons] at hn
    rw [List.getElem?_cons_succ] at hb
    have h2 : y ≠ b := fun e => hn.1 (e ▸ h.subset (List.mem_of_getElem? hb))
    rw [findN_cons, findN_cons, if_neg h2]
    match i, ha, hb with
    | 0, ha, hb =>
      have : y = a := by simpa using ha
      rw [if_pos this]
      omega
    | i + 1, ha, hb =>
      rw [List.getElem?_cons_succ] at ha
      have h1 : y ≠ a := fun e => hn.1 (e ▸ h.subset (List.mem_of_getElem? ha))
      rw [if_neg h1]
      have := ih hn.2 i a b ha hb
      omega
/-! ### nodes of a forest that is right -/
theorem right_up {m : Int} {F : List Core} (h : rightF m F = true) : upIn F F.length := by
  have := nodes_eq.1 ((rightF_iff m F).1 h).2.1
  exact fit_up this.1 this.2
theorem next_par {F : List Core} {i : Nat} {x : Core} (hx : F[i]? = some x) (hp : x.parent ≠ -1) : nextUp F (i : Int) = x.parent := by
  rw [nextUp_at hx]
  unfold upC
  rw [if_neg hp]
theorem next_host {F : List Core} {i : Nat} {x : Core} (hx : F[i]? = some x) (hp : x.parent = -1) : nextUp F (i : Int) = x.host := by
  rw [nextUp_at hx]
  unfold upC
  rw [if_pos hp]
theorem right_kind {m : Int} {F : List Core} (h : rightF m F = true) {i : Nat} {x : Core} (hx : F[i]? = some x) : 0 ≤ x.kind ∧ x.kind ≤ 4 := by
  have h1 := (nodeOk_iff.1 (((rightF_iff m F).1 h).2.1 i x hx)).1
  unfold docOk at h1
  simp only [Bool.and_eq_true, decide_eq_true_eq] at h1
  exact ⟨h1.1.1.1, h1.1.1.2⟩
/-- Who has a parent is an Elem or a Text. -/
theorem right_held {m : Int} {F : List Core} (h : rightF m F = true) {i : Nat} {x : Core} (hx : F[i]? = some x) (hp : x.parent ≠ -1) : x.kind = 1 ∨ x.kind = 2 := by
  have h1 := (nodeOk_iff.1 (((rightF_iff m F).1 h).2.1 i x hx)).2.1
  unfold parOk at h1
  rw [beq_eq_false_iff_ne.2 hp, Bool.false_or, Bool.and_eq_true] at h1
  simpa using h1.1
theorem right_under {m : Int} {F : List Core} (h : rightF m F = true) {i : Nat} {x : Core} (hx : F[i]? = some x) (hu : x.under ≠ -1) : ∃ (s : Nat) (u : Core), x.under = s ∧ F[s]? = some u ∧ u.kind = 4 ∧ u.host = i ∧ u.parent = -1 ∧ x.kind = 1 := by
  have h1 := (nodeOk_iff.1 (((rightF_iff m F).1 h).2.1 i x hx)).2.2.2.2.1
  rw [Bool.and_eq_true] at h1
  have h2 := h1.2
  unfold underOk at h2
  rw [beq_eq_false_iff_ne.2 hu, Bool.false_or, Bool.and_eq_true] at h2
  cases hg : getC F x.under with
  | none => rw [hg] at h2; simp at h2
  | some u =>
    rw [hg] at h2
    simp only [Bool.and_eq_true, beq_iff_eq] at h2
    obtain ⟨e1, e2, e3⟩ := getC_some hg
    refine ⟨x.under.toNat, u, by omega, e3, h2.2.1, h2.2.2, ?_, h2.1⟩
    by_cases hp : u.parent = -1
    · exact hp
    · rcases right_held h e3 hp with k | k
      · rw [k] at h2; exact absurd h2.2.1 (by decide)
      · rw [k] at h2; exact absurd h2.2.1 (by decide)
theorem right_host {m : Int} {F : List Core} (h : rightF m F = true) {k : Nat} {u : Core} (hu : F[k]? = some u) (hh : u.host ≠ -1) : u.kind = 4 ∧ ∃ (i : Nat) (x : Core), u.host = i ∧ F[i]? = some x ∧ x.kind = 1 ∧ x.under = k ∧ x.doc = u.doc := by
  have h1 := (nodeOk_iff.1 (((rightF_iff m F).1 h).2.1 k u hu)).2.2.2.2.1
  rw [Bool.and_eq_true] at h1
  have h2 := h1.1
  unfold hostOk at h2
  by_cases k4 : u.kind = 4
  · rw [if_pos k4] at h2
    cases hg : getC F u.host with
    | none => rw [hg] at h2; simp at h2
    | some x =>
      rw [hg] at h2
      simp only [Bool.and_eq_true, beq_iff_eq] at h2
      obtain ⟨e1, e2, e3⟩ := getC_some hg
      exact ⟨k4, u.host.toNat, x, by omega, e3, h2.1.1, h2.1.2, h2.2⟩
  · rw [if_neg k4] at h2
    exact absurd (beq_iff_eq.1 h2) hh
/-! ### as trees -/
def parS (F : List Core) (i : Nat) : Option Nat := if nextUp F (i : Int) = -1 then none else some (nextUp F (i : Int)).toNat
def undS (F : List Core) (i : Nat) : List Nat := match F[i]? with | some c => if c.under = -1 then [] else [c.under.toNat] | none => []
def kidsS (F : List Core) (i : Nat) : List Nat := undS F i ++ kidsF F i
theorem parS_some {F : List Core} {k i : Nat} (h : nextUp F (k : Int) = i) : parS F k = some i := by
  unfold parS
  rw [h, if_neg (by omega), Int.toNat_natCast]
theorem parS_none {F : List Core} {k : Nat} (h : nextUp F (k : Int) = -1) : parS F k = none := by
  unfold parS
  rw [if_pos h]
theorem parS_next {m : Int} {F : List Core} (hr : rightF m F = true) {k i : Nat} (hk : k < F.length) (h : parS F k = some i) : nextUp F (k : Int) = i ∧ i < F.length := by
  unfold parS at h
  by_cases he : nextUp F (k : Int) = -1
  · rw [if_pos he] at h; cases h
  · rw [if_neg he] at h
    injection h with h
    rcases right_up hr k (by omega) (by omega) with e | ⟨e1, e2⟩
    · exact absurd e he
    · exact ⟨by omega, by omega⟩
theorem undS_mem {m : Int} {F : List Core} (hr : rightF m F = true) {i k : Nat} (h : k ∈ undS F i) : ∃ x u, F[i]? = some x ∧ x.under = (k : Int) ∧ F[k]? = some u ∧ u.kind = 4 ∧ u.host = i ∧ u.parent = -1 := by
  unfold undS at h
  cases hx : F[i]? with
  | none => rw [hx] at h; simp at h
  | some x =>
    rw [hx] at h
    dsimp only at h
    by_cases hu : x.under = -1
    · rw [if_pos hu] at h; simp at h
    · rw [if_neg hu] at h
      obtain ⟨s, u, e1, e2, e3, e4, e5, _⟩ := right_under hr hx hu
      have : k = s := by
        have := List.mem_singleton.1 h
        omega
      subst this
      exact ⟨x, u, rfl, e1, e2, e3, e4, e5⟩
theorem treeS {m : Int} {F : List Core} (hr : rightF m F = true) : Tree F.length (parS F) (kidsS F) (rankF F) := by
  have T := tree_of_right hr
  have E := ((rightF_iff m F).1 hr).2.2
  have kid : ∀ i k, k ∈ kidsF F i → k < F.length ∧ nextUp F (k : Int) = i := fun i k hk => by
    have hl := T.kid_lt i k hk
    have hp := T.kid_par i k hk
    have hx : F[k]? = some F[k] := List.getElem?_eq_getElem hl
    by_cases he : F[k].parent = -1
    · rw [right_top hx he] at hp; cases hp
    · obtain ⟨p, h1, _, h3⟩ := right_par hr hx he
      rw [h3] at hp
      injection hp with hp
      subst hp
      exact ⟨hl, (next_par hx he).trans h1⟩
  have all : ∀ i k, k ∈ kidsS F i → k < F.length ∧ nextUp F (k : Int) = i := fun i k hk => by
    rcases List.mem_append.1 hk with hk | hk
    · obtain ⟨x, u, hx, _, hu, _, hh, hp⟩ := undS_mem hr hk
      exact ⟨(List.getElem?_eq_some_iff.1 hu).1, (next_host hu hp).trans hh⟩
    · exact kid i k hk
  refine ⟨fun i k hk => (all i k hk).1, fun i k hk => parS_some (all i k hk).2, fun i k hk hp => ?_, fun i => ?_, fun i k hk hp => ?_, fun i hi => rankZ_le (n := F.length) (E i hi)⟩
  · obtain ⟨h1, h2⟩ := parS_next hr hk hp
    refine ⟨h2, List.mem_append.2 ?_⟩
    have hx : F[k]? = some F[k] := List.getElem?_eq_getElem hk
    by_cases he : F[k].parent = -1
    · rw [next_host hx he] at h1
      obtain ⟨_, j, y, e1, e2, _, e4, _⟩ := right_host hr hx (by omega)
      have : j = i := by omega
      subst this
      left
      unfold undS
      rw [e2]
      dsimp only
      rw [if_neg (by omega), e4, Int.toNat_natCast]
      simp
    · rw [next_par hx he] at h1
      obtain ⟨p, e1, _, e3⟩ := right_par hr hx he
      have : p = i := by omega
      subst this
      exact .inr (T.par_kid p k hk e3).2
  · unfold kidsS
    rw [List.nodup_append]
    refine ⟨?_, T.nodup i, fun a ha b hb e => ?_⟩
    · unfold undS
      cases F[i]? with
      | none => simp
      | some c => dsimp only; split <;> simp
    · subst e
      obtain ⟨x, u, hx, _, hu, _, hh, hp⟩ := undS_mem hr ha
      have := T.kid_par i a hb
      rw [right_top hu hp] at this
      cases this
  · obtain ⟨h1, h2⟩ := parS_next hr hk hp
    unfold rankF
    rw [rankZ_up (nxt := nextUp F) (n := F.length) (i := (k : Int)) (by omega) (E k hk) (by rw [h1]; exact E i h2), h1]
/-! ### what is asked -/
def topF (F : List Core) (a : Nat) : Nat := rootN (parS F) (F.length + 1) a
def allF (F : List Core) (a : Nat) : List Nat := ordN (kidsS F) (F.length + 1) a
def overF (F : List Core) (a b : Nat) : Bool := decide (b ∈ allF F a)
def topZ (m : Int) (F : List Core) (n : Int) : Int := if thereF m F n then (topF F n.toNat : Int) else -1
def allI (F : List Core) (z : Int) : List Int := (allF F z.toNat).map Int.ofNat
def allZ (m : Int) (F : List Core) (n : Int) : List Int := if thereF m F n then allI F n else []
def overZ (m : Int) (F : List Core) (a b : Int) : Bool := thereF m F a && thereF m F b && overF F a.toNat b.toNat
def connZ (m : Int) (F : List Core) (n : Int) : Bool := thereF m F n && kindK F (topZ m F n) == 0
def elemsZ (m : Int) (F : List Core) (n : Int) : List Int := (allZ m F n).filter (fun k => kindK F k == 1)
theorem topZ_eq {m : Int} {F : List Core} (h : rightF m F = true) {a : Nat} (ha : a < F.length) : topZ m F (a : Int) = (topF F a : Nat) := by
  unfold topZ
  rw [thereF_of h ha]
  rfl
theorem allZ_eq {m : Int} {F : List Core} (h : rightF m F = true) {a : Nat} (ha : a < F.length) : allZ m F (a : Int) = allI F a := by
  unfold allZ
  rw [thereF_of h ha]
  rfl
theorem overZ_iff {m : Int} {F : List Core} (h : rightF m F = true) {a b : Nat} (ha : a < F.length) (hb : b < F.length) : overZ m F (a : Int) (b : Int) = true ↔ holdsT (parS F) a b := by
  unfold overZ
  rw [thereF_of h ha, thereF_of h hb, Bool.true_and, Bool.true_and]
  unfold overF allF
  rw [decide_eq_true_iff]
  exact (treeS h).mem_ord _ _ ha (by omega) _ hb
theorem topF_lt {m : Int} {F : List Core} (h : rightF m F = true) {a : Nat} (ha : a < F.length) : topF F a < F.length := (treeS h).root_lt ha
theorem allI_open {m : Int} {F : List Core} (h : rightF m F = true) {a : Nat} {x : Core} (hx : F[a]? = some x) : allI F (a : Int) = (a : Int) :: ((if x.under = -1 then [] else allI F x.under) ++ x.kids.flatMap (allI F)) := by
  have T := treeS h
  have ha := (List.getElem?_eq_some_iff.1 hx).1
  unfold allI allF
  rw [Int.toNat_natCast, T.ord_open ha, List.map_cons]
  congr 1
  have hk : kidsF F a = x.kids.map Int.toNat := by unfold kidsF; rw [hx]
  rw [show kidsS F a = undS F a ++ kidsF F a from rfl, List.flatMap_append, List.map_append, hk]
  congr 1
  · unfold undS
    rw [hx]
    dsimp only
    by_cases hu : x.under = -1
    · rw [if_pos hu, if_pos hu]; rfl
    · rw [if_neg hu, if_neg hu]; simp
  · rw [List.flatMap_map, List.map_flatMap]
end Go.Proofs.Ytdalljhgmhjibaa
/- What is asked of package shade's functions: their contracts, as one property. -/
namespace Go.Proofs.Ytdalljhgmhjibaa
open Go.RowKit
/-- May a node have a shadow? -/
def hostsC (x : Core) : Bool := x.kind == 1 && (x.name.toList == [100, 105, 118] || x.name.toList == [112] || x.name.toList == [115, 112, 97, 110] || customL x.name.toList)
/-- The Shade that is made. -/
def shadeC (n d : Int) : Core := ⟨4, ⟨#[]⟩, ⟨#[]⟩, ⟨#[]⟩, [], -1, [], n, -1, d⟩
def attE (m : Int) (F : List Core) (n : Int) : Int :=
  if thereF m F n then (match getC F n with
    | some x => if hostsC x then (if x.under = -1 then (if (F.length : Int) = m then 8 else 0) else 10) else 5
    | none => 1) else 1
def docZ (F : List Core) (n : Int) : Int := match getC F n with | some x => x.doc | none => 0
def withU (x : Core) (u : Int) : Core := ⟨x.kind, x.name, x.is, x.data, x.attrs, x.parent, x.kids, x.host, u, x.doc⟩
/-- The forest with a shadow more. -/
def attC (F : List Core) (n : Int) : List Core := match getC F n with | some x => F.set n.toNat (withU x (F.length : Int)) ++ [shadeC n x.doc] | none => F
def attL (m : Int) (F : List Core) (n : Int) : List Core := if attE m F n = 0 then attC F n else F
def attN (m : Int) (F : List Core) (n : Int) : Int := if attE m F n = 0 then (F.length : Int) else -1
structure ShadeFns : Prop where
  attach : ∀ (a : Option Addr) (len cap : Nat) (m : Int) (L : List NodeD) (n : Int) (w : World), NodeRow w a len cap L → In64 m → In64 n → smallF L →
    Calls Try.prog 35 #[forV a len cap m, .int .i64 n] w (ForPost w (attL m (coreL L) n) m [.int .i64 (attN m (coreL L) n), .int .i64 (attE m (coreL L) n)])
  top : ∀ (a : Option Addr) (len cap : Nat) (m : Int) (L : List NodeD) (n : Int) (w : World), NodeRow w a len cap L → In64 m → In64 n → smallF L →
    Calls Try.prog 36 #[forV a len cap m, .int .i64 n] w fun e w' => e = .returned (.int .i64 (topZ m (coreL L) n)) ∧ Below w.heap.size w w'
  conn : ∀ (a : Option Addr) (len cap : Nat) (m : Int) (L : List NodeD) (n : Int) (w : World), NodeRow w a len cap L → In64 m → In64 n → smallF L →
    Calls Try.prog 37 #[forV a len cap m, .int .i64 n] w fun e w' => e = .returned (.bool (connZ m (coreL L) n)) ∧ Below w.heap.size w w'
  all : ∀ (a : Option Addr) (len cap : Nat) (m : Int) (L : List NodeD) (n : Int) (w : World), NodeRow w a len cap L → In64 m → In64 n → smallF L →
    Calls Try.prog 38 #[forV a len cap m, .int .i64 n] w (OrdPost w (allZ m (coreL L) n))
  over : ∀ (a : Option Addr) (len cap : Nat) (m : Int) (L : List NodeD) (x y : Int) (w : World), NodeRow w a len cap L → In64 m → In64 x → In64 y → smallF L →
    Calls Try.prog 40 #[forV a len cap m, .int .i64 x, .int .i64 y] w fun e w' => e = .returned (.bool (overZ m (coreL L) x y)) ∧ Below w.heap.size w w'
  elems : ∀ (a : Option Addr) (len cap : Nat) (m : Int) (L : List NodeD) (n : Int) (w : World), NodeRow w a len cap L → In64 m → In64 n → smallF L →
    Calls Try.prog 39 #[forV a len cap m, .int .i64 n] w (OrdPost w (elemsZ m (coreL L) n))
end Go.Proofs.Ytdalljhgmhjibaa
/- instarlaw04's awake, over the contracts of packages forest and shade. -/
namespace Go.Proofs.Ytdalljhgmhjibaa
open Go.RowKit
/-- A forest in a box that is written, in which no text lies. -/
structure FBox (w W : World) (g : Nat) (a : Option Addr) (len cap : Nat) (m : Int) (L : List NodeD) (F : List Core) : Prop where
  box : Box w W g a len cap m L F
  free : ∀ o, W.frozen? ⟨g, o, none⟩ = false
  nt : ∀ j s, W.cell? ⟨g, j, none⟩ ≠ some (.string s)
theorem FBox.new {w W : World} {a : Option Addr} {len cap : Nat} {m : Int} {L : List NodeD} {F : List Core} (hb : Below w.heap.size w W) (h : NodeRow W a len cap L) (hc : coreL L = F) : FBox w (W.alloc (forB a len cap m)) W.heap.size a len cap m L F := by
  refine ⟨⟨h.below (below_box _ _), hc, hb.size, by simp, cell_of_row (W.alloc (forB a len cap m)) W.heap.size 0 _ 24 (0, 0) (heap_alloc_new W _), cell_of_row (W.alloc (forB a len cap m)) W.heap.size 1 _ 24 (0, 0) (heap_alloc_new W _), hb.alloc hb.size _⟩, fun o => row_free (heap_alloc_new W _) o, fun j s => ?_⟩
  exact box_notext (Below.refl _ _)
theorem FBox.keep {w W W2 : World} {g : Nat} {a : Option Addr} {len cap : Nat} {m : Int} {L : List NodeD} {F : List Core} (h : FBox w W g a len cap m L F) (hb : Below W.heap.size W W2) : FBox w W2 g a len cap m L F :=
  ⟨h.box.keep hb, fun o => (hb.frozen (p := ⟨g, o, none⟩) h.box.lt).trans (h.free o), fun j s => by rw [hb.cell (p := ⟨g, j, none⟩) h.box.lt]; exact h.nt j s⟩
theorem FBox.set {w W : World} {g : Nat} {a a2 : Option Addr} {len cap len2 cap2 : Nat} {m m2 : Int} {L L2 : List NodeD} {F F2 : List Core} (h : FBox w W g a len cap m L F) (h2 : NodeRow W a2 len2 cap2 L2) (hc : coreL L2 = F2) (hk : ∀ x ∈ L2, x.core.kids = [] ∧ x.core.attrs = []) :
    FBox w ((W.setCell ⟨g, 0, none⟩ (.slice a2 len2 cap2)).setCell ⟨g, 1, none⟩ (.int .i64 m2)) g a2 len2 cap2 m2 L2 F2 := by
  have n1 := notext_set (o := 0) (u := .slice a2 len2 cap2) h.nt h.box.c0 (fun s e => by cases e)
  have c1 : (W.setCell ⟨g, 0, none⟩ (.slice a2 len2 cap2)).cell? ⟨g, 1, none⟩ = some (.int .i64 m) := (World.cell?_setCell_other _ _ _ _ (fun e => by injection e with _ e; omega)).trans h.box.c1
  refine ⟨⟨(h2.setBox h.nt hk _).setBox n1 hk _, hc, h.box.low, by simpa [World.setCell] using h.box.lt, ?_, World.cell?_setCell_same _ _ _ c1, (h.box.below.setCell (p := ⟨g, 0, none⟩) h.box.low _).setCell (p := ⟨g, 1, none⟩) h.box.low _⟩, fun o => by rw [World.frozen?_setCell, World.frozen?_setCell]; exact h.free o, notext_set n1 c1 (fun s e => by cases e)⟩
  exact (World.cell?_setCell_other _ _ _ _ (fun e => by injection e with _ e; omega)).trans (World.cell?_setCell_same _ _ _ h.box.c0)
/-- A list of small nodes, by its data. -/
theorem small_of_core {L : List NodeD} {F : List Core} (h : coreL L = F) (hl : F.length ≤ 1000) (hs : ∀ c ∈ F, c.kids.length ≤ 1000 ∧ c.attrs.length ≤ 1000 ∧ c.name.size ≤ 1000) : smallF L := by
  refine ⟨by rw [← h] at hl; unfold coreL at hl; rwa [List.length_map] at hl, fun x hx => ?_⟩
  have hm : x.core ∈ F := by rw [← h]; exact List.mem_map.2 ⟨x, hx, rfl⟩
  exact hs _ hm
theorem bare_of_core {L : List NodeD} {F : List Core} (h : coreL L = F) (hs : ∀ c ∈ F, c.kids = [] ∧ c.attrs = []) : ∀ x ∈ L, x.core.kids = [] ∧ x.core.attrs = [] := fun x hx => by
  have hm : x.core ∈ F := by rw [← h]; exact List.mem_map.2 ⟨x, hx, rfl⟩
  exact hs _ hm
def divT : ByteArray := ⟨#[100, 105, 118]⟩
def divX : Core := ⟨1, divT, ⟨#[]⟩, ⟨#[]⟩, [], 0, [], 0, 0, 0⟩
def divC : Core := ⟨1, divT, ⟨#[]⟩, ⟨#[]⟩, [], -1, [], -1, -1, 0⟩
def g1 : List Core := [docC]
def g2 : List Core := [docC, divC]
def g3 : List Core := [docC, withU divC 2, shadeC 1 0]
theorem ga1 : newL 5 = g1 ∧ newM 5 = 5 ∧ newE 5 = 0 := by decide +kernel
theorem ga2 : makeE 5 g1 divX = 0 ∧ makeN 5 g1 divX = 1 ∧ makeL 5 g1 divX = g2 := by decide +kernel
theorem ga3 : attE 5 g2 1 = 0 ∧ attN 5 g2 1 = 2 ∧ attL 5 g2 1 = g3 := by decide +kernel
theorem ga4 : attE 5 g3 1 = 10 ∧ attN 5 g3 1 = -1 ∧ attL 5 g3 1 = g3 := by decide +kernel
theorem ga5 : allZ 5 g3 1 = [1, 2] ∧ topZ 5 g3 2 = 1 ∧ connZ 5 g3 2 = false ∧ connZ 5 g3 0 = true ∧ overZ 5 g3 1 2 = true ∧ elemsZ 5 g3 1 = [1] := by decide +kernel
def divD : NodeD := ⟨divX, none, 0, 0, none, 0, 0⟩
theorem divD_ok (w : World) : NodeOk w divD := by
  refine ⟨⟨SRow.nil, (fun z hz => by cases hz), fun _ => rfl⟩, ⟨SRow.nil, (fun z hz => by cases hz), fun _ => rfl⟩, ?_, ?_, ?_, ?_, ?_, ?_, ?_, ?_⟩
  · show 3 ≤ maxLen; decide
  · show 0 ≤ maxLen; decide
  · show 0 ≤ maxLen; decide
  · exact ⟨by show (_ : Int) ≤ 1; decide, by show (1 : Int) ≤ _; decide⟩
  all_goals exact ⟨by show (_ : Int) ≤ 0; decide, by show (0 : Int) ≤ _; decide⟩
theorem divD_small : smallX divD := ⟨Nat.zero_le _, by show 3 ≤ 1000; decide⟩
theorem s1 {L : List NodeD} (h : coreL L = g1) : smallF L := small_of_core h (by decide) (by intro c hc; have : c = docC := (by simpa [g1] using hc); subst this; decide)
theorem s2 {L : List NodeD} (h : coreL L = g2) : smallF L := small_of_core h (by decide) (by intro c hc; have : c = docC ∨ c = divC := (by simpa [g2] using hc); rcases this with rfl | rfl <;> decide)
theorem s3 {L : List NodeD} (h : coreL L = g3) : smallF L := small_of_core h (by decide) (by intro c hc; have : c = docC ∨ c = withU divC 2 ∨ c = shadeC 1 0 := (by simpa [g3] using hc); rcases this with rfl | rfl | rfl <;> decide)
theorem b2 {L : List NodeD} (h : coreL L = g2) : ∀ x ∈ L, x.core.kids = [] ∧ x.core.attrs = [] := bare_of_core h (by intro c hc; have : c = docC ∨ c = divC := (by simpa [g2] using hc); rcases this with rfl | rfl <;> exact ⟨rfl, rfl⟩)
theorem b3 {L : List NodeD} (h : coreL L = g3) : ∀ x ∈ L, x.core.kids = [] ∧ x.core.attrs = [] := bare_of_core h (by intro c hc; have : c = docC ∨ c = withU divC 2 ∨ c = shadeC 1 0 := (by simpa [g3] using hc); rcases this with rfl | rfl | rfl <;> exact ⟨rfl, rfl⟩)
theorem in2 : In64 2 := ⟨by decide, by decide⟩
abbrev divV : Value := .agg #[.int .i64 1, .string ⟨#[100, 105, 118]⟩, .string ⟨#[]⟩, .string ⟨#[]⟩, .slice none 0 0, .int .i64 0, .slice none 0 0, .int .i64 0, .int .i64 0, .int .i64 0]
set_option maxHeartbeats 8000000 in
set_option maxRecDepth 100000 in
theorem awake4_any (F : ForestFns) (S : ShadeFns) (w : World) : Calls Try.prog 34 #[] w fun e w' => e = .returned (.bool true) ∧ Below w.heap.size w w' := by
  have C0 : Hid (∀ W, Calls Try.prog 14 #[.int .i64 5] W (ForPost W g1 5 [.int .i64 0])) := Lib.hid (fun W => by
    have := F.new 5 W in5
    rwa [ga1.1, ga1.2.1, ga1.2.2] at this)
  have C1 : Hid (∀ W a len cap L, NodeRow W a len cap L → coreL L = g1 → Calls Try.prog 15 #[forV a len cap 5, divV] W (ForPost W g2 5 [.int .i64 1, .int .i64 0])) := Lib.hid (fun W a len cap L h hc => by
    have := F.make a len cap 5 L divD W h (divD_ok _) in5 (s1 hc) divD_small
    rw [hc, show divD.core = divX from rfl, ga2.1, ga2.2.1, ga2.2.2] at this
    exact this)
  have C2 : Hid (∀ W a len cap L, NodeRow W a len cap L → coreL L = g2 → Calls Try.prog 35 #[forV a len cap 5, .int .i64 1] W (ForPost W g3 5 [.int .i64 2, .int .i64 0])) := Lib.hid (fun W a len cap L h hc => by
    have := S.attach a len cap 5 L 1 W h in5 in1 (s2 hc)
    rwa [hc, ga3.1, ga3.2.1, ga3.2.2] at this)
  have C3 : Hid (∀ W a len cap L, NodeRow W a len cap L → coreL L = g3 → Calls Try.prog 35 #[forV a len cap 5, .int .i64 1] W (ForPost W g3 5 [.int .i64 (-1), .int .i64 10])) := Lib.hid (fun W a len cap L h hc => by
    have := S.attach a len cap 5 L 1 W h in5 in1 (s3 hc)
    rwa [hc, ga4.1, ga4.2.1, ga4.2.2] at this)
  have C4 : Hid (∀ W a len cap L, NodeRow W a len cap L → coreL L = g3 → Calls Try.prog 38 #[forV a len cap 5, .int .i64 1] W (OrdPost W [1, 2])) := Lib.hid (fun W a len cap L h hc => by
    have := S.all a len cap 5 L 1 W h in5 in1 (s3 hc)
    rwa [hc, ga5.1] at this)
  have C5 : Hid (∀ W a len cap L, NodeRow W a len cap L → coreL L = g3 → Calls Try.prog 36 #[forV a len cap 5, .int .i64 2] W fun e w' => e = .returned (.int .i64 1) ∧ Below W.heap.size W w') := Lib.hid (fun W a len cap L h hc => by
    have := S.top a len cap 5 L 2 W h in5 in2 (s3 hc)
    rwa [hc, ga5.2.1] at this)
  have C6 : Hid (∀ W a len cap L, NodeRow W a len cap L → coreL L = g3 → Calls Try.prog 37 #[forV a len cap 5, .int .i64 2] W fun e w' => e = .returned (.bool false) ∧ Below W.heap.size W w') := Lib.hid (fun W a len cap L h hc => by
    have := S.conn a len cap 5 L 2 W h in5 in2 (s3 hc)
    rwa [hc, ga5.2.2.1] at this)
  have C7 : Hid (∀ W a len cap L, NodeRow W a len cap L → coreL L = g3 → Calls Try.prog 37 #[forV a len cap 5, .int .i64 0] W fun e w' => e = .returned (.bool true) ∧ Below W.heap.size W w') := Lib.hid (fun W a len cap L h hc => by
    have := S.conn a len cap 5 L 0 W h in5 in0 (s3 hc)
    rwa [hc, ga5.2.2.2.1] at this)
  have C8 : Hid (∀ W a len cap L, NodeRow W a len cap L → coreL L = g3 → Calls Try.prog 40 #[forV a len cap 5, .int .i64 1, .int .i64 2] W fun e w' => e = .returned (.bool true) ∧ Below W.heap.size W w') := Lib.hid (fun W a len cap L h hc => by
    have := S.over a len cap 5 L 1 2 W h in5 in1 in2 (s3 hc)
    rwa [hc, ga5.2.2.2.2.1] at this)
  have C9 : Hid (∀ W a len cap L, NodeRow W a len cap L → coreL L = g3 → Calls Try.prog 39 #[forV a len cap 5, .int .i64 1] W (OrdPost W [1])) := Lib.hid (fun W a len cap L h hc => by
    have := S.elems a len cap 5 L 1 W h in5 in1 (s3 hc)
    rwa [hc, ga5.2.2.2.2.2] at this)
  clear F S
  go_enter Try.func34, Try.ntmps34
  go_wp2_with (first
    | (go_at_call 14; refine (C0.out _).mono ?_; rintro e w1 ⟨a1, len1, cap1, L1, rfl, hr1, hc1, hb1⟩; have BX := Lib.hid (FBox.new (m := 5) hb1 hr1 hc1); (have z0 := BX.out.box.c0; have z1 := BX.out.box.c1; have xf0 := BX.out.free 0; have xf1 := BX.out.free 1); clear hr1 hc1 hb1)
    | (go_at_call 15; ((with_reducible refine (C1.out _ _ _ _ _ BX.out.box.row BX.out.box.core).mono ?_); rintro e w2 ⟨a2, len2, cap2, L2, rfl, hr2, hc2, hb2⟩)
       have BX := Lib.hid (BX.out.keep hb2)
       (have z0 := BX.out.box.c0; have z1 := BX.out.box.c1; have xf0 := BX.out.free 0; have xf1 := BX.out.free 1)
       have BN := Lib.hid (BX.out.set (m2 := 5) hr2 hc2 (b2 hc2))
       clear hr2 hc2 hb2)
    | (go_at_call 35; ((with_reducible refine (C2.out _ _ _ _ _ BN.out.box.row BN.out.box.core).mono ?_); rintro e w3 ⟨a3, len3, cap3, L3, rfl, hr3, hc3, hb3⟩)
       have BX := Lib.hid (BN.out.keep hb3)
       clear z0 z1 xf0 xf1
       (have z0 := BX.out.box.c0; have z1 := BX.out.box.c1; have xf0 := BX.out.free 0; have xf1 := BX.out.free 1)
       have BM := Lib.hid (BX.out.set (m2 := 5) hr3 hc3 (b3 hc3))
       clear hr3 hc3 hb3)
    | (go_at_call 35; ((with_reducible refine (C3.out _ _ _ _ _ BM.out.box.row BM.out.box.core).mono ?_); rintro e w4 ⟨a4, len4, cap4, L4, rfl, hr4, hc4, hb4⟩)
       have BX := Lib.hid ((BM.out.keep hb4).keep (below_box _ (forB a4 len4 cap4 5)))
       clear z0 z1 xf0 xf1
       (have z0 := BX.out.box.c0; have z1 := BX.out.box.c1; have xf0 := BX.out.free 0; have xf1 := BX.out.free 1)
       clear hr4 hc4 hb4)
    | (go_at_call 38; ((with_reducible refine (C4.out _ _ _ _ _ BX.out.box.row BX.out.box.core).mono ?_); rintro e w5 ⟨a5, len5, cap5, rfl, hr5, hb5⟩)
       have BX := Lib.hid (BX.out.keep hb5)
       clear z0 z1 xf0 xf1
       (have z0 := BX.out.box.c0; have z1 := BX.out.box.c1; have xf0 := BX.out.free 0; have xf1 := BX.out.free 1)
       obtain rfl : 2 = len5 := hr5.hlen
       obtain ⟨bo, oo, z, rfl, hbo, hz, hco, _⟩ := hr5.get (k := 1) (by decide)
       obtain rfl : 2 = z := by simpa using hz
       clear hr5 hb5 hz)
    | (go_at_call 36; ((with_reducible refine (C5.out _ _ _ _ _ BX.out.box.row BX.out.box.core).mono ?_); rintro e w6 ⟨rfl, hb6⟩); have BX := Lib.hid (BX.out.keep hb6); clear z0 z1 xf0 xf1; (have z0 := BX.out.box.c0; have z1 := BX.out.box.c1; have xf0 := BX.out.free 0; have xf1 := BX.out.free 1); clear hb6)
    | (go_at_call 37; ((with_reducible refine (C6.out _ _ _ _ _ BX.out.box.row BX.out.box.core).mono ?_); rintro e w7 ⟨rfl, hb7⟩); have BX := Lib.hid (BX.out.keep hb7); clear z0 z1 xf0 xf1; (have z0 := BX.out.box.c0; have z1 := BX.out.box.c1; have xf0 := BX.out.free 0; have xf1 := BX.out.free 1); clear hb7)
    | (go_at_call 37; ((with_reducible refine (C7.out _ _ _ _ _ BX.out.box.row BX.out.box.core).mono ?_); rintro e w8 ⟨rfl, hb8⟩); have BX := Lib.hid (BX.out.keep hb8); clear z0 z1 xf0 xf1; (have z0 := BX.out.box.c0; have z1 := BX.out.box.c1; have xf0 := BX.out.free 0; have xf1 := BX.out.free 1); clear hb8)
    | (go_at_call 40; ((with_reducible refine (C8.out _ _ _ _ _ BX.out.box.row BX.out.box.core).mono ?_); rintro e w9 ⟨rfl, hb9⟩); have BX := Lib.hid (BX.out.keep hb9); clear z0 z1 xf0 xf1; (have z0 := BX.out.box.c0; have z1 := BX.out.box.c1; have xf0 := BX.out.free 0; have xf1 := BX.out.free 1); clear hb9)
    | (go_at_call 39; ((with_reducible refine (C9.out _ _ _ _ _ BX.out.box.row BX.out.box.core).mono ?_); rintro e w10 ⟨a10, len10, cap10, rfl, hr10, hb10⟩)
       have BX := Lib.hid (BX.out.keep hb10)
       obtain rfl : 1 = len10 := hr10.hlen
       clear hr10 hb10))
  go_ret
  exact ⟨rfl, BX.out.box.below⟩
end Go.Proofs.Ytdalljhgmhjibaa
/- What the laws of layer 4 ask, over data: facts of forests that are right. Plain mathematics, no program. -/
namespace Go.Proofs.Ytdalljhgmhjibaa
open Go.RowKit
/-! ### ShadeOver -/
/-- What is asked of three nodes. -/
structure OverFacts (m : Int) (F : List Core) (x y z : Nat) (c : Core) : Prop where
  self : overZ m F x x = true
  trans : overZ m F x y = true → overZ m F y z = true → overZ m F x z = true
  anti : x ≠ y → overZ m F x y = true → overZ m F y x = false
  held : holdsZ m F x y = true → overZ m F x y = true
  doc : c.kind = 0 → connZ m F x = true ∧ topZ m F x = x
  par : c.kind ≠ 0 → c.parent ≠ -1 → ∃ p : Nat, c.parent = p ∧ p < F.length ∧ connZ m F x = connZ m F p ∧ topZ m F x = topZ m F p
  host : c.kind ≠ 0 → c.parent = -1 → c.host ≠ -1 → ∃ p : Nat, c.host = p ∧ p < F.length ∧ connZ m F x = connZ m F p ∧ topZ m F x = topZ m F p
  alone : c.kind ≠ 0 → c.parent = -1 → c.host = -1 → connZ m F x = false ∧ topZ m F x = x
theorem connZ_eq {m : Int} {F : List Core} (h : rightF m F = true) {a : Nat} (ha : a < F.length) : connZ m F (a : Int) = (kindK F (topZ m F a) == 0) := by
  unfold connZ
  rw [thereF_of h ha, Bool.true_and]
theorem holds_over {m : Int} {F : List Core} (h : rightF m F = true) {a b : Nat} (hb : b < F.length) (hh : holdsT (parF F) a b) : holdsT (parS F) a b := by
  obtain ⟨k, hk⟩ := hh
  have T := tree_of_right h
  have key : ∀ (k b : Nat), b < F.length → upN (parF F) k b = some a → upN (parS F) k b = some a := by
    intro k
    induction k with
    | zero => intro b _ h; exact h
    | succ k ih =>
      intro b hb hu
      unfold upN at hu ⊢
      cases hp : parF F b with
      | none => rw [hp] at hu; cases hu
      | some p =>
        rw [hp] at hu
        have hx : F[b]? = some F[b] := List.getElem?_eq_getElem hb
        have hpar : F[b].parent ≠ -1 := fun e => by rw [right_top hx e] at hp; cases hp
        obtain ⟨q, e1, e2, e3⟩ := right_par h hx hpar
        rw [hp] at e3
        injection e3 with e3
        subst e3
        rw [parS_some ((next_par hx hpar).trans e1)]
        exact ih p e2 hu
  exact ⟨k, key k b hb hk⟩
theorem over_facts {m : Int} {F : List Core} (h : rightF m F = true) {x y z : Nat} {c : Core} (hx : x < F.length) (hy : y < F.length) (hz : z < F.length) (hc : F[x]? = some c) : OverFacts m F x y z c := by
  have T := treeS h
  have upto : ∀ p : Nat, nextUp F (x : Int) = p → p < F.length → connZ m F x = connZ m F p ∧ topZ m F x = topZ m F p := fun p hn hp => by
    have e : topZ m F x = topZ m F p := by
      rw [topZ_eq h hx, topZ_eq h hp]
      unfold topF
      rw [T.root_held hx (Nat.le_refl _) (holds_par (parS_some hn))]
    rw [connZ_eq h hx, connZ_eq h hp, e]
    exact ⟨rfl, rfl⟩
  have top : nextUp F (x : Int) = -1 → topZ m F x = x := fun hn => by
    rw [topZ_eq h hx]
    unfold topF
    rw [rootN_none (parS_none hn)]
  have kind : kindK F (x : Int) = c.kind := by unfold kindK; rw [getC_nat, hc]
  refine ⟨(overZ_iff h hx hx).2 (holds_refl x), fun h1 h2 => ?_, fun hne h1 => ?_, fun h1 => ?_, fun hk => ?_, fun hk hp => ?_, fun hk hp hh => ?_, fun hk hp hh => ?_⟩
  · exact (overZ_iff h hx hz).2 (holds_trans ((overZ_iff h hx hy).1 h1) ((overZ_iff h hy hz).1 h2))
  · cases h2 : overZ m F y x with
    | false => rfl
    | true => exact absurd (T.holds_anti hx hy ((overZ_iff h hx hy).1 h1) ((overZ_iff h hy hx).1 h2)) hne
  · exact (overZ_iff h hx hy).2 (holds_over h hy ((holdsZ_iff h hx hy).1 h1))
  · have hp : c.parent = -1 := by
      by_cases hp : c.parent = -1
      · exact hp
      · rcases right_held h hc hp with e | e <;> omega
    have hh : c.host = -1 := by
      by_cases hh : c.host = -1
      · exact hh
      · have := (right_host h hc hh).1
        omega
    have ht := top ((next_host hc hp).trans hh)
    rw [connZ_eq h hx, ht, kind, hk]
    exact ⟨rfl, rfl⟩
  · obtain ⟨p, e1, e2, _⟩ := right_par h hc hp
    obtain ⟨h1, h2⟩ := upto p ((next_par hc hp).trans e1) e2
    exact ⟨p, e1, e2, h1, h2⟩
  · obtain ⟨_, p, y, e1, e2, _⟩ := right_host h hc hh
    have hl := (List.getElem?_eq_some_iff.1 e2).1
    obtain ⟨h1, h2⟩ := upto p ((next_host hc hp).trans e1) hl
    exact ⟨p, e1, hl, h1, h2⟩
  · have ht := top ((next_host hc hp).trans hh)
    rw [connZ_eq h hx, ht, kind]
    exact ⟨beq_eq_false_iff_ne.2 hk, rfl⟩
/-! ### ShadeAll -/
structure AllFacts (m : Int) (F : List Core) (x : Nat) (l o : List Int) : Prop where
  pos : l[0]? = some (x : Int)
  len : l.length ≤ F.length
  olen : o.length ≤ l.length
  num : ∀ (i : Nat) z, l[i]? = some z → ∃ n : Nat, z = (n : Int) ∧ n < F.length
  many : ∀ n : Nat, n < F.length → hasZ l (n : Int) = if overZ m F x n then 1 else 0
  tops : ∀ n : Nat, n < F.length → overZ m F x n = true → topZ m F n = topZ m F x
  inc : ∀ (i : Nat) a b, o[i]? = some a → o[i + 1]? = some b → findZ l a < findZ l b
  und : ∀ (i : Nat) (n : Nat) c, l[i]? = some (n : Int) → F[n]? = some c → c.under ≠ -1 → ∃ s : Nat, c.under = s ∧ s < F.length ∧ l[i + 1]? = some (s : Int) ∧ ∀ k0, c.kids[0]? = some k0 → findZ l k0 = (i : Int) + 1 + (allZ m F s).length
  conn : connZ m F x = (kindK F (topZ m F x) == 0)
  top : ∃ t : Nat, topZ m F x = t ∧ t < F.length
theorem mem_allI {F : List Core} {z : Int} {n : Nat} : (n : Int) ∈ allI F z ↔ n ∈ allF F z.toNat := by
  unfold allI
  constructor
  · intro hm
    obtain ⟨k, hk, e⟩ := List.mem_map.1 hm
    rwa [Int.ofNat.inj e] at hk
  · intro hm
    exact List.mem_map.2 ⟨n, hm, rfl⟩
theorem allI_nodup {m : Int} {F : List Core} (h : rightF m F = true) {x : Nat} (hx : x < F.length) : (allI F x).Nodup := by
  have hN : (allF F x).Nodup := (treeS h).ord_nodup _ _ hx (by omega)
  unfold allI
  rw [Int.toNat_natCast]
  exact List.Pairwise.map Int.ofNat (fun a b hab e => hab (Int.ofNat.inj e)) hN
theorem allI_num {m : Int} {F : List Core} (h : rightF m F = true) {x : Nat} (hx : x < F.length) {z : Int} (hz : z ∈ allI F x) : ∃ n : Nat, z = (n : Int) ∧ n < F.length := by
  unfold allI at hz
  rw [Int.toNat_natCast] at hz
  obtain ⟨n, hn, rfl⟩ := List.mem_map.1 hz
  exact ⟨n, rfl, (treeS h).ord_lt _ _ hx n hn⟩
theorem allI_len {m : Int} {F : List Core} (h : rightF m F = true) {x : Nat} (hx : x < F.length) : (allI F x).length ≤ F.length := by
  unfold allI
  rw [Int.toNat_natCast, List.length_map]
  exact nodup_sub _ _ ((treeS h).ord_nodup _ _ hx (by omega)) ((treeS h).ord_lt _ _ hx)
theorem hasZ_all {m : Int} {F : List Core} (h : rightF m F = true) {x n : Nat} (hx : x < F.length) (hn : n < F.length) : hasZ (allI F x) (n : Int) = if overZ m F x n then 1 else 0 := by
  rw [hasZ_nodup (allI_nodup h hx)]
  have e2 : overZ m F x n = decide (n ∈ allF F x) := by
    unfold overZ
    rw [thereF_of h hx, thereF_of h hn]
    rfl
  have e1 : ((n : Int) ∈ allI F x) ↔ n ∈ allF F x := by rw [mem_allI, Int.toNat_natCast]
  rw [e2]
  by_cases hm : n ∈ allF F x
  · rw [if_pos (e1.2 hm), decide_eq_true hm, if_pos rfl]
  · rw [if_neg (fun g => hm (e1.1 g)), decide_eq_false hm, if_neg (by decide)]
theorem top_over {m : Int} {F : List Core} (h : rightF m F = true) {x n : Nat} (hx : x < F.length) (hn : n < F.length) (ho : overZ m F x n = true) : topZ m F n = topZ m F x := by
  rw [topZ_eq h hx, topZ_eq h hn]
  unfold topF
  rw [(treeS h).root_held hn (Nat.le_refl _) ((overZ_iff h hx hn).1 ho)]
theorem findZ_app {pre l : List Int} {z : Int} (hn : (pre ++ l).Nodup) (hz : z ∈ l) : findZ (pre ++ l) z = (pre.length : Int) + findZ l z := by
  obtain ⟨k, h1, h2⟩ := find_at hz
  rw [h1, findZ_at hn (j := pre.length + k) (by rw [List.getElem?_append_right (by omega)]; rw [show pre.length + k - pre.length = k by omega]; exact h2)]
  omega
theorem all_facts {m : Int} {F : List Core} (h : rightF m F = true) {x : Nat} (hx : x < F.length) : AllFacts m F x (allZ m F x) (ordZ m F x) := by
  have T := treeS h
  have hN := allI_nodup h hx
  have hsub : ((ordF F x).map Int.ofNat).Sublist (allI F x) := by
    unfold allI ordF allF
    rw [Int.toNat_natCast]
    exact (ord_sub (fun i => List.sublist_append_right _ _) _ _).map _
  rw [allZ_eq h hx, ordZ_eq h hx]
  refine ⟨?_, allI_len h hx, hsub.length_le, fun i z e => allI_num h hx (List.mem_of_getElem? e), fun n hn => hasZ_all h hx hn, fun n hn ho => top_over h hx hn ho, fun i a b ha hb => ?_, fun i n c hi hc hu => ?_, connZ_eq h hx, ⟨topF F x, topZ_eq h hx, topF_lt h hx⟩⟩
  · rw [allI_open h (List.getElem?_eq_getElem hx)]
    rfl
  · have ma := hsub.subset (List.mem_of_getElem? ha)
    have mb := hsub.subset (List.mem_of_getElem? hb)
    rw [findZ_mem ma, findZ_mem mb]
    have := sub_find hsub hN i a b ha hb
    omega
  · obtain ⟨s, u, e1, e2, _⟩ := right_under h hc hu
    have hs := (List.getElem?_eq_some_iff.1 e2).1
    obtain ⟨pre, post, e3, e4⟩ : ∃ pre post, allI F x = pre ++ allI F n ++ post ∧ pre.length = i := by
      have hg : (ordN (kidsS F) (F.length + 1) x)[i]? = some n := by
        unfold allI allF at hi
        rw [Int.toNat_natCast, List.getElem?_map] at hi
        cases hq : (ordN (kidsS F) (F.length + 1) x)[i]? with
        | none => rw [hq] at hi; cases hi
        | some q =>
          rw [hq] at hi
          exact congrArg some (Int.ofNat.inj (Option.some.inj hi))
      obtain ⟨pre, post, e, hl⟩ := T.ord_block _ _ hx (by omega) i n hg
      refine ⟨pre.map Int.ofNat, post.map Int.ofNat, ?_, by rw [List.length_map, hl]⟩
      unfold allI allF
      rw [Int.toNat_natCast, Int.toNat_natCast, e, List.map_append, List.map_append]
    have e5 : allI F n = (n : Int) :: (allI F s ++ c.kids.flatMap (allI F)) := by
      rw [allI_open h hc, if_neg hu, e1]
    obtain ⟨r, hr⟩ : ∃ r, allI F (s : Int) = (s : Int) :: r := ⟨_, allI_open h e2⟩
    refine ⟨s, e1, hs, ?_, fun k0 hk0 => ?_⟩
    · rw [e3, e5, hr, ← e4, List.append_assoc, List.getElem?_append_right (by omega), show pre.length + 1 - pre.length = 1 by omega]
      rfl
    · rw [allZ_eq h hs]
      obtain ⟨ks, hks⟩ : ∃ ks, c.kids = k0 :: ks := by
        cases hq : c.kids with
        | nil => rw [hq] at hk0; cases hk0
        | cons a r => rw [hq] at hk0; exact ⟨r, by rw [show a = k0 by simpa using hk0]⟩
      have hk1 : kidOk F n c k0 = true := (nodeOk_iff.1 (((rightF_iff m F).1 h).2.1 n c hc)).2.2.1 k0 (by rw [hks]; simp)
      obtain ⟨d, hd, _⟩ := kidB_iff.1 (kidOk_iff.1 hk1).2
      obtain ⟨g1, g2, g3⟩ := getC_some hd
      obtain ⟨r0, hr0⟩ : ∃ r0, allI F k0 = k0 :: r0 := by
        have := allI_open h g3
        rw [show ((k0.toNat : Nat) : Int) = k0 by omega] at this
        exact ⟨_, this⟩
      have e6 : allI F x = (pre ++ ((n : Int) :: allI F s)) ++ (k0 :: (r0 ++ ks.flatMap (allI F) ++ post)) := by
        rw [e3, e5, hks, List.flatMap_cons, hr0]
        simp
      have e7 := findZ_app (z := k0) (by rw [← e6]; exact hN) (by simp)
      rw [← e6] at e7
      rw [e7, List.length_append, List.length_cons, e4]
      have : findZ (k0 :: (r0 ++ ks.flatMap (allI F) ++ post)) k0 = 0 := by
        unfold findZ
        rw [findN_cons, if_pos rfl, if_pos (by simp)]
        rfl
      rw [this]
      omega
end Go.Proofs.Ytdalljhgmhjibaa
/- The walk of the law ShadeOver, over the contracts of packages forest and shade. -/
namespace Go.Proofs.Ytdalljhgmhjibaa
open Go.RowKit
set_option maxHeartbeats 16000000 in
set_option maxRecDepth 100000 in
theorem shadeOver_walk (F : ForestFns) (S : ShadeFns) (a0 : Option Addr) (len0 cap0 : Nat) (m : Int) (L0 : List NodeD) (x y z : Int) (w : World)
    (h0 : NodeRow w a0 len0 cap0 L0) (hm : In64 m) (hx : 0 ≤ x ∧ x ≤ 255) (hy : 0 ≤ y ∧ y ≤ 255) (hz : 0 ≤ z ∧ z ≤ 255) :
    Calls Try.prog 10 #[forV a0 len0 cap0 m, .int .u8 x, .int .u8 y, .int .u8 z] w fun e w' => e = .returned (.bool true) ∧ Below w.heap.size w w' := by
  have AW := Lib.hid (fun W => awake4_any F S W)
  have HF := Lib.hid F
  have HS := Lib.hid S
  have BX := Lib.hid (Box.start (m := m) h0)
  have hl0 := h0.len64
  have HL := Lib.hid h0.hlen
  have HM := Lib.hid hm
  clear h0 F S hm
  cases c0 : shortF L0 with
  | false =>
    have C0 := Lib.hid c0
    go_enter Try.func10, Try.ntmps10
    go_wp2_with (first
                    | (go_at_call 34; (with_reducible refine (AW.out _).mono ?_); rintro e w1 ⟨rfl, hb⟩; have BX := Lib.hid (BX.out.keep hb); have z0 := BX.out.c0; have z1 := BX.out.c1; clear hb)
                    | (go_at_call 12; (with_reducible refine (refshortF_any _ _ _ _ _ _ BX.out.row).mono ?_); rintro e w1 ⟨rfl, hb⟩; have BX := Lib.hid (BX.out.keep hb); have z0 := BX.out.c0; have z1 := BX.out.c1; clear hb)
                    | (go_at_call 16; (with_reducible refine (HR.out _ BX.out.row).mono ?_); rintro e w1 ⟨rfl, hb⟩; have BX := Lib.hid (BX.out.keep hb); have z0 := BX.out.c0; have z1 := BX.out.c1; clear hb))
    go_ret
    exact ⟨rfl, BX.out.below⟩
  | true =>
    have SM := Lib.hid (small_of_short c0)
    cases c1 : rightF m (coreL L0) with
    | false =>
      have HR : Hid (∀ W, NodeRow W a0 len0 cap0 L0 → Calls Try.prog 16 #[forV a0 len0 cap0 m] W fun e w' => e = .returned (.bool false) ∧ Below W.heap.size W w') := Lib.hid (fun W h => by
        have := HF.out.right a0 len0 cap0 m L0 W h HM.out SM.out
        rwa [c1] at this)
      clear c1
      go_enter Try.func10, Try.ntmps10
      go_wp2_with (first
                      | (go_at_call 34; (with_reducible refine (AW.out _).mono ?_); rintro e w1 ⟨rfl, hb⟩; have BX := Lib.hid (BX.out.keep hb); have z0 := BX.out.c0; have z1 := BX.out.c1; clear hb)
                      | (go_at_call 12; (with_reducible refine (refshortF_any _ _ _ _ _ _ BX.out.row).mono ?_); rintro e w1 ⟨rfl, hb⟩; have BX := Lib.hid (BX.out.keep hb); have z0 := BX.out.c0; have z1 := BX.out.c1; clear hb)
                      | (go_at_call 16; (with_reducible refine (HR.out _ BX.out.row).mono ?_); rintro e w1 ⟨rfl, hb⟩; have BX := Lib.hid (BX.out.keep hb); have z0 := BX.out.c0; have z1 := BX.out.c1; clear hb))
      go_ret
      exact ⟨rfl, BX.out.below⟩
    | true =>
      have HR : Hid (∀ W, NodeRow W a0 len0 cap0 L0 → Calls Try.prog 16 #[forV a0 len0 cap0 m] W fun e w' => e = .returned (.bool true) ∧ Below W.heap.size W w') := Lib.hid (fun W h => by
        have := HF.out.right a0 len0 cap0 m L0 W h HM.out SM.out
        rwa [c1] at this)
      have C1 := Lib.hid c1
      have hlc : (coreL L0).length = len0 := by
        unfold coreL
        rw [List.length_map, HL.out]
      have hlp : 0 < len0 := by
        have := right_len c1
        rwa [hlc] at this
      clear c1
      obtain ⟨X, hX⟩ : ∃ X : Nat, x % (len0 : Int) = X := ⟨(x % (len0 : Int)).toNat, by have := Int.emod_nonneg x (show (len0 : Int) ≠ 0 by omega); omega⟩
      obtain ⟨Y, hY⟩ : ∃ Y : Nat, y % (len0 : Int) = Y := ⟨(y % (len0 : Int)).toNat, by have := Int.emod_nonneg y (show (len0 : Int) ≠ 0 by omega); omega⟩
      obtain ⟨Z, hZ⟩ : ∃ Z : Nat, z % (len0 : Int) = Z := ⟨(z % (len0 : Int)).toNat, by have := Int.emod_nonneg z (show (len0 : Int) ≠ 0 by omega); omega⟩
      have hXl : X < len0 := by have := Int.emod_lt_of_pos x (show (0 : Int) < len0 by omega); omega
      have hYl : Y < len0 := by have := Int.emod_lt_of_pos y (show (0 : Int) < len0 by omega); omega
      have hZl : Z < len0 := by have := Int.emod_lt_of_pos z (show (0 : Int) < len0 by omega); omega
      obtain ⟨nx, hnx⟩ : ∃ nx, L0[X]? = some nx := ⟨_, List.getElem?_eq_getElem (by have := HL.out; omega)⟩
      have hc : (coreL L0)[X]? = some nx.core := by unfold coreL; rw [List.getElem?_map, hnx]; rfl
      have FX := Lib.hid (over_facts (x := X) (y := Y) (z := Z) C1.out (by omega) (by omega) (by omega) hc)
      have HNX := Lib.hid hnx
      have in_nat : ∀ k : Nat, k < len0 → In64 (k : Int) := fun k hk => ⟨by omega, by omega⟩
      have GO : Hid (∀ W (u v : Nat) (b : Bool), NodeRow W a0 len0 cap0 L0 → u < len0 → v < len0 → overZ m (coreL L0) u v = b → Calls Try.prog 40 #[forV a0 len0 cap0 m, .int .i64 u, .int .i64 v] W fun e w' => e = .returned (.bool b) ∧ Below W.heap.size W w') := Lib.hid (fun W u v b h hu hv hb => by
        rw [← hb]
        exact HS.out.over a0 len0 cap0 m L0 u v W h HM.out (in_nat u hu) (in_nat v hv) SM.out)
      have GH : Hid (∀ W (u v : Nat) (b : Bool), NodeRow W a0 len0 cap0 L0 → u < len0 → v < len0 → holdsZ m (coreL L0) u v = b → Calls Try.prog 21 #[forV a0 len0 cap0 m, .int .i64 u, .int .i64 v] W fun e w' => e = .returned (.bool b) ∧ Below W.heap.size W w') := Lib.hid (fun W u v b h hu hv hb => by
        rw [← hb]
        exact HF.out.holds a0 len0 cap0 m L0 u v W h HM.out (in_nat u hu) (in_nat v hv) SM.out)
      have GC : Hid (∀ W (u : Nat) (b : Bool), NodeRow W a0 len0 cap0 L0 → u < len0 → connZ m (coreL L0) u = b → Calls Try.prog 37 #[forV a0 len0 cap0 m, .int .i64 u] W fun e w' => e = .returned (.bool b) ∧ Below W.heap.size W w') := Lib.hid (fun W u b h hu hb => by
        rw [← hb]
        exact HS.out.conn a0 len0 cap0 m L0 u W h HM.out (in_nat u hu) SM.out)
      have GT : Hid (∀ W (u : Nat) (r : Int), NodeRow W a0 len0 cap0 L0 → u < len0 → topZ m (coreL L0) u = r → Calls Try.prog 36 #[forV a0 len0 cap0 m, .int .i64 u] W fun e w' => e = .returned (.int .i64 r) ∧ Below W.heap.size W w') := Lib.hid (fun W u r h hu hr => by
        rw [← hr]
        exact HS.out.top a0 len0 cap0 m L0 u W h HM.out (in_nat u hu) SM.out)
      have HLC := Lib.hid hlc
      clear SM HF HS hc hnx in_nat hlc
      have hself := FX.out.self
      go_enter Try.func10, Try.ntmps10
      go_wp2_with (first
                      | (go_at_call 34; (with_reducible refine (AW.out _).mono ?_); rintro e w1 ⟨rfl, hb⟩; have BX := Lib.hid (BX.out.keep hb); have z0 := BX.out.c0; have z1 := BX.out.c1; clear hb)
                      | (go_at_call 12; (with_reducible refine (refshortF_any _ _ _ _ _ _ BX.out.row).mono ?_); rintro e w1 ⟨rfl, hb⟩; have BX := Lib.hid (BX.out.keep hb); have z0 := BX.out.c0; have z1 := BX.out.c1; clear hb)
                      | (go_at_call 16; (with_reducible refine (HR.out _ BX.out.row).mono ?_); rintro e w1 ⟨rfl, hb⟩; have BX := Lib.hid (BX.out.keep hb); have z0 := BX.out.c0; have z1 := BX.out.c1; clear hb))
      have E0 := Ext.cell z0 BX.out.lt
      have E1 := Ext.cell z1 BX.out.lt
      refine wp_region_ext (by kernel_rfl) (by kernel_rfl) ?_
      repeat (go_big_quiet_step (fail))
      refine wpQuiet_nil ?_
      intro w' hw'
      obtain ⟨⟨w2, hb2⟩, hw''⟩ := hw'
      dsimp only at hw''
      subst hw''
      clear E0 E1
      rw [hX, hY, hZ]
      clear hX hY hZ
      have BX := Lib.hid (BX.out.keep hb2)
      have z0 := BX.out.c0
      have z1 := BX.out.c1
      clear hb2
      go_upto_region 6 with fail
      go_cut [94] (fun c wx => c = .bool false ∧ Hid (Box w wx w.heap.size a0 len0 cap0 m L0 (coreL L0)))
      case first =>
        have CASES : (¬ (X : Int) = Y ∧ ((X : Int) != Y) = true ∧ overZ m (coreL L0) X Y = false ∧ holdsZ m (coreL L0) X Y = false) ∨ (X = Y ∧ overZ m (coreL L0) X Y = true ∧ ∃ h, holdsZ m (coreL L0) X Y = h ∧ (overZ m (coreL L0) Y Z = false ∨ overZ m (coreL L0) Y Z = true ∧ overZ m (coreL L0) X Z = true))
            ∨ (¬ (X : Int) = Y ∧ ((X : Int) != Y) = true ∧ overZ m (coreL L0) X Y = true ∧ overZ m (coreL L0) Y X = false ∧ ∃ h, holdsZ m (coreL L0) X Y = h ∧ (overZ m (coreL L0) Y Z = false ∨ overZ m (coreL L0) Y Z = true ∧ overZ m (coreL L0) X Z = true)) := by
          have tail : overZ m (coreL L0) X Y = true → (overZ m (coreL L0) Y Z = false ∨ overZ m (coreL L0) Y Z = true ∧ overZ m (coreL L0) X Z = true) := fun e1 => by
            cases e4 : overZ m (coreL L0) Y Z with
            | false => exact .inl rfl
            | true => exact .inr ⟨rfl, FX.out.trans e1 e4⟩
          by_cases e2 : (X : Int) = Y
          · have e1 : overZ m (coreL L0) X Y = true := by rw [← e2]; exact hself
            exact .inr (.inl ⟨Int.ofNat.inj e2, e1, _, rfl, tail e1⟩)
          · have e3 : ((X : Int) != Y) = true := bne_iff_ne.2 e2
            cases e1 : overZ m (coreL L0) X Y with
            | false =>
              refine .inl ⟨e2, e3, rfl, ?_⟩
              cases e5 : holdsZ m (coreL L0) X Y with
              | false => rfl
              | true => rw [FX.out.held e5] at e1; cases e1
            | true => exact .inr (.inr ⟨e2, e3, rfl, FX.out.anti (fun e => e2 (by rw [e])) e1, _, rfl, tail e1⟩)
        rcases CASES with ⟨e2, e3, e1, e5⟩ | ⟨rfl, e1, h, e5, e4 | ⟨e4, e6⟩⟩ | ⟨e2, e3, e1, e7, h, e5, e4 | ⟨e4, e6⟩⟩
        · go_wp2_with (first
                          | (go_at_call 40; (refine (GO.out _ _ _ _ BX.out.row (by assumption) (by assumption) (by assumption)).mono ?_); rintro e w1 ⟨rfl, hb⟩; have BX := Lib.hid (BX.out.keep hb); have z0 := BX.out.c0; have z1 := BX.out.c1; clear hb)
                          | (go_at_call 21; (refine (GH.out _ _ _ _ BX.out.row (by assumption) (by assumption) (by assumption)).mono ?_); rintro e w1 ⟨rfl, hb⟩; have BX := Lib.hid (BX.out.keep hb); have z0 := BX.out.c0; have z1 := BX.out.c1; clear hb)
                          | (go_at_call 37; (refine (GC.out _ _ _ BX.out.row (by assumption) (by assumption)).mono ?_); rintro e w1 ⟨rfl, hb⟩; have BX := Lib.hid (BX.out.keep hb); have z0 := BX.out.c0; have z1 := BX.out.c1; clear hb)
                          | (go_at_call 36; (refine (GT.out _ _ _ BX.out.row (by assumption) (by assumption)).mono ?_); rintro e w1 ⟨rfl, hb⟩; have BX := Lib.hid (BX.out.keep hb); have z0 := BX.out.c0; have z1 := BX.out.c1; clear hb))
          go_meet
          exact ⟨rfl, BX⟩
        all_goals
          cases h
          all_goals
            go_wp2_with (first
                            | (go_at_call 40; (refine (GO.out _ _ _ _ BX.out.row (by assumption) (by assumption) (by assumption)).mono ?_); rintro e w1 ⟨rfl, hb⟩; have BX := Lib.hid (BX.out.keep hb); have z0 := BX.out.c0; have z1 := BX.out.c1; clear hb)
                            | (go_at_call 21; (refine (GH.out _ _ _ _ BX.out.row (by assumption) (by assumption) (by assumption)).mono ?_); rintro e w1 ⟨rfl, hb⟩; have BX := Lib.hid (BX.out.keep hb); have z0 := BX.out.c0; have z1 := BX.out.c1; clear hb)
                            | (go_at_call 37; (refine (GC.out _ _ _ BX.out.row (by assumption) (by assumption)).mono ?_); rintro e w1 ⟨rfl, hb⟩; have BX := Lib.hid (BX.out.keep hb); have z0 := BX.out.c0; have z1 := BX.out.c1; clear hb)
                            | (go_at_call 36; (refine (GT.out _ _ _ BX.out.row (by assumption) (by assumption)).mono ?_); rintro e w1 ⟨rfl, hb⟩; have BX := Lib.hid (BX.out.keep hb); have z0 := BX.out.c0; have z1 := BX.out.c1; clear hb))
            go_meet
            exact ⟨rfl, BX⟩
      case rest =>
        clear BX z0 z1
        obtain ⟨rfl, BX⟩ := hcut
        have z0 := BX.out.c0
        have z1 := BX.out.c1
        obtain ⟨b, off, nx', hab, hblt, hgx, hat, hok⟩ := BX.out.row.get hXl
        obtain rfl : nx = nx' := Option.some.inj (HNX.out.symm.trans hgx)
        subst hab
        have LAST : (nx.core.kind = 0 ∧ connZ m (coreL L0) X = true ∧ topZ m (coreL L0) X = X) ∨ (nx.core.kind ≠ 0 ∧ ∃ (P : Nat) (T : Int) (cb : Bool), nx.core.parent = P ∧ P < len0 ∧ connZ m (coreL L0) X = cb ∧ connZ m (coreL L0) P = cb ∧ topZ m (coreL L0) X = T ∧ topZ m (coreL L0) P = T)
            ∨ (nx.core.kind ≠ 0 ∧ nx.core.parent = -1 ∧ ∃ (P : Nat) (T : Int) (cb : Bool), nx.core.host = P ∧ P < len0 ∧ connZ m (coreL L0) X = cb ∧ connZ m (coreL L0) P = cb ∧ topZ m (coreL L0) X = T ∧ topZ m (coreL L0) P = T)
            ∨ (nx.core.kind ≠ 0 ∧ nx.core.parent = -1 ∧ nx.core.host = -1 ∧ connZ m (coreL L0) X = false ∧ topZ m (coreL L0) X = X) := by
          by_cases hk : nx.core.kind = 0
          · exact .inl ⟨hk, FX.out.doc hk⟩
          by_cases hp : nx.core.parent = -1
          · by_cases hh : nx.core.host = -1
            · exact .inr (.inr (.inr ⟨hk, hp, hh, FX.out.alone hk hp hh⟩))
            · obtain ⟨P, e1, e2, e3, e4⟩ := FX.out.host hk hp hh
              exact .inr (.inr (.inl ⟨hk, hp, P, _, _, e1, by rw [HLC.out] at e2; exact e2, e3, rfl, e4, rfl⟩))
          · obtain ⟨P, e1, e2, e3, e4⟩ := FX.out.par hk hp
            exact .inr (.inl ⟨hk, P, _, _, e1, by rw [HLC.out] at e2; exact e2, e3, rfl, e4, rfl⟩)
        obtain ⟨x0, x1, x2, x3, x4, x5, x6, x7, x8, x9⟩ := hat
        clear FX HNX hgx hself
        have OK := Lib.hid hok
        clear hok
        obtain ⟨⟨kind, name, is, data, attrs, parent, kids, host, under, doc⟩, aA, aN, aC, kA, kN, kC⟩ := nx
        dsimp only at LAST x0 x1 x2 x3 x4 x5 x6 x7 x8 x9
        have NK := Lib.hid (NKeep.start OK.out)
        have BX := Lib.hid (BX.out.keep NK.out.below)
        have y0 := BX.out.c0
        have y1 := BX.out.c1
        dsimp only [nodB] at y0 y1
        rcases LAST with ⟨rfl, e1, e2⟩ | ⟨hk, P, T, cb, rfl, hP, e1, e2, e3, e4⟩ | ⟨hk, rfl, P, T, cb, rfl, hP, e1, e2, e3, e4⟩ | ⟨hk, rfl, rfl, e1, e2⟩
        · go_wp2_with (first
                          | (go_at_call 40; (refine (GO.out _ _ _ _ BX.out.row (by assumption) (by assumption) (by assumption)).mono ?_); rintro e w1 ⟨rfl, hb⟩; have BX := Lib.hid (BX.out.keep hb); have z0 := BX.out.c0; have z1 := BX.out.c1; clear hb)
                          | (go_at_call 21; (refine (GH.out _ _ _ _ BX.out.row (by assumption) (by assumption) (by assumption)).mono ?_); rintro e w1 ⟨rfl, hb⟩; have BX := Lib.hid (BX.out.keep hb); have z0 := BX.out.c0; have z1 := BX.out.c1; clear hb)
                          | (go_at_call 37; (refine (GC.out _ _ _ BX.out.row (by assumption) (by assumption)).mono ?_); rintro e w1 ⟨rfl, hb⟩; have BX := Lib.hid (BX.out.keep hb); have z0 := BX.out.c0; have z1 := BX.out.c1; clear hb)
                          | (go_at_call 36; (refine (GT.out _ _ _ BX.out.row (by assumption) (by assumption)).mono ?_); rintro e w1 ⟨rfl, hb⟩; have BX := Lib.hid (BX.out.keep hb); have z0 := BX.out.c0; have z1 := BX.out.c1; clear hb))
          go_ret
          exact ⟨rfl, BX.out.below⟩
        · have hpn : ((P : Int) != -1) = true := bne_iff_ne.2 (by omega)
          have hpn2 : ((P : Int) == -1) = false := beq_eq_false_iff_ne.2 (by omega)
          have hk1 : (kind == 0) = false := beq_eq_false_iff_ne.2 hk
          clear hk
          cases cb
          all_goals
            go_wp2
            have eT : (T == T) = true := by simp
            have E0 := Ext.cell y0 BX.out.lt
            have E1 := Ext.cell y1 BX.out.lt
            have E5 := Ext.cell NK.out.box.c5 NK.out.box.lt
            dsimp only [nodB] at E5
            have EC := Lib.hid (fun (x : Ext (wc.alloc (nodB ⟨⟨kind, name, is, data, attrs, (P : Int), kids, host, under, doc⟩, aA, aN, aC, kA, kN, kC⟩))) u b hu hb => GC.out x.v u b (BX.out.row.below x.below) hu hb)
            have ET := Lib.hid (fun (x : Ext (wc.alloc (nodB ⟨⟨kind, name, is, data, attrs, (P : Int), kids, host, under, doc⟩, aA, aN, aC, kA, kN, kC⟩))) u r hu hr => GT.out x.v u r (BX.out.row.below x.below) hu hr)
            refine wp_region_ext (by kernel_rfl) (by kernel_rfl) ?_
            repeat (go_big_quiet_step (first
              | (go_at_call 37; exact Ext.call_below (EC.out _ _ _ (by assumption) (by assumption)))
              | (go_at_call 36; exact Ext.call_below (ET.out _ _ _ (by assumption) (by assumption)))))
            refine wpQuiet_nil ?_
            intro w' hw'
            obtain ⟨⟨w2, hb2⟩, hw''⟩ := hw'
            dsimp only at hw''
            subst hw''
            have BX := Lib.hid (BX.out.keep hb2)
            clear E0 E1 E5 EC ET
            go_wp2
            go_ret
            exact ⟨rfl, BX.out.below⟩
        · have hpn : ((P : Int) != -1) = true := bne_iff_ne.2 (by omega)
          have hpn2 : ((P : Int) == -1) = false := beq_eq_false_iff_ne.2 (by omega)
          have hk1 : (kind == 0) = false := beq_eq_false_iff_ne.2 hk
          clear hk
          cases cb
          all_goals
            go_wp2
            have eT : (T == T) = true := by simp
            have E0 := Ext.cell y0 BX.out.lt
            have E1 := Ext.cell y1 BX.out.lt
            have E7 := Ext.cell NK.out.box.c7 NK.out.box.lt
            dsimp only [nodB] at E7
            have EC := Lib.hid (fun (x : Ext (wc.alloc (nodB ⟨⟨kind, name, is, data, attrs, -1, kids, (P : Int), under, doc⟩, aA, aN, aC, kA, kN, kC⟩))) u b hu hb => GC.out x.v u b (BX.out.row.below x.below) hu hb)
            have ET := Lib.hid (fun (x : Ext (wc.alloc (nodB ⟨⟨kind, name, is, data, attrs, -1, kids, (P : Int), under, doc⟩, aA, aN, aC, kA, kN, kC⟩))) u r hu hr => GT.out x.v u r (BX.out.row.below x.below) hu hr)
            refine wp_region_ext (by kernel_rfl) (by kernel_rfl) ?_
            repeat (go_big_quiet_step (first
              | (go_at_call 37; exact Ext.call_below (EC.out _ _ _ (by assumption) (by assumption)))
              | (go_at_call 36; exact Ext.call_below (ET.out _ _ _ (by assumption) (by assumption)))))
            refine wpQuiet_nil ?_
            intro w' hw'
            obtain ⟨⟨w2, hb2⟩, hw''⟩ := hw'
            dsimp only at hw''
            subst hw''
            have BX := Lib.hid (BX.out.keep hb2)
            clear E0 E1 E7 EC ET
            go_wp2
            go_ret
            exact ⟨rfl, BX.out.below⟩
        · have hk1 : (kind == 0) = false := beq_eq_false_iff_ne.2 hk
          clear hk
          go_wp2_with (first
                          | (go_at_call 40; (refine (GO.out _ _ _ _ BX.out.row (by assumption) (by assumption) (by assumption)).mono ?_); rintro e w1 ⟨rfl, hb⟩; have BX := Lib.hid (BX.out.keep hb); have z0 := BX.out.c0; have z1 := BX.out.c1; clear hb)
                          | (go_at_call 21; (refine (GH.out _ _ _ _ BX.out.row (by assumption) (by assumption) (by assumption)).mono ?_); rintro e w1 ⟨rfl, hb⟩; have BX := Lib.hid (BX.out.keep hb); have z0 := BX.out.c0; have z1 := BX.out.c1; clear hb)
                          | (go_at_call 37; (refine (GC.out _ _ _ BX.out.row (by assumption) (by assumption)).mono ?_); rintro e w1 ⟨rfl, hb⟩; have BX := Lib.hid (BX.out.keep hb); have z0 := BX.out.c0; have z1 := BX.out.c1; clear hb)
                          | (go_at_call 36; (refine (GT.out _ _ _ BX.out.row (by assumption) (by assumption)).mono ?_); rintro e w1 ⟨rfl, hb⟩; have BX := Lib.hid (BX.out.keep hb); have z0 := BX.out.c0; have z1 := BX.out.c1; clear hb))
          go_ret
          exact ⟨rfl, BX.out.below⟩
end Go.Proofs.Ytdalljhgmhjibaa
/- Package shade's knows, up, Top, Over, Connected. -/
namespace Go.Proofs.Ytdalljhgmhjibaa
open Go.RowKit
set_option maxHeartbeats 4000000 in
set_option maxRecDepth 100000 in
theorem shknows_any (a : Option Addr) (len cap : Nat) (m : Int) (L : List NodeD) (b : Option Addr) (ln cn : Nat) (l : List Int) (w : World) (h : NodeRow w a len cap L) (hm : In64 m) (hs : smallF L) (hn : IntRow w b ln cn l) :
    Calls Try.prog 61 #[forV a len cap m, .slice b ln cn] w fun e w' => e = .returned (.bool (knowsB m (coreL L) l)) ∧ Below w.heap.size w w' := by
  have HL := Lib.hid h.hlen
  have hlen := h.len64
  have HNL := Lib.hid hn.hlen
  have hln := hn.len64
  have BX := Lib.hid (Box.start (m := m) h)
  have NR := Lib.hid (hn.below (below_box w (forB a len cap m)))
  have z0 := BX.out.c0
  have z1 := BX.out.c1
  have CR : Hid (∀ W, NodeRow W a len cap L → Calls Try.prog 16 #[forV a len cap m] W fun e w' => e = .returned (.bool (rightF m (coreL L))) ∧ Below W.heap.size W w') := Lib.hid (fun W h => rightF_any a len cap m L W h hm hs)
  clear h hm hs hn
  go_enter Try.func61, Try.ntmps61
  go_wp2
  go_loop [9] (fun i => ∃ k : Nat, k ≤ ln ∧ i = .int .i64 k ∧ Hid (∀ (j : Nat) z, j < k → l[j]? = some z → inB (coreL L).length z = true)) (fun i => ln - (intOf i).toNat)
  case atStart => exact ⟨0, Nat.zero_le _, rfl, Lib.hid (fun j z hj => absurd hj (by omega))⟩
  case round =>
    obtain ⟨k, hk, rfl, HA⟩ := hrel
    by_cases hlt : k < ln
    · obtain ⟨b2, off2, z, rfl, hb2, hz, hcz, hin⟩ := NR.out.get hlt
      have STOP : Hid (inB (coreL L).length z = false → knowsB m (coreL L) l = false) := Lib.hid (fun hq => by
        unfold knowsB
        have : l.all (inB (coreL L).length) = false := by rw [List.all_eq_false]; exact ⟨z, List.mem_of_getElem? hz, by simp [hq]⟩
        rw [this]
        rfl)
      by_cases q1 : z < 0
      · have HR : Hid (knowsB m (coreL L) l = false) := Lib.hid (STOP.out (by unfold inB; rw [decide_eq_false (by omega)]; rfl))
        clear hz
        go_wp2
        go_ret
        exact ⟨ret_bool HR.out.symm, BX.out.below⟩
      by_cases q2 : (len : Int) ≤ z
      · have HR : Hid (knowsB m (coreL L) l = false) := Lib.hid (STOP.out (by unfold inB; rw [decide_eq_false (show ¬ z < ((coreL L).length : Int) by rw [coreL_len, HL.out]; omega), Bool.and_false]))
        clear hz
        go_wp2
        go_ret
        exact ⟨ret_bool HR.out.symm, BX.out.below⟩
      have HA2 : Hid (∀ (j : Nat) z, j < k + 1 → l[j]? = some z → inB (coreL L).length z = true) := Lib.hid (fun j y hj hy => by
        by_cases e : j = k
        · subst e
          rw [hz] at hy
          rw [← Option.some.inj hy]
          unfold inB
          rw [decide_eq_true (by omega), decide_eq_true (by rw [coreL_len, HL.out]; omega)]
          rfl
        · exact HA.out j y (by omega) hy)
      clear hz
      go_wp2
      go_round
      case rel => exact ⟨k + 1, by omega, by go_num, HA2⟩
      case measure => simp [intOf]; omega
    · have HR : Hid (knowsB m (coreL L) l = rightF m (coreL L)) := Lib.hid (by
        unfold knowsB
        have : l.all (inB (coreL L).length) = true := by
          rw [List.all_eq_true]
          intro z hz
          obtain ⟨j, hj, he⟩ := List.mem_iff_getElem.1 hz
          exact HA.out j z (by rw [HNL.out] at hj; omega) (by rw [List.getElem?_eq_getElem hj, he])
        rw [this]
        rfl)
      clear HA
      go_wp2_with (go_at_call 16; (refine (CR.out _ BX.out.row).mono ?_); rintro e w1 ⟨rfl, hb⟩; have BX := Lib.hid (BX.out.keep hb); clear hb)
      go_ret
      exact ⟨ret_bool HR.out.symm, BX.out.below⟩
set_option maxHeartbeats 2000000 in
theorem shup_any (x : NodeD) (w : World) : Calls Try.prog 62 #[nodVal x] w fun e w' => e = .returned (.int .i64 (upC x.core)) ∧ Below w.heap.size w w' := by
  obtain ⟨⟨kind, name, is, data, attrs, parent, kids, host, under, doc⟩, aA, aN, aC, kA, kN, kC⟩ := x
  by_cases hp : parent = -1
  · subst hp
    go_enter Try.func62, Try.ntmps62
    go_wp2
    go_ret
    exact ⟨rfl, below_box _ _⟩
  · have HR : Hid (upC ⟨kind, name, is, data, attrs, parent, kids, host, under, doc⟩ = parent) := Lib.hid (by unfold upC; dsimp only; rw [if_neg hp])
    go_enter Try.func62, Try.ntmps62
    go_wp2
    go_ret
    exact ⟨ret_int HR.out.symm, below_box _ _⟩
theorem up_at {m : Int} {F : List Core} (hr : rightF m F = true) {c : Nat} {x : Core} (hx : F[c]? = some x) : (upC x = -1 ∧ parS F c = none) ∨ ∃ p : Nat, upC x = p ∧ p < F.length ∧ parS F c = some p := by
  have hc := (List.getElem?_eq_some_iff.1 hx).1
  by_cases he : nextUp F (c : Int) = -1
  · exact .inl ⟨by rw [← nextUp_at hx]; exact he, parS_none he⟩
  · rcases right_up hr c (by omega) (by omega) with h | ⟨h1, h2⟩
    · exact absurd h he
    · exact .inr ⟨(nextUp F (c : Int)).toNat, by rw [← nextUp_at hx]; omega, by omega, parS_some (by omega)⟩
theorem connZ_eq' {m : Int} {F : List Core} (h : rightF m F = true) {a : Nat} (ha : a < F.length) : connZ m F (a : Int) = (kindK F (topZ m F a) == 0) := by
  unfold connZ
  rw [thereF_of h ha, Bool.true_and]
set_option maxHeartbeats 8000000 in
set_option maxRecDepth 100000 in
theorem topFn_any (a : Option Addr) (len cap : Nat) (m : Int) (L : List NodeD) (n : Int) (w : World) (h : NodeRow w a len cap L) (hm : In64 m) (hn : In64 n) (hs : smallF L) :
    Calls Try.prog 36 #[forV a len cap m, .int .i64 n] w fun e w' => e = .returned (.int .i64 (topZ m (coreL L) n)) ∧ Below w.heap.size w w' := by
  have HCL : Hid ((coreL L).length = len) := Lib.hid (by rw [coreL_len, h.hlen])
  have hlen := h.len64
  have BX := Lib.hid ((Box.start (m := m) h).keep (below_box _ (.cells #[.int .i64 n] 3)))
  have NB := Lib.hid (lit_one (w.alloc (forB a len cap m)) 3 n hn)
  have CK : Hid (∀ W b, NodeRow W a len cap L → IntRow W b 1 1 [n] → Calls Try.prog 61 #[forV a len cap m, .slice b 1 1] W fun e w' => e = .returned (.bool (thereF m (coreL L) n)) ∧ Below W.heap.size W w') := Lib.hid (fun W b h1 h2 => by
    rw [← knowsB_one]
    exact shknows_any a len cap m L b 1 1 [n] W h1 hm hs h2)
  simp only [World.size_alloc] at NB
  have z0 := BX.out.c0
  have z1 := BX.out.c1
  clear h hm hs hn
  cases q : thereF m (coreL L) n with
  | false =>
    rw [q] at CK
    have HR : Hid (topZ m (coreL L) n = -1) := Lib.hid (by unfold topZ; rw [q]; rfl)
    clear q
    go_enter Try.func36, Try.ntmps36
    go_wp2_with (go_at_call 61; ((with_reducible refine (CK.out _ _ BX.out.row NB.out).mono ?_); rintro e w1 ⟨rfl, hb⟩; have BX := Lib.hid (BX.out.keep hb); have z0 := BX.out.c0; have z1 := BX.out.c1; clear hb))
    go_ret
    exact ⟨ret_int HR.out.symm, BX.out.below⟩
  | true =>
    rw [q] at CK
    obtain ⟨hr, k, rfl, hk⟩ := there_nat q
    have HR : Hid (topZ m (coreL L) k = (topF (coreL L) k : Nat)) := Lib.hid (topZ_eq hr hk)
    have TR := Lib.hid (treeS hr)
    have HRT := Lib.hid hr
    rw [HCL.out] at hk
    clear q hr
    go_enter Try.func36, Try.ntmps36
    go_wp2_with (go_at_call 61; ((with_reducible refine (CK.out _ _ BX.out.row NB.out).mono ?_); rintro e w1 ⟨rfl, hb⟩; have BX := Lib.hid (BX.out.keep hb); have z0 := BX.out.c0; have z1 := BX.out.c1; clear hb))
    go_loopw [1] (fun i wr => ∃ c : Nat, c < len ∧ i = .int .i64 c ∧ Hid (topF (coreL L) c = topF (coreL L) k) ∧ Hid (Box w wr w.heap.size a len cap m L (coreL L))) (fun i _ => rankF (coreL L) (intOf i).toNat)
    case atStart => exact ⟨k, hk, rfl, Lib.hid rfl, BX⟩
    case round =>
      clear BX z0 z1
      obtain ⟨c, hc, rfl, HE, BX⟩ := hrel
      have z0 := BX.out.c0
      have z1 := BX.out.c1
      obtain ⟨b, off, x, rfl, hb, hx, hat, hok⟩ := BX.out.row.get hc
      have HAT := Lib.hid hat
      have HBL := Lib.hid hb
      obtain ⟨c0, c1, c2, c3, c4, c5, c6, c7, c8, c9⟩ := hat
      have hxc := coreL_get hx
      have hcl : c < (coreL L).length := by rw [HCL.out]; exact hc
      rcases up_at HRT.out hxc with ⟨hu, hp⟩ | ⟨p, hu, hpl, hp⟩
      · have UP : Hid (∀ W, Calls Try.prog 62 #[nodVal x] W fun e w' => e = .returned (.int .i64 (-1)) ∧ Below W.heap.size W w') := Lib.hid (fun W => by
          have := shup_any x W
          rwa [hu] at this)
        have HQ : Hid (topF (coreL L) k = c) := Lib.hid (by
          rw [← HE.out]
          exact rootN_none hp)
        clear hxc hx hok hp hu hb
        go_wp2_with (go_at_call 62; (refine (UP.out _).mono ?_); rintro e w2 ⟨rfl, hb⟩; have BX := Lib.hid (BX.out.keep hb); have HAT := Lib.hid (HAT.out.below HBL.out hb); have HBL := Lib.hid (Nat.lt_of_lt_of_le HBL.out hb.size); clear z0 z1 c0 c1 c2 c3 c4 c5 c6 c7 c8 c9; have z0 := BX.out.c0; have z1 := BX.out.c1; obtain ⟨c0, c1, c2, c3, c4, c5, c6, c7, c8, c9⟩ := HAT.out; clear hb)
        go_ret
        exact ⟨ret_int (by rw [HR.out, HQ.out]), BX.out.below⟩
      · have UP : Hid (∀ W, Calls Try.prog 62 #[nodVal x] W fun e w' => e = .returned (.int .i64 (p : Int)) ∧ Below W.heap.size W w') := Lib.hid (fun W => by
          have := shup_any x W
          rwa [hu] at this)
        have HRK := Lib.hid (TR.out.rank_up _ c hcl hp)
        have HE2 : Hid (topF (coreL L) p = topF (coreL L) k) := Lib.hid (by
          rw [← HE.out]
          exact TR.out.root_held hcl (by omega) (holds_par hp))
        rw [HCL.out] at hpl
        have hne : ((p : Int) != -1) = true := bne_iff_ne.2 (by omega)
        clear hxc hx hok hp hu hb
        go_wp2_with (go_at_call 62; (refine (UP.out _).mono ?_); rintro e w2 ⟨rfl, hb⟩; have BX := Lib.hid (BX.out.keep hb); have HAT := Lib.hid (HAT.out.below HBL.out hb); have HBL := Lib.hid (Nat.lt_of_lt_of_le HBL.out hb.size); clear z0 z1 c0 c1 c2 c3 c4 c5 c6 c7 c8 c9; have z0 := BX.out.c0; have z1 := BX.out.c1; obtain ⟨c0, c1, c2, c3, c4, c5, c6, c7, c8, c9⟩ := HAT.out; clear hb)
        go_roundw
        case rel => exact ⟨p, hpl, rfl, HE2, BX⟩
        case measure =>
          have := HRK.out
          unfold rankF at this ⊢
          simp [intOf]
          omega
set_option maxHeartbeats 8000000 in
set_option maxRecDepth 100000 in
theorem overFn_any (a : Option Addr) (len cap : Nat) (m : Int) (L : List NodeD) (x y : Int) (w : World) (h : NodeRow w a len cap L) (hm : In64 m) (hx : In64 x) (hy : In64 y) (hs : smallF L) :
    Calls Try.prog 40 #[forV a len cap m, .int .i64 x, .int .i64 y] w fun e w' => e = .returned (.bool (overZ m (coreL L) x y)) ∧ Below w.heap.size w w' := by
  have HCL : Hid ((coreL L).length = len) := Lib.hid (by rw [coreL_len, h.hlen])
  have hlen := h.len64
  have BX := Lib.hid ((Box.start (m := m) h).keep (below_box _ (.cells #[.int .i64 x, .int .i64 y] 3)))
  have NB := Lib.hid (lit_two (w.alloc (forB a len cap m)) 3 x y hx hy)
  have CK : Hid (∀ W b, NodeRow W a len cap L → IntRow W b 2 2 [x, y] → Calls Try.prog 61 #[forV a len cap m, .slice b 2 2] W fun e w' => e = .returned (.bool (thereF m (coreL L) x && thereF m (coreL L) y)) ∧ Below W.heap.size W w') := Lib.hid (fun W b h1 h2 => by
    rw [← knowsB_two]
    exact shknows_any a len cap m L b 2 2 [x, y] W h1 hm hs h2)
  simp only [World.size_alloc] at NB
  have z0 := BX.out.c0
  have z1 := BX.out.c1
  clear h hm hs hx hy
  cases q : (thereF m (coreL L) x && thereF m (coreL L) y) with
  | false =>
    rw [q] at CK
    have HR : Hid (overZ m (coreL L) x y = false) := Lib.hid (by unfold overZ; rw [q]; rfl)
    clear q
    go_enter Try.func40, Try.ntmps40
    go_wp2_with (go_at_call 61; ((with_reducible refine (CK.out _ _ BX.out.row NB.out).mono ?_); rintro e w1 ⟨rfl, hb⟩; have BX := Lib.hid (BX.out.keep hb); have z0 := BX.out.c0; have z1 := BX.out.c1; clear hb))
    go_ret
    exact ⟨ret_bool HR.out.symm, BX.out.below⟩
  | true =>
    rw [q] at CK
    rw [Bool.and_eq_true] at q
    obtain ⟨hr, X, rfl, hX⟩ := there_nat q.1
    obtain ⟨-, Y, rfl, hY⟩ := there_nat q.2
    have HI := Lib.hid (overZ_iff hr hX hY)
    have HRT := Lib.hid hr
    rw [HCL.out] at hX hY
    have TR := Lib.hid (treeS hr)
    clear q hr
    go_enter Try.func40, Try.ntmps40
    go_wp2_with (go_at_call 61; ((with_reducible refine (CK.out _ _ BX.out.row NB.out).mono ?_); rintro e w1 ⟨rfl, hb⟩; have BX := Lib.hid (BX.out.keep hb); have z0 := BX.out.c0; have z1 := BX.out.c1; clear hb))
    go_loopw [2] (fun i wr => ((i = .int .i64 (-1) ∧ Hid (¬ holdsT (parS (coreL L)) X Y)) ∨ ∃ c : Nat, c < len ∧ i = .int .i64 c ∧ Hid (holdsT (parS (coreL L)) X c ↔ holdsT (parS (coreL L)) X Y)) ∧ Hid (Box w wr w.heap.size a len cap m L (coreL L))) (fun i _ => if intOf i = -1 then 0 else rankF (coreL L) (intOf i).toNat + 1)
    case atStart => exact ⟨.inr ⟨Y, hY, rfl, Lib.hid Iff.rfl⟩, BX⟩
    case round =>
      clear BX z0 z1
      obtain ⟨hrel, BX⟩ := hrel
      have z0 := BX.out.c0
      have z1 := BX.out.c1
      rcases hrel with ⟨rfl, HN⟩ | ⟨c, hc, rfl, HE⟩
      · have HR : Hid (overZ m (coreL L) X Y = false) := Lib.hid (by
          cases hq : overZ m (coreL L) X Y with
          | false => rfl
          | true => exact absurd (HI.out.1 hq) HN.out)
        have hne : ((-1 : Int) != (X : Int)) = true := bne_iff_ne.2 (by omega)
        have hne2 : ((-1 : Int) == (X : Int)) = false := beq_eq_false_iff_ne.2 (by omega)
        go_wp2
        go_ret
        exact ⟨ret_bool HR.out.symm, BX.out.below⟩
      · by_cases he : c = X
        · have HR : Hid (overZ m (coreL L) X Y = true) := Lib.hid (HI.out.2 (HE.out.1 (by rw [he]; exact holds_refl X)))
          have e1 : ((c : Int) != (X : Int)) = false := by rw [he]; simp
          have e2 : ((c : Int) == (X : Int)) = true := by rw [he]; simp
          clear he
          go_wp2
          go_ret
          exact ⟨ret_bool HR.out.symm, BX.out.below⟩
        · have hne : ((c : Int) != (X : Int)) = true := bne_iff_ne.2 (by omega)
          have hne2 : ((c : Int) != -1) = true := bne_iff_ne.2 (by omega)
          obtain ⟨b, off, nx, hab, hb, hx, hat, hok⟩ := BX.out.row.get hc
          have HAT := Lib.hid hat
          have HBL := Lib.hid hb
          obtain ⟨c0, c1, c2, c3, c4, c5, c6, c7, c8, c9⟩ := hat
          have hxc := coreL_get hx
          subst hab
          have hcl : c < (coreL L).length := by rw [HCL.out]; exact hc
          rcases up_at HRT.out hxc with ⟨hu, hp⟩ | ⟨p, hu, hpl, hp⟩
          · have UP : Hid (∀ W, Calls Try.prog 62 #[nodVal nx] W fun e w' => e = .returned (.int .i64 (-1)) ∧ Below W.heap.size W w') := Lib.hid (fun W => by
              have := shup_any nx W
              rwa [hu] at this)
            have HN : Hid (¬ holdsT (parS (coreL L)) X Y) := Lib.hid (fun ht => by
              rcases holds_up (HE.out.2 ht) with h | ⟨p, h1, _⟩
              · exact he h.symm
              · rw [hp] at h1
                cases h1)
            clear hxc hx hok hp hu hb he
            go_wp2_with (go_at_call 62; (refine (UP.out _).mono ?_); rintro e w2 ⟨rfl, hb⟩; have BX := Lib.hid (BX.out.keep hb); have HAT := Lib.hid (HAT.out.below HBL.out hb); have HBL := Lib.hid (Nat.lt_of_lt_of_le HBL.out hb.size); clear z0 z1 c0 c1 c2 c3 c4 c5 c6 c7 c8 c9; have z0 := BX.out.c0; have z1 := BX.out.c1; obtain ⟨c0, c1, c2, c3, c4, c5, c6, c7, c8, c9⟩ := HAT.out; clear hb)
            go_roundw
            case rel => exact ⟨.inl ⟨rfl, HN⟩, BX⟩
            case measure => simp [intOf]
          · have UP : Hid (∀ W, Calls Try.prog 62 #[nodVal nx] W fun e w' => e = .returned (.int .i64 (p : Int)) ∧ Below W.heap.size W w') := Lib.hid (fun W => by
              have := shup_any nx W
              rwa [hu] at this)
            have HRK := Lib.hid (TR.out.rank_up _ c hcl hp)
            have HE2 : Hid (holdsT (parS (coreL L)) X p ↔ holdsT (parS (coreL L)) X Y) := Lib.hid (by
              rw [← HE.out]
              constructor
              · exact fun h => holds_trans h (holds_par hp)
              · intro h
                rcases holds_up h with h | ⟨q, h1, h2⟩
                · exact absurd h.symm he
                · rw [hp] at h1
                  injection h1 with h1
                  subst h1
                  exact h2)
            rw [HCL.out] at hpl
            clear hxc hx hok hp hu hb he
            go_wp2_with (go_at_call 62; (refine (UP.out _).mono ?_); rintro e w2 ⟨rfl, hb⟩; have BX := Lib.hid (BX.out.keep hb); have HAT := Lib.hid (HAT.out.below HBL.out hb); have HBL := Lib.hid (Nat.lt_of_lt_of_le HBL.out hb.size); clear z0 z1 c0 c1 c2 c3 c4 c5 c6 c7 c8 c9; have z0 := BX.out.c0; have z1 := BX.out.c1; obtain ⟨c0, c1, c2, c3, c4, c5, c6, c7, c8, c9⟩ := HAT.out; clear hb)
            go_roundw
            case rel => exact ⟨.inr ⟨p, hpl, rfl, HE2⟩, BX⟩
            case measure =>
              have := HRK.out
              unfold rankF at this ⊢
              simp [intOf]
              omega
set_option maxHeartbeats 8000000 in
set_option maxRecDepth 100000 in
theorem connFn_any (a : Option Addr) (len cap : Nat) (m : Int) (L : List NodeD) (n : Int) (w : World) (h : NodeRow w a len cap L) (hm : In64 m) (hn : In64 n) (hs : smallF L) :
    Calls Try.prog 37 #[forV a len cap m, .int .i64 n] w fun e w' => e = .returned (.bool (connZ m (coreL L) n)) ∧ Below w.heap.size w w' := by
  have HCL : Hid ((coreL L).length = len) := Lib.hid (by rw [coreL_len, h.hlen])
  have hlen := h.len64
  have BX := Lib.hid (Box.start (m := m) h)
  have z0 := BX.out.c0
  have z1 := BX.out.c1
  cases q : thereF m (coreL L) n with
  | false =>
    have CT : Hid (∀ W, NodeRow W a len cap L → Calls Try.prog 36 #[forV a len cap m, .int .i64 n] W fun e w' => e = .returned (.int .i64 (-1)) ∧ Below W.heap.size W w') := Lib.hid (fun W h => by
      have := topFn_any a len cap m L n W h hm hn hs
      rwa [show topZ m (coreL L) n = -1 by unfold topZ; rw [q]; rfl] at this)
    have HR : Hid (connZ m (coreL L) n = false) := Lib.hid (by unfold connZ; rw [q]; rfl)
    clear q h hm hn hs
    go_enter Try.func37, Try.ntmps37
    go_wp2_with (go_at_call 36; ((with_reducible refine (CT.out _ BX.out.row).mono ?_); rintro e w1 ⟨rfl, hb⟩; have BX := Lib.hid (BX.out.keep hb); have z0 := BX.out.c0; have z1 := BX.out.c1; clear hb))
    go_ret
    exact ⟨ret_bool HR.out.symm, BX.out.below⟩
  | true =>
    obtain ⟨hr, k, rfl, hk⟩ := there_nat q
    have ht := topF_lt hr hk
    have hte := topZ_eq hr hk
    obtain ⟨t, hT⟩ : ∃ t, topF (coreL L) k = t := ⟨_, rfl⟩
    rw [hT] at ht hte
    rw [HCL.out] at ht
    have CT : Hid (∀ W, NodeRow W a len cap L → Calls Try.prog 36 #[forV a len cap m, .int .i64 k] W fun e w' => e = .returned (.int .i64 (t : Int)) ∧ Below W.heap.size W w') := Lib.hid (fun W h => by
      have := topFn_any a len cap m L k W h hm hn hs
      rwa [hte] at this)
    obtain ⟨b, off, x, rfl, hb, hx, hat, -⟩ := h.get ht
    have C0 := Lib.hid (stays hat.c0 hb)
    have HR : Hid (connZ m (coreL L) k = (x.core.kind == 0)) := Lib.hid (by
      rw [connZ_eq' hr hk, hte]
      unfold kindK
      rw [getC_nat, coreL_get hx])
    have hne : ((t : Int) != -1) = true := bne_iff_ne.2 (by omega)
    clear q h hm hn hs hr hk hT hte hb hx hat
    go_enter Try.func37, Try.ntmps37
    go_wp2_with (go_at_call 36; ((with_reducible refine (CT.out _ BX.out.row).mono ?_); rintro e w1 ⟨rfl, hb⟩; have BX := Lib.hid (BX.out.keep hb); have z0 := BX.out.c0; have z1 := BX.out.c1; have c0 := C0.out _ BX.out.below; clear hb))
    go_ret
    exact ⟨ret_bool HR.out.symm, BX.out.below⟩
end Go.Proofs.Ytdalljhgmhjibaa
