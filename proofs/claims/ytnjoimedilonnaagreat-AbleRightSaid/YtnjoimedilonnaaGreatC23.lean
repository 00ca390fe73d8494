/- Texts joined in build order: ShadeTree ShadeFns ShadeFacts AppendKeep ForestProp ForestEdit ForestPut ValidFns StepWp. -/
import Derived.Test.YtnjoimedilonnaaGreatC20
import Derived.Test.YtnjoimedilonnaaGreatC18
import Derived.Test.YtnjoimedilonnaaGreatC21
import Derived.Test.YtnjoimedilonnaaGreatC01
import Derived.Deep.AppendLies
import Derived.BigRegion
import Derived.Deep.RegionLaw
namespace Go.Proofs.YtnjoimedilonnaaGreat
open Go.RowKit
section
variable {n : Nat} {par : Nat → Option Nat} {kids : Nat → List Nat} {rank : Nat → Nat}
theorem Tree.ord_open (T : Tree n par kids rank) {i : Nat} (hi : i < n) : ordN kids (n + 1) i = i :: (kids i).flatMap (ordN kids (n + 1)) := by
  rw [← T.ord_more (n + 1) i hi (by omega)]
  rfl
end
theorem findN_mem {l : List Int} {z : Int} (h : z ∈ l) : findN l z < l.length := List.findIdx_lt_length_of_exists ⟨z, h, by simp⟩
theorem findZ_mem {l : List Int} {z : Int} (h : z ∈ l) : findZ l z = (findN l z : Int) := by unfold findZ; rw [if_pos (findN_mem h)]
theorem right_up {m : Int} {F : List Core} (h : rightF m F = true) : upIn F F.length := by
  have := nodes_eq.1 ((rightF_iff m F).1 h).2.1
  exact fit_up this.1 this.2
theorem next_par {F : List Core} {i : Nat} {x : Core} (hx : F[i]? = some x) (hp : x.parent ≠ -1) : nextUp F (i : Int) = x.parent := by
  rw [nextUp_at hx]
  unfold upC
  rw [if_neg hp]
theorem next_host {F : List Core} {i : Nat} {x : Core} (hx : F[i]? = some x) (hp : x.parent = -1) : nextUp F (i : Int) = x.host := by
  rw [nextUp_at hx]
  unfold upC
  rw [if_pos hp]
theorem right_held {m : Int} {F : List Core} (h : rightF m F = true) {i : Nat} {x : Core} (hx : F[i]? = some x) (hp : x.parent ≠ -1) : x.kind = 1 ∨ x.kind = 2 := by
  have h1 := (nodeOk_iff.1 (((rightF_iff m F).1 h).2.1 i x hx)).2.1
  unfold parOk at h1
  rw [beq_eq_false_iff_ne.2 hp, Bool.false_or, Bool.and_eq_true] at h1
  simpa using h1.1
theorem right_under {m : Int} {F : List Core} (h : rightF m F = true) {i : Nat} {x : Core} (hx : F[i]? = some x) (hu : x.under ≠ -1) : ∃ (s : Nat) (u : Core), x.under = s ∧ F[s]? = some u ∧ u.kind = 4 ∧ u.host = i ∧ u.parent = -1 ∧ x.kind = 1 := by
  have h1 := (nodeOk_iff.1 (((rightF_iff m F).1 h).2.1 i x hx)).2.2.2.2.1
  rw [Bool.and_eq_true] at h1
  have h2 := h1.2
  unfold underOk at h2
  rw [beq_eq_false_iff_ne.2 hu, Bool.false_or, Bool.and_eq_true] at h2
  cases hg : getC F x.under with
  | none => rw [hg] at h2; simp at h2
  | some u =>
    rw [hg] at h2
    simp only [Bool.and_eq_true, beq_iff_eq] at h2
    obtain ⟨e1, e2, e3⟩ := getC_some hg
    refine ⟨x.under.toNat, u, by omega, e3, h2.2.1, h2.2.2, ?_, h2.1⟩
    by_cases hp : u.parent = -1
    · exact hp
    · rcases right_held h e3 hp with k | k
      · rw [k] at h2; exact absurd h2.2.1 (by decide)
      · rw [k] at h2; exact absurd h2.2.1 (by decide)
theorem right_host {m : Int} {F : List Core} (h : rightF m F = true) {k : Nat} {u : Core} (hu : F[k]? = some u) (hh : u.host ≠ -1) : u.kind = 4 ∧ ∃ (i : Nat) (x : Core), u.host = i ∧ F[i]? = some x ∧ x.kind = 1 ∧ x.under = k ∧ x.doc = u.doc := by
  have h1 := (nodeOk_iff.1 (((rightF_iff m F).1 h).2.1 k u hu)).2.2.2.2.1
  rw [Bool.and_eq_true] at h1
  have h2 := h1.1
  unfold hostOk at h2
  by_cases k4 : u.kind = 4
  · rw [if_pos k4] at h2
    cases hg : getC F u.host with
    | none => rw [hg] at h2; simp at h2
    | some x =>
      rw [hg] at h2
      simp only [Bool.and_eq_true, beq_iff_eq] at h2
      obtain ⟨e1, e2, e3⟩ := getC_some hg
      exact ⟨k4, u.host.toNat, x, by omega, e3, h2.1.1, h2.1.2, h2.2⟩
  · rw [if_neg k4] at h2
    exact absurd (beq_iff_eq.1 h2) hh
def parS (F : List Core) (i : Nat) : Option Nat := if nextUp F (i : Int) = -1 then none else some (nextUp F (i : Int)).toNat
def undS (F : List Core) (i : Nat) : List Nat := match F[i]? with | some c => if c.under = -1 then [] else [c.under.toNat] | none => []
def kidsS (F : List Core) (i : Nat) : List Nat := undS F i ++ kidsF F i
theorem parS_some {F : List Core} {k i : Nat} (h : nextUp F (k : Int) = i) : parS F k = some i := by
  unfold parS
  rw [h, if_neg (by omega), Int.toNat_natCast]
theorem parS_none {F : List Core} {k : Nat} (h : nextUp F (k : Int) = -1) : parS F k = none := by
  unfold parS
  rw [if_pos h]
theorem parS_next {m : Int} {F : List Core} (hr : rightF m F = true) {k i : Nat} (hk : k < F.length) (h : parS F k = some i) : nextUp F (k : Int) = i ∧ i < F.length := by
  unfold parS at h
  by_cases he : nextUp F (k : Int) = -1
  · rw [if_pos he] at h; cases h
  · rw [if_neg he] at h
    injection h with h
    rcases right_up hr k (by omega) (by omega) with e | ⟨e1, e2⟩
    · exact absurd e he
    · exact ⟨by omega, by omega⟩
theorem undS_mem {m : Int} {F : List Core} (hr : rightF m F = true) {i k : Nat} (h : k ∈ undS F i) : ∃ x u, F[i]? = some x ∧ x.under = (k : Int) ∧ F[k]? = some u ∧ u.kind = 4 ∧ u.host = i ∧ u.parent = -1 := by
  unfold undS at h
  cases hx : F[i]? with
  | none => rw [hx] at h; simp at h
  | some x =>
    rw [hx] at h
    dsimp only at h
    by_cases hu : x.under = -1
    · rw [if_pos hu] at h; simp at h
    · rw [if_neg hu] at h
      obtain ⟨s, u, e1, e2, e3, e4, e5, _⟩ := right_under hr hx hu
      have : k = s := by
        have := List.mem_singleton.1 h
        omega
      subst this
      exact ⟨x, u, rfl, e1, e2, e3, e4, e5⟩
theorem treeS {m : Int} {F : List Core} (hr : rightF m F = true) : Tree F.length (parS F) (kidsS F) (rankF F) := by
  have T := tree_of_right hr
  have E := ((rightF_iff m F).1 hr).2.2
  have kid : ∀ i k, k ∈ kidsF F i → k < F.length ∧ nextUp F (k : Int) = i := fun i k hk => by
    have hl := T.kid_lt i k hk
    have hp := T.kid_par i k hk
    have hx : F[k]? = some F[k] := List.getElem?_eq_getElem hl
    by_cases he : F[k].parent = -1
    · rw [right_top hx he] at hp; cases hp
    · obtain ⟨p, h1, _, h3⟩ := right_par hr hx he
      rw [h3] at hp
      injection hp with hp
      subst hp
      exact ⟨hl, (next_par hx he).trans h1⟩
  have all : ∀ i k, k ∈ kidsS F i → k < F.length ∧ nextUp F (k : Int) = i := fun i k hk => by
    rcases List.mem_append.1 hk with hk | hk
    · obtain ⟨x, u, hx, _, hu, _, hh, hp⟩ := undS_mem hr hk
      exact ⟨(List.getElem?_eq_some_iff.1 hu).1, (next_host hu hp).trans hh⟩
    · exact kid i k hk
  refine ⟨fun i k hk => (all i k hk).1, fun i k hk => parS_some (all i k hk).2, fun i k hk hp => ?_, fun i => ?_, fun i k hk hp => ?_, fun i hi => rankZ_le (n := F.length) (E i hi)⟩
  · obtain ⟨h1, h2⟩ := parS_next hr hk hp
    refine ⟨h2, List.mem_append.2 ?_⟩
    have hx : F[k]? = some F[k] := List.getElem?_eq_getElem hk
    by_cases he : F[k].parent = -1
    · rw [next_host hx he] at h1
      obtain ⟨_, j, y, e1, e2, _, e4, _⟩ := right_host hr hx (by omega)
      have : j = i := by omega
      subst this
      left
      unfold undS
      rw [e2]
      dsimp only
      rw [if_neg (by omega), e4, Int.toNat_natCast]
      simp
    · rw [next_par hx he] at h1
      obtain ⟨p, e1, _, e3⟩ := right_par hr hx he
      have : p = i := by omega
      subst this
      exact .inr (T.par_kid p k hk e3).2
  · unfold kidsS
    rw [List.nodup_append]
    refine ⟨?_, T.nodup i, fun a ha b hb e => ?_⟩
    · unfold undS
      cases F[i]? with
      | none => simp
      | some c => dsimp only; split <;> simp
    · subst e
      obtain ⟨x, u, hx, _, hu, _, hh, hp⟩ := undS_mem hr ha
      have := T.kid_par i a hb
      rw [right_top hu hp] at this
      cases this
  · obtain ⟨h1, h2⟩ := parS_next hr hk hp
    unfold rankF
    rw [rankZ_up (nxt := nextUp F) (n := F.length) (i := (k : Int)) (by omega) (E k hk) (by rw [h1]; exact E i h2), h1]
def topF (F : List Core) (a : Nat) : Nat := rootN (parS F) (F.length + 1) a
def allF (F : List Core) (a : Nat) : List Nat := ordN (kidsS F) (F.length + 1) a
def overF (F : List Core) (a b : Nat) : Bool := decide (b ∈ allF F a)
def allI (F : List Core) (z : Int) : List Int := (allF F z.toNat).map Int.ofNat
def overZ (m : Int) (F : List Core) (a b : Int) : Bool := thereF m F a && thereF m F b && overF F a.toNat b.toNat
theorem overZ_iff {m : Int} {F : List Core} (h : rightF m F = true) {a b : Nat} (ha : a < F.length) (hb : b < F.length) : overZ m F (a : Int) (b : Int) = true ↔ holdsT (parS F) a b := by
  unfold overZ
  rw [thereF_of h ha, thereF_of h hb, Bool.true_and, Bool.true_and]
  unfold overF allF
  rw [decide_eq_true_iff]
  exact (treeS h).mem_ord _ _ ha (by omega) _ hb
theorem allI_open {m : Int} {F : List Core} (h : rightF m F = true) {a : Nat} {x : Core} (hx : F[a]? = some x) : allI F (a : Int) = (a : Int) :: ((if x.under = -1 then [] else allI F x.under) ++ x.kids.flatMap (allI F)) := by
  have T := treeS h
  have ha := (List.getElem?_eq_some_iff.1 hx).1
  unfold allI allF
  rw [Int.toNat_natCast, T.ord_open ha, List.map_cons]
  congr 1
  have hk : kidsF F a = x.kids.map Int.toNat := by unfold kidsF; rw [hx]
  rw [show kidsS F a = undS F a ++ kidsF F a from rfl, List.flatMap_append, List.map_append, hk]
  congr 1
  · unfold undS
    rw [hx]
    dsimp only
    by_cases hu : x.under = -1
    · rw [if_pos hu, if_pos hu]; rfl
    · rw [if_neg hu, if_neg hu]; simp
  · rw [List.flatMap_map, List.map_flatMap]
end Go.Proofs.YtnjoimedilonnaaGreat
namespace Go.Proofs.YtnjoimedilonnaaGreat
open Go.RowKit
def withU (x : Core) (u : Int) : Core := ⟨x.kind, x.name, x.is, x.data, x.attrs, x.parent, x.kids, x.host, u, x.doc⟩
end Go.Proofs.YtnjoimedilonnaaGreat
namespace Go.Proofs.YtnjoimedilonnaaGreat
open Go.RowKit
theorem mem_allI {F : List Core} {z : Int} {n : Nat} : (n : Int) ∈ allI F z ↔ n ∈ allF F z.toNat := by
  unfold allI
  constructor
  · intro hm
    obtain ⟨k, hk, e⟩ := List.mem_map.1 hm
    rwa [Int.ofNat.inj e] at hk
  · intro hm
    exact List.mem_map.2 ⟨n, hm, rfl⟩
theorem allI_nodup {m : Int} {F : List Core} (h : rightF m F = true) {x : Nat} (hx : x < F.length) : (allI F x).Nodup := by
  have hN : (allF F x).Nodup := (treeS h).ord_nodup _ _ hx (by omega)
  unfold allI
  rw [Int.toNat_natCast]
  exact List.Pairwise.map Int.ofNat (fun a b hab e => hab (Int.ofNat.inj e)) hN
theorem allI_len {m : Int} {F : List Core} (h : rightF m F = true) {x : Nat} (hx : x < F.length) : (allI F x).length ≤ F.length := by
  unfold allI
  rw [Int.toNat_natCast, List.length_map]
  exact nodup_sub _ _ ((treeS h).ord_nodup _ _ hx (by omega)) ((treeS h).ord_lt _ _ hx)
theorem hasZ_all {m : Int} {F : List Core} (h : rightF m F = true) {x n : Nat} (hx : x < F.length) (hn : n < F.length) : hasZ (allI F x) (n : Int) = if overZ m F x n then 1 else 0 := by
  rw [hasZ_nodup (allI_nodup h hx)]
  have e2 : overZ m F x n = decide (n ∈ allF F x) := by
    unfold overZ
    rw [thereF_of h hx, thereF_of h hn]
    rfl
  have e1 : ((n : Int) ∈ allI F x) ↔ n ∈ allF F x := by rw [mem_allI, Int.toNat_natCast]
  rw [e2]
  by_cases hm : n ∈ allF F x
  · rw [if_pos (e1.2 hm), decide_eq_true hm, if_pos rfl]
  · rw [if_neg (fun g => hm (e1.1 g)), decide_eq_false hm, if_neg (by decide)]
end Go.Proofs.YtnjoimedilonnaaGreat
namespace Go.Proofs.YtnjoimedilonnaaGreat
open Go.RowKit
section
variable {P : Program}
theorem append_keeps {w w' : World} {v' : Value} {t ty : TypeId} {base : Nat} {e : TypeId} {i : TypeInfo} {z : Value} {size bytes : Nat} (ht : P.underlying t = some (.slice e)) (hi : P.info? e = some i) (hz : i.zero = some z)
    (hsize : i.size = size) (hby : i.bytes = bytes) {v : Value} {n : Nat} {xs : List Value} (hown : w.ownsRow base e size v n xs)
    {ad : Addr} {m c : Nat} {news : List Value} (hl : news.length = m * size) (hnews : ∀ j u, news[j]? = some u → w.cell? (ad.add j) = some u) (h1 : ∀ u ∈ news, u.oneCell' = true)
    (h63 : n + m ≤ maxLen) (hbytes : (n + m) * bytes ≤ 140737488355328)
    (hr : (Builtin.append_ #[t, t] ty #[v, .slice (some ad) m c]).run P w = .ok v' w') : w'.ownsRow base e size v n xs := by
  subst hsize
  subst hby
  have hsmall : n + m ≤ 9223372036854775807 := by simp only [maxLen] at h63; omega
  rcases hown.2 with ⟨rfl, rfl⟩ | ⟨g, cap, cur, rfl, hbg, hg, hnc, hcm, hcs, htake⟩
  · exact ⟨hown.1, .inl ⟨rfl, rfl⟩⟩
  · by_cases hroom : n + m ≤ cap
    · have hfit : n * i.size + news.length ≤ cur.size := by rw [hl, hcs, ← Nat.add_mul]; exact Nat.mul_le_mul_right _ hroom
      have hr2 := run_append_room (P := P) w t ty e i ht hi g n cap cur hg ad m c news hl hnews h1 hroom hfit
      rw [hr] at hr2
      injection hr2 with _ hw
      subst hw
      refine ⟨hown.1, .inr ⟨g, cap, _, rfl, hbg, setRow_heap w g cur _ e _ hg, hnc, hcm, ?_, ?_⟩⟩
      · simp only [List.size_toArray, List.length_append, List.length_take, List.length_drop, Array.length_toList]
        omega
      · have hlen : xs.length = n * i.size := hown.1
        rw [htake, List.append_assoc, ← hlen]
        exact List.take_left
    · have holds : ∀ j u, xs[j]? = some u → w.cell? ((⟨g, 0, none⟩ : Addr).add j) = some u := hown.cells (g := g) rfl
      have hr2 := run_append_grow (P := P) w t ty e i z ht hi hz ⟨g, 0, none⟩ n cap xs hown.1 holds ad m c news hl hnews (by omega) (by omega) (growslice_fits (by omega) hbytes)
      rw [hr] at hr2
      injection hr2 with _ hw
      subst hw
      exact World.ownsRow.alloc (w := w.drew) hown _
theorem run_append_keep (w : World) (t ty : TypeId) (base : Nat) (e : TypeId) (i : TypeInfo) (z : Value) (size bytes : Nat) (ht : P.underlying t = some (.slice e)) (hi : P.info? e = some i) (hz : i.zero = some z)
    (hsize : i.size = size) (hby : i.bytes = bytes) (hzs : z.cells.size = size) (hsz : 0 < size)
    (v : Value) (n : Nat) (xs : List Value) (hown : w.ownsRow base e size v n xs)
    (ad : Addr) (m c : Nat) (news : List Value) (hl : news.length = m * size) (hnews : ∀ j u, news[j]? = some u → w.cell? (ad.add j) = some u) (h1 : ∀ u ∈ news, u.oneCell' = true)
    (hm : 0 < m) (h63 : n + m ≤ maxLen) (hbytes : (n + m) * bytes ≤ 140737488355328) (hbase : base ≤ w.heap.size) :
    ∃ g cap w', (Builtin.append_ #[t, t] ty #[v, .slice (some ad) m c]).run P w = .ok (.slice (some ⟨g, 0, none⟩) (n + m) cap) w' ∧
      w'.ownsRow base e size (.slice (some ⟨g, 0, none⟩) (n + m) cap) (n + m) (xs ++ news) ∧ w'.ownsRow base e size v n xs ∧ w.grownBy w' v.ownBlock ∧ (v.ownBlock = some g ∨ g = w.heap.size) ∧ g < w'.heap.size := by
  obtain ⟨g, cap, w', hr, h2, h3, h4, h5⟩ := run_append_lies (P := P) w t ty base e i z size bytes ht hi hz hsize hby hzs hsz v n xs hown ad m c news hl hnews h1 hm h63 hbytes hbase w.heap.size rfl
  exact ⟨g, cap, w', hr, h2, append_keeps ht hi hz hsize hby hown hl hnews h1 h63 hbytes hr, h3, h4, h5⟩
theorem step_append_keep {w : World} {ops : Array Oper} {o : Oper} {a : Act} {K : Act → World → Prop} {Q : Exit → Act → World → Prop} {E : Prop} (hgd : o.guard = none) (s x : Operand) (t : TypeId)
    (ho : o.op = .call { callee := .builtin .append, args := #[s, x], argTypes := #[t, t] })
    (base : Nat) (e : TypeId) (i : TypeInfo) (z : Value) (size bytes : Nat) (ht : P.underlying t = some (.slice e)) (hi : P.info? e = some i) (hz : i.zero = some z)
    (hsize : i.size = size) (hby : i.bytes = bytes) (hzs : z.cells.size = size) (hsz : 0 < size)
    (v : Value) (n : Nat) (xs : List Value) (hs : a.eval s = v) (hown : w.ownsRow base e size v n xs)
    (ad : Addr) (m c : Nat) (news : List Value) (hx : a.eval x = .slice (some ad) m c) (hl : news.length = m * size) (hnews : ∀ j u, news[j]? = some u → w.cell? (ad.add j) = some u) (h1 : ∀ u ∈ news, u.oneCell' = true)
    (hm : 0 < m) (h63 : n + m ≤ maxLen) (hbytes : (n + m) * bytes ≤ 140737488355328) (hbase : base ≤ w.heap.size)
    (h : ∀ g cap w', w'.ownsRow base e size (.slice (some ⟨g, 0, none⟩) (n + m) cap) (n + m) (xs ++ news) → w'.ownsRow base e size v n xs → w.grownBy w' v.ownBlock → (v.ownBlock = some g ∨ g = w.heap.size) → g < w'.heap.size → K (a.put o.dst (.slice (some ⟨g, 0, none⟩) (n + m) cap)) w') :
    if Region.wanted o (yielded ops a.tmps) = true then Oper.wp P o a w K Q else E := by
  have hw : Region.wanted o (yielded ops a.tmps) = true := by simp [Region.wanted, hgd]
  rw [if_pos hw]
  obtain ⟨g, cap, w', hr, h2, h3, h4, h5, h6⟩ := run_append_keep (P := P) w t o.type base e i z size bytes ht hi hz hsize hby hzs hsz v n xs hown ad m c news hl hnews h1 hm h63 hbytes hbase
  unfold Oper.wp execOp
  simp only [ho, resolve, invoke, builtin, Sem.run_bind, Sem.run_pure, Result.andThen_ok, List.map_toArray, List.map_cons, List.map_nil, hs, hx, hr]
  exact h g cap w' h2 h3 h4 h5 h6
end
end Go.Proofs.YtnjoimedilonnaaGreat
namespace Go.Proofs.YtnjoimedilonnaaGreat
open Go.RowKit
structure NodeP (F : List Core) (i : Nat) (x : Core) : Prop where
  kind : 0 ≤ x.kind ∧ x.kind ≤ 4
  doc : ∃ d, getC F x.doc = some d ∧ d.kind = 0
  own : x.kind = 0 → x.doc = (i : Int)
  par : x.parent = -1 ∨ ((x.kind = 1 ∨ x.kind = 2) ∧ ∃ p, getC F x.parent = some p ∧ p.kind ≠ 2 ∧ (i : Int) ∈ p.kids)
  once : x.kids.Nodup
  kids : ∀ k ∈ x.kids, ∃ c, getC F k = some c ∧ (c.kind = 1 ∨ c.kind = 2) ∧ c.parent = (i : Int) ∧ c.doc = x.doc
  leaf : x.kind = 2 → x.kids = []
  root : x.kind = 0 → x.kids.length ≤ 1 ∧ ∀ k ∈ x.kids, kindK F k = 1
  host : x.kind = 4 → ∃ h, getC F x.host = some h ∧ h.kind = 1 ∧ h.under = (i : Int) ∧ h.doc = x.doc
  free : x.kind ≠ 4 → x.host = -1
  under : x.under = -1 ∨ (x.kind = 1 ∧ ∃ u, getC F x.under = some u ∧ u.kind = 4 ∧ u.host = (i : Int))
  text : textOk x = true
theorem shapeOk_iff {F : List Core} {x : Core} : shapeOk F x = true ↔ (x.kind = 2 → x.kids = []) ∧ (x.kind = 0 → elemsK F x ≤ 1 ∧ x.kids.length ≤ elemsK F x) := by
  unfold shapeOk
  simp only [Bool.and_eq_true, Bool.not_eq_true', Bool.and_eq_false_iff, beq_eq_false_iff_ne, decide_eq_false_iff_not, Bool.or_eq_false_iff]
  constructor
  · rintro ⟨h1, h2⟩
    refine ⟨fun e => ?_, fun e => ?_⟩
    · rcases h1 with h | h
      · exact absurd e h
      · exact List.eq_nil_of_length_eq_zero (by omega)
    · rcases h2 with h | h
      · exact absurd e h
      · omega
  · rintro ⟨h1, h2⟩
    refine ⟨?_, ?_⟩
    · by_cases e : x.kind = 2
      · right; rw [h1 e]; simp
      · exact .inl e
    · by_cases e : x.kind = 0
      · right; have := h2 e; omega
      · exact .inl e
theorem nodesP {F : List Core} : (∀ (i : Nat) x, F[i]? = some x → nodeOk F i x = true) ↔ ∀ (i : Nat) x, F[i]? = some x → NodeP F i x := by
  constructor
  · intro H i x hx
    obtain ⟨p1, p2, p3, p4, p5, p6⟩ := nodeOk_iff.1 (H i x hx)
    rw [Bool.and_eq_true] at p5
    unfold docOk at p1
    simp only [Bool.and_eq_true, Bool.or_eq_true, decide_eq_true_eq, bne_iff_ne, beq_iff_eq] at p1
    have hkid : ∀ k ∈ x.kids, ∃ c, getC F k = some c ∧ (c.kind = 1 ∨ c.kind = 2) ∧ c.parent = (i : Int) ∧ c.doc = x.doc := fun k hk => kidB_iff.1 (kidOk_iff.1 (p3 k hk)).2
    obtain ⟨s1, s2⟩ := shapeOk_iff.1 p4
    refine ⟨p1.1.1, ?_, fun e => p1.2.resolve_left (fun h => h e), ?_, nodup_of_has (fun z hz => (kidOk_iff.1 (p3 z hz)).1), hkid, s1, fun e => ?_, fun e => ?_, fun e => ?_, ?_, p6⟩
    · have h := p1.1.2
      cases hg : getC F x.doc with
      | none => rw [hg] at h; cases h
      | some d => rw [hg] at h; exact ⟨d, rfl, beq_iff_eq.1 h⟩
    · unfold parOk at p2
      rw [Bool.or_eq_true, beq_iff_eq] at p2
      rcases p2 with h | h
      · exact .inl h
      · right
        rw [Bool.and_eq_true, Bool.or_eq_true, beq_iff_eq, beq_iff_eq] at h
        refine ⟨h.1, ?_⟩
        cases hg : getC F x.parent with
        | none => rw [hg] at h; exact absurd h.2 (by simp)
        | some d =>
          rw [hg] at h
          have h2 := h.2
          dsimp only at h2
          rw [Bool.and_eq_true, bne_iff_ne, beq_iff_eq] at h2
          exact ⟨d, rfl, h2.1, hasZ_mem h2.2⟩
    · obtain ⟨h1, h2⟩ := s2 e
      refine ⟨by omega, fun k hk => ?_⟩
      unfold elemsK at h2
      have hc : x.kids.countP (fun k => kindK F k == 1) = x.kids.length := Nat.le_antisymm List.countP_le_length h2
      exact beq_iff_eq.1 (List.countP_eq_length.1 hc k hk)
    · have h := p5.1
      unfold hostOk at h
      rw [if_pos e] at h
      cases hg : getC F x.host with
      | none => rw [hg] at h; cases h
      | some d =>
        rw [hg] at h
        simp only [Bool.and_eq_true, beq_iff_eq] at h
        exact ⟨d, rfl, h.1.1, h.1.2, h.2⟩
    · have h := p5.1
      unfold hostOk at h
      rw [if_neg e] at h
      exact beq_iff_eq.1 h
    · have h := p5.2
      unfold underOk at h
      rw [Bool.or_eq_true, beq_iff_eq, Bool.and_eq_true, beq_iff_eq] at h
      rcases h with h | h
      · exact .inl h
      · right
        refine ⟨h.1, ?_⟩
        have h2 := h.2
        cases hg : getC F x.under with
        | none => rw [hg] at h2; cases h2
        | some d =>
          rw [hg] at h2
          simp only [Bool.and_eq_true, beq_iff_eq] at h2
          exact ⟨d, rfl, h2.1, h2.2⟩
  · intro H i x hx
    have h := H i x hx
    have hone : ∀ (l : List Int) (z : Int), l.Nodup → z ∈ l → hasZ l z = 1 := fun l z hn hz => by rw [hasZ_nodup hn, if_pos hz]
    refine nodeOk_iff.2 ⟨?_, ?_, fun k hk => kidOk_iff.2 ⟨hone _ _ h.once hk, kidB_iff.2 (h.kids k hk)⟩, shapeOk_iff.2 ⟨h.leaf, fun e => ?_⟩, ?_, h.text⟩
    · unfold docOk
      obtain ⟨d, h1, h2⟩ := h.doc
      rw [h1]
      simp only [Bool.and_eq_true, Bool.or_eq_true, decide_eq_true_eq, bne_iff_ne, beq_iff_eq]
      exact ⟨⟨h.kind, h2⟩, by by_cases e : x.kind = 0; exact .inr (h.own e); exact .inl e⟩
    · unfold parOk
      rw [Bool.or_eq_true, beq_iff_eq]
      rcases h.par with e | ⟨e, p, h1, h2, h3⟩
      · exact .inl e
      · right
        rw [h1, Bool.and_eq_true, Bool.or_eq_true, beq_iff_eq, beq_iff_eq]
        refine ⟨e, ?_⟩
        obtain ⟨g1, g2, g3⟩ := getC_some h1
        have := hone p.kids i (H _ p g3).once h3
        show (p.kind != 2 && hasZ p.kids i == 1) = true
        rw [this, bne_iff_ne.2 h2]
        rfl
    · obtain ⟨h1, h2⟩ := h.root e
      have : elemsK F x = x.kids.length := by
        unfold elemsK
        exact List.countP_eq_length.2 (fun k hk => beq_iff_eq.2 (h2 k hk))
      omega
    · rw [Bool.and_eq_true]
      constructor
      · unfold hostOk
        by_cases e : x.kind = 4
        · rw [if_pos e]
          obtain ⟨d, h1, h2, h3, h4⟩ := h.host e
          rw [h1]
          simp only [Bool.and_eq_true, beq_iff_eq]
          exact ⟨⟨h2, h3⟩, h4⟩
        · rw [if_neg e]
          exact beq_iff_eq.2 (h.free e)
      · unfold underOk
        rw [Bool.or_eq_true, beq_iff_eq]
        rcases h.under with e | ⟨e, u, h1, h2, h3⟩
        · exact .inl e
        · right
          rw [h1, Bool.and_eq_true]
          simp only [Bool.and_eq_true, beq_iff_eq]
          exact ⟨e, h2, h3⟩
theorem right_node {m : Int} {F : List Core} (h : rightF m F = true) {i : Nat} {x : Core} (hx : F[i]? = some x) : NodeP F i x := nodesP.1 ((rightF_iff m F).1 h).2.1 i x hx
theorem ends_rank {nxt : Int → Int} {n : Nat} (r : Nat → Nat) (h : ∀ i : Nat, i < n → nxt i = -1 ∨ ∃ p : Nat, nxt i = p ∧ p < n ∧ r p < r i) : ∀ (k i : Nat), i < n → r i ≤ k → ∃ s, endsZ nxt s (i : Int) = true
  | 0, i, hi, hk => by
    rcases h i hi with e | ⟨p, _, _, e⟩
    · exact ⟨1, by rw [endsZ_step (by omega), e]; rfl⟩
    · omega
  | k + 1, i, hi, hk => by
    rcases h i hi with e | ⟨p, e1, e2, e3⟩
    · exact ⟨1, by rw [endsZ_step (by omega), e]; rfl⟩
    · obtain ⟨s, hs⟩ := ends_rank r h k p e2 (by omega)
      exact ⟨s + 1, by rw [endsZ_step (by omega), e1]; exact hs⟩
theorem right_of {m : Int} {F : List Core} (h1 : 1 ≤ m) (h2 : m ≤ 400) (h3 : (F.length : Int) ≤ m) (h4 : headDoc F = true) (h5 : ∀ (i : Nat) x, F[i]? = some x → NodeP F i x) (r : Nat → Nat) (h6 : ∀ i : Nat, i < F.length → nextUp F i = -1 ∨ ∃ p : Nat, nextUp F i = p ∧ p < F.length ∧ r p < r i) : rightF m F = true := by
  refine (rightF_iff m F).2 ⟨⟨h1, h2, h3, h4⟩, nodesP.2 h5, fun i hi => ?_⟩
  obtain ⟨s, hs⟩ := ends_rank r h6 (r i) i hi (Nat.le_refl _)
  exact endsZ_le (Nat.le_succ _) (ends_small (n := F.length) (fun z h0 h1 => by
    obtain ⟨j, rfl⟩ : ∃ j : Nat, z = j := ⟨z.toNat, by omega⟩
    rcases h6 j (by omega) with e | ⟨p, e1, e2, _⟩
    · exact .inl e
    · exact .inr ⟨by omega, by omega⟩) (.inr ⟨by omega, by omega⟩) hs)
theorem rank_next {m : Int} {F : List Core} (h : rightF m F = true) {i : Nat} (hi : i < F.length) : nextUp F i = -1 ∨ ∃ p : Nat, nextUp F i = p ∧ p < F.length ∧ rankF F p < rankF F i := by
  by_cases e : nextUp F (i : Int) = -1
  · exact .inl e
  · right
    rcases right_up h i (by omega) (by omega) with e2 | ⟨e2, e3⟩
    · exact absurd e2 e
    · have hp : nextUp F (i : Int) = ((nextUp F (i : Int)).toNat : Int) := by omega
      refine ⟨_, hp, by omega, ?_⟩
      have := (treeS h).rank_up _ i hi (parS_some hp)
      omega
end Go.Proofs.YtnjoimedilonnaaGreat
namespace Go.Proofs.YtnjoimedilonnaaGreat
open Go.RowKit
def edC (c : Core) (p : Int) (ks : List Int) (d : Int) : Core := ⟨c.kind, c.name, c.is, c.data, c.attrs, p, ks, c.host, c.under, d⟩
structure Edit (F G : List Core) (P : Nat → Core → Int) (K : Nat → Core → List Int) (D : Nat → Core → Int) : Prop where
  len : G.length = F.length
  at_ : ∀ (j : Nat) c, F[j]? = some c → G[j]? = some (edC c (P j c) (K j c) (D j c))
section
variable {F G : List Core} {P : Nat → Core → Int} {K : Nat → Core → List Int} {D : Nat → Core → Int}
theorem Edit.back (h : Edit F G P K D) {j : Nat} {y : Core} (hy : G[j]? = some y) : ∃ c, F[j]? = some c ∧ y = edC c (P j c) (K j c) (D j c) := by
  have hl := (List.getElem?_eq_some_iff.1 hy).1
  rw [h.len] at hl
  have hc : F[j]? = some F[j] := List.getElem?_eq_getElem hl
  have := h.at_ j _ hc
  rw [hy] at this
  exact ⟨_, hc, Option.some.inj this⟩
theorem Edit.getC (h : Edit F G P K D) {z : Int} {c : Core} (hc : Go.Proofs.YtnjoimedilonnaaGreat.getC F z = some c) : Go.Proofs.YtnjoimedilonnaaGreat.getC G z = some (edC c (P z.toNat c) (K z.toNat c) (D z.toNat c)) := by
  obtain ⟨h0, _, h2⟩ := getC_some hc
  unfold Go.Proofs.YtnjoimedilonnaaGreat.getC
  rw [if_pos h0]
  exact h.at_ _ _ h2
theorem Edit.kindK (h : Edit F G P K D) (z : Int) : Go.Proofs.YtnjoimedilonnaaGreat.kindK G z = Go.Proofs.YtnjoimedilonnaaGreat.kindK F z := by
  unfold Go.Proofs.YtnjoimedilonnaaGreat.kindK
  cases hc : Go.Proofs.YtnjoimedilonnaaGreat.getC F z with
  | some c => rw [h.getC hc]; rfl
  | none =>
    have : Go.Proofs.YtnjoimedilonnaaGreat.getC G z = none := by
      unfold Go.Proofs.YtnjoimedilonnaaGreat.getC at hc ⊢
      by_cases h0 : 0 ≤ z
      · rw [if_pos h0] at hc ⊢
        rw [List.getElem?_eq_none_iff] at hc ⊢
        rw [h.len]
        exact hc
      · rw [if_neg h0]
    rw [this]
theorem Edit.head (h : Edit F G P K D) (hd : headDoc F = true) : headDoc G = true := by
  rw [head_eq, isKd_iff] at hd ⊢
  obtain ⟨c, h1, h2⟩ := hd
  exact ⟨_, h.getC h1, h2⟩
theorem Edit.next (h : Edit F G P K D) {j : Nat} {c : Core} (hc : F[j]? = some c) : nextUp G (j : Int) = if P j c = -1 then c.host else P j c := by
  unfold nextUp
  rw [getC_nat, h.at_ j c hc]
  rfl
end
structure Out (m : Int) (F G : List Core) (n p : Nat) (x : Core) : Prop where
  right : rightF m F = true
  hx : F[n]? = some x
  hp : x.parent = (p : Int)
  ed : Edit F G (fun j c => if j = n then -1 else c.parent) (fun j c => if j = p then c.kids.filter (fun z => z != (n : Int)) else c.kids) (fun _ c => c.doc)
section
variable {m : Int} {F G : List Core} {n p : Nat} {x : Core}
theorem Out.kind (h : Out m F G n p x) : x.kind = 1 ∨ x.kind = 2 := right_held h.right h.hx (by rw [h.hp]; omega)
theorem Out.bare (h : Out m F G n p x) : x.host = -1 := (right_node h.right h.hx).free (by rcases h.kind with e | e <;> omega)
theorem Out.next (h : Out m F G n p x) {j : Nat} (hj : j < F.length) : nextUp G (j : Int) = if j = n then -1 else nextUp F j := by
  have hc : F[j]? = some F[j] := List.getElem?_eq_getElem hj
  rw [h.ed.next hc]
  by_cases e : j = n
  · subst e
    rw [if_pos rfl, if_pos rfl, if_pos rfl, ← h.bare]
    rw [h.hx] at hc
    rw [Option.some.inj hc]
  · rw [if_neg e, if_neg e, nextUp_at hc]
    rfl
theorem Out.node (h : Out m F G n p x) {j : Nat} {y : Core} (hy : G[j]? = some y) : NodeP G j y := by
  obtain ⟨c, hc, rfl⟩ := h.ed.back hy
  have N := right_node h.right hc
  refine ⟨N.kind, ?_, N.own, ?_, ?_, fun k hk => ?_, fun e => ?_, fun e => ?_, fun e => ?_, N.free, ?_, N.text⟩
  · obtain ⟨d, h1, h2⟩ := N.doc
    exact ⟨_, h.ed.getC h1, h2⟩
  · by_cases e : j = n
    · exact .inl (if_pos e)
    · rcases N.par with h1 | ⟨h1, q, h2, h3, h4⟩
      · exact .inl ((if_neg e).trans h1)
      · have g := h.ed.getC h2
        refine .inr ⟨h1, edC q (if c.parent.toNat = n then -1 else q.parent) (if c.parent.toNat = p then q.kids.filter (fun z => z != (n : Int)) else q.kids) q.doc, ?_, h3, ?_⟩
        · show getC G (if j = n then -1 else c.parent) = _
          rw [if_neg e]
          exact g
        show (j : Int) ∈ (if c.parent.toNat = p then q.kids.filter (fun z => z != (n : Int)) else q.kids)
        split
        · rw [List.mem_filter]
          exact ⟨h4, bne_iff_ne.2 (by omega)⟩
        · exact h4
  · show (if j = p then c.kids.filter (fun z => z != (n : Int)) else c.kids).Nodup
    split
    · exact N.once.filter _
    · exact N.once
  · have hk2 : k ∈ c.kids ∧ k ≠ (n : Int) := by
      have hk : k ∈ (if j = p then c.kids.filter (fun z => z != (n : Int)) else c.kids) := hk
      split at hk
      · rw [List.mem_filter] at hk
        exact ⟨hk.1, bne_iff_ne.1 hk.2⟩
      · rename_i hne
        refine ⟨hk, fun e => ?_⟩
        subst e
        obtain ⟨d, h1, _, h3, _⟩ := N.kids _ hk
        rw [getC_nat, h.hx] at h1
        rw [← Option.some.inj h1, h.hp] at h3
        exact hne (by omega)
    obtain ⟨d, h1, h2, h3, h4⟩ := N.kids k hk2.1
    obtain ⟨g1, _, _⟩ := getC_some h1
    refine ⟨_, h.ed.getC h1, h2, ?_, h4⟩
    show (if k.toNat = n then -1 else d.parent) = (j : Int)
    rw [if_neg (by have := hk2.2; omega)]
    exact h3
  · show (if j = p then c.kids.filter (fun z => z != (n : Int)) else c.kids) = []
    rw [N.leaf e]
    split <;> rfl
  · obtain ⟨h1, h2⟩ := N.root e
    have hsub : ∀ k ∈ (if j = p then c.kids.filter (fun z => z != (n : Int)) else c.kids), k ∈ c.kids := fun k hk => by
      split at hk
      · exact (List.mem_filter.1 hk).1
      · exact hk
    refine ⟨?_, fun k hk => by rw [h.ed.kindK]; exact h2 k (hsub k hk)⟩
    show (if j = p then c.kids.filter (fun z => z != (n : Int)) else c.kids).length ≤ 1
    split
    · exact Nat.le_trans (List.length_filter_le _ _) h1
    · exact h1
  · obtain ⟨d, h1, h2, h3, h4⟩ := N.host e
    exact ⟨_, h.ed.getC h1, h2, h3, h4⟩
  · rcases N.under with h1 | ⟨h1, u, h2, h3, h4⟩
    · exact .inl h1
    · exact .inr ⟨h1, _, h.ed.getC h2, h3, h4⟩
theorem Out.rightG (h : Out m F G n p x) : rightF m G = true := by
  obtain ⟨⟨h1, h2, h3, h4⟩, _, _⟩ := (rightF_iff m F).1 h.right
  refine right_of h1 h2 (by rw [h.ed.len]; exact h3) (h.ed.head h4) (fun i y hy => h.node hy) (rankF F) (fun i hi => ?_)
  rw [h.ed.len] at hi ⊢
  rw [h.next hi]
  by_cases e : i = n
  · exact .inl (if_pos e)
  · rw [if_neg e]
    exact rank_next h.right hi
theorem Out.parS (h : Out m F G n p x) {j : Nat} (hj : j < F.length) : Go.Proofs.YtnjoimedilonnaaGreat.parS G j = if j = n then none else Go.Proofs.YtnjoimedilonnaaGreat.parS F j := by
  unfold Go.Proofs.YtnjoimedilonnaaGreat.parS
  rw [h.next hj]
  by_cases e : j = n
  · rw [if_pos e, if_pos rfl, if_pos e]
  · rw [if_neg e, if_neg e]
theorem Out.lt (h : Out m F G n p x) : n < F.length := (List.getElem?_eq_some_iff.1 h.hx).1
theorem Out.sub (h : Out m F G n p x) {a : Nat} : ∀ (k b : Nat), b < F.length → upN (Go.Proofs.YtnjoimedilonnaaGreat.parS G) k b = some a → upN (Go.Proofs.YtnjoimedilonnaaGreat.parS F) k b = some a
  | 0, b, _, hu => hu
  | k + 1, b, hb, hu => by
    unfold upN at hu ⊢
    rw [h.parS hb] at hu
    by_cases e : b = n
    · rw [if_pos e] at hu; cases hu
    · rw [if_neg e] at hu
      cases hq : Go.Proofs.YtnjoimedilonnaaGreat.parS F b with
      | none => rw [hq] at hu; cases hu
      | some q =>
        rw [hq] at hu
        exact h.sub k q (parS_next h.right hb hq).2 hu
theorem Out.over (h : Out m F G n p x) {a b : Nat} (ha : a < F.length) (hb : b < F.length) : holdsT (Go.Proofs.YtnjoimedilonnaaGreat.parS G) a b ↔ holdsT (Go.Proofs.YtnjoimedilonnaaGreat.parS F) a b ∧ (holdsT (Go.Proofs.YtnjoimedilonnaaGreat.parS F) n b → holdsT (Go.Proofs.YtnjoimedilonnaaGreat.parS F) n a) := by
  have T := treeS h.right
  constructor
  · rintro ⟨k, hk⟩
    refine ⟨⟨k, h.sub k b hb hk⟩, fun hn => ?_⟩
    rcases holds_line ⟨k, h.sub k b hb hk⟩ hn with h1 | h1
    · -- a is over n; the way from b to a in G passes n only if a is n
      have key : ∀ (k b : Nat), b < F.length → upN (Go.Proofs.YtnjoimedilonnaaGreat.parS G) k b = some a → holdsT (Go.Proofs.YtnjoimedilonnaaGreat.parS F) n b → a = n := by
        intro k
        induction k with
        | zero =>
          intro b hb hu hn
          obtain rfl : b = a := Option.some.inj hu
          exact T.holds_anti ha h.lt h1 hn
        | succ k ih =>
          intro b hb hu hn
          unfold upN at hu
          rw [h.parS hb] at hu
          by_cases e : b = n
          · rw [if_pos e] at hu; cases hu
          · rw [if_neg e] at hu
            cases hq : Go.Proofs.YtnjoimedilonnaaGreat.parS F b with
            | none => rw [hq] at hu; cases hu
            | some q =>
              rw [hq] at hu
              refine ih q (parS_next h.right hb hq).2 hu ?_
              rcases holds_up hn with e2 | ⟨q2, e2, e3⟩
              · exact absurd e2.symm e
              · rw [hq] at e2
                rw [Option.some.inj e2]
                exact e3
      rw [key k b hb hk hn]
      exact holds_refl n
    · exact h1
  · rintro ⟨⟨k, hk⟩, hn⟩
    have key : ∀ (k b : Nat), b < F.length → upN (Go.Proofs.YtnjoimedilonnaaGreat.parS F) k b = some a → (holdsT (Go.Proofs.YtnjoimedilonnaaGreat.parS F) n b → holdsT (Go.Proofs.YtnjoimedilonnaaGreat.parS F) n a) → holdsT (Go.Proofs.YtnjoimedilonnaaGreat.parS G) a b := by
      intro k
      induction k with
      | zero =>
        intro b hb hu _
        obtain rfl : b = a := Option.some.inj hu
        exact holds_refl b
      | succ k ih =>
        intro b hb hu hn
        unfold upN at hu
        cases hq : Go.Proofs.YtnjoimedilonnaaGreat.parS F b with
        | none => rw [hq] at hu; cases hu
        | some q =>
          rw [hq] at hu
          have hql := (parS_next h.right hb hq).2
          by_cases e : b = n
          · subst e
            have h1 := hn (holds_refl b)
            have h2 : a = b := T.holds_anti ha hb (holds_trans ⟨k, hu⟩ (holds_par hq)) h1
            subst h2
            exact holds_refl a
          · have h1 := ih q hql hu (fun h2 => hn (holds_trans h2 (holds_par hq)))
            exact holds_trans h1 (holds_par (by rw [h.parS hb, if_neg e]; exact hq))
    exact key k b hb hk hn
end
end Go.Proofs.YtnjoimedilonnaaGreat
namespace Go.Proofs.YtnjoimedilonnaaGreat
open Go.RowKit
structure PutIn (m : Int) (F G : List Core) (l : List Int) (p : Nat) (cp : Core) (A B : List Int) (mv : Nat → Bool) : Prop where
  right : rightF m F = true
  hp : F[p]? = some cp
  kp : cp.kind ≠ 2
  once : l.Nodup
  ls : ∀ z ∈ l, ∃ (q : Nat) (c : Core), z = q ∧ F[q]? = some c ∧ (c.kind = 1 ∨ c.kind = 2)
  over : ∀ q : Nat, (q : Int) ∈ l → ¬ holdsT (parS F) q p
  ab : A ++ B = cp.kids.filter (fun z => !l.contains z)
  root : cp.kind = 0 → (A ++ l ++ B).length ≤ 1 ∧ ∀ k ∈ A ++ l ++ B, kindK F k = 1
  hmv : ∀ j, j < F.length → (mv j = true ↔ ∃ q : Nat, (q : Int) ∈ l ∧ holdsT (parS F) q j)
  ed : Edit F G (fun j c => if l.contains (j : Int) then (p : Int) else c.parent) (fun j c => if j = p then A ++ l ++ B else c.kids.filter (fun z => !l.contains z)) (fun j c => if mv j then cp.doc else c.doc)
section
variable {m : Int} {F G : List Core} {l : List Int} {p : Nat} {cp : Core} {A B : List Int} {mv : Nat → Bool}
theorem parS_parent {c : Core} {j q : Nat} (hc : F[j]? = some c) (h : c.parent = (q : Int)) : parS F j = some q := parS_some (by rw [nextUp_at hc]; show (if c.parent = -1 then c.host else c.parent) = (q : Int); rw [if_neg (by omega), h])
theorem parS_host {c : Core} {j q : Nat} (hc : F[j]? = some c) (hp : c.parent = -1) (h : c.host = (q : Int)) : parS F j = some q := parS_some (by rw [nextUp_at hc]; show (if c.parent = -1 then c.host else c.parent) = (q : Int); rw [if_pos hp, h])
theorem PutIn.lt (h : PutIn m F G l p cp A B mv) : p < F.length := (List.getElem?_eq_some_iff.1 h.hp).1
theorem PutIn.mvp (h : PutIn m F G l p cp A B mv) : mv p = false := by
  cases hq : mv p with
  | false => rfl
  | true =>
    obtain ⟨q, h1, h2⟩ := (h.hmv p h.lt).1 hq
    exact absurd h2 (h.over q h1)
theorem PutIn.mv_up (h : PutIn m F G l p cp A B mv) {j q : Nat} (hj : j < F.length) (hq : parS F j = some q) (hjl : (j : Int) ∉ l) : mv j = mv q := by
  have hql := (parS_next h.right hj hq).2
  rw [Bool.eq_iff_iff, h.hmv j hj, h.hmv q hql]
  constructor
  · rintro ⟨r, h1, h2⟩
    rcases holds_up h2 with e | ⟨s, e1, e2⟩
    · exact absurd (e ▸ h1) hjl
    · rw [hq] at e1
      obtain rfl := Option.some.inj e1
      exact ⟨r, h1, e2⟩
  · rintro ⟨r, h1, h2⟩
    exact ⟨r, h1, holds_trans h2 (holds_par hq)⟩
theorem PutIn.mem_k (h : PutIn m F G l p cp A B mv) {k : Int} : k ∈ A ++ l ++ B ↔ k ∈ l ∨ (k ∈ cp.kids ∧ k ∉ l) := by
  have e : k ∈ A ++ B ↔ k ∈ cp.kids ∧ k ∉ l := by
    rw [h.ab, List.mem_filter]
    simp
  rw [List.mem_append] at e
  rw [List.mem_append, List.mem_append, ← e]
  constructor
  · rintro ((h1 | h1) | h1)
    · exact .inr (.inl h1)
    · exact .inl h1
    · exact .inr (.inr h1)
  · rintro (h1 | h1 | h1)
    · exact .inl (.inr h1)
    · exact .inl (.inl h1)
    · exact .inr h1
theorem PutIn.once_k (h : PutIn m F G l p cp A B mv) : (A ++ l ++ B).Nodup := by
  have hab : (A ++ B).Nodup := by rw [h.ab]; exact (right_node h.right h.hp).once.filter _
  have hp : List.Perm (A ++ l ++ B) (l ++ (A ++ B)) := by
    rw [← List.append_assoc]
    exact List.Perm.append_right B List.perm_append_comm
  refine hp.nodup_iff.2 (List.nodup_append.2 ⟨h.once, hab, fun a ha b hb e => ?_⟩)
  rw [h.ab, List.mem_filter] at hb
  subst e
  simp at hb
  exact hb.2 ha
theorem PutIn.moved (h : PutIn m F G l p cp A B mv) {q : Nat} {c : Core} (hc : F[q]? = some c) (hq : (q : Int) ∈ l) : mv q = true := (h.hmv q (List.getElem?_eq_some_iff.1 hc).1).2 ⟨q, hq, holds_refl q⟩
theorem PutIn.node (h : PutIn m F G l p cp A B mv) {j : Nat} {y : Core} (hy : G[j]? = some y) : NodeP G j y := by
  obtain ⟨c, hc, rfl⟩ := h.ed.back hy
  have hjl := (List.getElem?_eq_some_iff.1 hc).1
  have N := right_node h.right hc
  have gp : ∃ z, getC G (p : Int) = some z ∧ z.kind = cp.kind ∧ z.kids = A ++ l ++ B := ⟨_, h.ed.getC (z := (p : Int)) (by rw [getC_nat]; exact h.hp), rfl, by show (if (p : Int).toNat = p then A ++ l ++ B else _) = _; rw [if_pos (by omega)]⟩
  have nokind : c.kind = 0 ∨ c.kind = 3 ∨ c.kind = 4 → (j : Int) ∉ l := fun hk hm => by
    obtain ⟨q, c2, h1, h2, h3⟩ := h.ls _ hm
    obtain rfl : q = j := by omega
    rw [hc] at h2
    obtain rfl := Option.some.inj h2
    omega
  refine ⟨N.kind, ?_, fun e => ?_, ?_, ?_, fun k hk => ?_, fun e => ?_, fun e => ?_, fun e => ?_, N.free, ?_, N.text⟩
  · show ∃ d, getC G (if mv j then cp.doc else c.doc) = some d ∧ d.kind = 0
    split
    · obtain ⟨d, h1, h2⟩ := (right_node h.right h.hp).doc
      exact ⟨_, h.ed.getC h1, h2⟩
    · obtain ⟨d, h1, h2⟩ := N.doc
      exact ⟨_, h.ed.getC h1, h2⟩
  · show (if mv j then cp.doc else c.doc) = (j : Int)
    have hnm : mv j = false := by
      cases hq : mv j with
      | false => rfl
      | true =>
        obtain ⟨q, h1, h2⟩ := (h.hmv j hjl).1 hq
        rcases holds_up h2 with e1 | ⟨s, e1, _⟩
        · subst e1
          exact absurd h1 (nokind (.inl e))
        · have hn := (parS_next h.right hjl e1).1
          rw [nextUp_at hc] at hn
          have hn2 : (if c.parent = -1 then c.host else c.parent) = (s : Int) := hn
          have hpar : c.parent = -1 := by
            rcases N.par with h3 | ⟨h3, _⟩
            · exact h3
            · have e : c.kind = 0 := e
              omega
          rw [if_pos hpar, N.free (by have e : c.kind = 0 := e; omega)] at hn2
          omega
    rw [hnm]
    exact N.own e
  · by_cases hm : (j : Int) ∈ l
    · obtain ⟨q, c2, h1, h2, h3⟩ := h.ls _ hm
      obtain rfl : q = j := by omega
      rw [hc] at h2
      obtain rfl := Option.some.inj h2
      obtain ⟨z, z1, z2, z3⟩ := gp
      refine .inr ⟨h3, z, ?_, by rw [z2]; exact h.kp, by rw [z3]; exact h.mem_k.2 (.inl hm)⟩
      show getC G (if l.contains (q : Int) then (p : Int) else c.parent) = _
      rw [if_pos (by simpa using hm)]
      exact z1
    · rcases N.par with h1 | ⟨h1, q, h2, h3, h4⟩
      · refine .inl ?_
        show (if l.contains (j : Int) then (p : Int) else c.parent) = -1
        rw [if_neg (by simpa using hm)]
        exact h1
      · have g := h.ed.getC h2
        refine .inr ⟨h1, edC q (if l.contains ((c.parent.toNat : Nat) : Int) then (p : Int) else q.parent) (if c.parent.toNat = p then A ++ l ++ B else q.kids.filter (fun z => !l.contains z)) (if mv c.parent.toNat then cp.doc else q.doc), ?_, h3, ?_⟩
        · show getC G (if l.contains (j : Int) then (p : Int) else c.parent) = _
          rw [if_neg (by simpa using hm)]
          exact g
        · show (j : Int) ∈ (if c.parent.toNat = p then A ++ l ++ B else q.kids.filter (fun z => !l.contains z))
          split
          · next hpp =>
            have hq : q = cp := by
              obtain ⟨_, _, h5⟩ := getC_some h2
              rw [hpp, h.hp] at h5
              exact (Option.some.inj h5).symm
            exact h.mem_k.2 (.inr ⟨hq ▸ h4, hm⟩)
          · rw [List.mem_filter]
            exact ⟨h4, by simpa using hm⟩
  · show (if j = p then A ++ l ++ B else c.kids.filter (fun z => !l.contains z)).Nodup
    split
    · exact h.once_k
    · exact N.once.filter _
  · have hk2 : k ∈ (if j = p then A ++ l ++ B else c.kids.filter (fun z => !l.contains z)) := hk
    show ∃ c', getC G k = some c' ∧ (c'.kind = 1 ∨ c'.kind = 2) ∧ c'.parent = (j : Int) ∧ c'.doc = (if mv j then cp.doc else c.doc)
    have old : k ∈ c.kids → k ∉ l → ∃ c', getC G k = some c' ∧ (c'.kind = 1 ∨ c'.kind = 2) ∧ c'.parent = (j : Int) ∧ c'.doc = (if mv j then cp.doc else c.doc) := fun h1 h2 => by
      obtain ⟨d, h3, h4, h5, h6⟩ := N.kids k h1
      obtain ⟨g0, g1, g2⟩ := getC_some h3
      have hkn : ((k.toNat : Nat) : Int) = k := by omega
      refine ⟨_, h.ed.getC h3, h4, ?_, ?_⟩
      · show (if l.contains ((k.toNat : Nat) : Int) then (p : Int) else d.parent) = (j : Int)
        rw [hkn, if_neg (by simpa using h2)]
        exact h5
      · show (if mv k.toNat then cp.doc else d.doc) = _
        rw [h.mv_up (List.getElem?_eq_some_iff.1 g2).1 (parS_parent g2 h5) (by rw [hkn]; exact h2), h6]
    by_cases e : j = p
    · subst e
      rw [if_pos rfl] at hk2
      have hcc : c = cp := by have := h.hp; rw [hc] at this; exact Option.some.inj this
      subst hcc
      rcases h.mem_k.1 hk2 with h1 | ⟨h1, h2⟩
      · obtain ⟨q, c2, rfl, h2, h3⟩ := h.ls _ h1
        refine ⟨_, h.ed.getC (z := (q : Int)) (by rw [getC_nat]; exact h2), h3, ?_, ?_⟩
        · show (if l.contains (((q : Int).toNat : Nat) : Int) then (j : Int) else c2.parent) = (j : Int)
          rw [show (((q : Int).toNat : Nat) : Int) = q by omega, if_pos (by simpa using h1)]
        · show (if mv (q : Int).toNat then c.doc else c2.doc) = _
          rw [show (q : Int).toNat = q by omega, h.moved h2 h1, h.mvp]
          rfl
      · exact old h1 h2
    · rw [if_neg e, List.mem_filter] at hk2
      exact old hk2.1 (by simpa using hk2.2)
  · show (if j = p then A ++ l ++ B else c.kids.filter (fun z => !l.contains z)) = []
    rw [if_neg (fun e2 => by
      subst e2
      have hcc : c = cp := by have := h.hp; rw [hc] at this; exact Option.some.inj this
      exact h.kp (hcc ▸ e)), N.leaf e]
    rfl
  · show (if j = p then A ++ l ++ B else c.kids.filter (fun z => !l.contains z)).length ≤ 1 ∧ ∀ k ∈ (if j = p then A ++ l ++ B else c.kids.filter (fun z => !l.contains z)), kindK G k = 1
    split
    · next e2 =>
      subst e2
      have hcc : c = cp := by have := h.hp; rw [hc] at this; exact Option.some.inj this
      obtain ⟨h1, h2⟩ := h.root (hcc ▸ e)
      exact ⟨h1, fun k hk => by rw [h.ed.kindK]; exact h2 k hk⟩
    · obtain ⟨h1, h2⟩ := N.root e
      exact ⟨Nat.le_trans (List.length_filter_le _ _) h1, fun k hk => by rw [h.ed.kindK]; exact h2 k (List.mem_filter.1 hk).1⟩
  · obtain ⟨d, h1, h2, h3, h4⟩ := N.host e
    obtain ⟨g0, g1, g2⟩ := getC_some h1
    refine ⟨_, h.ed.getC h1, h2, h3, ?_⟩
    show (if mv c.host.toNat then cp.doc else d.doc) = (if mv j then cp.doc else c.doc)
    have e4 : c.kind = 4 := e
    have hpar : c.parent = -1 := by
      rcases N.par with h5 | ⟨h5, _⟩
      · exact h5
      · omega
    rw [h.mv_up hjl (parS_host hc hpar (show c.host = ((c.host.toNat : Nat) : Int) by omega)) (nokind (.inr (.inr e4))), h4]
  · rcases N.under with h1 | ⟨h1, u, h2, h3, h4⟩
    · exact .inl h1
    · exact .inr ⟨h1, _, h.ed.getC h2, h3, h4⟩
theorem PutIn.next (h : PutIn m F G l p cp A B mv) {j : Nat} (hj : j < F.length) : nextUp G (j : Int) = if (j : Int) ∈ l then (p : Int) else nextUp F j := by
  have hc : F[j]? = some F[j] := List.getElem?_eq_getElem hj
  rw [h.ed.next hc]
  by_cases e : (j : Int) ∈ l
  · have e2 : l.contains (j : Int) = true := by simpa using e
    rw [if_pos e]
    simp only [e2, if_true]
    rw [if_neg (by omega)]
  · have e2 : l.contains (j : Int) = false := by simpa using e
    rw [if_neg e, nextUp_at hc]
    simp only [e2, Bool.false_eq_true, if_false]
    rfl
theorem PutIn.rightG (h : PutIn m F G l p cp A B mv) : rightF m G = true := by
  obtain ⟨⟨h1, h2, h3, h4⟩, _, _⟩ := (rightF_iff m F).1 h.right
  refine right_of h1 h2 (by rw [h.ed.len]; exact h3) (h.ed.head h4) (fun i y hy => h.node hy) (fun j => rankF F j + if mv j then rankF F p + 1 else 0) (fun i hi => ?_)
  rw [h.ed.len] at hi ⊢
  have hc : F[i]? = some F[i] := List.getElem?_eq_getElem hi
  rw [h.next hi]
  by_cases e : (i : Int) ∈ l
  · rw [if_pos e]
    refine .inr ⟨p, rfl, h.lt, ?_⟩
    rw [h.mvp, h.moved hc e]
    show rankF F p + 0 < rankF F i + (rankF F p + 1)
    omega
  · rw [if_neg e]
    rcases rank_next h.right hi with e1 | ⟨q, e1, e2, e3⟩
    · exact .inl e1
    · refine .inr ⟨q, e1, e2, ?_⟩
      rw [h.mv_up hi (parS_some e1) e]
      omega
end
end Go.Proofs.YtnjoimedilonnaaGreat
namespace Go.Proofs.YtnjoimedilonnaaGreat
open Go.RowKit
def kidsK (F : List Core) (p : Int) : List Int := match getC F p with | some x => x.kids | none => []
def parentK (F : List Core) (c : Int) : Int := match getC F c with | some x => x.parent | none => -1
def partsZ (F : List Core) (n : Int) : List Int := match getC F n with | some x => if x.kind = 3 then x.kids else [n] | none => []
def countNe (l : List Int) (g : Int) : Nat := l.countP (fun z => z != g)
def docTakesB (F : List Core) (n p gone : Int) : Bool := !(partsZ F n).any (fun k => kindK F k == 2) && decide (countNe (kidsK F p) gone + (partsZ F n).length ≤ 1)
def inF (F : List Core) (n : Int) : Bool := decide (0 ≤ n) && decide (n < (F.length : Int))
def vknowsB (m : Int) (F : List Core) (n p c : Int) : Bool := inF F n && inF F p && (c == -1 || inF F c) && rightF m F
def refuseE (m : Int) (F : List Core) (n p : Int) (placed : Bool) (gone : Int) : Int :=
  if kindK F p = 2 ∨ overZ m F n p = true then 5
  else if placed = false then 6
  else if kindK F n = 0 ∨ kindK F n = 4 then 5
  else if kindK F p = 0 ∧ docTakesB F n p gone = false then 5
  else 0
def mayZ (m : Int) (F : List Core) (n p c : Int) : Int := if vknowsB m F n p c then refuseE m F n p (c == -1 || parentK F c == p) (-1) else 1
def beforeZ (m : Int) (F : List Core) (n p c : Int) : Int :=
  if mayZ m F n p c = 0 then (if c = n then (match (kidsK F p)[(placeZ m F n + 1).toNat]? with | some z => z | none => -1) else c) else -1
end Go.Proofs.YtnjoimedilonnaaGreat
namespace Go.Proofs.YtnjoimedilonnaaGreat
theorem step_wpS {P : Program} {ops : Array Oper} {o : Oper} {a : Act} {w : World} {K : Act → World → Prop} {Q : Exit → Act → World → Prop} {E : Prop} (hg : o.guard = none) (h : Oper.wp P o a w K Q) : if Region.wanted o (yielded ops a.tmps) = true then Oper.wp P o a w K Q else E := by
  have hw : Region.wanted o (yielded ops a.tmps) = true := by simp [Region.wanted, hg]
  rw [if_pos hw]
  exact h
end Go.Proofs.YtnjoimedilonnaaGreat
