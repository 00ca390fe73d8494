/- Texts joined in build order: ShadeAttach WalkOrdMath WalkOrder ForestOrderFn ShadeAllFn ShadeElems ForestAheadFn ShadeProof ValidProof Ref3Bare Ref3New StepRows. -/
import Derived.Test.YtbgcpgpkhfbijaaGreatDoorK09
import Derived.Test.YtbgcpgpkhfbijaaGreatDoorK07
import Derived.Deep.RegionLaw
import Derived.Test.YtbgcpgpkhfbijaaGreatDoorK08
import Derived.Test.YtbgcpgpkhfbijaaGreatDoorK04
import Derived.Test.YtbgcpgpkhfbijaaGreatDoorK05
import Derived.Test.YtbgcpgpkhfbijaaGreatDoorK06
import Derived.Test.YtbgcpgpkhfbijaaGreatDoorK01
/- Package shade's Attach. -/
namespace Go.Proofs.YtbgcpgpkhfbijaaGreatDoor
open Go.RowKit
attribute [local go_sem ↓] Go.wp_at_zero Go.wp_at_succ
/-- The boxes that Attach begins with. -/
structure AttSt (w W : World) (a : Option Addr) (len cap : Nat) (m : Int) (L : List NodeD) : Prop where
  box : Box w W w.heap.size a len cap m L (coreL L)
  res : Box2 W (w.heap.size + 1) (.slice none 0 0) (.int .i64 0)
theorem AttSt.keep {w W W2 : World} {a : Option Addr} {len cap : Nat} {m : Int} {L : List NodeD} (h : AttSt w W a len cap m L) (hb : Below W.heap.size W W2) : AttSt w W2 a len cap m L := ⟨h.box.keep hb, h.res.keep hb⟩
theorem AttSt.start {w : World} {a : Option Addr} {len cap : Nat} {m : Int} {L : List NodeD} (h : NodeRow w a len cap L) : AttSt w ((w.alloc (forB a len cap m)).alloc zeroFB) a len cap m L := by
  refine ⟨(Box.start h).keep (below_box _ _), ?_⟩
  have := Box2.new (w.alloc (forB a len cap m)) (.slice none 0 0) (.int .i64 0) 24
  rwa [show (w.alloc (forB a len cap m)).heap.size = w.heap.size + 1 by simp] at this
/-- Behind the first line: the copy, in its box q; r: the result's box. -/
structure AttCp (r : Nat) (w0 W : World) (len : Nat) (m : Int) (F : List Core) (q : Nat) (v : Value) (M : List NodeD) : Prop where
  copy : Copy w0.heap.size w0 W v len M F
  g : Box2 W q v (.int .i64 m)
  low : w0.heap.size ≤ q
  ne : v.ownBlock ≠ some q
  aq : ∀ y ∈ M, NodeAway q y
  ar : ∀ y ∈ M, NodeAway r y
theorem AttCp.keep {r : Nat} {w0 W W2 : World} {len : Nat} {m : Int} {F : List Core} {q : Nat} {v : Value} {M : List NodeD} (h : AttCp r w0 W len m F q v M) (hb : Below W.heap.size W W2) : AttCp r w0 W2 len m F q v M :=
  ⟨h.copy.keep hb, h.g.keep hb, h.low, h.ne, h.aq, h.ar⟩
theorem AttCp.wayA {r : Nat} {w0 w1 : World} {len : Nat} {m : Int} {F : List Core} {v : Value} {M : List NodeD} (hsz : r < w0.heap.size)
    (CP : Copy (w0.alloc zeroFB).heap.size (w0.alloc zeroFB) w1 v len M F) (NL : ∀ x ∈ M, newLists (w0.alloc zeroFB).drew.heap.size x) (GB : Box2 w1 w0.heap.size (.slice none 0 0) (.int .i64 0)) :
    AttCp r w0 ((w1.setCell ⟨w0.heap.size, 0, none⟩ v).setCell ⟨w0.heap.size, 1, none⟩ (.int .i64 m)) len m F w0.heap.size v M := by
  have hs : (w0.alloc zeroFB).drew.heap.size = w0.heap.size + 1 := by simp
  have hs2 : (w0.alloc zeroFB).heap.size = w0.heap.size + 1 := by simp
  have hne : v.ownBlock ≠ some w0.heap.size := own_not CP.own (by rw [hs2]; omega)
  have haq : ∀ y ∈ M, NodeAway w0.heap.size y := fun y hy => (NL y hy).away (by rw [hs]; omega)
  have hb : Below w0.heap.size w0 w1 := (below_box w0 _).trans (CP.below.mono (by rw [hs2]; omega))
  refine ⟨⟨own_base (own_boxCell (own_boxCell CP.own hne _) hne _) (by rw [hs2]; omega), CP.hl, CP.core, fun x hx => ((CP.ok x hx).setCell (haq x hx) _).setCell (haq x hx) _, fun g hg => ?_, (hb.setCell (p := ⟨w0.heap.size, 0, none⟩) (Nat.le_refl _) _).setCell (p := ⟨w0.heap.size, 1, none⟩) (Nat.le_refl _) _⟩, GB.set _ _, Nat.le_refl _, hne, haq, fun y hy => (NL y hy).away (by rw [hs]; omega)⟩
  rcases hg with hg | hg
  · omega
  · exact CP.away g (.inr hg)
theorem AttCp.wayB {r : Nat} {w0 w1 : World} {len : Nat} {m : Int} {F : List Core} {v : Value} {M : List NodeD} (hsz : r < w0.heap.size)
    (CP : Copy w0.heap.size w0 w1 v len M F) (NL : ∀ x ∈ M, newLists w0.drew.heap.size x) :
    AttCp r w0 (w1.alloc (.cells #[v, .int .i64 m] 24)) len m F w1.heap.size v M := by
  have hs : w0.drew.heap.size = w0.heap.size := rfl
  exact ⟨CP.keep (below_box _ _), Box2.new _ _ _ _, CP.below.size, own_notNew CP.own, fun y hy => (CP.ok y hy).away (Nat.le_refl _), fun y hy => (NL y hy).away (by rw [hs]; omega)⟩
/-- The copy is answered: two stores into the result's box. -/
theorem AttCp.finish {r : Nat} {w w0 W : World} {len : Nat} {m : Int} {F : List Core} {q : Nat} {v : Value} {M : List NodeD} (h : AttCp r w0 W len m F q v M) (hsz : r < w0.heap.size) (hlo : w.heap.size ≤ r) (hb : Below w.heap.size w w0) (u1 u2 : Value) :
    ∃ a cap, v = .slice a len cap ∧ NodeRow ((W.setCell ⟨r, 0, none⟩ u1).setCell ⟨r, 1, none⟩ u2) a len cap M ∧ coreL M = F ∧ Below w.heap.size w ((W.setCell ⟨r, 0, none⟩ u1).setCell ⟨r, 1, none⟩ u2) := by
  have hne : v.ownBlock ≠ some r := own_not h.copy.own hsz
  have c2 : Copy w.heap.size w ((W.setCell ⟨r, 0, none⟩ u1).setCell ⟨r, 1, none⟩ u2) v len M F :=
    ⟨own_base (own_boxCell (own_boxCell h.copy.own hne _) hne _) hb.size, h.copy.hl, h.copy.core, fun x hx => ((h.copy.ok x hx).setCell (h.ar x hx) _).setCell (h.ar x hx) _, fun g hg => by
      rcases hg with hg | hg
      · omega
      · exact h.copy.away g (.inr hg), ((hb.trans (h.copy.below.mono hb.size)).setCell (p := ⟨r, 0, none⟩) hlo _).setCell (p := ⟨r, 1, none⟩) hlo _⟩
  obtain ⟨a, cap, hv, hr, _⟩ := c2.row
  exact ⟨a, cap, hv, hr, h.copy.core, c2.below⟩
/-- A node, as it is with another shadow. -/
def withUD (x : NodeD) (u : Int) : NodeD := ⟨withU x.core u, x.aA, x.aN, x.aC, x.kA, x.kN, x.kC⟩
theorem Copy.at {lo : Nat} {w W : World} {g n cap k : Nat} {M : List NodeD} {F : List Core} {x : NodeD} (h : Copy lo w W (.slice (some ⟨g, 0, none⟩) n cap) n M F) (hx : M[k]? = some x) : NodeAt W g (k * 10) x := by
  obtain ⟨a, cap', he, hr, _⟩ := h.row
  injection he with e1 e2 e3
  subst e1
  have hk : k < n := by
    have := (List.getElem?_eq_some_iff.1 hx).1
    rw [h.hl] at this
    exact this
  obtain ⟨b', off, y, hab, _, hy, hat, _⟩ := hr.get hk
  injection hab with hab
  injection hab with e1 e2
  subst e1 e2
  obtain rfl : x = y := Option.some.inj (hx.symm.trans hy)
  rwa [Nat.zero_add] at hat
/-- A node of the copy gets its shadow. -/
theorem AttCp.under {r : Nat} {w0 W : World} {len cap : Nat} {m : Int} {F : List Core} {q g : Nat} {M : List NodeD} {k : Nat} {x : NodeD} {u : Int} (h : AttCp r w0 W len m F q (.slice (some ⟨g, 0, none⟩) len cap) M) (hk : M[k]? = some x) (hu : In64 u) :
    AttCp r w0 (W.setCell ⟨g, k * 10 + 8, none⟩ (.int .i64 u)) len m (F.set k (withU x.core u)) q (.slice (some ⟨g, 0, none⟩) len cap) (M.set k (withUD x u)) := by
  obtain ⟨hl, he⟩ := List.getElem?_eq_some_iff.1 hk
  have hkn : k < len := by have := h.copy.hl; omega
  have hgl : w0.heap.size ≤ g := (h.copy.own.lt g rfl).1
  have hgq : g ≠ q := fun e => h.ne (by rw [← e]; rfl)
  have o1 := own_setCell h.copy.own (j := k * 10 + 8) (by omega) (.int .i64 u)
  rw [flat_set (L := M) (fun z _ => encN_len z) (i := k) (j := 8) (y := withUD x u) (u := .int .i64 u) (x := x) hk rfl (by omega)] at o1
  have mem : ∀ y ∈ M.set k (withUD x u), y ∈ M ∨ y = withUD x u := fun y hy => List.mem_or_eq_of_mem_set hy
  have hxm := List.mem_of_getElem? hk
  have hox := h.copy.ok x hxm
  have haw := h.copy.away g (.inr rfl)
  have away : ∀ g', (∀ y ∈ M, NodeAway g' y) → ∀ y ∈ M.set k (withUD x u), NodeAway g' y := fun g' hg' y hy => by
    rcases mem y hy with hy | rfl
    · exact hg' y hy
    · exact hg' x hxm
  refine ⟨⟨o1, by rw [List.length_set]; exact h.copy.hl, ?_, fun y hy => ?_, fun g' hg' => away g' (h.copy.away g' hg'), h.copy.below.setCell (p := ⟨g, k * 10 + 8, none⟩) hgl _⟩, ?_, h.low, h.ne, away q h.aq, away r h.ar⟩
  · rw [← h.copy.core]
    unfold coreL
    rw [List.map_set]
    rfl
  · rcases mem y hy with hy | rfl
    · exact (h.copy.ok y hy).setCell (haw y hy) _
    · have hq : NodeOk W (withUD x u) := ⟨hox.attrs, hox.kids, hox.name, hox.is, hox.data, hox.kind, hox.parent, hox.host, hu, hox.doc⟩
      exact hq.setCell (haw x hxm) _
  · have hb : ∀ o, (⟨g, k * 10 + 8, none⟩ : Addr) ≠ ⟨q, o, none⟩ := fun o e => hgq (by injection e)
    exact ⟨by simpa [World.setCell] using h.g.lt, (World.cell?_setCell_other _ _ _ _ (hb 0)).trans h.g.c0, (World.cell?_setCell_other _ _ _ _ (hb 1)).trans h.g.c1, by rw [World.frozen?_setCell]; exact h.g.f0, by rw [World.frozen?_setCell]; exact h.g.f1⟩
/-- Behind the append: the copy as it was. -/
theorem AttCp.grown {r : Nat} {w0 W W2 : World} {len : Nat} {m : Int} {F : List Core} {q : Nat} {v : Value} {M : List NodeD} (h : AttCp r w0 W len m F q v M) (hg : W.grownBy W2 v.ownBlock) (ho : W2.ownsRow w0.heap.size 53 10 v len (M.flatMap encN)) : AttCp r w0 W2 len m F q v M :=
  ⟨⟨ho, h.copy.hl, h.copy.core, fun x hx => (h.copy.ok x hx).grown hg (fun g e => h.copy.away g (.inr e) x hx), h.copy.away, h.copy.below.grown hg h.copy.below.size (fun k e => (h.copy.own.lt k e).1)⟩, h.g.grown hg (fun e => h.ne e.symm), h.low, h.ne, h.aq, h.ar⟩
/-- The row with a node more. -/
structure AttRow (r : Nat) (w0 W : World) (len : Nat) (q g cap : Nat) (M : List NodeD) (y : NodeD) : Prop where
  own : W.ownsRow w0.heap.size 53 10 (.slice (some ⟨g, 0, none⟩) (len + 1) cap) (len + 1) ((M ++ [y]).flatMap encN)
  hl : M.length = len
  ok : ∀ z ∈ M ++ [y], NodeOk W z
  nq : g ≠ q
  aq : ∀ z ∈ M ++ [y], NodeAway q z
  ar : ∀ z ∈ M ++ [y], NodeAway r z
theorem AttRow.row {r : Nat} {w0 W : World} {len q g cap : Nat} {M : List NodeD} {y : NodeD} (h : AttRow r w0 W len q g cap M y) : NodeRow W (some ⟨g, 0, none⟩) (len + 1) cap (M ++ [y]) := by
  obtain ⟨a, cap', he, hr, _⟩ := SRow.of_own (L := M ++ [y]) (fun x _ => encN_len x) (by rw [List.length_append, h.hl]; rfl) h.own
  injection he with h1 h2 h3
  subst h1; subst h3
  exact ⟨hr, h.ok, fun h => by cases h⟩
theorem AttRow.new {r : Nat} {w0 W W2 : World} {len : Nat} {m : Int} {F : List Core} {q g cap : Nat} {v : Value} {M : List NodeD} {y : NodeD} (h : AttCp r w0 W len m F q v M) (hy : NodeOk W y) (hya : y.aA = none) (hyk : y.kA = none)
    (ho : W2.ownsRow w0.heap.size 53 10 (.slice (some ⟨g, 0, none⟩) (len + 1) cap) (len + 1) (M.flatMap encN ++ encN y)) (hg : W.grownBy W2 v.ownBlock) (hat : v.ownBlock = some g ∨ g = W.heap.size) : AttRow r w0 W2 len q g cap M y := by
  have away : ∀ k, NodeAway k y := fun k => ⟨(fun b off hb => by rw [hya] at hb; cases hb), (fun b off hb => by rw [hyk] at hb; cases hb)⟩
  have hlow := h.low
  refine ⟨by simpa using ho, h.copy.hl, fun z hz => ?_, ?_, fun z hz => ?_, fun z hz => ?_⟩
  · rcases List.mem_append.1 hz with hz | hz
    · exact (h.copy.ok z hz).grown hg (fun k e => h.copy.away k (.inr e) z hz)
    · obtain rfl : z = y := by simpa using hz
      exact hy.grown hg (fun k _ => away k)
  · rcases hat with hat | hat
    · intro e
      exact h.ne (by rw [hat, e])
    · have := h.g.lt
      omega
  · rcases List.mem_append.1 hz with hz | hz
    · exact h.aq z hz
    · obtain rfl : z = y := by simpa using hz
      exact away q
  · rcases List.mem_append.1 hz with hz | hz
    · exact h.ar z hz
    · obtain rfl : z = y := by simpa using hz
      exact away _
theorem AttRow.finish {r : Nat} {w w0 W : World} {len q g cap : Nat} {M : List NodeD} {y : NodeD} (h : AttRow r w0 W len q g cap M y) (hsz : r < w0.heap.size) (hlo : w.heap.size ≤ r) (hq : w0.heap.size ≤ q) (hb : Below w.heap.size w w0) (hb2 : Below w0.heap.size w0 W) (u0 u1 u2 : Value) :
    NodeRow (((W.setCell ⟨q, 0, none⟩ u0).setCell ⟨r, 0, none⟩ u1).setCell ⟨r, 1, none⟩ u2) (some ⟨g, 0, none⟩) (len + 1) cap (M ++ [y]) ∧ Below w.heap.size w (((W.setCell ⟨q, 0, none⟩ u0).setCell ⟨r, 0, none⟩ u1).setCell ⟨r, 1, none⟩ u2) := by
  have n1 : (Value.slice (some ⟨g, 0, none⟩) (len + 1) cap).ownBlock ≠ some q := fun e => h.nq (by injection e)
  have n2 : (Value.slice (some ⟨g, 0, none⟩) (len + 1) cap).ownBlock ≠ some r := own_not h.own hsz
  have c2 : AttRow r w0 (((W.setCell ⟨q, 0, none⟩ u0).setCell ⟨r, 0, none⟩ u1).setCell ⟨r, 1, none⟩ u2) len q g cap M y :=
    ⟨own_boxCell (own_boxCell (own_boxCell h.own n1 _) n2 _) n2 _, h.hl, fun z hz => (((h.ok z hz).setCell (h.aq z hz) _).setCell (h.ar z hz) _).setCell (h.ar z hz) _, h.nq, h.aq, h.ar⟩
  have hsz2 := hb.size
  exact ⟨c2.row, (((hb.trans (hb2.mono hb.size)).setCell (p := ⟨q, 0, none⟩) (by show w.heap.size ≤ q; omega) _).setCell (p := ⟨r, 0, none⟩) hlo _).setCell (p := ⟨r, 1, none⟩) hlo _⟩
theorem att_not {m : Int} {F : List Core} {n : Int} (h : attE m F n ≠ 0) : attL m F n = F ∧ attN m F n = -1 := by
  unfold attL attN
  rw [if_neg h, if_neg h]
  exact ⟨rfl, rfl⟩
theorem att_is {m : Int} {F : List Core} {n : Int} (h : attE m F n = 0) : rightF m F = true ∧ ∃ (k : Nat) (x : Core), n = k ∧ F[k]? = some x ∧ hostsC x = true ∧ x.under = -1 ∧ (F.length : Int) ≠ m ∧ attL m F n = F.set k (withU x (F.length : Int)) ++ [shadeC k x.doc] ∧ attN m F n = F.length := by
  have h0 := h
  unfold attE at h
  cases hq : thereF m F n with
  | false => rw [hq] at h; cases h
  | true =>
    rw [hq, if_pos rfl] at h
    obtain ⟨hr, k, rfl, hk⟩ := there_nat hq
    have hg : getC F (k : Int) = some F[k] := by rw [getC_nat]; exact List.getElem?_eq_getElem hk
    rw [hg] at h
    dsimp only at h
    by_cases h1 : hostsC F[k] = true
    · rw [if_pos h1] at h
      by_cases h2 : F[k].under = -1
      · rw [if_pos h2] at h
        by_cases h3 : (F.length : Int) = m
        · rw [if_pos h3] at h; cases h
        · refine ⟨hr, k, F[k], rfl, List.getElem?_eq_getElem hk, h1, h2, h3, ?_, ?_⟩
          · unfold attL attC
            rw [if_pos h0, hg]
            rfl
          · unfold attN
            rw [if_pos h0]
      · rw [if_neg h2] at h; cases h
    · rw [if_neg h1] at h; cases h
def shadeD (k : Nat) (d : Int) : NodeD := ⟨shadeC k d, none, 0, 0, none, 0, 0⟩
theorem shadeD_ok (w : World) {k : Nat} {d : Int} (hk : In64 (k : Int)) (hd : In64 d) : NodeOk w (shadeD k d) := by
  refine ⟨⟨SRow.nil, (fun z hz => by cases hz), fun _ => rfl⟩, ⟨SRow.nil, (fun z hz => by cases hz), fun _ => rfl⟩, ?_, ?_, ?_, ?_, ?_, hk, ?_, hd⟩
  · show 0 ≤ maxLen; decide
  · show 0 ≤ maxLen; decide
  · show 0 ≤ maxLen; decide
  · exact ⟨by show (_ : Int) ≤ 4; decide, by show (4 : Int) ≤ _; decide⟩
  · exact ⟨by show (_ : Int) ≤ -1; decide, by show (-1 : Int) ≤ _; decide⟩
  · exact ⟨by show (_ : Int) ≤ -1; decide, by show (-1 : Int) ≤ _; decide⟩
end Go.Proofs.YtbgcpgpkhfbijaaGreatDoor
/- What package walk's order has in hand: the order so far and what is still to come. Plain mathematics. -/
namespace Go.Proofs.YtbgcpgpkhfbijaaGreatDoor
open Go.RowKit Go.Shelf
/-- Tree order, as numbers. -/
def ordI (F : List Core) (z : Int) : List Int := (ordF F z.toNat).map Int.ofNat
/-- What is in order, and what is still to come. -/
structure Going (F : List Core) (n : Nat) (out P : List Int) : Prop where
  eq : out ++ P.reverse.flatMap (ordI F) = ordI F (n : Int)
  inF : ∀ z ∈ P, 0 ≤ z ∧ z < (F.length : Int)
theorem Going.start {F : List Core} {n : Nat} (h : n < F.length) : Going F n [] [(n : Int)] := ⟨by simp, fun z hz => by
  obtain rfl : z = (n : Int) := by simpa using hz
  omega⟩
theorem Going.step {m : Int} {F : List Core} (hr : rightF m F = true) {n : Nat} {out Q : List Int} {z : Int} {x : Core} (h : Going F n out (Q ++ [z])) (hx : F[z.toNat]? = some x) : Going F n (out ++ [z]) (Q ++ x.kids.reverse) := by
  have T := tree_of_right hr
  obtain ⟨hz0, hz1⟩ := h.inF z (by simp)
  have hzl : z.toNat < F.length := by omega
  have hk : kidsF F z.toNat = x.kids.map Int.toNat := by unfold kidsF; rw [hx]
  have kin : ∀ k ∈ x.kids, 0 ≤ k ∧ k < (F.length : Int) := fun k hkk => by
    have hm : k.toNat ∈ kidsF F z.toNat := by rw [hk]; exact List.mem_map.2 ⟨k, hkk, rfl⟩
    have h1 := T.kid_lt _ _ hm
    have h2 := (nodeOk_iff.1 (((rightF_iff m F).1 hr).2.1 _ x hx)).2.2.1 k hkk
    obtain ⟨c, hc, _⟩ := kidB_iff.1 (kidOk_iff.1 h2).2
    obtain ⟨e1, _, _⟩ := getC_some hc
    omega
  have hord : ordI F z = z :: x.kids.flatMap (ordI F) := by
    unfold ordI ordF
    have h1 := T.ord_more (F.length + 1) z.toNat hzl (by omega)
    have h2 : ordN (kidsF F) (F.length + 1 + 1) z.toNat = z.toNat :: (kidsF F z.toNat).flatMap (ordN (kidsF F) (F.length + 1)) := rfl
    rw [← h1, h2, hk, List.map_cons, List.flatMap_map, List.map_flatMap]
    have e0 : Int.ofNat z.toNat = z := by show ((z.toNat : Nat) : Int) = z; omega
    rw [e0]
  refine ⟨?_, fun y hy => ?_⟩
  · rw [← h.eq, List.reverse_append, List.reverse_append, List.reverse_reverse, List.flatMap_append, List.reverse_singleton, List.singleton_append, List.flatMap_cons, hord]
    simp
  · rcases List.mem_append.1 hy with hy | hy
    · exact h.inF y (by simp [hy])
    · exact kin y (by simpa using hy)
theorem Going.len {F : List Core} {n : Nat} {out P : List Int} (h : Going F n out P) : out.length + P.length ≤ (ordI F (n : Int)).length := by
  have h1 := congrArg List.length h.eq
  rw [List.length_append] at h1
  have h2 : ∀ l : List Int, l.length ≤ (l.flatMap (ordI F)).length := fun l => by
    induction l with
    | nil => simp
    | cons a r ih =>
      have : 0 < (ordI F a).length := by
        unfold ordI ordF
        obtain ⟨t, ht⟩ := ordN_head (kids := kidsF F) (F.length + 1) a.toNat
        rw [ht]
        simp
      rw [List.flatMap_cons, List.length_append, List.length_cons]
      omega
  have h3 := h2 P.reverse
  rw [List.length_reverse] at h3
  omega
theorem ordI_len {m : Int} {F : List Core} (hr : rightF m F = true) {n : Nat} (hn : n < F.length) : (ordI F (n : Int)).length ≤ F.length := by
  have T := tree_of_right hr
  unfold ordI
  rw [List.length_map, Int.toNat_natCast]
  exact nodup_lt F.length _ (T.ord_nodup _ n hn (by omega)) (fun x hx => T.ord_lt _ n hn x hx)
theorem map_encI : ∀ l : List Int, l.map encI = l.flatMap encZ
  | [] => rfl
  | c :: r => by rw [List.map_cons, List.flatMap_cons, map_encI r]; rfl
def sliceN : Value → Nat
  | .slice _ l _ => l
  | _ => 0
theorem sliceN_own {w : World} {base : Nat} {e : TypeId} {size n : Nat} {v : Value} {xs : List Value} (h : w.ownsRow base e size v n xs) : sliceN v = n := by
  rcases h.2 with ⟨rfl, h0⟩ | ⟨g, cap, cur, rfl, _⟩
  · exact h0.symm
  · rfl
theorem backTo_snd (K : List Int) : (backTo K K.length).map Prod.snd = K.reverse := by
  apply List.ext_getElem
  · simp [backTo]
  · intro i h1 h2
    have hi : i < K.length := by simpa using h2
    simp [backTo, backF]
    rw [List.getElem?_eq_getElem (by omega)]
    rfl
def undL (x : Core) : List Int := if x.under = -1 then [] else [x.under]
/-- What is in order, and what is still to come. -/
structure GoingS (F : List Core) (n : Nat) (out P : List Int) : Prop where
  eq : out ++ P.reverse.flatMap (allI F) = allI F (n : Int)
  inF : ∀ z ∈ P, 0 ≤ z ∧ z < (F.length : Int)
theorem GoingS.start {F : List Core} {n : Nat} (h : n < F.length) : GoingS F n [] [(n : Int)] := ⟨by simp, fun z hz => by
  obtain rfl : z = (n : Int) := by simpa using hz
  omega⟩
theorem GoingS.step {m : Int} {F : List Core} (hr : rightF m F = true) {n : Nat} {out Q : List Int} {z : Int} {x : Core} (h : GoingS F n out (Q ++ [z])) (hx : F[z.toNat]? = some x) : GoingS F n (out ++ [z]) (Q ++ x.kids.reverse ++ undL x) := by
  have T := treeS hr
  obtain ⟨hz0, hz1⟩ := h.inF z (by simp)
  have hzl : z.toNat < F.length := by omega
  have kin : ∀ k ∈ x.kids, 0 ≤ k ∧ k < (F.length : Int) := fun k hkk => by
    have h2 := (nodeOk_iff.1 (((rightF_iff m F).1 hr).2.1 _ x hx)).2.2.1 k hkk
    obtain ⟨c, hc, _⟩ := kidB_iff.1 (kidOk_iff.1 h2).2
    obtain ⟨e1, e2, _⟩ := getC_some hc
    omega
  have hord : allI F z = z :: (undL x ++ x.kids.flatMap (allI F)).take 0 ++ ((if x.under = -1 then [] else allI F x.under) ++ x.kids.flatMap (allI F)) := by
    have := allI_open hr hx
    rw [show ((z.toNat : Nat) : Int) = z by omega] at this
    rw [this]
    simp
  refine ⟨?_, fun y hy => ?_⟩
  · rw [← h.eq, List.reverse_append, List.reverse_append, List.reverse_append, List.reverse_reverse, List.flatMap_append, List.flatMap_append, List.reverse_singleton, List.singleton_append, List.flatMap_cons, hord]
    unfold undL
    by_cases hu : x.under = -1
    · rw [if_pos hu, if_pos hu]
      simp
    · rw [if_neg hu, if_neg hu]
      simp
  · rcases List.mem_append.1 hy with hy | hy
    · rcases List.mem_append.1 hy with hy | hy
      · exact h.inF y (by simp [hy])
      · exact kin y (by simpa using hy)
    · unfold undL at hy
      by_cases hu : x.under = -1
      · rw [if_pos hu] at hy; cases hy
      · rw [if_neg hu] at hy
        obtain ⟨s, u, e1, e2, _⟩ := right_under hr hx hu
        have := (List.getElem?_eq_some_iff.1 e2).1
        obtain rfl : y = x.under := by simpa using hy
        omega
theorem GoingS.len {F : List Core} {n : Nat} {out P : List Int} (h : GoingS F n out P) : out.length + P.length ≤ (allI F (n : Int)).length := by
  have h1 := congrArg List.length h.eq
  rw [List.length_append] at h1
  have h2 : ∀ l : List Int, l.length ≤ (l.flatMap (allI F)).length := fun l => by
    induction l with
    | nil => simp
    | cons a r ih =>
      have : 0 < (allI F a).length := by
        unfold allI allF
        obtain ⟨t, ht⟩ := ordN_head (kids := kidsS F) (F.length + 1) a.toNat
        rw [ht]
        simp
      rw [List.flatMap_cons, List.length_append, List.length_cons]
      omega
  have h3 := h2 P.reverse
  rw [List.length_reverse] at h3
  omega
/-- Full order, or tree order. -/
def ordB (sh : Bool) (F : List Core) (n : Int) : List Int := if sh then allI F n else ordI F n
def undB (sh : Bool) (x : Core) : List Int := if sh then undL x else []
def GoingB (sh : Bool) (F : List Core) (n : Nat) (out P : List Int) : Prop := if sh then GoingS F n out P else Going F n out P
section
variable {sh : Bool} {F : List Core} {n : Nat} {out P Q : List Int}
theorem GoingB.start (h : n < F.length) : GoingB sh F n [] [(n : Int)] := by
  cases sh
  · exact Going.start h
  · exact GoingS.start h
theorem GoingB.eq (h : GoingB sh F n out P) : out ++ P.reverse.flatMap (ordB sh F) = ordB sh F (n : Int) := by
  cases sh
  · exact Going.eq h
  · exact GoingS.eq h
theorem GoingB.inF (h : GoingB sh F n out P) : ∀ z ∈ P, 0 ≤ z ∧ z < (F.length : Int) := by
  cases sh
  · exact Going.inF h
  · exact GoingS.inF h
theorem GoingB.len (h : GoingB sh F n out P) : out.length + P.length ≤ (ordB sh F (n : Int)).length := by
  cases sh
  · exact Going.len h
  · exact GoingS.len h
theorem GoingB.step {m : Int} (hr : rightF m F = true) {z : Int} {x : Core} (h : GoingB sh F n out (Q ++ [z])) (hx : F[z.toNat]? = some x) : GoingB sh F n (out ++ [z]) (Q ++ x.kids.reverse ++ undB sh x) := by
  cases sh
  · have := Going.step hr h hx
    show Going F n (out ++ [z]) (Q ++ x.kids.reverse ++ [])
    rw [List.append_nil]
    exact this
  · exact GoingS.step hr h hx
theorem ordB_len {m : Int} (hr : rightF m F = true) (hn : n < F.length) : (ordB sh F (n : Int)).length ≤ F.length := by
  cases sh
  · exact ordI_len hr hn
  · exact allI_len hr hn
end
end Go.Proofs.YtbgcpgpkhfbijaaGreatDoor
/- Package walk's order: tree order, or full order. -/
namespace Go.Proofs.YtbgcpgpkhfbijaaGreatDoor
open Go.RowKit Go.Shelf
attribute [local go_sem] Oper.semAt_some
set_option maxHeartbeats 8000000 in
set_option maxRecDepth 100000 in
theorem worder_any (a : Option Addr) (len cap : Nat) (m : Int) (L : List NodeD) (n : Nat) (sh : Bool) (w : World) (h : NodeRow w a len cap L) (hs : smallF L) (hr : rightF m (coreL L) = true) (hkl : n < len) :
    Calls Tryz.prog 145 #[.slice a len cap, .int .i64 n, .bool sh] w (OwnPostI w (ordB sh (coreL L) n)) := by
  have hk : n < (coreL L).length := by rw [coreL_len, h.hlen]; exact hkl
  have hn : In64 (n : Int) := ⟨by omega, by have := h.len64; omega⟩
  have NR := Lib.hid h
  have HRT := Lib.hid hr
  have HL := Lib.hid h.hlen
  have HS := Lib.hid hs
  obtain ⟨b, off, x0, rfl, hb1, -, -, -⟩ := h.get (k := n) hkl
  clear h hs hn hr
  refine callsIn_wide (n := 8) |>.1 ?_
  refine callsIn_of_wp_marks Tryz.func145 rfl trivial ?_ rfl
  simp only [Tryz.ntmps145, List.size_toArray, List.length_cons, List.length_nil, Nat.reduceAdd, Nat.reduceSub, Array.replicate_succ, Array.replicate_zero, List.push_toArray, List.append_toArray, List.nil_append, List.cons_append]
  gi_wp2
  obtain ⟨i0, hi0, hz0, hz1, hz2⟩ := info_parts int_info
  have HN : Hid ((ordB sh (coreL L) n).length ≤ 1000) := Lib.hid (Nat.le_trans (ordB_len HRT.out hk) (by rw [coreL_len]; exact HS.out.1))
  have GO0 := Lib.hid (GoingB.start (sh := sh) hk)
  have HA0 : Hid (Hand w ((w.alloc (.cells #[.int .i64 n] 3)).alloc (.cells #[.slice (some ⟨w.heap.size, 0, none⟩) 1 1] 51)) w.heap.size (w.heap.size + 1) w.heap.size 1 (.slice none 0 0) [] [(n : Int)]) := Lib.hid (by
    have h1 : (w.alloc (.cells #[.int .i64 n] 3)).heap.size = w.heap.size + 1 := by simp
    have h2 := World.ownsRow_lit (base := w.heap.size) (e := 3) (size := 1) w #[.int .i64 n] 1 (Nat.le_refl _) (by unfold maxLen; omega) (by simp)
    refine ⟨(below_box w _).alloc (by simp) _, ?_, by omega, h2.alloc _, World.ownsRow_nil _ _ _ _, by simp [Value.ownBlock]⟩
    have := Boxed.new (w.alloc (.cells #[.int .i64 n] 3)) 51 (.slice (some ⟨w.heap.size, 0, none⟩) 1 1)
    rwa [h1] at this)
  have HKN0 := Lib.hid hk
  clear hk
  refine wpIn_loop (fun a' W => ∃ (ds : List Nat) (out P : List Int) (vo : Value) (Bp g cp : Nat) (u9 u10 u11 u12 u13 u16 u17 u18 u19 u20 u21 u22 u23 u24 u25 u26 u27 u28 u29 u30 u31 u32 u33 u34 u35 u36 u37 u38 u39 u40 u41 u42 u43 u44 u45 u46 u47 u48 u49 u50 u51 u52 u53 u54 u55 u56 u57 u58 u59 u60 : Value), Hid (Hand w W w.heap.size Bp g cp vo out P) ∧ Hid (GoingB sh (coreL L) n out P) ∧ Hid (Marks w.heap.size ds W) ∧ a' = { tmps := #[.slice (some ⟨b, off, none⟩) len cap, .int .i64 n, .bool sh, undef, undef, undef, .slice none 0 0, vo, .pointer (some ⟨Bp, 0, none⟩), u9, u10, u11, u12, u13, .int .i64 n, .slice (some ⟨w.heap.size, 0, none⟩) 1 1, u16, u17, u18, u19, u20, u21, u22, u23, u24, u25, u26, u27, u28, u29, u30, u31, u32, u33, u34, u35, u36, u37, u38, u39, u40, u41, u42, u43, u44, u45, u46, u47, u48, u49, u50, u51, u52, u53, u54, u55, u56, u57, u58, u59, u60], defers := ds.map markD })
    (fun a' _ => (ordB sh (coreL L) n).length - sliceN (a'.tmps.getD 7 undef)) ?_ ?_
  · exact ⟨[], [], [(n : Int)], _, _, _, _, _, _, _, _, _, _, _, _, _, _, _, _, _, _, _, _, _, _, _, _, _, _, _, _, _, _, _, _, _, _, _, _, _, _, _, _, _, _, _, _, _, _, _, _, _, _, _, _, _, _, HA0, GO0, Lib.hid ⟨List.nodup_nil, fun D hD => by cases hD⟩, rfl⟩
  · clear GO0 HA0
    rintro a' W ⟨ds, out, P, vo, Bp, g, cp, u9, u10, u11, u12, u13, u16, u17, u18, u19, u20, u21, u22, u23, u24, u25, u26, u27, u28, u29, u30, u31, u32, u33, u34, u35, u36, u37, u38, u39, u40, u41, u42, u43, u44, u45, u46, u47, u48, u49, u50, u51, u52, u53, u54, u55, u56, u57, u58, u59, u60, HA, GO, MK, rfl⟩
    rcases List.eq_nil_or_concat P with rfl | ⟨Q, z, hP⟩
    · have pc : W.cell? ⟨Bp, 0, none⟩ = some (.slice (some ⟨g, 0, none⟩) 0 cp) := HA.out.pile.cell
      gi_wp2
      refine leaves_marks w.heap.size (fun W => W.ownsRow w.heap.size 3 1 vo out.length (out.map encI) ∧ Below w.heap.size w W) ?_ ?_ ds W MK.out ⟨HA.out.orow, HA.out.below⟩
      · rintro W5 D ⟨h1, h2⟩ hD hK
        have hlt := (Array.getElem?_eq_some_iff.1 hK).1
        refine ⟨h1.kept (grownBy_putObj' W5 D _) ?_, (h2.grown (grownBy_putObj' W5 D _) (by omega) (fun k e => by injection e with e; omega))⟩
        cases hv : vo.ownBlock with
        | none => exact .inl rfl
        | some k =>
          refine .inr (fun e => ?_)
          injection e with e
          obtain ⟨c, t, f, hc⟩ := own_cells h1 k hv
          rw [e, hK] at hc
          cases hc
      · rintro W5 ⟨h1, h2⟩
        rw [map_encI] at h1
        have hout : out = ordB sh (coreL L) n := by
          have := GO.out.eq
          simpa using this
        rw [hout] at h1
        exact ⟨vo, by simp [results, Tryz.results145], vo, rfl, h1, h2⟩
    · rw [List.concat_eq_append] at hP
      subst hP
      have pc : W.cell? ⟨Bp, 0, none⟩ = some (.slice (some ⟨g, 0, none⟩) (Q.length + 1) cp) := by simpa using HA.out.pile.cell
      have pf := HA.out.pile.frozen
      have zc : W.cell? ⟨g, Q.length, none⟩ = some (.int .i64 z) := by
        have := HA.out.prow.cells (g := g) rfl Q.length (.int .i64 z) (by simp)
        rwa [Go.WideShapes.add_plain, Nat.zero_add] at this
      obtain ⟨hz0, hz1'⟩ := GO.out.inF z (by simp)
      obtain ⟨zi, rfl⟩ : ∃ zi : Nat, z = zi := ⟨z.toNat, by omega⟩
      have hzl : zi < len := by rw [coreL_len, HL.out] at hz1'; omega
      have hcp : (Q.length : Int) ≤ (cp : Int) := by
        rcases HA.out.prow.2 with ⟨hv, _⟩ | ⟨_, _, _, hv, _, _, h1, _⟩
        · cases hv
        · injection hv with _ _ h3
          subst h3
          simp at h1
          omega
      have HA1 := Lib.hid HA.out.pop
      have hsz := HA.out.size
      have hlen := GO.out.len
      have hln := HN.out
      have hq64 : Q.length ≤ 1000 := by simp at hlen; omega
      have ho64 : out.length ≤ 1000 := by omega
      clear hz0 hz1' hlen hln
      gi_wp2_with (first
        | (gi_at_builtin
           refine wpListIn_append_keep _ rfl _ _ 51 rfl w.heap.size 3 i0 _ 1 8 Tryz.underlying51 hi0 hz0 hz1 hz2 rfl (by decide) vo out.length (out.map encI) rfl (HA1.out.orow.alloc _) ⟨W.heap.size, 0, none⟩ 1 1 [encI (zi : Int)] rfl rfl (by simpa using cell_one_new (W.setCell ⟨Bp, 0, none⟩ (.slice (some ⟨g, 0, none⟩) Q.length cp)) (encI (zi : Int)) 3) (by simp [Value.oneCell']) (by decide) (by unfold maxLen; omega) (by omega) (by simp; omega) ?_
           intro g2 cap2 w2 hown2 hold2 hg2 hat2 hlt2
           have HA2 := Lib.hid (HA1.out.more hown2 hg2 hat2)
           have BX2 := Lib.hid (NR.out.below HA2.out.below)
           obtain ⟨b', off', y, hab, hb2, hx, hat, hok⟩ := BX2.out.get hzl
           injection hab with hab
           injection hab with e1 e2
           subst e1 e2
           have c6 := hat.c6
           have HX := Lib.hid hx
           have HKR := Lib.hid (hok.kids)
           have HKN : Hid (y.kN ≤ 1000) := Lib.hid (by rw [← hok.kids.hlen]; exact (HS.out.2 y (List.mem_of_getElem? hx)).1)
           have HLOW : Hid (∀ b' off', y.kA = some ⟨b', off', none⟩ → 0 < y.kN → b' < w.heap.size) := Lib.hid (fun b' off' ha hp => by
             obtain ⟨_, _, y2, e1, _, hy, _, hoky⟩ := NR.out.get hzl
             obtain rfl : y = y2 := Option.some.inj (hx.symm.trans hy)
             rcases hoky.kids.row.cells with h0 | ⟨b2, o2, ha2, hlt, _⟩
             · omega
             · rw [ha] at ha2
               injection ha2 with ha2
               injection ha2 with e3
               omega)
           have MK2 := Lib.hid (((MK.out.kept (grownBy_setCell' W Bp _) (fun r e => .inl (by cases e; exact ⟨_, _, _, HA.out.pile⟩))).kept (World.grownBy_alloc _ (.cells #[.int .i64 (zi : Int)] 3) none) (fun r e => by cases e)).kept hg2 (fun r e => .inl (own_cells (HA1.out.orow.alloc _) r e)))
           clear hat hx hok hold2 hown2 hg2 hat2)
        | (refine ⟨trivial, ?_⟩; gi_at_call 165; refine (callsIn_wide.2 (backward_any _ _ _ _)).mono ?_; rintro e w3 ⟨rfl, rfl⟩))
      have hbs := Boxed.new w2 51 (.slice y.kA y.kN y.kC)
      have hsz2 := HA2.out.size
      refine wpIn_rangeFunc_ownG (F := Fence.wide) (n := 8) rfl (by decide) (gf := 177) (lb := #[.pointer (some ⟨w2.heap.size, 0, none⟩)]) rfl trivial (enters_of Tryz.func177 (by kernel_rfl) rfl)
        (back_stops Fence.wide 7 trivial rfl (by decide) w2.heap.size w.heap.size y.kA y.kN y.kC y.core.kids (w2.alloc (.cells #[.slice y.kA y.kN y.kC] 51)) (by simp) hbs.cell (HKR.out.below (below_box _ _)) HLOW.out)
        (fun h k => ⟨k.1.trans h.1, h.2.trans k.2⟩) (fun W l o o' hl h hc hw => ⟨World.putObj_heap_other (by simp at hl; omega), belowK_b (w := w2.alloc (.cells #[.slice y.kA y.kN y.kC] 51)) (by simp; omega) W l o o' hl h hc hw⟩) (Below.refl _ _) (fun _ => rfl)
        (fun pre W' => ∃ g cp, Hand w W' w.heap.size Bp g cp (.slice (some ⟨g2, 0, none⟩) (out.length + 1) cap2) (out ++ [(zi : Int)]) (Q ++ pre.map Prod.snd) ∧ Boxed W' w2.heap.size 51 (.slice y.kA y.kN y.kC) ∧ Marks w.heap.size ds W')
        (fun _ _ _ => False)
        (fun pre X Y row h hg hr => by
          obtain ⟨g, cp, hh, hb, hm⟩ := h
          refine ⟨g, cp, hh.other hg (fun r e => ⟨by have := (hr r e).1; simp at this; omega, (hr r e).2⟩), hb.kept hg (fun e => ?_), hm.kept hg (fun r e => .inr (fun hd => ?_))⟩
          · have := (hr _ e.symm).1
            simp at this
            omega
          · have h1 := (hr r e).1
            have h2 := (Array.getElem?_eq_some_iff.1 (MK2.out.at_ r hd).2).1
            simp at h1
            omega)
        (fun _ _ _ _ _ hs _ _ => hs)
        ⟨g, cp, by simpa using HA2.out.alloc _, hbs, MK2.out.kept (World.grownBy_alloc _ _ none) (fun r e => by cases e)⟩
        (fun x => { tmps := #[.slice (some ⟨b, off, none⟩) len cap, .int .i64 n, .bool sh, undef, undef, undef, .slice none 0 0, .slice (some ⟨g2, 0, none⟩) (out.length + 1) cap2, .pointer (some ⟨Bp, 0, none⟩), .int .i64 (Q.length : Int), .int .i64 (zi : Int), u11, .int .i64 x.2, u13, .int .i64 n, .slice (some ⟨w.heap.size, 0, none⟩) 1 1, .slice (some ⟨g, 0, none⟩) (Q.length + 1) cp, .int .i64 ((Q.length : Int) + 1), .bool true, .slice (some ⟨g, 0, none⟩) (Q.length + 1) cp, .int .i64 ((Q.length : Int) + 1), .int .i64 (Q.length : Int), .slice (some ⟨g, 0, none⟩) (Q.length + 1) cp, .int .i64 (Q.length : Int), .pointer (some ⟨g, Q.length, none⟩), .int .i64 (zi : Int), .slice (some ⟨g, 0, none⟩) (Q.length + 1) cp, .int .i64 (Q.length : Int), .slice (some ⟨g, 0, none⟩) Q.length cp, vo, .int .i64 (zi : Int), .slice (some ⟨W.heap.size, 0, none⟩) 1 1, .slice (some ⟨g2, 0, none⟩) (out.length + 1) cap2, .slice (some ⟨b, off, none⟩) len cap, .int .i64 (zi : Int), .pointer (some ⟨b, off + zi * 10, none⟩), .pointer (some ⟨b, off + zi * 10 + 6, none⟩), .slice y.kA y.kN y.kC, .func (.func 177) #[] #[.pointer (some ⟨w2.heap.size, 0, none⟩)], .int .i64 x.1, .int .i64 x.2, u41, u42, u43, u44, u45, u46, u47, u48, u49, u50, u51, u52, u53, u54, u55, u56, u57, u58, u59, u60], defers := [] }) ?assign ?body ?done ?stop
      case assign =>
        intro l x W K hK
        gi_wp2
        exact hK
      case body =>
        rintro l pre x W5 ⟨g5, cp5, HH, hbx, hm⟩ hlt
        have pc5 := HH.pile.cell
        have hsz5 := HH.size
        have hkn := HKN.out
        have hpl : (Q ++ pre.map Prod.snd).length ≤ 2000 := by simp; omega
        obtain ⟨k5, hk5⟩ : ∃ k5, (Q ++ pre.map Prod.snd).length = k5 := ⟨_, rfl⟩
        have HK5 := Lib.hid hk5
        have HP := Lib.hid HH
        rw [hk5] at pc5 hpl
        have hrow := HH.prow
        rw [hk5] at hrow
        have HROW := Lib.hid hrow
        clear hrow hk5 HH
        gi_wp2_with (gi_at_builtin
                     refine wpListIn_append_keep _ rfl _ _ 51 rfl w.heap.size 3 i0 _ 1 8 Tryz.underlying51 hi0 hz0 hz1 hz2 rfl (by decide) (.slice (some ⟨g5, 0, none⟩) k5 cp5) k5 ((Q ++ pre.map Prod.snd).map encI) rfl (HROW.out.alloc _) ⟨W5.heap.size, 0, none⟩ 1 1 [encI x.2] rfl rfl (cell_one_new W5 (encI x.2) 3) (by simp [Value.oneCell']) (by decide) (by unfold maxLen; omega) (by omega) (by simp; omega) ?_
                     intro g6 cap6 w6 hown6 hold6 hg6 hat6 hlt6
                     obtain ⟨hb6, hh6⟩ := HP.out.push (by rw [HK5.out]; exact hown6) (by rw [HK5.out]; exact hg6) (by rw [HK5.out]; exact hat6)
                     obtain ⟨-, -, -, hk6, hbl6⟩ := HP.out.pile.appended (by decide) HP.out.prow HP.out.size HP.out.low (by rw [← HK5.out] at hown6; exact hown6) (by rw [HK5.out]; exact hg6)
                     have c6 := hb6.cell
                     have f6 := hb6.frozen
                     rw [HK5.out] at c6 hh6 hk6 hbl6)
        have hne6 : w2.heap.size ≠ Bp := Nat.ne_of_gt HA2.out.pile.lt
        have hbx6 := (hbx.alloc (.cells #[encI x.2] 3)).kept hg6 ((hbx.alloc (.cells #[encI x.2] 3)).not_row (by decide) (HROW.out.alloc _))
        have hbx7 := hbx6.kept (grownBy_setCell' w6 Bp (.slice (some ⟨g6, 0, none⟩) (k5 + 1) cap6)) (fun e => hne6 (by injection e))
        have hm6 := ((hm.kept (World.grownBy_alloc _ (.cells #[encI x.2] 3) none) (fun r e => by cases e)).kept hg6 (fun r e => .inl (own_cells (HROW.out.alloc _) r e))).kept (grownBy_setCell' w6 Bp (.slice (some ⟨g6, 0, none⟩) (k5 + 1) cap6)) (fun r e => .inl (by cases e; exact ⟨_, _, _, hb6⟩))
        exact ⟨hk6.from _, ⟨hbx7.trans hbx.symm, hbl6⟩, g6, cap6, by simpa using hh6, hbx7, hm6⟩
      case done =>
        rintro D ys W4 hD rfl ⟨g4, cp4, HH, hbx, hm⟩ hK
        have hkl := HKR.out.hlen
        rw [← hkl, backTo_snd] at HH
        have pc4 := HH.pile.cell
        have hsz4 := HH.size
        have HP := Lib.hid HH
        have GO2 := Lib.hid (GO.out.step HRT.out (z := (zi : Int)) (x := y.core) (by rw [Int.toNat_natCast]; exact coreL_get HX.out))
        have SN1 := Lib.hid (sliceN_own HA.out.orow)
        have BX4 := Lib.hid (NR.out.below HP.out.below)
        obtain ⟨b', off', y', hab, hb4, hx4, hat4, -⟩ := BX4.out.get hzl
        injection hab with hab
        injection hab with e1 e2
        subst e1 e2
        obtain rfl : y = y' := Option.some.inj (HX.out.symm.trans hx4)
        have c8 := hat4.c8
        clear hx4 hat4
        have MD : Hid (Marks w.heap.size (D :: ds) W4) := Lib.hid ⟨List.nodup_cons.2 ⟨fun hd => by
          have h2 := (Array.getElem?_eq_some_iff.1 (MK2.out.at_ D hd).2).1
          simp at hD
          omega, hm.nd⟩, fun E hE => by
          rcases List.mem_cons.1 hE with rfl | hE
          · exact ⟨by simp at hD; omega, hK⟩
          · exact hm.at_ E hE⟩
        have MEA : Hid (∀ cap : Nat, (ordB sh (coreL L) n).length - sliceN (.slice (some ⟨g2, 0, none⟩) (out.length + 1) cap) < (ordB sh (coreL L) n).length - sliceN vo) := Lib.hid (fun cap => by
          show (ordB sh (coreL L) n).length - (out.length + 1) < (ordB sh (coreL L) n).length - sliceN vo
          rw [SN1.out]
          have h1 := GO.out.len
          rw [List.length_append] at h1
          simp at h1
          omega)
        have hkn := HKN.out
        have hpl : (Q ++ y.core.kids.reverse).length ≤ 2000 := by rw [List.length_append, List.length_reverse]; omega
        obtain ⟨k4, hk4⟩ : ∃ k4, (Q ++ y.core.kids.reverse).length = k4 := ⟨_, rfl⟩
        have HK4 := Lib.hid hk4
        rw [hk4] at pc4 hpl
        have hrow := HH.prow
        rw [hk4] at hrow
        have HROW := Lib.hid hrow
        clear HH hrow hk4 hkl hkn
        cases sh with
        | false =>
          have HNX := Lib.hid HP.out.next
          rw [HK4.out] at HNX
          have GO3 : Hid (GoingB false (coreL L) n (out ++ [(zi : Int)]) (Q ++ y.core.kids.reverse)) := Lib.hid (by
            have := GO2.out
            unfold undB at this
            rwa [if_neg (by decide), List.append_nil] at this)
          gi_wp2
          refine ⟨⟨D :: ds, out ++ [(zi : Int)], Q ++ y.core.kids.reverse, _, W4.heap.size, ⟨g4, cp4, HNX⟩, GO3, Lib.hid (MD.out.kept (World.grownBy_alloc _ _ none) (fun r e => by cases e)), ⟨rfl, rfl⟩, rfl⟩, ?_⟩
          exact MEA.out _
        | true =>
          by_cases hu : y.core.under = -1
          · have HNX := Lib.hid HP.out.next
            rw [HK4.out] at HNX
            have GO3 : Hid (GoingB true (coreL L) n (out ++ [(zi : Int)]) (Q ++ y.core.kids.reverse)) := Lib.hid (by
              have := GO2.out
              unfold undB undL at this
              rw [if_pos rfl] at this
              rwa [if_pos hu, List.append_nil] at this)
            rw [hu] at c8
            clear hu
            gi_wp2
            refine ⟨⟨D :: ds, out ++ [(zi : Int)], Q ++ y.core.kids.reverse, _, W4.heap.size, ⟨g4, cp4, HNX⟩, GO3, Lib.hid (MD.out.kept (World.grownBy_alloc _ _ none) (fun r e => by cases e)), ⟨rfl, rfl⟩, rfl⟩, ?_⟩
            exact MEA.out _
          · obtain ⟨s, u, hs, hsg, -⟩ := right_under HRT.out (coreL_get HX.out) hu
            have hsl := (List.getElem?_eq_some_iff.1 hsg).1
            rw [coreL_len, HL.out] at hsl
            have GO3 : Hid (GoingB true (coreL L) n (out ++ [(zi : Int)]) (Q ++ y.core.kids.reverse ++ [(s : Int)])) := Lib.hid (by
              have := GO2.out
              unfold undB undL at this
              rw [if_pos rfl] at this
              rwa [if_neg hu, hs] at this)
            rw [hs] at c8
            have hsn : ((s : Int) != -1) = true := bne_iff_ne.2 (by omega)
            clear hu hs hsg
            gi_wp2_with (gi_at_builtin
                         refine wpListIn_append_keep _ rfl _ _ 51 rfl w.heap.size 3 i0 _ 1 8 Tryz.underlying51 hi0 hz0 hz1 hz2 rfl (by decide) (.slice (some ⟨g4, 0, none⟩) k4 cp4) k4 ((Q ++ y.core.kids.reverse).map encI) rfl (HROW.out.alloc _) ⟨W4.heap.size, 0, none⟩ 1 1 [encI (s : Int)] rfl rfl (cell_one_new W4 (encI (s : Int)) 3) (by simp [Value.oneCell']) (by decide) (by unfold maxLen; omega) (by omega) (by simp; omega) ?_
                         intro g6 cap6 w6 hown6 hold6 hg6 hat6 hlt6
                         obtain ⟨hb6, hh6⟩ := HP.out.push (by rw [HK4.out]; exact hown6) (by rw [HK4.out]; exact hg6) (by rw [HK4.out]; exact hat6)
                         have c6 := hb6.cell
                         have f6 := hb6.frozen
                         rw [HK4.out] at c6 hh6
                         have H6 := Lib.hid hh6
                         have M6 := Lib.hid (((MD.out.kept (World.grownBy_alloc _ (.cells #[encI (s : Int)] 3) none) (fun r e => by cases e)).kept hg6 (fun r e => .inl (own_cells (HROW.out.alloc _) r e))).kept (grownBy_setCell' w6 Bp (.slice (some ⟨g6, 0, none⟩) (k4 + 1) cap6)) (fun r e => .inl (by cases e; exact ⟨_, _, _, hb6⟩)))
                         clear hh6 hg6 hat6 hown6 hold6)
            have HNX := Lib.hid H6.out.next
            rw [List.length_append, HK4.out] at HNX
            refine ⟨⟨D :: ds, out ++ [(zi : Int)], Q ++ y.core.kids.reverse ++ [(s : Int)], _, (w6.setCell ⟨Bp, 0, none⟩ (.slice (some ⟨g6, 0, none⟩) (k4 + 1) cap6)).heap.size, ⟨g6, cap6, HNX⟩, GO3, Lib.hid (M6.out.kept (World.grownBy_alloc _ _ none) (fun r e => by cases e)), ⟨rfl, by simp [World.setCell]⟩, rfl⟩, ?_⟩
            exact MEA.out _
      case stop =>
        rintro D c pre W _ _ h _
        exact h.elim
end Go.Proofs.YtbgcpgpkhfbijaaGreatDoor
/- Package forest's Order: package walk's. -/
namespace Go.Proofs.YtbgcpgpkhfbijaaGreatDoor
open Go.RowKit Go.Shelf
set_option maxHeartbeats 8000000 in
set_option maxRecDepth 100000 in
theorem orderNot_any (a : Option Addr) (len cap : Nat) (m : Int) (L : List NodeD) (n : Int) (w : World) (h : NodeRow w a len cap L) (hm : In64 m) (hn : In64 n) (hs : smallF L) (hq : thereF m (coreL L) n = false) :
    Calls Tryz.prog 52 #[forV a len cap m, .int .i64 n] w (OrdPost w (ordZ m (coreL L) n)) := by
  have BX := Lib.hid ((Box.start (m := m) h).keep (below_box _ (.cells #[.int .i64 n] 3)))
  have NB := Lib.hid (lit_one (w.alloc (forB a len cap m)) 3 n hn)
  have CK : Hid (∀ W b, NodeRow W a len cap L → IntRow W b 1 1 [n] → Calls Tryz.prog 109 #[forV a len cap m, .slice b 1 1] W fun e w' => e = .returned (.bool false) ∧ Below W.heap.size W w') := Lib.hid (fun W b h1 h2 => by
    rw [← hq, ← knowsB_one]
    exact knows_any a len cap m L b 1 1 [n] W h1 hm hs h2)
  simp only [World.size_alloc] at NB
  have z0 := BX.out.c0
  have z1 := BX.out.c1
  have HR : Hid (ordZ m (coreL L) n = []) := Lib.hid (by unfold ordZ; rw [hq]; rfl)
  clear h hm hs hn hq
  go_enter Tryz.func52, Tryz.ntmps52
  go_wp2_with (first
                  | (go_at_call 109; ((with_reducible refine (CK.out _ _ BX.out.row NB.out).mono ?_); rintro e w1 ⟨rfl, hb⟩; have BX := Lib.hid (BX.out.keep hb); have z0 := BX.out.c0; have z1 := BX.out.c1; clear hb))
                  | (go_at_call 154; ((with_reducible refine (CU.out _ BX.out.row).mono ?_); rintro e w1 ⟨rfl, rfl⟩)))
  go_ret
  exact ⟨none, 0, 0, rfl, by rw [HR.out]; exact ⟨SRow.nil, (fun z hz => by cases hz), fun _ => rfl⟩, BX.out.below⟩
theorem OwnPostI.new {w w' : World} {l : List Int} {e : Ending} (h : OwnPostI w l e w') (hin : ∀ z ∈ l, In64 z) : ∃ a len cap, e = .returned (.slice a len cap) ∧ IntRow w' a len cap l ∧ Below w.heap.size w w' ∧ ∀ b off, a = some ⟨b, off, none⟩ → w.heap.size ≤ b := by
  obtain ⟨v, he, ho, hb⟩ := h
  obtain ⟨a9, cap9, hv9, hr9, hlo9⟩ := IntRow.of_own_new (M := l) (n := l.length) rfl ho hin
  exact ⟨a9, l.length, cap9, by rw [he, hv9], hr9, hb, hlo9⟩
/-- A row of numbers, in new memory. -/
def OrdNew (w : World) (l : List Int) (e : Ending) (w' : World) : Prop := ∃ a len cap, e = .returned (.slice a len cap) ∧ IntRow w' a len cap l ∧ Below w.heap.size w w' ∧ ∀ b off, a = some ⟨b, off, none⟩ → w.heap.size ≤ b
theorem OrdNew.post {w w' : World} {l : List Int} {e : Ending} (h : OrdNew w l e w') : OrdPost w l e w' := by
  obtain ⟨a, len, cap, h1, h2, h3, _⟩ := h
  exact ⟨a, len, cap, h1, h2, h3⟩
theorem ordB_in {m : Int} {sh : Bool} {F : List Core} (hr : rightF m F = true) {n : Nat} (hn : n < F.length) : ∀ z ∈ ordB sh F (n : Int), ∃ t : Nat, z = t ∧ t < F.length := by
  intro z hz
  cases sh
  · have hz : z ∈ ordI F (n : Int) := hz
    unfold ordI at hz
    obtain ⟨k, hk, rfl⟩ := List.mem_map.1 hz
    exact ⟨k, rfl, (tree_of_right hr).ord_lt _ n hn k (by rw [Int.toNat_natCast] at hk; exact hk)⟩
  · have hz : z ∈ allI F (n : Int) := hz
    unfold allI at hz
    obtain ⟨k, hk, rfl⟩ := List.mem_map.1 hz
    exact ⟨k, rfl, (treeS hr).ord_lt _ _ hn k (by rw [Int.toNat_natCast] at hk; exact hk)⟩
set_option maxHeartbeats 4000000 in
theorem wtree_any (a : Option Addr) (len cap : Nat) (m : Int) (L : List NodeD) (n : Nat) (w : World) (h : NodeRow w a len cap L) (hs : smallF L) (hr : rightF m (coreL L) = true) (hn : n < len) :
    Calls Tryz.prog 99 #[.slice a len cap, .int .i64 n] w (OrdNew w (ordI (coreL L) n)) := by
  have CO : Hid (Calls Tryz.prog 145 #[.slice a len cap, .int .i64 n, .bool false] w (OwnPostI w (ordI (coreL L) n))) := Lib.hid (worder_any a len cap m L n false w h hs hr hn)
  have HIN : Hid (∀ z ∈ ordI (coreL L) n, In64 z) := Lib.hid (fun z hz => by
    obtain ⟨t, rfl, ht⟩ := ordB_in (sh := false) hr (by rw [coreL_len, h.hlen]; exact hn) z hz
    rw [coreL_len, h.hlen] at ht
    have := h.len64
    exact ⟨by omega, by omega⟩)
  clear h hs hr
  go_enter Tryz.func99, Tryz.ntmps99
  go_wp2_with (go_at_call 145; (with_reducible refine CO.out.mono ?_); intro e w1 hp; obtain ⟨a9, len9, cap9, rfl, hr9, hb9, hlo9⟩ := hp.new HIN.out)
  go_ret
  exact ⟨a9, len9, cap9, rfl, hr9, hb9, hlo9⟩
set_option maxHeartbeats 4000000 in
theorem wfull_any (a : Option Addr) (len cap : Nat) (m : Int) (L : List NodeD) (n : Nat) (w : World) (h : NodeRow w a len cap L) (hs : smallF L) (hr : rightF m (coreL L) = true) (hn : n < len) :
    Calls Tryz.prog 112 #[.slice a len cap, .int .i64 n] w (OrdNew w (allI (coreL L) n)) := by
  have CO : Hid (Calls Tryz.prog 145 #[.slice a len cap, .int .i64 n, .bool true] w (OwnPostI w (allI (coreL L) n))) := Lib.hid (worder_any a len cap m L n true w h hs hr hn)
  have HIN : Hid (∀ z ∈ allI (coreL L) n, In64 z) := Lib.hid (fun z hz => by
    obtain ⟨t, rfl, ht⟩ := ordB_in (sh := true) hr (by rw [coreL_len, h.hlen]; exact hn) z hz
    rw [coreL_len, h.hlen] at ht
    have := h.len64
    exact ⟨by omega, by omega⟩)
  clear h hs hr
  go_enter Tryz.func112, Tryz.ntmps112
  go_wp2_with (go_at_call 145; (with_reducible refine CO.out.mono ?_); intro e w1 hp; obtain ⟨a9, len9, cap9, rfl, hr9, hb9, hlo9⟩ := hp.new HIN.out)
  go_ret
  exact ⟨a9, len9, cap9, rfl, hr9, hb9, hlo9⟩
set_option maxHeartbeats 4000000 in
set_option maxRecDepth 100000 in
theorem orderNew_any (a : Option Addr) (len cap : Nat) (m : Int) (L : List NodeD) (n : Nat) (w : World) (h : NodeRow w a len cap L) (hm : In64 m) (hs : smallF L) (hq : thereF m (coreL L) n = true) :
    Calls Tryz.prog 52 #[forV a len cap m, .int .i64 n] w (OrdNew w (ordZ m (coreL L) n)) := by
  have hn : In64 (n : Int) := ⟨by omega, by have h1 := (there_nat hq).2; obtain ⟨k, h2, h3⟩ := h1; rw [coreL_len, h.hlen] at h3; have := h.len64; omega⟩
  have BX := Lib.hid ((Box.start (m := m) h).keep (below_box _ (.cells #[.int .i64 n] 3)))
  have NB := Lib.hid (lit_one (w.alloc (forB a len cap m)) 3 n hn)
  have CK : Hid (∀ W b, NodeRow W a len cap L → IntRow W b 1 1 [(n : Int)] → Calls Tryz.prog 109 #[forV a len cap m, .slice b 1 1] W fun e w' => e = .returned (.bool true) ∧ Below W.heap.size W w') := Lib.hid (fun W b h1 h2 => by
    rw [← hq, ← knowsB_one]
    exact knows_any a len cap m L b 1 1 [(n : Int)] W h1 hm hs h2)
  simp only [World.size_alloc] at NB
  have z0 := BX.out.c0
  have z1 := BX.out.c1
  obtain ⟨hr, k, hkn, hk⟩ := there_nat hq
  obtain rfl : n = k := Int.ofNat.inj hkn
  have HZ : Hid (ordZ m (coreL L) n = ordI (coreL L) n) := Lib.hid (by unfold ordZ ordI; rw [hq, if_pos rfl, Int.toNat_natCast])
  rw [coreL_len, h.hlen] at hk
  have CT : Hid (∀ W, NodeRow W a len cap L → Calls Tryz.prog 99 #[.slice a len cap, .int .i64 n] W (OrdNew W (ordI (coreL L) n))) := Lib.hid (fun W h1 => wtree_any a len cap m L n W h1 hs hr hk)
  clear h hm hs hn hq hr hkn hk
  go_enter Tryz.func52, Tryz.ntmps52
  go_wp2_with (first
    | (first
          | (go_at_call 109; ((with_reducible refine (CK.out _ _ BX.out.row NB.out).mono ?_); rintro e w1 ⟨rfl, hb⟩; have BX := Lib.hid (BX.out.keep hb); have z0 := BX.out.c0; have z1 := BX.out.c1; clear hb))
          | (go_at_call 154; ((with_reducible refine (CU.out _ BX.out.row).mono ?_); rintro e w1 ⟨rfl, rfl⟩)))
    | (go_at_call 99; (with_reducible refine (CT.out _ BX.out.row).mono ?_); rintro e w2 ⟨a9, len9, cap9, rfl, hr9, hb9, hlo9⟩; have HSZ0 := Lib.hid BX.out.below.size; have BX := Lib.hid (BX.out.keep hb9)))
  go_ret
  exact ⟨a9, len9, cap9, rfl, by rw [HZ.out]; exact hr9, BX.out.below, fun b off h => Nat.le_trans HSZ0.out (hlo9 b off h)⟩
theorem orderIs_any (a : Option Addr) (len cap : Nat) (m : Int) (L : List NodeD) (n : Nat) (w : World) (h : NodeRow w a len cap L) (hm : In64 m) (hs : smallF L) (hq : thereF m (coreL L) n = true) :
    Calls Tryz.prog 52 #[forV a len cap m, .int .i64 n] w (OrdPost w (ordZ m (coreL L) n)) := (orderNew_any a len cap m L n w h hm hs hq).mono fun _ _ h => h.post
end Go.Proofs.YtbgcpgpkhfbijaaGreatDoor
/- Package shade's All: package walk's. -/
namespace Go.Proofs.YtbgcpgpkhfbijaaGreatDoor
open Go.RowKit Go.Shelf
set_option maxHeartbeats 8000000 in
set_option maxRecDepth 100000 in
theorem allNot_any (a : Option Addr) (len cap : Nat) (m : Int) (L : List NodeD) (n : Int) (w : World) (h : NodeRow w a len cap L) (hm : In64 m) (hn : In64 n) (hs : smallF L) (hq : thereF m (coreL L) n = false) :
    Calls Tryz.prog 54 #[forV a len cap m, .int .i64 n] w (OrdPost w (allZ m (coreL L) n)) := by
  have BX := Lib.hid ((Box.start (m := m) h).keep (below_box _ (.cells #[.int .i64 n] 3)))
  have NB := Lib.hid (lit_one (w.alloc (forB a len cap m)) 3 n hn)
  have CK : Hid (∀ W b, NodeRow W a len cap L → IntRow W b 1 1 [n] → Calls Tryz.prog 111 #[forV a len cap m, .slice b 1 1] W fun e w' => e = .returned (.bool false) ∧ Below W.heap.size W w') := Lib.hid (fun W b h1 h2 => by
    rw [← hq, ← knowsB_one]
    exact shknows_any a len cap m L b 1 1 [n] W h1 hm hs h2)
  simp only [World.size_alloc] at NB
  have z0 := BX.out.c0
  have z1 := BX.out.c1
  have HR : Hid (allZ m (coreL L) n = []) := Lib.hid (by unfold allZ; rw [hq]; rfl)
  clear h hm hs hn hq
  go_enter Tryz.func54, Tryz.ntmps54
  go_wp2_with (go_at_call 111; ((with_reducible refine (CK.out _ _ BX.out.row NB.out).mono ?_); rintro e w1 ⟨rfl, hb⟩; have BX := Lib.hid (BX.out.keep hb); have z0 := BX.out.c0; have z1 := BX.out.c1; clear hb))
  go_ret
  exact ⟨none, 0, 0, rfl, by rw [HR.out]; exact ⟨SRow.nil, (fun z hz => by cases hz), fun _ => rfl⟩, BX.out.below⟩
set_option maxHeartbeats 4000000 in
set_option maxRecDepth 100000 in
theorem allNew_any (a : Option Addr) (len cap : Nat) (m : Int) (L : List NodeD) (n : Nat) (w : World) (h : NodeRow w a len cap L) (hm : In64 m) (hs : smallF L) (hq : thereF m (coreL L) n = true) :
    Calls Tryz.prog 54 #[forV a len cap m, .int .i64 n] w (OrdNew w (allZ m (coreL L) n)) := by
  have hn : In64 (n : Int) := ⟨by omega, by have h1 := (there_nat hq).2; obtain ⟨k, h2, h3⟩ := h1; rw [coreL_len, h.hlen] at h3; have := h.len64; omega⟩
  have BX := Lib.hid ((Box.start (m := m) h).keep (below_box _ (.cells #[.int .i64 n] 3)))
  have NB := Lib.hid (lit_one (w.alloc (forB a len cap m)) 3 n hn)
  have CK : Hid (∀ W b, NodeRow W a len cap L → IntRow W b 1 1 [(n : Int)] → Calls Tryz.prog 111 #[forV a len cap m, .slice b 1 1] W fun e w' => e = .returned (.bool true) ∧ Below W.heap.size W w') := Lib.hid (fun W b h1 h2 => by
    rw [← hq, ← knowsB_one]
    exact shknows_any a len cap m L b 1 1 [(n : Int)] W h1 hm hs h2)
  simp only [World.size_alloc] at NB
  have z0 := BX.out.c0
  have z1 := BX.out.c1
  obtain ⟨hr, k, hkn, hk⟩ := there_nat hq
  obtain rfl : n = k := Int.ofNat.inj hkn
  have HZ : Hid (allZ m (coreL L) n = allI (coreL L) n) := Lib.hid (allZ_eq hr hk)
  rw [coreL_len, h.hlen] at hk
  have CT : Hid (∀ W, NodeRow W a len cap L → Calls Tryz.prog 112 #[.slice a len cap, .int .i64 n] W (OrdNew W (allI (coreL L) n))) := Lib.hid (fun W h1 => wfull_any a len cap m L n W h1 hs hr hk)
  clear h hm hs hn hq hr hkn hk
  go_enter Tryz.func54, Tryz.ntmps54
  go_wp2_with (first
    | (go_at_call 111; ((with_reducible refine (CK.out _ _ BX.out.row NB.out).mono ?_); rintro e w1 ⟨rfl, hb⟩; have BX := Lib.hid (BX.out.keep hb); have z0 := BX.out.c0; have z1 := BX.out.c1; clear hb))
    | (go_at_call 112; (with_reducible refine (CT.out _ BX.out.row).mono ?_); rintro e w2 ⟨a9, len9, cap9, rfl, hr9, hb9, hlo9⟩; have HSZ0 := Lib.hid BX.out.below.size; have BX := Lib.hid (BX.out.keep hb9)))
  go_ret
  exact ⟨a9, len9, cap9, rfl, by rw [HZ.out]; exact hr9, BX.out.below, fun b off h => Nat.le_trans HSZ0.out (hlo9 b off h)⟩
theorem allIs_any (a : Option Addr) (len cap : Nat) (m : Int) (L : List NodeD) (n : Nat) (w : World) (h : NodeRow w a len cap L) (hm : In64 m) (hs : smallF L) (hq : thereF m (coreL L) n = true) :
    Calls Tryz.prog 54 #[forV a len cap m, .int .i64 n] w (OrdPost w (allZ m (coreL L) n)) := (allNew_any a len cap m L n w h hm hs hq).mono fun _ _ h => h.post
end Go.Proofs.YtbgcpgpkhfbijaaGreatDoor
/- Package shade's Elems. -/
namespace Go.Proofs.YtbgcpgpkhfbijaaGreatDoor
open Go.RowKit
theorem allFn_any (a : Option Addr) (len cap : Nat) (m : Int) (L : List NodeD) (n : Int) (w : World) (h : NodeRow w a len cap L) (hm : In64 m) (hn : In64 n) (hs : smallF L) :
    Calls Tryz.prog 54 #[forV a len cap m, .int .i64 n] w (OrdPost w (allZ m (coreL L) n)) := by
  cases hq : thereF m (coreL L) n with
  | false => exact allNot_any a len cap m L n w h hm hn hs hq
  | true =>
    obtain ⟨_, k, rfl, _⟩ := there_nat hq
    exact allIs_any a len cap m L k w h hm hs hq
theorem allZ_num {m : Int} {F : List Core} {n z : Int} (hz : z ∈ allZ m F n) : ∃ k : Nat, z = k ∧ k < F.length := by
  cases hq : thereF m F n with
  | false =>
    unfold allZ at hz
    rw [hq] at hz
    cases hz
  | true =>
    obtain ⟨hr, k, rfl, hk⟩ := there_nat hq
    rw [allZ_eq hr hk] at hz
    exact allI_num hr hk hz
theorem allZ_len {m : Int} {F : List Core} {n : Int} : (allZ m F n).length ≤ F.length := by
  cases hq : thereF m F n with
  | false =>
    unfold allZ
    rw [hq]
    exact Nat.zero_le _
  | true =>
    obtain ⟨hr, k, rfl, hk⟩ := there_nat hq
    rw [allZ_eq hr hk]
    exact allI_len hr hk
/-- The elements of the first ones. -/
def selE (F : List Core) (l : List Int) (k : Nat) : List Int := (l.take k).filter (fun z => kindK F z == 1)
theorem selE_step {F : List Core} {l : List Int} {k : Nat} {z : Int} (h : l[k]? = some z) : selE F l (k + 1) = selE F l k ++ if kindK F z == 1 then [z] else [] := by
  obtain ⟨hl, hg⟩ := List.getElem?_eq_some_iff.1 h
  unfold selE
  rw [List.take_succ_eq_append_getElem hl, hg, List.filter_append]
  congr 1
  rw [List.filter_cons]
  rfl
theorem selE_len (F : List Core) (l : List Int) (k : Nat) : (selE F l k).length ≤ l.length := Nat.le_trans (List.length_filter_le _ _) (List.length_take_le' _ _)
set_option maxHeartbeats 8000000 in
set_option maxRecDepth 100000 in
theorem elemsFn_any (a : Option Addr) (len cap : Nat) (m : Int) (L : List NodeD) (n : Int) (w : World) (h : NodeRow w a len cap L) (hm : In64 m) (hn : In64 n) (hs : smallF L) :
    Calls Tryz.prog 39 #[forV a len cap m, .int .i64 n] w (OrdPost w (elemsZ m (coreL L) n)) := by
  have HCL : Hid ((coreL L).length = len) := Lib.hid (by rw [coreL_len, h.hlen])
  have hlen : len ≤ 1000 := by rw [← h.hlen]; exact hs.1
  have BX := Lib.hid (Box.start (m := m) h)
  have z0 := BX.out.c0
  have z1 := BX.out.c1
  obtain ⟨l, hl⟩ : ∃ l, allZ m (coreL L) n = l := ⟨_, rfl⟩
  have CA : Hid (∀ W, NodeRow W a len cap L → Calls Tryz.prog 54 #[forV a len cap m, .int .i64 n] W (OrdPost W l)) := Lib.hid (fun W h => by
    rw [← hl]
    exact allFn_any a len cap m L n W h hm hn hs)
  have NUM : Hid (∀ z ∈ l, ∃ k : Nat, z = k ∧ k < len) := Lib.hid (fun z hz => by
    rw [← hl] at hz
    rw [← HCL.out]
    exact allZ_num hz)
  have HLL : Hid (l.length ≤ 1000) := Lib.hid (by rw [← hl]; exact Nat.le_trans allZ_len (by rw [HCL.out]; exact hlen))
  have HE : Hid (elemsZ m (coreL L) n = selE (coreL L) l l.length) := Lib.hid (by unfold elemsZ selE; rw [hl, List.take_length])
  obtain ⟨i0, hi0, hz0, hz1, hz2⟩ := info_parts int_info
  clear h hm hn hs hl
  go_enter Tryz.func39, Tryz.ntmps39
  go_wp2_with (go_at_call 54; ((with_reducible refine (CA.out _ BX.out.row).mono ?_); rintro e w1 ⟨ao, lo, co, rfl, hro, hb⟩; have BX := Lib.hid (BX.out.keep hb); have IR := Lib.hid hro; have z0 := BX.out.c0; have z1 := BX.out.c1; clear hb hro))
  have hl64 := IR.out.len64
  have hl1k : lo ≤ 1000 := by rw [← IR.out.hlen]; exact HLL.out
  have OW0 : Hid (w1.ownsRow w1.heap.size 3 1 (.slice none 0 0) (selE (coreL L) l 0).length ((selE (coreL L) l 0).flatMap encZ)) := Lib.hid (World.ownsRow_nil _ _ _ _)
  go_loopw [5, 12] (fun v i wr => ∃ k : Nat, k ≤ lo ∧ i = .int .i64 k ∧ Hid (Below w1.heap.size w1 wr) ∧ Hid (wr.ownsRow w1.heap.size 3 1 v (selE (coreL L) l k).length ((selE (coreL L) l k).flatMap encZ))) (fun _ i _ => lo - (intOf i).toNat)
  case atStart => exact ⟨0, Nat.zero_le _, rfl, Lib.hid (Below.refl _ _), OW0⟩
  case round =>
    clear OW0 z0 z1
    obtain ⟨k, hk, rfl, HBW, OW⟩ := hrel
    have BX2 := Lib.hid (BX.out.keep HBW.out)
    have IR2 := Lib.hid (IR.out.below HBW.out)
    have z0 := BX2.out.c0
    have z1 := BX2.out.c1
    by_cases hlt : k < lo
    · obtain ⟨bo, oo, z, rfl, hbo, hz, hcz, -⟩ := IR2.out.get hlt
      obtain ⟨q, rfl, hq⟩ := NUM.out z (List.mem_of_getElem? hz)
      obtain ⟨b, off, x, rfl, hb, hx, hat, -⟩ := BX2.out.row.get hq
      have c0 := hat.c0
      have HKD : Hid (kindK (coreL L) (q : Int) = x.core.kind) := Lib.hid (by unfold kindK; rw [getC_nat, coreL_get hx])
      have HST := Lib.hid (selE_step (F := coreL L) hz)
      have hsl : (selE (coreL L) l k).length ≤ 1000 := Nat.le_trans (selE_len _ _ _) HLL.out
      obtain ⟨n1, hn1⟩ : ∃ n1, (selE (coreL L) l k).length = n1 := ⟨_, rfl⟩
      have HN1 := Lib.hid hn1
      rw [hn1] at OW hsl
      clear hz hx hat hn1
      by_cases hkd : x.core.kind = 1
      · have hk1 : (x.core.kind == 1) = true := beq_iff_eq.2 hkd
        have HS2 : Hid (selE (coreL L) l (k + 1) = selE (coreL L) l k ++ [(q : Int)]) := Lib.hid (by rw [HST.out, HKD.out, hk1]; rfl)
        clear hkd
        go_wp2_with (at_builtin
                     refine wpList_append_rows rfl (.tmp 23) (.tmp 25) 51 rfl 3 i0 _ 1 8 Tryz.underlying51 hi0 hz0 hz1 hz2 rfl (by decide) w1.heap.size _ n1 (selE (coreL L) l k) [(q : Int)] rfl (OW.out.alloc _) _ 1 1 rfl (own_one _ _ _ _ rfl rfl) (fun x _ => encZ_one x) (by unfold maxLen; omega) (by omega) (by have := HBW.out.size; simp; omega) (fun h => by cases h) ?_
                     intro v3 w3 hown3 hg3 hat3
                     have HB3 := Lib.hid (below_own HBW.out OW.out hg3)
                     have HO3 := Lib.hid hown3
                     clear hown3 hg3 hat3)
        go_roundw
        case rel => exact ⟨k + 1, by omega, by go_num, HB3, Lib.hid (by
          have h1 := HO3.out
          rw [← HS2.out] at h1
          rwa [show n1 + 1 = (selE (coreL L) l (k + 1)).length by rw [HS2.out, List.length_append, HN1.out]; rfl] at h1)⟩
        case measure => simp [intOf]; omega
      · have hk1 : (x.core.kind == 1) = false := beq_eq_false_iff_ne.2 hkd
        have HS2 : Hid (selE (coreL L) l (k + 1) = selE (coreL L) l k) := Lib.hid (by rw [HST.out, HKD.out, hk1]; simp)
        clear hkd
        go_wp2
        go_roundw
        case rel => exact ⟨k + 1, by omega, by go_num, HBW, Lib.hid (by rw [HS2.out, HN1.out]; exact OW.out)⟩
        case measure => simp [intOf]; omega
    · have hkk : k = lo := by omega
      subst hkk
      have HIN : Hid (∀ z ∈ selE (coreL L) l k, In64 z) := Lib.hid (fun z hz => by
        unfold selE at hz
        obtain ⟨q, rfl, hq⟩ := NUM.out z (List.mem_of_mem_take ((List.mem_filter.1 hz).1))
        exact ⟨by omega, by omega⟩)
      have HSE : Hid (elemsZ m (coreL L) n = selE (coreL L) l k) := Lib.hid (by rw [HE.out, IR.out.hlen])
      obtain ⟨a9, cap9, rfl, hr9, -⟩ := IntRow.of_own_new (M := selE (coreL L) l k) (n := (selE (coreL L) l k).length) rfl OW.out HIN.out
      have HR9 := Lib.hid hr9
      clear hr9 OW
      go_wp2
      go_ret
      exact ⟨a9, _, cap9, rfl, by rw [HSE.out]; exact HR9.out, BX2.out.below⟩
end Go.Proofs.YtbgcpgpkhfbijaaGreatDoor
/- Package forest's Ahead; all of its functions' contracts. -/
namespace Go.Proofs.YtbgcpgpkhfbijaaGreatDoor
open Go.RowKit
theorem orderFn_any (a : Option Addr) (len cap : Nat) (m : Int) (L : List NodeD) (n : Int) (w : World) (h : NodeRow w a len cap L) (hm : In64 m) (hn : In64 n) (hs : smallF L) :
    Calls Tryz.prog 52 #[forV a len cap m, .int .i64 n] w (OrdPost w (ordZ m (coreL L) n)) := by
  cases hq : thereF m (coreL L) n with
  | false => exact orderNot_any a len cap m L n w h hm hn hs hq
  | true =>
    obtain ⟨_, k, rfl, _⟩ := there_nat hq
    exact orderIs_any a len cap m L k w h hm hs hq
theorem ahead_find {m : Int} {F : List Core} (hr : rightF m F = true) {x y : Nat} (hx : x < F.length) (hy : y < F.length) : aheadZ m F (x : Int) (y : Int) = decide (findZ (ordZ m F (rootF F x : Nat)) (x : Int) < findZ (ordZ m F (rootF F x : Nat)) (y : Int)) := by
  have T := tree_of_right hr
  have hrl := rootF_lt hr hx
  rw [aheadZ_eq hr hx hy, ordZ_eq hr hrl]
  have hf : ∀ (l : List Nat) (z : Nat), findZ (l.map Int.ofNat) (z : Int) = if posN l z < l.length then (posN l z : Int) else -1 := fun l z => by
    have h1 : findN (l.map Int.ofNat) (z : Int) = posN l z := by
      unfold findN posN
      rw [List.findIdx_map]
      congr 1
      funext q
      show (Int.ofNat q == (z : Int)) = (q == z)
      rw [Bool.eq_iff_iff]
      simp
      omega
    unfold findZ
    rw [h1, List.length_map]
  rw [hf, hf]
  have hxin : x ∈ ordF F (rootF F x) := T.in_root (f := F.length + 1) hx (by omega)
  have hpx := posN_mem hxin
  rw [if_pos hpx]
  unfold aheadF
  by_cases he : rootF F x = rootF F y
  · rw [decide_eq_true he, Bool.true_and]
    have hyin : y ∈ ordF F (rootF F x) := by
      rw [he]
      exact T.in_root (f := F.length + 1) hy (by omega)
    rw [if_pos (posN_mem hyin)]
    exact decide_eq_decide.2 (by omega)
  · rw [decide_eq_false he, Bool.false_and]
    have hyn : y ∉ ordF F (rootF F x) := fun hm => by
      have hh := (T.mem_ord _ _ hrl (by omega) y hy).1 hm
      have h2 : parF F (rootF F x) = none := T.root_top _ x hx (by have := T.rank_le x hx; omega)
      exact he (T.root_of (f := F.length + 1) hy (by have := T.rank_le y hy; omega) hh h2).symm
    have hpy : ¬ posN (ordF F (rootF F x)) y < (ordF F (rootF F x)).length := fun h => by
      have h2 : ((ordF F (rootF F x))[posN (ordF F (rootF F x)) y] == y) = true := List.findIdx_getElem (w := h)
      have h3 : (ordF F (rootF F x))[posN (ordF F (rootF F x)) y] = y := by simpa using h2
      exact hyn (h3 ▸ List.getElem_mem h)
    rw [if_neg hpy]
    exact (decide_eq_false (by omega)).symm
end Go.Proofs.YtbgcpgpkhfbijaaGreatDoor
/- Package shade's contracts, all. -/
namespace Go.Proofs.YtbgcpgpkhfbijaaGreatDoor
open Go.RowKit
end Go.Proofs.YtbgcpgpkhfbijaaGreatDoor
/- Package valid's May, Swap, Before: its contracts, all. -/
namespace Go.Proofs.YtbgcpgpkhfbijaaGreatDoor
open Go.RowKit
theorem vknows_nat {m : Int} {F : List Core} {n p c : Int} (h : vknowsB m F n p c = true) : rightF m F = true ∧ (∃ k : Nat, n = k ∧ k < F.length) ∧ (∃ k : Nat, p = k ∧ k < F.length) ∧ (c = -1 ∨ ∃ k : Nat, c = k ∧ k < F.length) := by
  unfold vknowsB at h
  rw [Bool.and_eq_true, Bool.and_eq_true, Bool.and_eq_true, Bool.or_eq_true, beq_iff_eq] at h
  refine ⟨h.2, inF_nat h.1.1.1, inF_nat h.1.1.2, ?_⟩
  rcases h.1.2 with h | h
  · exact .inl h
  · exact .inr (inF_nat h)
set_option maxHeartbeats 4000000 in
set_option maxRecDepth 100000 in
theorem vmay_any (a : Option Addr) (len cap : Nat) (m : Int) (L : List NodeD) (n p c : Int) (w : World) (h : NodeRow w a len cap L) (hm : In64 m) (hn : In64 n) (hp : In64 p) (hc : In64 c) (hs : smallF L) :
    Calls Tryz.prog 36 #[forV a len cap m, .int .i64 n, .int .i64 p, .int .i64 c] w fun e w' => e = .returned (.int .i64 (mayZ m (coreL L) n p c)) ∧ Below w.heap.size w w' := by
  have HCL : Hid ((coreL L).length = len) := Lib.hid (by rw [coreL_len, h.hlen])
  have hlen := h.len64
  have BX := Lib.hid (Box.start (m := m) h)
  have CK : Hid (∀ W, NodeRow W a len cap L → Calls Tryz.prog 94 #[forV a len cap m, .int .i64 n, .int .i64 p, .int .i64 c] W fun e w' => e = .returned (.bool (vknowsB m (coreL L) n p c)) ∧ Below W.heap.size W w') := Lib.hid (fun W h1 => vknows_any a len cap m L n p c W h1 hm hn hp hc hs)
  have z0 := BX.out.c0
  have z1 := BX.out.c1
  cases q : vknowsB m (coreL L) n p c with
  | false =>
    rw [q] at CK
    have HR : Hid (mayZ m (coreL L) n p c = 1) := Lib.hid (by unfold mayZ; rw [q]; rfl)
    clear q h hm hn hp hc hs
    go_enter Tryz.func36, Tryz.ntmps36
    go_wp2_with (go_at_call 94; ((with_reducible refine (CK.out _ BX.out.row).mono ?_); rintro e w1 ⟨rfl, hb⟩; have BX := Lib.hid (BX.out.keep hb); have z0 := BX.out.c0; have z1 := BX.out.c1; clear hb))
    go_ret
    exact ⟨ret_int HR.out.symm, BX.out.below⟩
  | true =>
    rw [q] at CK
    obtain ⟨hr, ⟨N, rfl, hN⟩, ⟨P, rfl, hP⟩, hcc⟩ := vknows_nat q
    rw [HCL.out] at hN hP
    obtain ⟨E, hE⟩ : ∃ E, mayZ m (coreL L) N P c = E := ⟨_, rfl⟩
    have HE : Hid (∀ B : Bool, (c == -1 || parentK (coreL L) c == (P : Int)) = B → refuseE m (coreL L) N P B (-1) = E) := Lib.hid (fun B hB => by rw [← hE, ← hB]; unfold mayZ; rw [q]; rfl)
    rw [hE]
    have CEB : Hid (∀ B, refuseE m (coreL L) N P B (-1) = E → ∀ W, NodeRow W a len cap L → Calls Tryz.prog 95 #[forV a len cap m, .int .i64 N, .int .i64 P, .bool B, .int .i64 (-1)] W fun e w' => e = .returned (.int .i64 E) ∧ Below W.heap.size W w') := Lib.hid (fun B hB W h1 => by
      rw [← hB]
      exact vrefuse_any a len cap m L N P B (-1) W h1 hm inM1 hs hr hN hP)
    have HH := Lib.hid h
    clear q hE h hm hn hp hs hr
    rcases hcc with rfl | ⟨C, rfl, hC⟩
    · have CE := Lib.hid (CEB.out true (HE.out true (by simp)))
      clear CEB HE hc
      go_enter Tryz.func36, Tryz.ntmps36
      go_wp2_with (first | (go_at_call 94; ((with_reducible refine (CK.out _ BX.out.row).mono ?_); rintro e w1 ⟨rfl, hb⟩; have BX := Lib.hid (BX.out.keep hb); have z0 := BX.out.c0; have z1 := BX.out.c1; clear hb)) | (go_at_call 95; ((with_reducible refine (CE.out _ BX.out.row).mono ?_); rintro e w1 ⟨rfl, hb⟩; have BX := Lib.hid (BX.out.keep hb); have z0 := BX.out.c0; have z1 := BX.out.c1; clear hb)))
      go_ret
      exact ⟨rfl, BX.out.below⟩
    · rw [HCL.out] at hC
      have hne : ((C : Int) == -1) = false := beq_eq_false_iff_ne.2 (by omega)
      obtain ⟨b, off, x, rfl, hb, hx, hat, hok⟩ := HH.out.get hC
      have C5 := Lib.hid (stays hat.c5 hb)
      have HPK := Lib.hid (parentK_get hx)
      cases hq : (x.core.parent == (P : Int))
      all_goals
        have CE := Lib.hid (CEB.out (x.core.parent == (P : Int)) (HE.out _ (by rw [hne, HPK.out]; simp)))
        rw [hq] at CE
        clear CEB HE HPK hx hat hok
        go_enter Tryz.func36, Tryz.ntmps36
        go_wp2_with (first | ((go_at_call 94; ((with_reducible refine (CK.out _ BX.out.row).mono ?_); rintro e w1 ⟨rfl, hb⟩; have BX := Lib.hid (BX.out.keep hb); have z0 := BX.out.c0; have z1 := BX.out.c1; clear hb)); have c5 := C5.out _ BX.out.below) | (go_at_call 95; ((with_reducible refine (CE.out _ BX.out.row).mono ?_); rintro e w1 ⟨rfl, hb⟩; have BX := Lib.hid (BX.out.keep hb); have z0 := BX.out.c0; have z1 := BX.out.c1; clear hb)))
        go_ret
        exact ⟨rfl, BX.out.below⟩
set_option maxHeartbeats 4000000 in
set_option maxRecDepth 100000 in
theorem vswap_any (a : Option Addr) (len cap : Nat) (m : Int) (L : List NodeD) (n p c : Int) (w : World) (h : NodeRow w a len cap L) (hm : In64 m) (hn : In64 n) (hp : In64 p) (hc : In64 c) (hs : smallF L) :
    Calls Tryz.prog 65 #[forV a len cap m, .int .i64 n, .int .i64 p, .int .i64 c] w fun e w' => e = .returned (.int .i64 (swapZ m (coreL L) n p c)) ∧ Below w.heap.size w w' := by
  have HCL : Hid ((coreL L).length = len) := Lib.hid (by rw [coreL_len, h.hlen])
  have hlen := h.len64
  have BX := Lib.hid (Box.start (m := m) h)
  have CK : Hid (∀ W, NodeRow W a len cap L → Calls Tryz.prog 94 #[forV a len cap m, .int .i64 n, .int .i64 p, .int .i64 c] W fun e w' => e = .returned (.bool (vknowsB m (coreL L) n p c)) ∧ Below W.heap.size W w') := Lib.hid (fun W h1 => vknows_any a len cap m L n p c W h1 hm hn hp hc hs)
  have z0 := BX.out.c0
  have z1 := BX.out.c1
  cases q : vknowsB m (coreL L) n p c with
  | false =>
    rw [q] at CK
    have HR : Hid (swapZ m (coreL L) n p c = 1) := Lib.hid (by unfold swapZ; rw [q]; rfl)
    clear q h hm hn hp hc hs
    go_enter Tryz.func65, Tryz.ntmps65
    go_wp2_with (go_at_call 94; ((with_reducible refine (CK.out _ BX.out.row).mono ?_); rintro e w1 ⟨rfl, hb⟩; have BX := Lib.hid (BX.out.keep hb); have z0 := BX.out.c0; have z1 := BX.out.c1; clear hb))
    go_ret
    exact ⟨ret_int HR.out.symm, BX.out.below⟩
  | true =>
    rw [q] at CK
    obtain ⟨hr, ⟨N, rfl, hN⟩, ⟨P, rfl, hP⟩, hcc⟩ := vknows_nat q
    rw [HCL.out] at hN hP
    obtain ⟨E, hE⟩ : ∃ E, swapZ m (coreL L) N P c = E := ⟨_, rfl⟩
    have HE : Hid (∀ B : Bool, (c != -1 && parentK (coreL L) c == (P : Int)) = B → refuseE m (coreL L) N P B c = E) := Lib.hid (fun B hB => by rw [← hE, ← hB]; unfold swapZ; rw [q]; rfl)
    rw [hE]
    have CEB : Hid (∀ B, refuseE m (coreL L) N P B c = E → ∀ W, NodeRow W a len cap L → Calls Tryz.prog 95 #[forV a len cap m, .int .i64 N, .int .i64 P, .bool B, .int .i64 c] W fun e w' => e = .returned (.int .i64 E) ∧ Below W.heap.size W w') := Lib.hid (fun B hB W h1 => by
      rw [← hB]
      exact vrefuse_any a len cap m L N P B c W h1 hm hc hs hr hN hP)
    have HH := Lib.hid h
    clear q hE h hm hn hp hs hr
    rcases hcc with rfl | ⟨C, rfl, hC⟩
    · have CE := Lib.hid (CEB.out false (HE.out false (by simp)))
      clear CEB HE hc
      go_enter Tryz.func65, Tryz.ntmps65
      go_wp2_with (first | (go_at_call 94; ((with_reducible refine (CK.out _ BX.out.row).mono ?_); rintro e w1 ⟨rfl, hb⟩; have BX := Lib.hid (BX.out.keep hb); have z0 := BX.out.c0; have z1 := BX.out.c1; clear hb)) | (go_at_call 95; ((with_reducible refine (CE.out _ BX.out.row).mono ?_); rintro e w1 ⟨rfl, hb⟩; have BX := Lib.hid (BX.out.keep hb); have z0 := BX.out.c0; have z1 := BX.out.c1; clear hb)))
      go_ret
      exact ⟨rfl, BX.out.below⟩
    · rw [HCL.out] at hC
      have hne : ((C : Int) != -1) = true := bne_iff_ne.2 (by omega)
      obtain ⟨b, off, x, rfl, hb, hx, hat, hok⟩ := HH.out.get hC
      have C5 := Lib.hid (stays hat.c5 hb)
      have HPK := Lib.hid (parentK_get hx)
      cases hq : (x.core.parent == (P : Int))
      all_goals
        have CE := Lib.hid (CEB.out (x.core.parent == (P : Int)) (HE.out _ (by rw [hne, HPK.out]; simp)))
        rw [hq] at CE
        clear CEB HE HPK hx hat hok
        go_enter Tryz.func65, Tryz.ntmps65
        go_wp2_with (first | ((go_at_call 94; ((with_reducible refine (CK.out _ BX.out.row).mono ?_); rintro e w1 ⟨rfl, hb⟩; have BX := Lib.hid (BX.out.keep hb); have z0 := BX.out.c0; have z1 := BX.out.c1; clear hb)); have c5 := C5.out _ BX.out.below) | (go_at_call 95; ((with_reducible refine (CE.out _ BX.out.row).mono ?_); rintro e w1 ⟨rfl, hb⟩; have BX := Lib.hid (BX.out.keep hb); have z0 := BX.out.c0; have z1 := BX.out.c1; clear hb)))
        go_ret
        exact ⟨rfl, BX.out.below⟩
theorem may_ok {m : Int} {F : List Core} {n p c : Int} (h : mayZ m F n p c = 0) : vknowsB m F n p c = true ∧ kindK F p ≠ 2 ∧ overZ m F n p = false ∧ (c = -1 ∨ parentK F c = p) ∧ kindK F n ≠ 0 ∧ kindK F n ≠ 4 ∧ (kindK F p = 0 → docTakesB F n p (-1) = true) := by
  unfold mayZ at h
  split at h
  · rename_i hk
    unfold refuseE at h
    split at h
    · cases h
    rename_i h1
    split at h
    · cases h
    rename_i h2
    split at h
    · cases h
    rename_i h3
    split at h
    · cases h
    rename_i h4
    refine ⟨hk, fun e => h1 (.inl e), ?_, ?_, fun e => h3 (.inl e), fun e => h3 (.inr e), fun e => ?_⟩
    · cases hq : overZ m F n p with
      | false => rfl
      | true => exact absurd (.inr hq) h1
    · cases hq : (c == -1 || parentK F c == p) with
      | false => exact absurd hq h2
      | true =>
        rw [Bool.or_eq_true, beq_iff_eq, beq_iff_eq] at hq
        exact hq
    · cases hq : docTakesB F n p (-1) with
      | true => rfl
      | false => exact absurd ⟨e, hq⟩ h4
  · cases h
theorem par_facts {m : Int} {F : List Core} (h : rightF m F = true) {N P : Nat} {x y : Core} (hx : F[N]? = some x) (hp : x.parent = (P : Int)) (hy : F[P]? = some y) : (x.kind = 1 ∨ x.kind = 2) ∧ y.kind ≠ 2 ∧ hasZ y.kids N = 1 := by
  have h1 := (nodeOk_iff.1 (((rightF_iff m F).1 h).2.1 N _ hx)).2.1
  unfold parOk at h1
  rw [beq_eq_false_iff_ne.2 (show x.parent ≠ -1 by omega), Bool.false_or, hp, getC_nat, hy] at h1
  simp only [Bool.and_eq_true, Bool.or_eq_true, beq_iff_eq, bne_iff_ne] at h1
  exact ⟨h1.1, h1.2.1, h1.2.2⟩
/-- A node stands at its place. -/
theorem place_at {m : Int} {F : List Core} (h : rightF m F = true) {N P : Nat} {x y : Core} (hx : F[N]? = some x) (hp : x.parent = (P : Int)) (hy : F[P]? = some y) : ∃ k : Nat, placeZ m F N = k ∧ k < y.kids.length ∧ y.kids[k]? = some (N : Int) := by
  have hN := (List.getElem?_eq_some_iff.1 hx).1
  have hm := hasZ_mem (par_facts h hx hp hy).2.2
  obtain ⟨p, e1, e2, e3⟩ := right_par h hx (by omega)
  obtain rfl : P = p := by omega
  obtain ⟨k, h1, h2⟩ := find_at hm
  refine ⟨k, ?_, (List.getElem?_eq_some_iff.1 h2).1, h2⟩
  unfold placeZ
  rw [thereF_of h hN, if_pos rfl, Int.toNat_natCast]
  unfold placeF
  rw [e3]
  dsimp only
  rw [hy]
  exact h1
set_option maxHeartbeats 4000000 in
set_option maxRecDepth 100000 in
theorem vbefore_any (a : Option Addr) (len cap : Nat) (m : Int) (L : List NodeD) (n p c : Int) (w : World) (h : NodeRow w a len cap L) (hm : In64 m) (hn : In64 n) (hp : In64 p) (hc : In64 c) (hs : smallF L) :
    Calls Tryz.prog 35 #[forV a len cap m, .int .i64 n, .int .i64 p, .int .i64 c] w fun e w' => e = .returned (.int .i64 (beforeZ m (coreL L) n p c)) ∧ Below w.heap.size w w' := by
  have HCL : Hid ((coreL L).length = len) := Lib.hid (by rw [coreL_len, h.hlen])
  have hlen := h.len64
  have BX := Lib.hid (Box.start (m := m) h)
  obtain ⟨M, hM⟩ : ∃ M, mayZ m (coreL L) n p c = M := ⟨_, rfl⟩
  have CM : Hid (∀ W, NodeRow W a len cap L → Calls Tryz.prog 36 #[forV a len cap m, .int .i64 n, .int .i64 p, .int .i64 c] W fun e w' => e = .returned (.int .i64 M) ∧ Below W.heap.size W w') := Lib.hid (fun W h1 => by
    rw [← hM]
    exact vmay_any a len cap m L n p c W h1 hm hn hp hc hs)
  have z0 := BX.out.c0
  have z1 := BX.out.c1
  by_cases h0 : M = 0
  · rw [h0] at CM hM
    obtain ⟨hk, h2, h3, h4, h5, h6, h7⟩ := may_ok hM
    obtain ⟨hr, ⟨N, rfl, hN⟩, ⟨P, rfl, hP⟩, hcc⟩ := vknows_nat hk
    rw [HCL.out] at hN hP
    have HH := Lib.hid h
    by_cases hcn : c = (N : Int)
    · subst hcn
      have e1 : ((N : Int) != (N : Int)) = false := by simp
      have e2 : ((N : Int) == (N : Int)) = true := by simp
      have hpar : parentK (coreL L) N = P := by rcases h4 with h4 | h4; omega; exact h4
      obtain ⟨b, off, x, rfl, hb, hx, hat, hok⟩ := HH.out.get hN
      obtain ⟨b2, off2, y, hab, hb2, hy, hat2, hok2⟩ := HH.out.get hP
      obtain ⟨rfl, rfl⟩ : b = b2 ∧ off = off2 := by injection hab with h1; injection h1 with h2 h3; exact ⟨h2, h3⟩
      rw [parentK_get hx] at hpar
      obtain ⟨pl, hpl⟩ : ∃ pl, placeZ m (coreL L) N = pl := ⟨_, rfl⟩
      have hpl2 : ∃ k : Nat, pl = k ∧ k < y.kN := by
        obtain ⟨k, h1, h2, _⟩ := place_at hr (coreL_get hx) hpar (coreL_get hy)
        exact ⟨k, by rw [← hpl, h1], by rw [hok2.kids.hlen] at h2; exact h2⟩
      obtain ⟨K, rfl, hK⟩ := hpl2
      have CP : Hid (∀ W, NodeRow W (some ⟨b, off, none⟩) len cap L → Calls Tryz.prog 93 #[forV (some ⟨b, off, none⟩) len cap m, .int .i64 N] W fun e w' => e = .returned (.int .i64 K) ∧ Below W.heap.size W w') := Lib.hid (fun W h1 => by
        rw [← hpl]
        exact placeFn_any (some ⟨b, off, none⟩) len cap m L N W h1 hm hn hs)
      have C6 := Lib.hid (stays hat2.c6 hb)
      have HKK : Hid (kidsK (coreL L) P = y.core.kids) := Lib.hid (by unfold kidsK; rw [getC_nat, coreL_get hy])
      have KR : Hid (∀ W, Below w.heap.size w W → IntRow W y.kA y.kN y.kC y.core.kids) := Lib.hid (fun W hb => hok2.kids.below hb)
      have hk64 := hok2.kids.len64
      by_cases hlt : K + 1 < y.kN
      · obtain ⟨bk, ok, z, hka, hbk, hz, hcz, hin⟩ := hok2.kids.get hlt
        have CZ := Lib.hid (stays hcz hbk)
        have HR : Hid (beforeZ m (coreL L) N P N = z) := Lib.hid (by unfold beforeZ; rw [if_pos hM, if_pos rfl, hpl, HKK.out, show ((K : Int) + 1).toNat = K + 1 by omega, hz])
        rw [hka] at C6
        obtain ⟨hz1, hz2⟩ := hin
        clear hM hk h2 h3 h4 h5 h6 h7 hr hx hy hat hat2 hok hok2 hab hb2 hpl h hm hs hz hcz hka hn hp hc h0 hpar
        go_enter Tryz.func35, Tryz.ntmps35
        go_wp2_with (first
          | (go_at_call 36; ((with_reducible refine (CM.out _ BX.out.row).mono ?_); rintro e w1 ⟨rfl, hb⟩; have BX := Lib.hid (BX.out.keep hb); have z0 := BX.out.c0; have z1 := BX.out.c1; clear hb; have c6 := C6.out _ BX.out.below))
          | (go_at_call 93; ((with_reducible refine (CP.out _ BX.out.row).mono ?_); rintro e w1 ⟨rfl, hb⟩; have BX := Lib.hid (BX.out.keep hb); have z0 := BX.out.c0; have z1 := BX.out.c1; clear hb; have c6 := C6.out _ BX.out.below; have cz := CZ.out _ BX.out.below)))
        go_ret
        exact ⟨ret_int HR.out.symm, BX.out.below⟩
      · have HR : Hid (beforeZ m (coreL L) N P N = -1) := Lib.hid (by unfold beforeZ; rw [if_pos hM, if_pos rfl, hpl, HKK.out, show ((K : Int) + 1).toNat = K + 1 by omega, List.getElem?_eq_none (by rw [hok2.kids.hlen]; omega)])
        clear hM hk h2 h3 h4 h5 h6 h7 hr hx hy hat hat2 hok hok2 hab hb2 hpl h hm hs hn hp hc h0 hpar
        go_enter Tryz.func35, Tryz.ntmps35
        go_wp2_with (first
          | (go_at_call 36; ((with_reducible refine (CM.out _ BX.out.row).mono ?_); rintro e w1 ⟨rfl, hb⟩; have BX := Lib.hid (BX.out.keep hb); have z0 := BX.out.c0; have z1 := BX.out.c1; clear hb; have c6 := C6.out _ BX.out.below))
          | (go_at_call 93; ((with_reducible refine (CP.out _ BX.out.row).mono ?_); rintro e w1 ⟨rfl, hb⟩; have BX := Lib.hid (BX.out.keep hb); have z0 := BX.out.c0; have z1 := BX.out.c1; clear hb; have c6 := C6.out _ BX.out.below)))
        go_ret
        exact ⟨ret_int HR.out.symm, BX.out.below⟩
    · have e1 : (c != (N : Int)) = true := bne_iff_ne.2 hcn
      have e2 : (c == (N : Int)) = false := beq_eq_false_iff_ne.2 hcn
      have HR : Hid (beforeZ m (coreL L) N P c = c) := Lib.hid (by unfold beforeZ; rw [if_pos hM, if_neg hcn])
      clear hM hk h2 h3 h4 h5 h6 h7 hr h hm hs hn hp hc h0 hcn hcc
      go_enter Tryz.func35, Tryz.ntmps35
      go_wp2_with (first
        | (go_at_call 36; ((with_reducible refine (CM.out _ BX.out.row).mono ?_); rintro e w1 ⟨rfl, hb⟩; have BX := Lib.hid (BX.out.keep hb); have z0 := BX.out.c0; have z1 := BX.out.c1; clear hb)))
      go_ret
      exact ⟨ret_int HR.out.symm, BX.out.below⟩
  · have HR : Hid (beforeZ m (coreL L) n p c = -1) := Lib.hid (by unfold beforeZ; rw [hM, if_neg h0])
    have e1 : (M != 0) = true := bne_iff_ne.2 h0
    have e2 : (M == 0) = false := beq_eq_false_iff_ne.2 h0
    clear hM h hm hs hn hp hc h0
    go_enter Tryz.func35, Tryz.ntmps35
    go_wp2_with (first
      | (go_at_call 36; ((with_reducible refine (CM.out _ BX.out.row).mono ?_); rintro e w1 ⟨rfl, hb⟩; have BX := Lib.hid (BX.out.keep hb); have z0 := BX.out.c0; have z1 := BX.out.c1; clear hb)))
    go_ret
    exact ⟨ret_int HR.out.symm, BX.out.below⟩
theorem validFns : ValidFns where
  may := fun a len cap m L n p c w h hm hn hp hc hs => vmay_any a len cap m L n p c w h hm hn hp hc hs
  swap := fun a len cap m L n p c w h hm hn hp hc hs => vswap_any a len cap m L n p c w h hm hn hp hc hs
  parts := fun a len cap m L n w h _ hn hs => vparts_any a len cap m L n w h hn hs
  before := fun a len cap m L n p c w h hm hn hp hc hs => vbefore_any a len cap m L n p c w h hm hn hp hc hs
end Go.Proofs.YtbgcpgpkhfbijaaGreatDoor
/- instarref03's Bare. -/
namespace Go.Proofs.YtbgcpgpkhfbijaaGreatDoor
open Go.RowKit
/-- A bare node. -/
def bareD (kind doc : Int) : NodeD := ⟨⟨kind, ⟨#[]⟩, ⟨#[]⟩, ⟨#[]⟩, [], -1, [], -1, -1, doc⟩, none, 0, 0, none, 0, 0⟩
theorem bareD_ok (w : World) {kind doc : Int} (hk : In64 kind) (hd : In64 doc) : NodeOk w (bareD kind doc) := by
  refine ⟨⟨SRow.nil, (fun z hz => by cases hz), fun _ => rfl⟩, ⟨SRow.nil, (fun z hz => by cases hz), fun _ => rfl⟩, ?_, ?_, ?_, hk, inM1, inM1, inM1, hd⟩
  · show 0 ≤ maxLen; decide
  · show 0 ≤ maxLen; decide
  · show 0 ≤ maxLen; decide
set_option maxHeartbeats 8000000 in
set_option maxRecDepth 100000 in
theorem refbare_any (kind doc : Int) (w : World) (hk : In64 kind) (hd : In64 doc) :
    Calls Tryz.prog 105 #[.int .i64 kind, .int .i64 doc] w fun e w' => e = .returned (nodVal (bareD kind doc)) ∧ Below w.heap.size w w' := by
  obtain ⟨W, hW, NB⟩ : ∃ W, w.alloc (nodB (bareD kind doc)) = W ∧ NBox w W w.heap.size (bareD kind doc) := ⟨_, rfl, (NKeep.start (bareD_ok w hk hd)).box⟩
  have NB := Lib.hid NB
  have HW := Lib.hid hW
  have HB : Hid (Below w.heap.size w W) := Lib.hid (by rw [← hW]; exact below_box w _)
  clear hW
  go_enter Tryz.func105, Tryz.ntmps105
  go_wp2
  refine (show ∀ W2, W2 = W → _ from fun W2 e => ?_) _ HW.out
  subst e
  obtain ⟨-, x0, x1, x2, x3, x4, x5, x6, x7, x8, x9, -⟩ := NB.out
  unfold bareD at x0 x1 x2 x3 x4 x5 x6 x7 x8 x9
  dsimp only at x0 x1 x2 x3 x4 x5 x6 x7 x8 x9
  refine bodyPost_ret (v := nodVal (bareD kind doc)) ?_ rfl ⟨rfl, HB.out⟩
  simp [results, Tryz.results105, go_sem, x0, x1, x2, x3, x4, x5, x6, x7, x8, x9, bareD]
end Go.Proofs.YtbgcpgpkhfbijaaGreatDoor
/- instarref03's New. -/
namespace Go.Proofs.YtbgcpgpkhfbijaaGreatDoor
open Go.RowKit
theorem bareD_away (g : Nat) (k d : Int) : NodeAway g (bareD k d) := ⟨fun b off hb _ _ => (by cases hb), fun b off hb => (by cases hb)⟩
end Go.Proofs.YtbgcpgpkhfbijaaGreatDoor
/- append of any slice onto one of the call's own, at a step of a region that draws its order. No program. -/
namespace Go.Proofs.YtbgcpgpkhfbijaaGreatDoor
open Go.RowKit
theorem step_append_rows {P : Program} {α : Type} {enc : α → List Value} {w : World} {ops : Array Oper} {o : Oper} {a : Act} {K : Act → World → Prop} {Q : Exit → Act → World → Prop} {E : Prop} (hgd : o.guard = none) (s x : Operand) (t : TypeId)
    (ho : o.op = .call { callee := .builtin .append, args := #[s, x], argTypes := #[t, t] })
    (e : TypeId) (i : TypeInfo) (z : Value) (size bytes : Nat) (ht : P.underlying t = some (.slice e)) (hi : P.info? e = some i) (hz : i.zero = some z)
    (hsize : i.size = size) (hby : i.bytes = bytes) (hzs : z.cells.size = size) (hsz : 0 < size) (base : Nat)
    (v : Value) (n : Nat) (L M : List α) (hs : a.eval s = v) (hown : w.ownsRow base e size v n (L.flatMap enc)) (ad : Option Addr) (m c : Nat) (hx : a.eval x = .slice ad m c) (hsrc : SRow enc size w ad m c M) (h1 : ∀ x ∈ M, ∀ u ∈ enc x, u.oneCell' = true)
    (h63 : n + m ≤ maxLen) (hbytes : (n + m) * bytes ≤ 140737488355328) (hbase : base ≤ w.heap.size) (hnil : ad = none → c = 0)
    (h : ∀ v' w', w'.ownsRow base e size v' (n + m) ((L ++ M).flatMap enc) → w.grownBy w' v.ownBlock → (v'.ownBlock = v.ownBlock ∨ v'.ownBlock = some w.heap.size) → K (a.put o.dst v') w') :
    if Region.wanted o (yielded ops a.tmps) = true then Oper.wp P o a w K Q else E := by
  have hw : Region.wanted o (yielded ops a.tmps) = true := by simp [Region.wanted, hgd]
  rw [if_pos hw]
  obtain ⟨v', w', hr, h2, h3, h4⟩ := run_append_rows (P := P) w t o.type e i z size bytes ht hi hz hsize hby hzs hsz base v n L M hown ad m c hsrc h1 h63 hbytes hbase hnil
  unfold Oper.wp execOp
  simp only [ho, resolve, invoke, builtin, Sem.run_bind, Sem.run_pure, Result.andThen_ok, List.map_toArray, List.map_cons, List.map_nil, hs, hx, hr]
  exact h v' w' h2 h3 h4
end Go.Proofs.YtbgcpgpkhfbijaaGreatDoor
