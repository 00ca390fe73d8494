/- Texts joined in build order: HeirTriesMath HeirAllMath HeirAddsMath DeskAwake DeskAwake9 Ref3Ask Ref3Order Ref4All Ref4Over. -/
import Derived.Test.YtkomeijlljcdgaaGreatR31
import Derived.Test.YtkomeijlljcdgaaGreatR27
import Derived.Test.YtkomeijlljcdgaaGreatR14
import Derived.Test.YtkomeijlljcdgaaGreatR35
import Derived.Test.YtkomeijlljcdgaaGreatR04
import Derived.Test.YtkomeijlljcdgaaGreatR20
import Derived.Test.YtkomeijlljcdgaaGreatR09
import Derived.Test.YtkomeijlljcdgaaGreatR21
import Derived.Test.YtkomeijlljcdgaaGreatR29
import Derived.Deep.RegionHeld3
import Derived.Deep.DrawnRows
import Derived.Deep.DeepCutAuto
namespace Go.Proofs.YtkomeijlljcdgaaGreat
section
variable {α β : Type} {g : α → Option β} {l : List α} {k : Nat} {z : α}
end
def triG (F : List Core) (D : DeskD) (z : Int) : Option DueD := match getC F z with | some c => if fateC D c = -1 then none else some ⟨z, upT (fateC D c)⟩ | none => none
theorem tries_tri {m : Int} {F : List Core} {n : Int} {D : DeskD} (h : rightK D = true) : triesZ m F n D = (elemsZ m F n).filterMap (triG F D) := by
  unfold triesZ
  rw [if_pos h]
  rfl
theorem tri_none {F : List Core} {D : DeskD} {t : Nat} {c : Core} (hc : F[t]? = some c) (h : fateC D c = -1) : triG F D (t : Int) = none := by
  unfold triG
  rw [getC_nat, hc]
  simp [h]
theorem tri_some {F : List Core} {D : DeskD} {t : Nat} {c : Core} {z : Int} (hc : F[t]? = some c) (h : fateC D c = z) (hz : z ≠ -1) : triG F D (t : Int) = some ⟨(t : Int), upT z⟩ := by
  unfold triG
  rw [getC_nat, hc]
  simp [h, hz]
theorem fate_zat {m : Int} {F : List Core} {D : DeskD} {t : Nat} {c : Core} (hr : rightF m F = true) (hc : F[t]? = some c) : fateZ m F (t : Int) D = fateC D c := by
  have hl := (List.getElem?_eq_some_iff.1 hc).1
  unfold fateZ
  rw [if_pos (by unfold thereF; rw [hr]; simp; omega), getC_nat, hc]
structure FateFacts (D : DeskD) (c : Core) (j : Nat) (x : DefD) : Prop where
  def_ : D.defs[j]? = some x
  born : bornZ c.name.toList c.is.toList = 1
  doc : c.doc = 0
  kind : c.kind = 1
  loc : (x.loc.toList == c.name.toList) = true
  find : ifRight D (findZ2 D.defs c.name.toList c.is.toList) = (j : Int)
theorem fate_facts {D : DeskD} {c : Core} (h : rightK D = true) (hf : fateC D c ≠ -1) : ∃ (j : Nat) (x : DefD), fateC D c = (j : Int) ∧ FateFacts D c j x := by
  have hr := rightK_iff.1 h
  unfold fateC at hf ⊢
  by_cases hk : c.kind = 1 ∧ c.doc = 0
  · rw [if_pos hk] at hf ⊢
    have e : ifRight D (findZ2 D.defs c.name.toList c.is.toList) = findZ2 D.defs c.name.toList c.is.toList := by unfold ifRight; rw [if_pos h]
    rw [e] at hf ⊢
    have hl := find_lt D.defs c.name.toList c.is.toList
    obtain ⟨j, hj⟩ : ∃ j : Nat, findZ2 D.defs c.name.toList c.is.toList = (j : Int) := ⟨(findZ2 D.defs c.name.toList c.is.toList).toNat, by omega⟩
    have hjl : j < D.defs.length := by omega
    have hx := List.getElem?_eq_getElem hjl
    have hfit := fits_iff.1 ((hr.find_iff hx).1 hj)
    have hcu := (hr.d j _ hx).1
    refine ⟨j, D.defs[j], hj, hx, ?_, hk.2, hk.1, beq_iff_eq.2 hfit.1, by rw [e]; exact hj⟩
    unfold bornZ
    rcases hfit.2 with h2 | h2
    · rw [h2] at hcu
      rw [hcu]
      rfl
    · have h3 : c.is.toList.isEmpty = false := by
        cases h4 : c.is.toList with
        | nil =>
          rw [h2, h4] at hcu
          exact absurd hcu (by decide)
        | cons a l => rfl
      rw [h3]
      simp
  · rw [if_neg hk] at hf
    exact absurd rfl hf
end Go.Proofs.YtkomeijlljcdgaaGreat
namespace Go.Proofs.YtkomeijlljcdgaaGreat
section
variable {m : Int} {F : List Core}
theorem doc_step10 (h : rightF m F = true) {k i : Nat} {x y : Core} (hx : F[k]? = some x) (hp : parS F k = some i) (hy : F[i]? = some y) : y.doc = x.doc := by
  have hk := (List.getElem?_eq_some_iff.1 hx).1
  obtain ⟨hn, hi⟩ := parS_next h hk hp
  by_cases hpar : x.parent = -1
  · rw [next_host hx hpar] at hn
    obtain ⟨_, j, x2, e1, e2, _, _, e5⟩ := right_host h hx (by omega)
    have : j = i := by omega
    subst this
    rw [hy] at e2
    injection e2 with e2
    rw [e2]
    exact e5
  · rw [next_par hx hpar] at hn
    have h1 := (nodeOk_iff.1 (((rightF_iff m F).1 h).2.1 k x hx)).2.1
    unfold parOk at h1
    rw [beq_eq_false_iff_ne.2 hpar, Bool.false_or, Bool.and_eq_true, hn, getC_nat, hy] at h1
    have h2 := h1.2
    simp only [Bool.and_eq_true, beq_iff_eq] at h2
    have h3 := hasZ_mem h2.2
    have h4 := (nodeOk_iff.1 (((rightF_iff m F).1 h).2.1 i y hy)).2.2.1 _ h3
    unfold kidOk at h4
    rw [getC_nat, hx] at h4
    simp only [Bool.and_eq_true, beq_iff_eq] at h4
    exact h4.2.2.symm
theorem doc_over10 (h : rightF m F = true) : ∀ (u b a : Nat) {x y : Core}, F[b]? = some x → upN (parS F) u b = some a → F[a]? = some y → y.doc = x.doc
  | 0, b, a, x, y, hx, hu, hy => by
    injection hu with hu
    subst hu
    rw [hx] at hy
    injection hy with hy
    rw [hy]
  | u + 1, b, a, x, y, hx, hu, hy => by
    unfold upN at hu
    cases hp : parS F b with
    | none => rw [hp] at hu; cases hu
    | some p =>
      rw [hp] at hu
      have hk := (List.getElem?_eq_some_iff.1 hx).1
      obtain ⟨_, hi⟩ := parS_next h hk hp
      have hz := List.getElem?_eq_getElem hi
      exact (doc_over10 h u p a hz hu hy).trans (doc_step10 h hx hp hz)
theorem doc_zero10 (h : rightF m F = true) {c : Core} (hc : F[0]? = some c) : c.doc = 0 := by
  have h1 := ((rightF_iff m F).1 h).1.2.2.2
  have hk : c.kind = 0 := by
    unfold headDoc at h1
    cases F with
    | nil => cases h1
    | cons d r =>
      simp at hc
      subst hc
      simpa using h1
  have h2 := (nodeOk_iff.1 (((rightF_iff m F).1 h).2.1 0 c hc)).1
  unfold docOk at h2
  simp only [Bool.and_eq_true, decide_eq_true_eq] at h2
  have h3 := h2.2
  rw [hk] at h3
  simpa using h3
theorem elems010 (h : rightF m F = true) {t : Nat} {c : Core} (hz : (t : Int) ∈ elemsZ m F 0) (hc : F[t]? = some c) : c.kind = 1 ∧ c.doc = 0 := by
  have ht := (List.getElem?_eq_some_iff.1 hc).1
  have h0 : 0 < F.length := by omega
  unfold elemsZ at hz
  obtain ⟨h1, h2⟩ := List.mem_filter.1 hz
  constructor
  · unfold kindK at h2
    rw [getC_nat, hc] at h2
    simpa using h2
  · have e := allZ_eq h h0
    rw [show ((0 : Nat) : Int) = 0 from rfl] at e
    rw [e] at h1
    have h3 := mem_allI.1 h1
    rw [show (0 : Int).toNat = 0 from rfl] at h3
    have h4 := ((treeS h).mem_ord _ 0 h0 (by omega) t ht).1 h3
    obtain ⟨u, hu⟩ := h4
    have hy := List.getElem?_eq_getElem h0
    rw [← doc_over10 h u t 0 hc hu hy]
    exact doc_zero10 h hy
theorem fate_heir (h : rightF m F = true) {D : DeskD} (hd : rightK D = true) {i : Nat} {x : DefD} (hx : D.defs[i]? = some x) {z : Int} (hz : z ∈ elemsZ m F 0) :
    (match getC F z with | some c => heirB x.name x.loc c | none => false) = (fateZ m F z D == (i : Int)) := by
  obtain ⟨t, rfl, ht⟩ := elemsZ_in hz
  have hc := List.getElem?_eq_getElem ht
  obtain ⟨e1, e2⟩ := elems010 h hz hc
  rw [fate_zat h hc, getC_nat, hc]
  unfold fateC
  rw [if_pos ⟨e1, e2⟩, show ifRight D (findZ2 D.defs F[t].name.toList F[t].is.toList) = findZ2 D.defs F[t].name.toList F[t].is.toList by unfold ifRight; rw [if_pos hd], (rightK_iff.1 hd).find_eq hx]
  show heirB x.name x.loc F[t] = fits x F[t].name.toList F[t].is.toList
  unfold heirB fits
  rw [Bool.eq_iff_iff]
  simp only [Bool.and_eq_true, Bool.or_eq_true, beq_iff_eq]
  constructor
  · rintro ⟨h1, h2⟩
    exact ⟨h1.symm, h2.symm.imp (fun e => e.symm) (fun e => e.symm)⟩
  · rintro ⟨h1, h2⟩
    exact ⟨h1.symm, h2.symm.imp (fun e => e.symm) (fun e => e.symm)⟩
theorem heirs_fates (h : rightF m F = true) {D : DeskD} (hd : rightK D = true) {i : Nat} {x : DefD} (hx : D.defs[i]? = some x) :
    heirsZ m F x.name x.loc = (elemsZ m F 0).filter fun z => fateZ m F z D == (i : Int) :=
  List.filter_congr fun _ hz => fate_heir h hd hx hz
end
end Go.Proofs.YtkomeijlljcdgaaGreat
namespace Go.Proofs.YtkomeijlljcdgaaGreat
def isFor (s base : ByteArray) (c : Core) : Bool := c.kind == 1 && c.doc == 0 && ((base.toList == []) && (c.name.toList == s.toList) || !(base.toList == []) && (c.name.toList == base.toList) && (c.is.toList == s.toList))
section
variable {D : DeskD} {classes : Int} {s base : ByteArray} {cl : Int} {x : Core}
theorem base_apart (h : MayOk D classes s.toList base.toList cl) (hb : base.toList ≠ []) : s.toList ≠ base.toList := by
  intro e
  have h1 := h.bs.resolve_left hb
  have h2 := h.cus
  rw [e] at h2
  have h3 := custom_known h2
  rw [h1] at h3
  cases h3
theorem isFor_fits (h : MayOk D classes s.toList base.toList cl) (hk : x.kind = 1) (hd : x.doc = 0) : fits (newDef s base cl) x.name.toList x.is.toList = isFor s base x := by
  unfold fits isFor
  rw [newDef_loc, hk, hd, show (newDef s base cl).name = s from rfl]
  by_cases hb : base.toList = []
  · rw [if_pos hb, show (base.toList == []) = true from beq_iff_eq.2 hb]
    rw [Bool.eq_iff_iff]
    simp
    constructor
    · rintro ⟨h1, _⟩; exact h1.symm
    · rintro h1; exact ⟨h1.symm, .inl h1.symm⟩
  · have hne := base_apart h hb
    rw [if_neg hb, show (base.toList == []) = false from beq_eq_false_iff_ne.2 hb]
    rw [Bool.eq_iff_iff]
    simp
    constructor
    · rintro ⟨h1, h2⟩
      refine ⟨h1.symm, ?_⟩
      rcases h2 with h2 | h2
      · exact absurd (h2.trans h1.symm) hne
      · exact h2.symm
    · rintro ⟨h1, h2⟩; exact ⟨h1.symm, .inr h2.symm⟩
theorem isFor_kind (h : isFor s base x = true) : x.kind = 1 ∧ x.doc = 0 := by
  unfold isFor at h
  simp only [Bool.and_eq_true, beq_iff_eq] at h
  exact h.1
theorem adds_at (h : MayOk D classes s.toList base.toList cl) (x : Core) :
    (isFor s base x = true → fateC D x = -1 ∧ fateC (addK D s base cl) x = (D.defs.length : Int)) ∧
    (isFor s base x = false → fateC (addK D s base cl) x = fateC D x ∧ fateC D x < (D.defs.length : Int)) := by
  have hr : rightK D = true := rightK_iff.2 h.r
  have hr2 : rightK (addK D s base cl) = true := rightK_iff.2 h.right
  have e1 : ∀ l i, ifRight D (findZ2 D.defs l i) = findZ2 D.defs l i := fun l i => by unfold ifRight; rw [if_pos hr]
  have e2 : ∀ l i, ifRight (addK D s base cl) (findZ2 (addK D s base cl).defs l i) = findZ2 (addK D s base cl).defs l i := fun l i => by unfold ifRight; rw [if_pos hr2]
  constructor
  · intro hf
    obtain ⟨hk, hd⟩ := isFor_kind hf
    unfold fateC
    rw [if_pos ⟨hk, hd⟩, if_pos ⟨hk, hd⟩, e1, e2]
    exact h.find_fits (by rw [isFor_fits h hk hd]; exact hf)
  · intro hf
    unfold fateC
    by_cases hkd : x.kind = 1 ∧ x.doc = 0
    · rw [if_pos hkd, if_pos hkd, e1, e2]
      exact ⟨h.find_not (by rw [isFor_fits h hkd.1 hkd.2]; exact hf), (find_lt _ _ _).2⟩
    · rw [if_neg hkd, if_neg hkd]
      exact ⟨rfl, by omega⟩
end
section
variable {m : Int} {F : List Core}
theorem doc_top (h : rightF m F = true) {d : Nat} {c : Core} (hc : F[d]? = some c) (hk : c.kind = 0) : parS F d = none := by
  have N := right_node h hc
  refine parS_none ?_
  rw [nextUp_at hc]
  have hp : c.parent = -1 := by
    rcases N.par with e | ⟨e, _⟩
    · exact e
    · omega
  show (if c.parent = -1 then c.host else c.parent) = -1
  rw [if_pos hp]
  exact N.free (by omega)
theorem conn_zero (h : rightF m F = true) {t : Nat} {c : Core} (hc : F[t]? = some c) (hd : c.doc = 0) : connZ m F (t : Int) = true ↔ (t : Int) ∈ allI F 0 := by
  have ht := (List.getElem?_eq_some_iff.1 hc).1
  have h0 : 0 < F.length := by omega
  have hm : (t : Int) ∈ allI F 0 ↔ overZ m F ((0 : Nat) : Int) (t : Int) = true := by
    rw [mem_allI, overZ_iff h h0 ht, show (0 : Int).toNat = 0 from rfl]
    unfold allF
    exact (treeS h).mem_ord _ 0 h0 (by omega) t ht
  rw [hm, connZ_eq h ht, beq_iff_eq]
  constructor
  · intro hk
    rw [topZ_eq h ht] at hk
    have htl := topF_lt h ht
    have hy := List.getElem?_eq_getElem htl
    unfold kindK at hk
    rw [getC_nat, hy] at hk
    dsimp only at hk
    have hov : holdsT (parS F) (topF F t) t := rootN_holds _ _
    obtain ⟨u, hu⟩ := hov
    have hdoc := doc_over10 h u t _ hc hu hy
    have h2 := (nodeOk_iff.1 (((rightF_iff m F).1 h).2.1 _ _ hy)).1
    unfold docOk at h2
    simp only [Bool.and_eq_true] at h2
    have h3 := h2.2
    rw [hk] at h3
    have h4 : F[topF F t].doc = (topF F t : Int) := by simpa using h3
    have h5 : topF F t = 0 := by omega
    rw [overZ_iff h h0 ht]
    rw [h5] at hu
    exact ⟨u, hu⟩
  · intro ho
    rw [top_over h h0 ht ho, topZ_eq h h0]
    have hk : kindK F ((0 : Nat) : Int) = 0 := by
      have h1 := ((rightF_iff m F).1 h).1.2.2.2
      unfold headDoc at h1
      unfold kindK
      rw [getC_nat]
      cases F with
      | nil => cases h1
      | cons d r => simpa using h1
    have hy := List.getElem?_eq_getElem h0
    have hp : parS F 0 = none := by
      have hkd : F[0].kind = 0 := by
        unfold kindK at hk
        rw [getC_nat, hy] at hk
        exact hk
      exact doc_top h hy hkd
    have e : topF F 0 = 0 := by
      unfold topF rootN
      rw [hp]
    rw [e]
    exact hk
theorem heir_has (h : rightF m F = true) {D : DeskD} {classes : Int} {s base : ByteArray} {cl : Int} (hm : MayOk D classes s.toList base.toList cl) {t : Nat} {c : Core} (hc : F[t]? = some c) :
    hasZ (heirsZ m F (newDef s base cl).name (newDef s base cl).loc) (t : Int) = if isFor s base c && connZ m F (t : Int) then 1 else 0 := by
  have ht := (List.getElem?_eq_some_iff.1 hc).1
  have h0 : 0 < F.length := by omega
  have hE : allZ m F 0 = allI F 0 := allZ_eq h h0
  have hN : (heirsZ m F (newDef s base cl).name (newDef s base cl).loc).Nodup := by
    unfold heirsZ elemsZ
    rw [hE]
    exact ((allI_nodup h h0).filter _).filter _
  rw [hasZ_nodup hN]
  have key : (t : Int) ∈ heirsZ m F (newDef s base cl).name (newDef s base cl).loc ↔ (isFor s base c && connZ m F (t : Int)) = true := by
    have hr2 : rightK (addK D s base cl) = true := rightK_iff.2 hm.right
    have hx : (addK D s base cl).defs[D.defs.length]? = some (newDef s base cl) := by rw [add_defs_at, if_neg (by omega), if_pos rfl]
    rw [heirs_fates h hr2 hx, List.mem_filter, fate_zat h hc, Bool.and_eq_true, beq_iff_eq]
    have ha := adds_at hm c
    constructor
    · rintro ⟨h1, h2⟩
      obtain ⟨hk, hd⟩ := elems010 h h1 hc
      constructor
      · cases hf : isFor s base c with
        | true => rfl
        | false =>
          have := ha.2 hf
          omega
      · unfold elemsZ at h1
        rw [conn_zero h hc hd]
        rw [hE] at h1
        exact (List.mem_filter.1 h1).1
    · rintro ⟨h1, h2⟩
      obtain ⟨hk, hd⟩ := isFor_kind h1
      refine ⟨?_, (ha.1 h1).2⟩
      unfold elemsZ
      rw [List.mem_filter, hE]
      refine ⟨(conn_zero h hc hd).1 h2, ?_⟩
      unfold kindK
      rw [getC_nat, hc]
      simp [hk]
  by_cases hq : (isFor s base c && connZ m F (t : Int)) = true
  · rw [if_pos (key.2 hq), if_pos hq]
  · rw [if_neg (fun g => hq (key.1 g)), if_neg hq]
end
end Go.Proofs.YtkomeijlljcdgaaGreat
namespace Go.Proofs.YtkomeijlljcdgaaGreat
open Go.RowKit
end Go.Proofs.YtkomeijlljcdgaaGreat
namespace Go.Proofs.YtkomeijlljcdgaaGreat
open Go.RowKit
structure KBox (w W : World) (g : Nat) (da : Option Addr) (dl dc : Nat) (wa : Option Addr) (wl wc : Nat) (D : DeskD) : Prop where
  bx : GBox W g (.slice da dl dc) (.slice wa wl wc) D.next D.busy
  d : DefRow W da dl dc D.defs
  t : WaitRow W wa wl wc D.waits
  low : w.heap.size ≤ g
  below : Below w.heap.size w W
section
variable {w W V : World} {g : Nat} {da wa : Option Addr} {dl dc wl wc : Nat} {D : DeskD}
theorem KBox.keep (h : KBox w W g da dl dc wa wl wc D) (hb : Below W.heap.size W V) : KBox w V g da dl dc wa wl wc D :=
  ⟨h.bx.keep hb, h.d.below hb, h.t.below hb, h.low, h.below.trans (hb.mono h.below.size)⟩
theorem KBox.new (hd : DefRow W da dl dc D.defs) (ht : WaitRow W wa wl wc D.waits) (hb : Below w.heap.size w W) : KBox w (W.alloc (.cells #[.slice da dl dc, .slice wa wl wc, .int .i64 D.next, .bool D.busy] 28)) W.heap.size da dl dc wa wl wc D :=
  ⟨GBox.new _ _ _ _ _, hd.below (below_desk _ _), ht.below (below_desk _ _), hb.size, hb.alloc hb.size _⟩
theorem KBox.put {da' wa' : Option Addr} {dl' dc' wl' wc' : Nat} {E : DeskD} (h : KBox w W g da dl dc wa wl wc D) (hb : Below W.heap.size W V) (hd : DefRow V da' dl' dc' E.defs) (ht : WaitRow V wa' wl' wc' E.waits) (hn : NewAt W da') (hm : NewAt W wa') :
    KBox w (put4 V g (.slice da' dl' dc') (.slice wa' wl' wc') (.int .i64 E.next) (.bool E.busy)) g da' dl' dc' wa' wl' wc' E := by
  have hlt := h.bx.lt
  refine ⟨((((h.bx.keep hb).set0 _).set1 _).set2 _).set3 _, hd.same (fun b off e => put4_same (by have := hn b off e; omega)) (by rw [put4_size]; exact Nat.le_refl _), ht.same (fun b off e => put4_same (by have := hm b off e; omega)) (by rw [put4_size]; exact Nat.le_refl _), h.low, put4_below (h.below.trans (hb.mono h.below.size)) h.low⟩
end
end Go.Proofs.YtkomeijlljcdgaaGreat
namespace Go.Proofs.YtkomeijlljcdgaaGreat
open Go.RowKit
end Go.Proofs.YtkomeijlljcdgaaGreat
namespace Go.Proofs.YtkomeijlljcdgaaGreat
open Go.RowKit
attribute [local go_sem ↓] Go.wp_at_zero Go.wp_at_succ
theorem right_kid {m : Int} {F : List Core} (hr : rightF m F = true) {n : Nat} {x : Core} (hx : F[n]? = some x) {z : Int} (hz : z ∈ x.kids) : ∃ k : Nat, z = k ∧ k < F.length ∧ rankF F k = rankF F n + 1 := by
  have T := tree_of_right hr
  have h2 := (nodeOk_iff.1 (((rightF_iff m F).1 hr).2.1 _ x hx)).2.2.1 z hz
  obtain ⟨c, hc, _⟩ := kidB_iff.1 (kidOk_iff.1 h2).2
  obtain ⟨e1, e2, _⟩ := getC_some hc
  have hm : z.toNat ∈ kidsF F n := by
    unfold kidsF
    rw [hx]
    exact List.mem_map.2 ⟨z, hz, rfl⟩
  exact ⟨z.toNat, by omega, e2, (T.kid_rank hm).2⟩
end Go.Proofs.YtkomeijlljcdgaaGreat
namespace Go.Proofs.YtkomeijlljcdgaaGreat
open Go.RowKit
attribute [local go_sem ↓] Go.wp_at_zero Go.wp_at_succ
def allTo (F : List Core) (n : Nat) (K : List Int) (k : Nat) : List Int := (n : Int) :: (K.take k).flatMap (allI F)
theorem allTo_step {F : List Core} {n k : Nat} {K : List Int} {z : Int} (h : K[k]? = some z) : allTo F n K (k + 1) = allTo F n K k ++ allI F z := by
  obtain ⟨hl, hg⟩ := List.getElem?_eq_some_iff.1 h
  unfold allTo
  rw [List.take_succ_eq_append_getElem hl, hg, List.flatMap_append]
  simp
theorem allTo_end {m : Int} {F : List Core} (h : rightF m F = true) {a : Nat} {x : Core} (hx : F[a]? = some x) {k : Nat} (hk : k = (undL x ++ x.kids).length) : allTo F a (undL x ++ x.kids) k = allI F (a : Int) := by
  rw [allI_open h hx]
  unfold allTo
  rw [hk, List.take_length, List.flatMap_append]
  unfold undL
  by_cases hu : x.under = -1
  · rw [if_pos hu, if_pos hu]; rfl
  · rw [if_neg hu, if_neg hu]; simp
theorem allTo_len {F : List Core} {n k : Nat} {K : List Int} : (allTo F n K k).length ≤ (allTo F n K K.length).length := by
  unfold allTo
  rw [List.take_length, List.length_cons, List.length_cons]
  have : (K.flatMap (allI F)).length = ((K.take k).flatMap (allI F)).length + ((K.drop k).flatMap (allI F)).length := by
    rw [← List.length_append, ← List.flatMap_append, List.take_append_drop]
  omega
theorem below_at {m : Int} {F : List Core} (hr : rightF m F = true) {n : Nat} {x : Core} (hx : F[n]? = some x) {z : Int} (hz : z ∈ undL x ++ x.kids) : ∃ k : Nat, z = k ∧ k < F.length ∧ rankF F k = rankF F n + 1 := by
  have T := treeS hr
  have h0 : 0 ≤ z ∧ z.toNat ∈ kidsS F n := by
    rcases List.mem_append.1 hz with h1 | h1
    · unfold undL at h1
      by_cases hu : x.under = -1
      · rw [if_pos hu] at h1; simp at h1
      · rw [if_neg hu] at h1
        obtain rfl := List.mem_singleton.1 h1
        obtain ⟨s, u, e1, -⟩ := right_under hr hx hu
        refine ⟨by omega, List.mem_append.2 (.inl ?_)⟩
        unfold undS
        rw [hx]
        dsimp only
        rw [if_neg hu]
        exact List.mem_singleton.2 rfl
    · obtain ⟨k, rfl, -⟩ := right_kid hr hx h1
      refine ⟨by omega, List.mem_append.2 (.inr ?_)⟩
      unfold kidsF
      rw [hx]
      exact List.mem_map.2 ⟨_, h1, rfl⟩
  have h2 := T.kid_rank h0.2
  exact ⟨z.toNat, by omega, h2.1, h2.2⟩
set_option maxHeartbeats 16000000 in
set_option maxRecDepth 100000 in
theorem refallR_any (a : Option Addr) (len cap : Nat) (m : Int) (L : List NodeD) (hr : rightF m (coreL L) = true) (hs : L.length ≤ 1000) : ∀ (f n : Nat) (w : World), NodeRow w a len cap L → n < len → len + 2 ≤ rankF (coreL L) n + f →
    Calls Tryz.prog 72 #[forV a len cap m, .int .i64 n] w (OrdPost w (allI (coreL L) (n : Int))) := by
  intro f
  induction f with
  | zero =>
    intro n w h hn hk
    have h1 := (treeS hr).rank_le n (by rw [coreL_len, h.hlen]; exact hn)
    rw [coreL_len, h.hlen] at h1
    omega
  | succ f ih =>
    intro n w h hn hk
    have HCL : Hid ((coreL L).length = len) := Lib.hid (by rw [coreL_len, h.hlen])
    have hlen : len ≤ 1000 := by rw [← h.hlen]; exact hs
    obtain ⟨w1, hw1, BX⟩ : ∃ w1, w.alloc (forB a len cap m) = w1 ∧ Box w w1 w.heap.size a len cap m L (coreL L) := ⟨_, rfl, Box.start h⟩
    have BX := Lib.hid BX
    have HW1 := Lib.hid hw1
    obtain ⟨b, off, x, rfl, hb, hx, hat, hok⟩ := BX.out.row.get hn
    have hxc := coreL_get hx
    have HX := Lib.hid hxc
    have HKR := Lib.hid hok.kids
    have HC6 := Lib.hid (stays hat.c6 hb)
    have HC8 := Lib.hid (stays hat.c8 hb)
    have HKL := Lib.hid hok.kids.hlen
    obtain ⟨K, hK⟩ : ∃ K, undL x.core ++ x.core.kids = K := ⟨_, rfl⟩
    have HEND : Hid (allTo (coreL L) n K K.length = allI (coreL L) (n : Int)) := Lib.hid (by rw [← hK]; exact allTo_end hr hxc rfl)
    have HNL : Hid ((allI (coreL L) (n : Int)).length ≤ 1000) := Lib.hid (Nat.le_trans (allI_len hr (by rw [HCL.out]; exact hn)) (by rw [HCL.out]; exact hlen))
    have IH : Hid (∀ z ∈ K, ∃ k : Nat, z = k ∧ ∀ W, NodeRow W (some ⟨b, off, none⟩) len cap L → Calls Tryz.prog 72 #[forV (some ⟨b, off, none⟩) len cap m, .int .i64 z] W (OrdPost W (allI (coreL L) z))) := Lib.hid (fun z hz => by
      rw [← hK] at hz
      obtain ⟨k, rfl, hkl, hrk⟩ := below_at hr hxc hz
      exact ⟨k, rfl, fun W h => ih k W h (by rw [HCL.out] at hkl; exact hkl) (by omega)⟩)
    have PL : Hid (∀ k z, K[k]? = some z → (allTo (coreL L) n K k).length + (allI (coreL L) z).length ≤ 1000) := Lib.hid (fun k z hz => by
      have h1 := allTo_len (F := coreL L) (n := n) (k := k + 1) (K := K)
      rw [allTo_step hz, List.length_append, HEND.out] at h1
      have := HNL.out
      omega)
    obtain ⟨u, hu⟩ : ∃ u, (undL x.core).length = u := ⟨_, rfl⟩
    have HKK : Hid (∀ k, K[u + k]? = x.core.kids[k]?) := Lib.hid (fun k => by rw [← hK, ← hu, List.getElem?_append_right (by omega), Nat.add_sub_cancel_left])
    have HKN : Hid (u + x.kN = K.length) := Lib.hid (by rw [← hK, ← hu, List.length_append, HKL.out])
    have HU0 : Hid (x.core.under = -1 → u = 0) := Lib.hid (fun e => by rw [← hu]; unfold undL; rw [if_pos e]; rfl)
    have HU1 : Hid (x.core.under ≠ -1 → u = 1 ∧ K[0]? = some x.core.under) := Lib.hid (fun e => by
      rw [← hu, ← hK]
      unfold undL
      rw [if_neg e]
      exact ⟨rfl, rfl⟩)
    obtain ⟨i0, hi0, hz0, hz1, hz2⟩ := info_parts int_info
    have hkn : x.kN ≤ 9223372036854775807 := hok.kids.len64
    have z0 := BX.out.c0
    have z1 := BX.out.c1
    have c8 := HC8.out _ (Below.refl _ _)
    have OW0 : Hid ((w1.alloc (.cells #[.int .i64 n] 3)).ownsRow w1.heap.size 3 1 (.slice (some ⟨w.heap.size + 1, 0, none⟩) 1 1) (allTo (coreL L) n K 0).length ((allTo (coreL L) n K 0).flatMap encZ)) := Lib.hid (by
      have h2 := World.ownsRow_lit (base := w1.heap.size) (e := 3) (size := 1) w1 #[.int .i64 n] 1 (Nat.le_refl _) (by unfold maxLen; omega) (by simp)
      rwa [show (some (⟨w1.heap.size, 0, none⟩ : Addr)) = some ⟨w.heap.size + 1, 0, none⟩ by rw [← hw1]; simp] at h2)
    clear hat hok hx hxc hb h hk ih hw1 hK hu
    go_enter Tryz.func72, Tryz.ntmps72
    go_upto_region 2 with fail
    rw [HW1.out]
    have HBW : Hid (Below w1.heap.size w1 (w1.alloc (.cells #[.int .i64 n] 3))) := Lib.hid (below_box w1 _)
    have BX2 := Lib.hid (BX.out.keep HBW.out)
    clear z0 z1 c8
    have z0 := BX2.out.c0
    have z1 := BX2.out.c1
    have c8 := HC8.out _ HBW.out
    go_upto_if 15 with fail
    go_cut [5] (fun v wx => Hid (Below w1.heap.size w1 wx) ∧ Hid (wx.ownsRow w1.heap.size 3 1 v (allTo (coreL L) n K u).length ((allTo (coreL L) n K u).flatMap encZ)))
    case first =>
      by_cases hn1 : x.core.under = -1
      · have e1 : (x.core.under != -1) = false := by rw [hn1]; rfl
        have HU := Lib.hid (HU0.out hn1)
        clear hn1
        go_wp2
        go_meet
        exact ⟨HBW, by rw [HU.out]; exact OW0⟩
      · have e1 : (x.core.under != -1) = true := bne_iff_ne.2 hn1
        obtain ⟨hu1, hk0⟩ := HU1.out hn1
        obtain ⟨zk, hzk, IHz⟩ := IH.out _ (List.mem_of_getElem? hk0)
        have IHZ := Lib.hid IHz
        have HPL := Lib.hid (PL.out _ _ hk0)
        have HST := Lib.hid (allTo_step (F := coreL L) (n := n) hk0)
        have HU2 := Lib.hid hu1
        clear hn1 hu1 hk0 IHz hzk
        obtain ⟨n1, hn1⟩ : ∃ n1, (allTo (coreL L) n K 0).length = n1 := ⟨_, rfl⟩
        have HN1 := Lib.hid hn1
        have OW := OW0
        rw [hn1] at OW HPL
        have hpl := HPL.out
        have HC8' := Lib.hid HC8.out
        clear hn1 OW0
        obtain ⟨w2a, hw2a⟩ : ∃ w2a, w1.alloc (.cells #[.int .i64 n] 3) = w2a := ⟨_, rfl⟩
        rw [hw2a] at HBW OW ⊢
        have BX2 := Lib.hid (BX.out.keep HBW.out)
        have z0 := BX2.out.c0
        have z1 := BX2.out.c1
        have c8 := HC8.out _ HBW.out
        clear hw2a
        go_wp2
        go_region_held3 (fun w' => w'.cell? ⟨w.heap.size, 0, none⟩ = some (.slice (some ⟨b, off, none⟩) len cap) ∧ w'.cell? ⟨w.heap.size, 1, none⟩ = some (.int .i64 m) ∧ w'.cell? ⟨b, off + n * 10 + 8, none⟩ = some (.int .i64 x.core.under)) (go_keep)
          (first
            | (go_at_call 72; refine (IHZ.out _ BX2.out.row.drew).mono ?_; intro e w2 hp; obtain ⟨a2, n2, c2, rfl, hrow, hb⟩ := hp; have hb := (Below.refl _ _).drew.trans hb; have IR := Lib.hid hrow; have OW := Lib.hid (own_below OW.out hb); have HBW := Lib.hid (HBW.out.trans (hb.mono HBW.out.size)); have BX2 := Lib.hid (BX.out.keep HBW.out); have z0 := BX2.out.c0; have z1 := BX2.out.c1; have c8 := HC8'.out _ HBW.out; have hn2 : n2 ≤ 1000 := (by have h1 := IR.out.hlen; omega); have hn12 : n1 + n2 ≤ 1000 := (by have h1 := IR.out.hlen; omega); clear hrow hb)
            | (refine step_append_rows (by rfl) _ _ _ (by rfl) 3 i0 _ 1 8 Tryz.underlying36 hi0 hz0 hz1 hz2 (by rfl) (by decide) w1.heap.size (.slice (some ⟨w.heap.size + 1, 0, none⟩) 1 1) n1 (allTo (coreL L) n K 0) (allI (coreL L) x.core.under) (by rfl) OW.out a2 n2 c2 (by rfl) IR.out.row (fun x _ => encZ_one x) (by unfold maxLen; omega) (by omega) HBW.out.size IR.out.hnil ?_; intro v2 w3 hown3 hg3 hat3; have HBW := Lib.hid (HBW.out.grown hg3 HBW.out.size (fun k e => (OW.out.lt k e).1)); have OW := Lib.hid hown3; have BX2 := Lib.hid (BX.out.keep HBW.out); have z0 := BX2.out.c0; have z1 := BX2.out.c1; have c8 := HC8'.out _ HBW.out; clear hown3 hg3 hat3))
        have OW2 : Hid (w3.ownsRow w1.heap.size 3 1 v2 (allTo (coreL L) n K u).length ((allTo (coreL L) n K u).flatMap encZ)) := Lib.hid (by
          have h1 := OW.out
          rw [← HST.out] at h1
          have h2 : n1 + n2 = (allTo (coreL L) n K (0 + 1)).length := by
            rw [HST.out, List.length_append, HN1.out, IR.out.hlen]
          rw [h2] at h1
          rw [HU2.out]
          exact h1)
        go_wp2
        go_meet
        exact ⟨HBW, OW2⟩
    case rest =>
      obtain ⟨HBW0, OWu⟩ := hcut
      clear OW0 z0 z1 c8 BX2 HBW
      go_wp2
      go_loopw [5, 6] (fun v i wr => ∃ k : Nat, k ≤ x.kN ∧ i = .int .i64 k ∧ Hid (Below w1.heap.size w1 wr) ∧ Hid (wr.ownsRow w1.heap.size 3 1 v (allTo (coreL L) n K (u + k)).length ((allTo (coreL L) n K (u + k)).flatMap encZ))) (fun _ i _ => x.kN - (intOf i).toNat)
      case atStart => exact ⟨0, Nat.zero_le _, rfl, HBW0, OWu⟩
      case round =>
        clear OWu HBW0
        obtain ⟨k, hk, rfl, HBW, OW⟩ := hrel
        have BX2 := Lib.hid (BX.out.keep HBW.out)
        have z0 := BX2.out.c0
        have z1 := BX2.out.c1
        have c6 := HC6.out _ HBW.out
        by_cases hlt : k < x.kN
        · obtain ⟨bk, ok, z, hka, hbk, hz, hcz, hin⟩ := (HKR.out.below HBW.out).get hlt
          have hzK : K[u + k]? = some z := by rw [HKK.out]; exact hz
          obtain ⟨zk, rfl, IHz⟩ := IH.out z (List.mem_of_getElem? hzK)
          have IHZ := Lib.hid IHz
          rw [hka] at c6
          have HCK := Lib.hid (HC6.out)
          rw [hka] at HCK
          have HPL := Lib.hid (PL.out _ _ hzK)
          have HST := Lib.hid (allTo_step (F := coreL L) (n := n) hzK)
          have HBK : Hid (bk < w1.heap.size) := Lib.hid (by
            rcases HKR.out.row.cells with h0 | ⟨b2, o2, ha2, hlt2, _⟩
            · omega
            · rw [hka] at ha2
              injection ha2 with ha2
              injection ha2 with e1
              omega)
          have HCZ : Hid (∀ W, Below w1.heap.size w1 W → W.cell? ⟨bk, ok + k, none⟩ = some (.int .i64 (zk : Int))) := Lib.hid (stays ((HBW.out.cell (p := ⟨bk, ok + k, none⟩) HBK.out).symm.trans hcz) HBK.out)
          obtain ⟨n1, hn1⟩ : ∃ n1, (allTo (coreL L) n K (u + k)).length = n1 := ⟨_, rfl⟩
          have HN1 := Lib.hid hn1
          rw [hn1] at OW HPL
          have hpl := HPL.out
          clear hz hzK hin hka hbk IHz hn1
          go_wp2
          have cz := HCZ.out _ HBW.out
          go_region_held3 (fun w' => w'.cell? ⟨w.heap.size, 0, none⟩ = some (.slice (some ⟨b, off, none⟩) len cap) ∧ w'.cell? ⟨w.heap.size, 1, none⟩ = some (.int .i64 m) ∧ w'.cell? ⟨b, off + n * 10 + 6, none⟩ = some (.slice (some ⟨bk, ok, none⟩) x.kN x.kC) ∧ w'.cell? ⟨bk, ok + k, none⟩ = some (.int .i64 (zk : Int))) (go_keep)
            (first
              | (go_at_call 72; refine (IHZ.out _ BX2.out.row.drew).mono ?_; intro e w2 hp; obtain ⟨a2, n2, c2, rfl, hrow, hb⟩ := hp; have hb := (Below.refl _ _).drew.trans hb; have IR := Lib.hid hrow; have OW := Lib.hid (own_below OW.out hb); have HBW := Lib.hid (HBW.out.trans (hb.mono HBW.out.size)); have BX2 := Lib.hid (BX.out.keep HBW.out); have z0 := BX2.out.c0; have z1 := BX2.out.c1; have c6 := HCK.out _ HBW.out; have cz := HCZ.out _ HBW.out; have hn2 : n2 ≤ 1000 := (by have h1 := IR.out.hlen; omega); have hn12 : n1 + n2 ≤ 1000 := (by have h1 := IR.out.hlen; omega); clear hrow hb)
              | (refine step_append_rows (by rfl) _ _ _ (by rfl) 3 i0 _ 1 8 Tryz.underlying36 hi0 hz0 hz1 hz2 (by rfl) (by decide) w1.heap.size u5 n1 (allTo (coreL L) n K (u + k)) (allI (coreL L) (zk : Int)) (by rfl) OW.out a2 n2 c2 (by rfl) IR.out.row (fun x _ => encZ_one x) (by unfold maxLen; omega) (by omega) HBW.out.size IR.out.hnil ?_; intro v2 w3 hown3 hg3 hat3; have HBW := Lib.hid (HBW.out.grown hg3 HBW.out.size (fun k e => (OW.out.lt k e).1)); have OW := Lib.hid hown3; have BX2 := Lib.hid (BX.out.keep HBW.out); have z0 := BX2.out.c0; have z1 := BX2.out.c1; have c6 := HCK.out _ HBW.out; have cz := HCZ.out _ HBW.out; clear hown3 hg3 hat3))
          have OW2 : Hid (w3.ownsRow w1.heap.size 3 1 v2 (allTo (coreL L) n K (u + (k + 1))).length ((allTo (coreL L) n K (u + (k + 1))).flatMap encZ)) := Lib.hid (by
            have h1 := OW.out
            rw [← HST.out] at h1
            have h2 : n1 + n2 = (allTo (coreL L) n K (u + k + 1)).length := by
              rw [HST.out, List.length_append, HN1.out, IR.out.hlen]
            rwa [h2] at h1)
          go_wp2
          go_roundw
          case rel => exact ⟨k + 1, by omega, by go_num, HBW, OW2⟩
          case measure => simp [intOf]; omega
        · have hkk : k = x.kN := by omega
          subst hkk
          rw [HKN.out, HEND.out] at OW
          have HIN : Hid (∀ z ∈ allI (coreL L) (n : Int), In64 z) := Lib.hid (fun z hz => by
            obtain ⟨q, rfl, hql⟩ := allI_num hr (by rw [HCL.out]; exact hn) hz
            rw [HCL.out] at hql
            exact ⟨by show (_ : Int) ≤ ((q : Nat) : Int); omega, by show ((q : Nat) : Int) ≤ _; omega⟩)
          obtain ⟨a9, cap9, rfl, hr9, -⟩ := IntRow.of_own_new (M := allI (coreL L) (n : Int)) (n := (allI (coreL L) (n : Int)).length) rfl OW.out HIN.out
          have HR9 := Lib.hid hr9
          clear hr9
          by_cases hkz : x.kN = 0
          · have hkz' := Lib.hid hkz
            go_wp2
            go_ret
            exact ⟨a9, _, cap9, rfl, HR9.out, BX.out.below.trans (HBW.out.mono BX.out.below.size)⟩
          · go_wp2
            go_ret
            exact ⟨a9, _, cap9, rfl, HR9.out, BX.out.below.trans (HBW.out.mono BX.out.below.size)⟩
theorem refall_any (a : Option Addr) (len cap : Nat) (m : Int) (L : List NodeD) (hr : rightF m (coreL L) = true) (hs : L.length ≤ 1000) (n : Nat) (w : World) (h : NodeRow w a len cap L) (hn : n < len) :
    Calls Tryz.prog 72 #[forV a len cap m, .int .i64 n] w (OrdPost w (allI (coreL L) (n : Int))) :=
  refallR_any a len cap m L hr hs (len + 2) n w h hn (by omega)
end Go.Proofs.YtkomeijlljcdgaaGreat
namespace Go.Proofs.YtkomeijlljcdgaaGreat
open Go.RowKit
set_option maxHeartbeats 8000000 in
set_option maxRecDepth 100000 in
theorem refelems_any (a : Option Addr) (len cap : Nat) (m : Int) (L : List NodeD) (hr : rightF m (coreL L) = true) (hs : L.length ≤ 1000) (n : Nat) (w : World) (h : NodeRow w a len cap L) (hn : n < len) :
    Calls Tryz.prog 40 #[forV a len cap m, .int .i64 n] w (OrdPost w ((allI (coreL L) (n : Int)).filter (fun k => kindK (coreL L) k == 1))) := by
  have HCL : Hid ((coreL L).length = len) := Lib.hid (by rw [coreL_len, h.hlen])
  have hlen : len ≤ 1000 := by rw [← h.hlen]; exact hs
  have BX := Lib.hid (Box.start (m := m) h)
  have z0 := BX.out.c0
  have z1 := BX.out.c1
  obtain ⟨l, hl⟩ : ∃ l, allI (coreL L) (n : Int) = l := ⟨_, rfl⟩
  have CA : Hid (∀ W, NodeRow W a len cap L → Calls Tryz.prog 72 #[forV a len cap m, .int .i64 n] W (OrdPost W l)) := Lib.hid (fun W h => by
    rw [← hl]
    exact refall_any a len cap m L hr hs n W h hn)
  have NUM : Hid (∀ z ∈ l, ∃ k : Nat, z = k ∧ k < len) := Lib.hid (fun z hz => by
    rw [← hl] at hz
    rw [← HCL.out]
    exact allI_num hr (by rw [HCL.out]; exact hn) hz)
  have HLL : Hid (l.length ≤ 1000) := Lib.hid (by rw [← hl]; exact Nat.le_trans (allI_len hr (by rw [HCL.out]; exact hn)) (by rw [HCL.out]; exact hlen))
  have HE : Hid (l.filter (fun k => kindK (coreL L) k == 1) = selE (coreL L) l l.length) := Lib.hid (by unfold selE; rw [List.take_length])
  rw [hl]
  obtain ⟨i0, hi0, hz0, hz1, hz2⟩ := info_parts int_info
  clear h hn hs hl hr
  go_enter Tryz.func40, Tryz.ntmps40
  go_wp2_with (go_at_call 72; ((with_reducible refine (CA.out _ BX.out.row).mono ?_); rintro e w1 ⟨ao, lo, co, rfl, hro, hb⟩; have BX := Lib.hid (BX.out.keep hb); have IR := Lib.hid hro; have z0 := BX.out.c0; have z1 := BX.out.c1; clear hb hro))
  have hl64 := IR.out.len64
  have hl1k : lo ≤ 1000 := by rw [← IR.out.hlen]; exact HLL.out
  have OW0 : Hid (w1.ownsRow w1.heap.size 3 1 (.slice none 0 0) (selE (coreL L) l 0).length ((selE (coreL L) l 0).flatMap encZ)) := Lib.hid (World.ownsRow_nil _ _ _ _)
  go_loopw [5, 7] (fun v i wr => ∃ k : Nat, k ≤ lo ∧ i = .int .i64 k ∧ Hid (Below w1.heap.size w1 wr) ∧ Hid (wr.ownsRow w1.heap.size 3 1 v (selE (coreL L) l k).length ((selE (coreL L) l k).flatMap encZ))) (fun _ i _ => lo - (intOf i).toNat)
  case atStart => exact ⟨0, Nat.zero_le _, rfl, Lib.hid (Below.refl _ _), OW0⟩
  case round =>
    clear OW0 z0 z1
    obtain ⟨k, hk, rfl, HBW, OW⟩ := hrel
    have BX2 := Lib.hid (BX.out.keep HBW.out)
    have IR2 := Lib.hid (IR.out.below HBW.out)
    have z0 := BX2.out.c0
    have z1 := BX2.out.c1
    by_cases hlt : k < lo
    · obtain ⟨bo, oo, z, rfl, hbo, hz, hcz, -⟩ := IR2.out.get hlt
      obtain ⟨q, rfl, hq⟩ := NUM.out z (List.mem_of_getElem? hz)
      obtain ⟨b, off, x, rfl, hb, hx, hat, -⟩ := BX2.out.row.get hq
      have c0 := hat.c0
      have HKD : Hid (kindK (coreL L) (q : Int) = x.core.kind) := Lib.hid (by unfold kindK; rw [getC_nat, coreL_get hx])
      have HST := Lib.hid (selE_step (F := coreL L) hz)
      have hsl : (selE (coreL L) l k).length ≤ 1000 := Nat.le_trans (selE_len _ _ _) HLL.out
      obtain ⟨n1, hn1⟩ : ∃ n1, (selE (coreL L) l k).length = n1 := ⟨_, rfl⟩
      have HN1 := Lib.hid hn1
      rw [hn1] at OW hsl
      clear hz hx hat hn1
      by_cases hkd : x.core.kind = 1
      · have hk1 : (x.core.kind == 1) = true := beq_iff_eq.2 hkd
        have HS2 : Hid (selE (coreL L) l (k + 1) = selE (coreL L) l k ++ [(q : Int)]) := Lib.hid (by rw [HST.out, HKD.out, hk1]; rfl)
        clear hkd
        go_wp2
        have E0 := Ext.cell z0 BX2.out.lt
        have EZ := Ext.cell hcz hbo
        have EC := Ext.cell c0 hb
        refine wp_region_ext (by kernel_rfl) (by kernel_rfl) ?_
        repeat (go_big_quiet_step (fail))
        refine wpQuiet_nil ?_
        intro w' hw'
        obtain ⟨⟨w2, hb2⟩, hw''⟩ := hw'
        dsimp only at hw''
        subst hw''
        have hcz := (hb2.cell (p := ⟨bo, oo + k, none⟩) hbo).trans hcz
        have BX2 := Lib.hid (BX2.out.keep hb2)
        have OW := Lib.hid (own_below OW.out hb2)
        have HBW := Lib.hid (HBW.out.trans (hb2.mono HBW.out.size))
        have z0 := BX2.out.c0
        clear E0 EZ EC c0 z1
        clear hb2
        go_wp2_with (at_builtin
                     refine wpList_append_rows rfl (.tmp 27) (.tmp 32) 36 rfl 3 i0 _ 1 8 Tryz.underlying36 hi0 hz0 hz1 hz2 rfl (by decide) w1.heap.size _ n1 (selE (coreL L) l k) [(q : Int)] rfl (OW.out.alloc _) _ 1 1 rfl (own_one _ _ _ _ rfl rfl) (fun x _ => encZ_one x) (by unfold maxLen; omega) (by omega) (by have := HBW.out.size; simp; omega) (fun h => by cases h) ?_
                     intro v3 w3 hown3 hg3 hat3
                     have HB3 := Lib.hid (below_own HBW.out OW.out hg3)
                     have HO3 := Lib.hid hown3
                     clear hown3 hg3 hat3)
        go_roundw
        case rel => exact ⟨k + 1, by omega, by go_num, HB3, Lib.hid (by
          have h1 := HO3.out
          rw [← HS2.out] at h1
          rwa [show n1 + 1 = (selE (coreL L) l (k + 1)).length by rw [HS2.out, List.length_append, HN1.out]; rfl] at h1)⟩
        case measure => simp [intOf]; omega
      · have hk1 : (x.core.kind == 1) = false := beq_eq_false_iff_ne.2 hkd
        have HS2 : Hid (selE (coreL L) l (k + 1) = selE (coreL L) l k) := Lib.hid (by rw [HST.out, HKD.out, hk1]; simp)
        clear hkd
        go_wp2
        have E0 := Ext.cell z0 BX2.out.lt
        have EZ := Ext.cell hcz hbo
        have EC := Ext.cell c0 hb
        refine wp_region_ext (by kernel_rfl) (by kernel_rfl) ?_
        repeat (go_big_quiet_step (fail))
        refine wpQuiet_nil ?_
        intro w' hw'
        obtain ⟨⟨w2, hb2⟩, hw''⟩ := hw'
        dsimp only at hw''
        subst hw''
        have hcz := (hb2.cell (p := ⟨bo, oo + k, none⟩) hbo).trans hcz
        have BX2 := Lib.hid (BX2.out.keep hb2)
        have OW := Lib.hid (own_below OW.out hb2)
        have HBW := Lib.hid (HBW.out.trans (hb2.mono HBW.out.size))
        have z0 := BX2.out.c0
        clear E0 EZ EC c0 z1
        clear hb2
        go_wp2
        go_roundw
        case rel => exact ⟨k + 1, by omega, by go_num, HBW, Lib.hid (by rw [HS2.out, HN1.out]; exact OW.out)⟩
        case measure => simp [intOf]; omega
    · have hkk : k = lo := by omega
      subst hkk
      have HIN : Hid (∀ z ∈ selE (coreL L) l k, In64 z) := Lib.hid (fun z hz => by
        unfold selE at hz
        obtain ⟨q, rfl, hq⟩ := NUM.out z (List.mem_of_mem_take ((List.mem_filter.1 hz).1))
        exact ⟨by omega, by omega⟩)
      have HSE : Hid (l.filter (fun k => kindK (coreL L) k == 1) = selE (coreL L) l k) := Lib.hid (by rw [HE.out, IR.out.hlen])
      obtain ⟨a9, cap9, rfl, hr9, -⟩ := IntRow.of_own_new (M := selE (coreL L) l k) (n := (selE (coreL L) l k).length) rfl OW.out HIN.out
      have HR9 := Lib.hid hr9
      clear hr9 OW
      go_wp2
      go_ret
      exact ⟨a9, _, cap9, rfl, by rw [HSE.out]; exact HR9.out, BX2.out.below⟩
end Go.Proofs.YtkomeijlljcdgaaGreat
