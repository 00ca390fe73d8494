/- Texts joined in build order: ValidOut ValidSwapMath ValidPutMath. -/
import Derived.Test.YtkomeijlljcdgaaGreatP28
import Derived.Test.YtkomeijlljcdgaaGreatP23
import Derived.Test.YtkomeijlljcdgaaGreatP24
/- instarlaw05's out: a node goes from its parent, in a row that may be written. -/
namespace Go.Proofs.YtkomeijlljcdgaaGreat
open Go.RowKit
/-- What is left of a list: all but n, of the first ones. -/
def restZ (l : List Int) (n : Int) (k : Nat) : List Int := (l.take k).filter (fun z => z != n)
theorem restZ_step {l : List Int} {n z : Int} {k : Nat} (h : l[k]? = some z) : restZ l n (k + 1) = restZ l n k ++ if z != n then [z] else [] := by
  obtain ⟨hl, hg⟩ := List.getElem?_eq_some_iff.1 h
  unfold restZ
  rw [List.take_succ_eq_append_getElem hl, hg, List.filter_append]
  congr 1
  rw [List.filter_cons]
  rfl
theorem restZ_len (l : List Int) (n : Int) (k : Nat) : (restZ l n k).length ≤ l.length := Nat.le_trans (List.length_filter_le _ _) (List.length_take_le' _ _)
theorem restZ_mem {l : List Int} {n z : Int} {k : Nat} (h : z ∈ restZ l n k) : z ∈ l := List.mem_of_mem_take (List.mem_filter.1 h).1
/-- What comes of out. -/
def OutOf (m : Int) (F G : List Core) (n : Nat) : Prop := ∃ x, F[n]? = some x ∧ ((x.parent = -1 ∧ G = F) ∨ ∃ p, Out m F G n p x)
theorem out_made {m : Int} {M : List NodeD} {n p : Nat} {x y : NodeD} (hr : rightF m (coreL M) = true) (hx : M[n]? = some x) (hy : M[p]? = some y) (hp : x.core.parent = (p : Int)) {a : Option Addr} {l c : Nat} : n ≠ p ∧ Out m (coreL M) (coreL ((M.set p (withK y a l c (y.core.kids.filter (fun z => z != (n : Int))))).set n (withP x (-1)))) n p x.core := by
  have hxc := coreL_get hx
  have hyc := coreL_get hy
  have hnp : n ≠ p := fun e => by
    subst e
    have hpar : parS (coreL M) n = some n := parS_some ((next_par hxc (by omega)).trans hp)
    have := (treeS hr).rank_up n n (List.getElem?_eq_some_iff.1 hxc).1 hpar
    omega
  refine ⟨hnp, hr, hxc, hp, ⟨by unfold coreL; simp, fun j z hz => ?_⟩⟩
  obtain ⟨q, hq, rfl⟩ : ∃ q, M[j]? = some q ∧ q.core = z := by
    unfold coreL at hz
    rw [List.getElem?_map] at hz
    cases hm : M[j]? with
    | none => rw [hm] at hz; cases hz
    | some q => rw [hm] at hz; exact ⟨q, rfl, Option.some.inj hz⟩
  have hjl := (List.getElem?_eq_some_iff.1 hq).1
  unfold coreL
  rw [List.getElem?_map]
  by_cases e : j = n
  · subst e
    obtain rfl : x = q := Option.some.inj (hx.symm.trans hq)
    rw [List.getElem?_set_self (by rw [List.length_set]; exact hjl), if_pos rfl, if_neg hnp]
    rfl
  · rw [List.getElem?_set_ne (fun e2 => e e2.symm), if_neg e]
    by_cases e2 : j = p
    · subst e2
      obtain rfl : y = q := Option.some.inj (hy.symm.trans hq)
      rw [List.getElem?_set_self hjl, if_pos rfl]
      rfl
    · rw [List.getElem?_set_ne (fun e3 => e2 e3.symm), if_neg e2, hq]
      rfl
theorem out_small {M : List NodeD} {n p : Nat} {x y : NodeD} (hs : smallF M) (hx : M[n]? = some x) (hy : M[p]? = some y) {a : Option Addr} {l c : Nat} : smallF ((M.set p (withK y a l c (y.core.kids.filter (fun z => z != (n : Int))))).set n (withP x (-1))) := by
  refine ⟨by simpa using hs.1, fun z hz => ?_⟩
  have h1 := hs.2 x (List.mem_of_getElem? hx)
  have h2 := hs.2 y (List.mem_of_getElem? hy)
  rcases List.mem_or_eq_of_mem_set hz with hz | rfl
  · rcases List.mem_or_eq_of_mem_set hz with hz | rfl
    · exact hs.2 z hz
    · exact ⟨Nat.le_trans (List.length_filter_le _ _) h2.1, h2.2⟩
  · exact h1
end Go.Proofs.YtkomeijlljcdgaaGreat
/- What ValidSwap asks, over data. Plain mathematics, no program. -/
namespace Go.Proofs.YtkomeijlljcdgaaGreat
open Go.RowKit
theorem inF_of' {F : List Core} {k : Nat} (h : k < F.length) : inF F (k : Int) = true := by unfold inF; rw [decide_eq_true (by omega), decide_eq_true (by omega)]; rfl
theorem vknows_of' {m : Int} {F : List Core} (h : rightF m F = true) {n p : Nat} (hn : n < F.length) (hp : p < F.length) {c : Int} (hc : c = -1 ∨ inF F c = true) : vknowsB m F n p c = true := by
  unfold vknowsB
  rw [inF_of' hn, inF_of' hp, h]
  rcases hc with rfl | hc
  · rfl
  · rw [hc]; simp
theorem refuse_zero {m : Int} {F : List Core} {n p g : Int} : refuseE m F n p true g = 0 ↔ kindK F p ≠ 2 ∧ overZ m F n p = false ∧ kindK F n ≠ 0 ∧ kindK F n ≠ 4 ∧ (kindK F p = 0 → docTakesB F n p g = true) := by
  unfold refuseE
  constructor
  · intro h
    split at h
    · cases h
    rename_i h1
    rw [if_neg (by simp)] at h
    split at h
    · cases h
    rename_i h3
    split at h
    · cases h
    rename_i h4
    refine ⟨fun e => h1 (.inl e), ?_, fun e => h3 (.inl e), fun e => h3 (.inr e), fun e => ?_⟩
    · cases hq : overZ m F n p with
      | false => rfl
      | true => exact absurd (.inr hq) h1
    · cases hq : docTakesB F n p g with
      | true => rfl
      | false => exact absurd ⟨e, hq⟩ h4
  · rintro ⟨h1, h2, h3, h4, h5⟩
    rw [if_neg (by rw [h2]; simp [h1]), if_neg (by simp), if_neg (by simp [h3, h4])]
    by_cases e : kindK F p = 0
    · rw [if_neg (by rw [h5 e]; simp)]
    · rw [if_neg (by simp [e])]
theorem swap_is {m : Int} {F : List Core} (h : rightF m F = true) {X Y C : Nat} (hX : X < F.length) (hY : Y < F.length) (hC : C < F.length) (hp : parentK F C = (Y : Int)) : swapZ m F X Y C = refuseE m F X Y true C := by
  unfold swapZ
  rw [vknows_of' h hX hY (.inr (inF_of' hC)), if_pos rfl, hp, show ((C : Int) != -1) = true from bne_iff_ne.2 (by omega)]
  simp
theorem may_is {m : Int} {F : List Core} (h : rightF m F = true) {X Y C : Nat} (hX : X < F.length) (hY : Y < F.length) (hC : C < F.length) (hp : parentK F C = (Y : Int)) : mayZ m F X Y C = refuseE m F X Y true (-1) := by
  unfold mayZ
  rw [vknows_of' h hX hY (.inr (inF_of' hC)), if_pos rfl, hp]
  simp
theorem may_none {m : Int} {F : List Core} (h : rightF m F = true) {X Y : Nat} (hX : X < F.length) (hY : Y < F.length) : mayZ m F X Y (-1) = refuseE m F X Y true (-1) := by
  unfold mayZ
  rw [vknows_of' h hX hY (.inl rfl), if_pos rfl]
  rfl
theorem swap_none {m : Int} {F : List Core} {X Y : Int} : swapZ m F X Y (-1) ≠ 0 := by
  unfold swapZ
  split
  · unfold refuseE
    split
    · decide
    · rw [if_pos (by simp)]; decide
  · decide
theorem countNe_all {l : List Int} (h : ∀ z ∈ l, 0 ≤ z) : countNe l (-1) = l.length := by
  unfold countNe
  exact List.countP_eq_length.2 (fun z hz => bne_iff_ne.2 (by have := h z hz; omega))
theorem kids_nat {m : Int} {F : List Core} (h : rightF m F = true) {Y : Nat} {y : Core} (hy : F[Y]? = some y) : ∀ z ∈ y.kids, 0 ≤ z := fun z hz => by
  obtain ⟨c, h1, _⟩ := (right_node h hy).kids z hz
  exact (getC_some h1).1
theorem kidsK_get {F : List Core} {Y : Nat} {y : Core} (hy : F[Y]? = some y) : kidsK F (Y : Int) = y.kids := by unfold kidsK; rw [getC_nat, hy]
theorem kindK_at {F : List Core} {Y : Nat} {y : Core} (hy : F[Y]? = some y) : kindK F (Y : Int) = y.kind := by unfold kindK; rw [getC_nat, hy]
theorem parentK_at {F : List Core} {Y : Nat} {y : Core} (hy : F[Y]? = some y) : parentK F (Y : Int) = y.parent := by unfold parentK; rw [getC_nat, hy]
theorem parts_at {F : List Core} {Y : Nat} {y : Core} (hy : F[Y]? = some y) : partsZ F (Y : Int) = if y.kind = 3 then y.kids else [(Y : Int)] := by unfold partsZ; rw [getC_nat, hy]
theorem over_self {m : Int} {F : List Core} (h : rightF m F = true) {X : Nat} (hX : X < F.length) : overZ m F X X = true := (overZ_iff h hX hX).2 (holds_refl X)
/-- Who may be put may be put in the place of whomever. -/
theorem may_swap {m : Int} {F : List Core} (hr : rightF m F = true) {X Y C : Nat} (hX : X < F.length) (hY : Y < F.length) (hC : C < F.length) (hpC : parentK F C = (Y : Int)) (h : mayZ m F X Y C = 0) : swapZ m F X Y C = 0 := by
  obtain ⟨y, hy⟩ : ∃ y, F[Y]? = some y := ⟨_, List.getElem?_eq_getElem hY⟩
  rw [may_is hr hX hY hC hpC, refuse_zero] at h
  rw [swap_is hr hX hY hC hpC, refuse_zero]
  obtain ⟨h1, h2, h3, h4, h5⟩ := h
  refine ⟨h1, h2, h3, h4, fun e => ?_⟩
  have h6 := h5 e
  unfold docTakesB at h6 ⊢
  rw [Bool.and_eq_true, decide_eq_true_eq] at h6 ⊢
  refine ⟨h6.1, ?_⟩
  rw [kidsK_get hy] at h6 ⊢
  rw [countNe_all (kids_nat hr hy)] at h6
  have := countNe_le y.kids C
  omega
/-- What is asked of two nodes, and a child of one. -/
structure SwapFacts (m : Int) (F G : List Core) (X Y C : Nat) : Prop where
  same : X = C → overZ m F X Y = false → swapZ m F X Y C = 0
  gone : X ≠ C → overZ m F X Y = false → (swapZ m F X Y C = 0 ↔ mayZ m G X Y (-1) = 0)
theorem swap_facts {m : Int} {F G : List Core} {X Y C : Nat} {c : Core} (hX : X < F.length) (hY : Y < F.length) (ho : Out m F G C Y c) : SwapFacts m F G X Y C := by
  have hr := ho.right
  have hC := ho.lt
  have hpC : parentK F C = (Y : Int) := by rw [parentK_at ho.hx]; exact ho.hp
  obtain ⟨y, hy⟩ : ∃ y, F[Y]? = some y := ⟨_, List.getElem?_eq_getElem hY⟩
  obtain ⟨x, hx⟩ : ∃ x, F[X]? = some x := ⟨_, List.getElem?_eq_getElem hX⟩
  refine ⟨fun hXC hov => ?_, fun hXC hov => ?_⟩
  · subst hXC
    rw [swap_is hr hX hY hC hpC, refuse_zero]
    have hpf := par_facts hr ho.hx ho.hp hy
    refine ⟨by rw [kindK_at hy]; exact hpf.2.1, hov, ?_, ?_, fun e => ?_⟩
    · rw [kindK_at ho.hx]; rcases hpf.1 with e | e <;> omega
    · rw [kindK_at ho.hx]; rcases hpf.1 with e | e <;> omega
    · rw [kindK_at hy] at e
      obtain ⟨h1, h2⟩ := (right_node hr hy).root e
      have hm := hasZ_mem hpf.2.2
      have hk := h2 _ hm
      rw [kindK_at ho.hx] at hk
      have hl : y.kids = [(X : Int)] := by
        match hq : y.kids with
        | [] => rw [hq] at hm; cases hm
        | [z] => rw [hq] at hm; rw [List.mem_singleton.1 hm]
        | a :: b :: r => rw [hq] at h1; simp at h1
      unfold docTakesB
      rw [kidsK_get hy, parts_at ho.hx, if_neg (by omega), hl]
      have : kindK F (X : Int) = 1 := by rw [kindK_at ho.hx]; exact hk
      simp [countNe, this]
  · have hrG := ho.rightG
    have hXG : X < G.length := by rw [ho.ed.len]; exact hX
    have hYG : Y < G.length := by rw [ho.ed.len]; exact hY
    have hXY : X ≠ Y := fun e => by subst e; rw [over_self hr hX] at hov; cases hov
    have hovG : overZ m G X Y = false := by
      cases hq : overZ m G X Y with
      | false => rfl
      | true =>
        have h1 := ((ho.over hX hY).1 ((overZ_iff hrG hXG hYG).1 hq)).1
        rw [(overZ_iff hr hX hY).2 h1] at hov
        cases hov
    rw [swap_is hr hX hY hC hpC, may_none hrG hXG hYG, refuse_zero, refuse_zero, ho.ed.kindK, ho.ed.kindK, hov, hovG]
    have hd : docTakesB G X Y (-1) = docTakesB F X Y C := by
      have hyG := ho.ed.at_ Y y hy
      have hxG := ho.ed.at_ X x hx
      unfold docTakesB
      rw [kidsK_get hy, kidsK_get hyG, parts_at hx, parts_at hxG]
      have hk : (fun k => kindK G k == 2) = (fun k => kindK F k == 2) := by funext k; rw [ho.ed.kindK]
      rw [hk]
      show ((!(if x.kind = 3 then (if X = Y then x.kids.filter (fun z => z != (C : Int)) else x.kids) else [(X : Int)]).any (fun k => kindK F k == 2)) && decide (countNe (if Y = Y then y.kids.filter (fun z => z != (C : Int)) else y.kids) (-1) + (if x.kind = 3 then (if X = Y then x.kids.filter (fun z => z != (C : Int)) else x.kids) else [(X : Int)]).length ≤ 1)) = _
      rw [if_neg hXY, if_pos rfl, countNe_all (fun z hz => kids_nat hr hy z (List.mem_filter.1 hz).1)]
      have : (y.kids.filter (fun z => z != (C : Int))).length = countNe y.kids C := by unfold countNe; rw [List.countP_eq_length_filter]
      rw [this]
    rw [hd]
end Go.Proofs.YtkomeijlljcdgaaGreat
/- The mathematics of the law ValidPut: parts go from where they are, one by one, and hang under a node. No program. -/
namespace Go.Proofs.YtkomeijlljcdgaaGreat
open Go.RowKit
section
variable {F G : List Core} {P P' : Nat → Core → Int} {K K' : Nat → Core → List Int} {D D' : Nat → Core → Int} {M : List NodeD} {q : Nat} {x : NodeD}
theorem Edit.congr (h : Edit F G P K D) (hP : ∀ (j : Nat) c, F[j]? = some c → P j c = P' j c) (hK : ∀ (j : Nat) c, F[j]? = some c → K j c = K' j c) (hD : ∀ (j : Nat) c, F[j]? = some c → D j c = D' j c) : Edit F G P' K' D' :=
  ⟨h.len, fun j c hc => by rw [← hP j c hc, ← hK j c hc, ← hD j c hc]; exact h.at_ j c hc⟩
theorem core_set (M : List NodeD) (q : Nat) (y : NodeD) : coreL (M.set q y) = (coreL M).set q y.core := by unfold coreL; rw [List.map_set]
theorem Edit.setP (h : Edit F (coreL M) P K D) (hx : M[q]? = some x) (v : Int) : Edit F (coreL (M.set q (withP x v))) (fun j c => if j = q then v else P j c) K D := by
  refine ⟨by rw [core_set, List.length_set]; exact h.len, fun j c hc => ?_⟩
  have h1 := h.at_ j c hc
  rw [core_set]
  by_cases e : j = q
  · subst e
    rw [List.getElem?_set_self (List.getElem?_eq_some_iff.1 h1).1, if_pos rfl]
    rw [coreL_get hx] at h1
    have h2 := Option.some.inj h1
    show some (⟨x.core.kind, x.core.name, x.core.is, x.core.data, x.core.attrs, v, x.core.kids, x.core.host, x.core.under, x.core.doc⟩ : Core) = _
    rw [h2]
    rfl
  · rw [List.getElem?_set_ne (fun e2 => e e2.symm), h1, if_neg e]
theorem Edit.setD (h : Edit F (coreL M) P K D) (hx : M[q]? = some x) (v : Int) : Edit F (coreL (M.set q (withD x v))) P K (fun j c => if j = q then v else D j c) := by
  refine ⟨by rw [core_set, List.length_set]; exact h.len, fun j c hc => ?_⟩
  have h1 := h.at_ j c hc
  rw [core_set]
  by_cases e : j = q
  · subst e
    rw [List.getElem?_set_self (List.getElem?_eq_some_iff.1 h1).1, if_pos rfl]
    rw [coreL_get hx] at h1
    have h2 := Option.some.inj h1
    show some (⟨x.core.kind, x.core.name, x.core.is, x.core.data, x.core.attrs, x.core.parent, x.core.kids, x.core.host, x.core.under, v⟩ : Core) = _
    rw [h2]
    rfl
  · rw [List.getElem?_set_ne (fun e2 => e e2.symm), h1, if_neg e]
theorem Edit.setK (h : Edit F (coreL M) P K D) (hx : M[q]? = some x) (a : Option Addr) (n c0 : Nat) (l : List Int) : Edit F (coreL (M.set q (withK x a n c0 l))) P (fun j c => if j = q then l else K j c) D := by
  refine ⟨by rw [core_set, List.length_set]; exact h.len, fun j c hc => ?_⟩
  have h1 := h.at_ j c hc
  rw [core_set]
  by_cases e : j = q
  · subst e
    rw [List.getElem?_set_self (List.getElem?_eq_some_iff.1 h1).1, if_pos rfl]
    rw [coreL_get hx] at h1
    have h2 := Option.some.inj h1
    show some (⟨x.core.kind, x.core.name, x.core.is, x.core.data, x.core.attrs, x.core.parent, l, x.core.host, x.core.under, x.core.doc⟩ : Core) = _
    rw [h2]
    rfl
  · rw [List.getElem?_set_ne (fun e2 => e e2.symm), h1, if_neg e]
end
/-- The first ones of a row, and the others. -/
theorem SRow.take {α : Type} {enc : α → List Value} {size : Nat} {w : World} {a : Option Addr} {len cap k : Nat} {L : List α} (h : SRow enc size w a len cap L) (hk : k ≤ len) : SRow enc size w a k cap (L.take k) := by
  refine ⟨by rw [List.length_take, h.hlen]; omega, Nat.le_trans hk h.hcap, h.hmax, fun x hx => h.henc x (List.mem_of_mem_take hx), ?_⟩
  rcases h.cells with h0 | ⟨b, off, ha, hb, hc⟩
  · exact .inl (by omega)
  · refine .inr ⟨b, off, ha, hb, fun i x j v hx hv => hc i x j v ?_ hv⟩
    rw [List.getElem?_take] at hx
    split at hx
    · exact hx
    · cases hx
theorem SRow.rest {α : Type} {enc : α → List Value} {w : World} {a : Option Addr} {len cap k : Nat} {L : List α} (h : SRow enc 1 w a len cap L) (hk : k ≤ len) : SRow enc 1 w (if cap = k then a else Option.map (fun x => x.add k) a) (len - k) (cap - k) (L.drop k) := by
  have hcap := h.hcap
  have hmax := h.hmax
  refine ⟨by rw [List.length_drop, h.hlen], by omega, by omega, fun x hx => h.henc x (List.mem_of_mem_drop hx), ?_⟩
  by_cases h0 : len - k = 0
  · exact .inl h0
  rcases h.cells with h1 | ⟨b, off, ha, hb, hc⟩
  · omega
  · refine .inr ⟨b, off + k, ?_, hb, fun i x j v hx hv => ?_⟩
    · rw [if_neg (by omega), ha, Option.map_some, Go.WideShapes.add_plain]
    · rw [List.getElem?_drop] at hx
      have := hc (k + i) x j v hx hv
      rw [show off + k + i * 1 + j = off + (k + i) * 1 + j by omega]
      exact this
/-- The first k of l have gone from where they were. -/
structure OutsOf (m : Int) (F G : List Core) (l : List Int) (k : Nat) : Prop where
  right : rightF m G = true
  ed : Edit F G (fun j c => if (l.take k).contains (j : Int) then -1 else c.parent) (fun _ c => c.kids.filter (fun z => !(l.take k).contains z)) (fun _ c => c.doc)
theorem OutsOf.start {m : Int} {F : List Core} {l : List Int} (h : rightF m F = true) : OutsOf m F F l 0 := by
  refine ⟨h, rfl, fun j c hc => ?_⟩
  have : c.kids.filter (fun z => !(l.take 0).contains z) = c.kids := by simp
  rw [this, hc]
  rfl
theorem contains_take {l : List Int} {k : Nat} {q z : Int} (hq : l[k]? = some q) : (l.take (k + 1)).contains z = ((l.take k).contains z || z == q) := by
  obtain ⟨hl, hg⟩ := List.getElem?_eq_some_iff.1 hq
  rw [List.take_succ_eq_append_getElem hl, hg, List.contains_append]
  simp
  rfl
theorem OutsOf.step {m : Int} {F G G' : List Core} {l : List Int} {k q : Nat} (h : OutsOf m F G l k) (hq : l[k]? = some (q : Int)) (ho : OutOf m G G' q) : OutsOf m F G' l (k + 1) := by
  obtain ⟨x, hx, hcase⟩ := ho
  have hf : ∀ (ks : List Int), ks.filter (fun z => !(l.take (k + 1)).contains z) = (ks.filter (fun z => !(l.take k).contains z)).filter (fun z => z != (q : Int)) := fun ks => by
    rw [List.filter_filter]
    refine List.filter_congr (fun z _ => ?_)
    rw [contains_take hq]
    cases (l.take k).contains z <;> cases hz : (z == (q : Int)) <;> simp [bne, hz]
  have notin : ∀ (j : Nat) (y : Core), G[j]? = some y → (x.parent = -1 ∨ x.parent ≠ (j : Int)) → y.kids.filter (fun z => z != (q : Int)) = y.kids := fun j y hy hp => by
    refine List.filter_eq_self.2 (fun z hz => bne_iff_ne.2 (fun e => ?_))
    subst e
    obtain ⟨c, h1, _, h3, _⟩ := (right_node h.right hy).kids _ hz
    rw [getC_nat, hx] at h1
    rw [← Option.some.inj h1] at h3
    rcases hp with hp | hp
    · omega
    · exact hp h3
  have hP : ∀ (j : Nat) (c : Core), (if (l.take (k + 1)).contains (j : Int) then (-1 : Int) else c.parent) = if j = q then -1 else if (l.take k).contains (j : Int) then -1 else c.parent := fun j c => by
    rw [contains_take hq]
    by_cases e : j = q
    · subst e; simp
    · have e2 : ((j : Int) == (q : Int)) = false := beq_eq_false_iff_ne.2 (by omega)
      rw [if_neg e, e2, Bool.or_false]
  rcases hcase with ⟨h1, rfl⟩ | ⟨p, h1⟩
  · refine ⟨h.right, h.ed.len, fun j c hc => ?_⟩
    have h2 := h.ed.at_ j c hc
    have h9 : (c.kids.filter (fun z => !(l.take k).contains z)).filter (fun z => z != (q : Int)) = c.kids.filter (fun z => !(l.take k).contains z) := notin j _ h2 (.inl h1)
    rw [h2, hf, h9, hP]
    by_cases e : j = q
    · subst e
      rw [hx] at h2
      have h3 := congrArg Core.parent (Option.some.inj h2)
      rw [if_pos rfl]
      have h3b : x.parent = (if (l.take k).contains (j : Int) then (-1 : Int) else c.parent) := h3
      have h4 : (if (l.take k).contains (j : Int) then (-1 : Int) else c.parent) = -1 := h3b.symm.trans h1
      rw [h4]
    · rw [if_neg e]
  · refine ⟨h1.rightG, by rw [h1.ed.len]; exact h.ed.len, fun j c hc => ?_⟩
    have h2 := h.ed.at_ j c hc
    rw [h1.ed.at_ j _ h2, hf, hP]
    have hk : (if j = p then (edC c (if (l.take k).contains (j : Int) then -1 else c.parent) (c.kids.filter (fun z => !(l.take k).contains z)) c.doc).kids.filter (fun z => z != (q : Int)) else (edC c (if (l.take k).contains (j : Int) then -1 else c.parent) (c.kids.filter (fun z => !(l.take k).contains z)) c.doc).kids) = (c.kids.filter (fun z => !(l.take k).contains z)).filter (fun z => z != (q : Int)) := by
      by_cases e : j = p
      · rw [if_pos e]; rfl
      · rw [if_neg e]
        exact (notin j _ h2 (.inr (by
          have h3 := h1.hx
          rw [hx] at h3
          rw [h1.hp]
          omega))).symm
    rw [hk]
    rfl
/-- The parents, while the parts are hung. -/
def putP (l : List Int) (p : Nat) (i j : Nat) (c : Core) : Int := if (l.take i).contains (j : Int) then (p : Int) else if l.contains (j : Int) then -1 else c.parent
def putK (l : List Int) (p : Nat) (A B : List Int) (j : Nat) (c : Core) : List Int := if j = p then A ++ l ++ B else c.kids.filter (fun z => !l.contains z)
def mvL (F : List Core) (l : List Int) (i j : Nat) : Bool := (l.take i).any (fun q => (allI F q).contains (j : Int))
def putD (F : List Core) (l : List Int) (dp : Int) (i : Nat) (r : List Int) (j : Nat) (c : Core) : Int := if mvL F l i j || r.contains (j : Int) then dp else c.doc
theorem putP_next {l : List Int} {p i q : Nat} (hq : l[i]? = some (q : Int)) (j : Nat) (c : Core) : (if j = q then (p : Int) else putP l p i j c) = putP l p (i + 1) j c := by
  unfold putP
  rw [contains_take hq]
  by_cases e : j = q
  · subst e; simp
  · have e2 : ((j : Int) == (q : Int)) = false := beq_eq_false_iff_ne.2 (by omega)
    rw [if_neg e, e2, Bool.or_false]
theorem putD_next {F : List Core} {l : List Int} {dp : Int} {i k t : Nat} {r : List Int} (ht : r[k]? = some (t : Int)) (j : Nat) (c : Core) : (if j = t then dp else putD F l dp i (r.take k) j c) = putD F l dp i (r.take (k + 1)) j c := by
  unfold putD
  rw [contains_take ht]
  by_cases e : j = t
  · subst e; simp
  · have e2 : ((j : Int) == (t : Int)) = false := beq_eq_false_iff_ne.2 (by omega)
    rw [if_neg e, e2, Bool.or_false]
theorem putD_all {F : List Core} {l : List Int} {dp : Int} {i q : Nat} (hq : l[i]? = some (q : Int)) (j : Nat) (c : Core) : putD F l dp i (allI F q) j c = putD F l dp (i + 1) [] j c := by
  obtain ⟨hl, hg⟩ := List.getElem?_eq_some_iff.1 hq
  unfold putD mvL
  rw [List.take_succ_eq_append_getElem hl, hg, List.any_append]
  simp
section
variable {m : Int} {F : List Core} {n p : Nat} {c : Int} {cn cp : Core}
/-- What is known of what may be put. -/
structure PutOk (m : Int) (F : List Core) (n p : Nat) (c : Int) (l : List Int) (cp : Core) : Prop where
  right : rightF m F = true
  hp : F[p]? = some cp
  kp : cp.kind ≠ 2
  once : l.Nodup
  ls : ∀ z ∈ l, ∃ (q : Nat) (c : Core), z = q ∧ F[q]? = some c ∧ (c.kind = 1 ∨ c.kind = 2)
  over : ∀ q : Nat, (q : Int) ∈ l → ¬ holdsT (parS F) q p
  root : cp.kind = 0 → cp.kids.length + l.length ≤ 1 ∧ ∀ k ∈ l, kindK F k = 1
  before : beforeZ m F n p c = -1 ∨ beforeZ m F n p c ∈ cp.kids.filter (fun z => !l.contains z)
theorem PutOk.of (h : mayZ m F n p c = 0) (hp : F[p]? = some cp) : PutOk m F n p c (partsZ F n) cp := by
  obtain ⟨hk, h2, h3, h4, h5, h6, h7⟩ := may_ok h
  obtain ⟨hr, ⟨N, hN1, hN⟩, ⟨p', hp1, hpl⟩, hcc⟩ := vknows_nat hk
  obtain rfl : n = N := by omega
  obtain rfl : p = p' := by omega
  obtain ⟨cn, hn⟩ : ∃ cn, F[n]? = some cn := ⟨_, List.getElem?_eq_getElem hN⟩
  have NN := right_node hr hn
  have NP := right_node hr hp
  rw [kindK_at hp] at h2 h7
  rw [kindK_at hn] at h5 h6
  have hov : ¬ holdsT (parS F) n p := fun hh => by rw [(overZ_iff hr hN hpl).2 hh] at h3; cases h3
  have hkind := NN.kind
  have hls : ∀ z ∈ partsZ F n, ∃ (q : Nat) (c : Core), z = q ∧ F[q]? = some c ∧ (c.kind = 1 ∨ c.kind = 2) := fun z hz => by
    rw [parts_at hn] at hz
    split at hz
    · obtain ⟨c1, g1, g2, _, _⟩ := NN.kids z hz
      obtain ⟨g3, _, g4⟩ := getC_some g1
      exact ⟨z.toNat, c1, by omega, g4, g2⟩
    · rw [List.mem_singleton] at hz
      exact ⟨n, cn, hz, hn, by omega⟩
  have hfrag : ∀ z ∈ partsZ F n, z = (n : Int) ∨ (cn.kind = 3 ∧ z ∈ cn.kids) := fun z hz => by
    rw [parts_at hn] at hz
    split at hz
    · next e => exact .inr ⟨e, hz⟩
    · exact .inl (List.mem_singleton.1 hz)
  have hholds : ∀ q : Nat, (q : Int) ∈ partsZ F n → holdsT (parS F) n q := fun q hq => by
    rcases hfrag _ hq with e | ⟨_, e⟩
    · rw [show q = n by omega]; exact holds_refl n
    · obtain ⟨c1, g1, _, g3, _⟩ := NN.kids _ e
      rw [getC_nat] at g1
      exact holds_par (parS_parent g1 g3)
  refine ⟨hr, hp, h2, ?_, hls, fun q hq hh => hov (holds_trans (hholds q hq) hh), fun e => ?_, ?_⟩
  · rw [parts_at hn]
    split
    · exact NN.once
    · simp
  · have h8 := h7 e
    unfold docTakesB at h8
    rw [Bool.and_eq_true, Bool.not_eq_true', decide_eq_true_eq, kidsK_get hp, countNe_all (kids_nat hr hp)] at h8
    refine ⟨h8.2, fun k hk2 => ?_⟩
    obtain ⟨q, c1, rfl, g1, g2⟩ := hls k hk2
    have := List.any_eq_false.1 h8.1 _ hk2
    rw [kindK_at g1] at this ⊢
    rcases g2 with g2 | g2
    · exact g2
    · simp [g2] at this
  · by_cases hb : beforeZ m F n p c = -1
    · exact .inl hb
    right
    unfold beforeZ at hb ⊢
    rw [if_pos h] at hb ⊢
    rw [List.mem_filter]
    by_cases hcn : c = (n : Int)
    · rw [if_pos hcn] at hb ⊢
      have hpar : cn.parent = (p : Int) := by
        rcases h4 with h4 | h4
        · omega
        · rw [hcn, parentK_at hn] at h4; exact h4
      obtain ⟨k, e1, e2, e3⟩ := place_at hr hn hpar hp
      have hk3 := (par_facts hr hn hpar hp).1
      rw [e1, kidsK_get hp, show ((k : Int) + 1).toNat = k + 1 by omega] at hb ⊢
      cases hz : cp.kids[k + 1]? with
      | none => rw [hz] at hb; exact absurd rfl hb
      | some z =>
        dsimp only
        refine ⟨List.mem_of_getElem? hz, ?_⟩
        rw [parts_at hn, if_neg (by omega)]
        have hne : z ≠ (n : Int) := fun e => by
          subst e
          have g1 := (List.getElem?_eq_some_iff.1 e3)
          have g2 := (List.getElem?_eq_some_iff.1 hz)
          obtain ⟨g3, g4⟩ := g1
          obtain ⟨g5, g6⟩ := g2
          exact List.pairwise_iff_getElem.1 NP.once k (k + 1) g3 g5 (by omega) (by rw [g4, g6])
        simpa using hne
    · rw [if_neg hcn] at hb ⊢
      have hpc : parentK F c = p := h4.resolve_left hb
      rcases hcc with e | ⟨C, rfl, hC⟩
      · exact absurd e hb
      obtain ⟨cc, hcc⟩ : ∃ cc, F[C]? = some cc := ⟨_, List.getElem?_eq_getElem hC⟩
      rw [parentK_at hcc] at hpc
      have hm := hasZ_mem (par_facts hr hcc hpc hp).2.2
      refine ⟨hm, ?_⟩
      have hnl : (C : Int) ∉ partsZ F n := fun hh => by
        rcases hfrag _ hh with e | ⟨_, e⟩
        · exact hcn e
        · obtain ⟨c1, g1, _, g3, _⟩ := NN.kids _ e
          rw [getC_nat, hcc] at g1
          rw [← Option.some.inj g1, hpc] at g3
          exact hov (by rw [show p = n by omega]; exact holds_refl n)
      simpa using hnl
/-- What is put has short lists. -/
theorem small_put {L M : List NodeD} {P : Nat → Core → Int} {D : Nat → Core → Int} {l A B : List Int} (hs : smallF L) (hk : ∀ x ∈ L, x.core.kids.length ≤ 60) (he : Edit (coreL L) (coreL M) P (putK l p A B) D) (hab : (A ++ l ++ B).length ≤ 120) : smallF M := by
  refine ⟨by have := he.len; rw [coreL_len, coreL_len] at this; rw [this]; exact hs.1, fun x hx => ?_⟩
  obtain ⟨j, hj⟩ := List.getElem?_of_mem hx
  obtain ⟨c, hc, e⟩ := he.back (coreL_get hj)
  obtain ⟨y, hy, rfl⟩ : ∃ y ∈ L, y.core = c := by
    have := List.mem_of_getElem? hc
    unfold coreL at this
    obtain ⟨y, h1, h2⟩ := List.mem_map.1 this
    exact ⟨y, h1, h2⟩
  have h1 := hs.2 y hy
  have h2 := hk y hy
  refine ⟨?_, ?_, ?_⟩
  · rw [e]
    show (putK l p A B j y.core).length ≤ 1000
    unfold putK
    split
    · omega
    · have := List.length_filter_le (fun z => !l.contains z) y.core.kids
      omega
  · rw [e]; exact h1.2.1
  · rw [e]; exact h1.2.2
/-- The last step: all is put. -/
theorem PutOk.rightG {l A B : List Int} {G : List Core} (h : PutOk m F n p c l cp) (hab : A ++ B = cp.kids.filter (fun z => !l.contains z)) (he : Edit F G (putP l p l.length) (putK l p A B) (putD F l cp.doc l.length [])) : rightF m G = true := by
  have T := PutIn.rightG (m := m) (F := F) (G := G) (l := l) (p := p) (cp := cp) (A := A) (B := B) (mv := mvL F l l.length)
  refine T ⟨h.right, h.hp, h.kp, h.once, h.ls, h.over, hab, fun e => ?_, fun j hj => ?_, he.congr (fun j c _ => ?_) (fun j c _ => rfl) (fun j c _ => ?_)⟩
  · obtain ⟨h1, h2⟩ := h.root e
    have hl : (A ++ l ++ B).length = (cp.kids.filter (fun z => !l.contains z)).length + l.length := by rw [← hab]; simp only [List.length_append]; omega
    refine ⟨by rw [hl]; have := List.length_filter_le (fun z => !l.contains z) cp.kids; omega, fun k hk => ?_⟩
    have hk2 : k ∈ l ∨ k ∈ A ++ B := by
      simp only [List.mem_append] at hk ⊢
      rcases hk with (h | h) | h
      · exact .inr (.inl h)
      · exact .inl h
      · exact .inr (.inr h)
    rcases hk2 with hk2 | hk2
    · exact h2 k hk2
    · rw [hab] at hk2
      exact ((right_node h.right h.hp).root e).2 k (List.mem_filter.1 hk2).1
  · unfold mvL
    rw [List.take_length, List.any_eq_true]
    constructor
    · rintro ⟨z, hz, hm⟩
      obtain ⟨q, c1, rfl, g1, _⟩ := h.ls z hz
      have hql := (List.getElem?_eq_some_iff.1 g1).1
      refine ⟨q, hz, (overZ_iff h.right hql hj).1 ?_⟩
      cases ho : overZ m F q j with
      | true => rfl
      | false =>
        have := hasZ_all h.right hql hj
        rw [ho] at this
        have h3 := hasZ_pos (List.contains_iff_mem.1 hm)
        rw [this] at h3
        exact absurd h3 (by decide)
    · rintro ⟨q, hq, hh⟩
      obtain ⟨q2, c1, e, g1, _⟩ := h.ls _ hq
      obtain rfl : q = q2 := by omega
      have hql := (List.getElem?_eq_some_iff.1 g1).1
      refine ⟨_, hq, List.contains_iff_mem.2 (hasZ_mem ?_)⟩
      rw [hasZ_all h.right hql hj, (overZ_iff h.right hql hj).2 hh]
      rfl
  · unfold putP
    rw [List.take_length]
    by_cases e : l.contains (j : Int) = true
    · rw [if_pos e, if_pos e]
    · rw [if_neg e, if_neg e, if_neg e]
  · unfold putD
    simp
end
end Go.Proofs.YtkomeijlljcdgaaGreat
