/- Texts joined in build order: HeirAllMath HeirAllLaw. -/
import Derived.Test.YtkomeijlljcdgaaGreatP39
import Derived.Test.YtkomeijlljcdgaaGreatP47
import Derived.Test.YtkomeijlljcdgaaGreatP04
import Derived.Test.YtkomeijlljcdgaaGreatP19
import Derived.Deep.DeepCutAuto
import Derived.Deep.CutBlock
import Derived.Deep.QuietTactic
import Derived.BigQuiet
/- HeirAll: a definition's heirs are those in the document 0 whose fate it is. -/
namespace Go.Proofs.YtkomeijlljcdgaaGreat
section
variable {m : Int} {F : List Core}
theorem doc_step10 (h : rightF m F = true) {k i : Nat} {x y : Core} (hx : F[k]? = some x) (hp : parS F k = some i) (hy : F[i]? = some y) : y.doc = x.doc := by
  have hk := (List.getElem?_eq_some_iff.1 hx).1
  obtain ⟨hn, hi⟩ := parS_next h hk hp
  by_cases hpar : x.parent = -1
  · rw [next_host hx hpar] at hn
    obtain ⟨_, j, x2, e1, e2, _, _, e5⟩ := right_host h hx (by omega)
    have : j = i := by omega
    subst this
    rw [hy] at e2
    injection e2 with e2
    rw [e2]
    exact e5
  · rw [next_par hx hpar] at hn
    have h1 := (nodeOk_iff.1 (((rightF_iff m F).1 h).2.1 k x hx)).2.1
    unfold parOk at h1
    rw [beq_eq_false_iff_ne.2 hpar, Bool.false_or, Bool.and_eq_true, hn, getC_nat, hy] at h1
    have h2 := h1.2
    simp only [Bool.and_eq_true, beq_iff_eq] at h2
    have h3 := hasZ_mem h2.2
    have h4 := (nodeOk_iff.1 (((rightF_iff m F).1 h).2.1 i y hy)).2.2.1 _ h3
    unfold kidOk at h4
    rw [getC_nat, hx] at h4
    simp only [Bool.and_eq_true, beq_iff_eq] at h4
    exact h4.2.2.symm
theorem doc_over10 (h : rightF m F = true) : ∀ (u b a : Nat) {x y : Core}, F[b]? = some x → upN (parS F) u b = some a → F[a]? = some y → y.doc = x.doc
  | 0, b, a, x, y, hx, hu, hy => by
    injection hu with hu
    subst hu
    rw [hx] at hy
    injection hy with hy
    rw [hy]
  | u + 1, b, a, x, y, hx, hu, hy => by
    unfold upN at hu
    cases hp : parS F b with
    | none => rw [hp] at hu; cases hu
    | some p =>
      rw [hp] at hu
      have hk := (List.getElem?_eq_some_iff.1 hx).1
      obtain ⟨_, hi⟩ := parS_next h hk hp
      have hz := List.getElem?_eq_getElem hi
      exact (doc_over10 h u p a hz hu hy).trans (doc_step10 h hx hp hz)
theorem doc_zero10 (h : rightF m F = true) {c : Core} (hc : F[0]? = some c) : c.doc = 0 := by
  have h1 := ((rightF_iff m F).1 h).1.2.2.2
  have hk : c.kind = 0 := by
    unfold headDoc at h1
    cases F with
    | nil => cases h1
    | cons d r =>
      simp at hc
      subst hc
      simpa using h1
  have h2 := (nodeOk_iff.1 (((rightF_iff m F).1 h).2.1 0 c hc)).1
  unfold docOk at h2
  simp only [Bool.and_eq_true, decide_eq_true_eq] at h2
  have h3 := h2.2
  rw [hk] at h3
  simpa using h3
theorem elems010 (h : rightF m F = true) {t : Nat} {c : Core} (hz : (t : Int) ∈ elemsZ m F 0) (hc : F[t]? = some c) : c.kind = 1 ∧ c.doc = 0 := by
  have ht := (List.getElem?_eq_some_iff.1 hc).1
  have h0 : 0 < F.length := by omega
  unfold elemsZ at hz
  obtain ⟨h1, h2⟩ := List.mem_filter.1 hz
  constructor
  · unfold kindK at h2
    rw [getC_nat, hc] at h2
    simpa using h2
  · have e := allZ_eq h h0
    rw [show ((0 : Nat) : Int) = 0 from rfl] at e
    rw [e] at h1
    have h3 := mem_allI.1 h1
    rw [show (0 : Int).toNat = 0 from rfl] at h3
    have h4 := ((treeS h).mem_ord _ 0 h0 (by omega) t ht).1 h3
    obtain ⟨u, hu⟩ := h4
    have hy := List.getElem?_eq_getElem h0
    rw [← doc_over10 h u t 0 hc hu hy]
    exact doc_zero10 h hy
theorem fate_heir (h : rightF m F = true) {D : DeskD} (hd : rightK D = true) {i : Nat} {x : DefD} (hx : D.defs[i]? = some x) {z : Int} (hz : z ∈ elemsZ m F 0) :
    (match getC F z with | some c => heirB x.name x.loc c | none => false) = (fateZ m F z D == (i : Int)) := by
  obtain ⟨t, rfl, ht⟩ := elemsZ_in hz
  have hc := List.getElem?_eq_getElem ht
  obtain ⟨e1, e2⟩ := elems010 h hz hc
  rw [fate_zat h hc, getC_nat, hc]
  unfold fateC
  rw [if_pos ⟨e1, e2⟩, show ifRight D (findZ2 D.defs F[t].name.toList F[t].is.toList) = findZ2 D.defs F[t].name.toList F[t].is.toList by unfold ifRight; rw [if_pos hd], (rightK_iff.1 hd).find_eq hx]
  show heirB x.name x.loc F[t] = fits x F[t].name.toList F[t].is.toList
  unfold heirB fits
  rw [Bool.eq_iff_iff]
  simp only [Bool.and_eq_true, Bool.or_eq_true, beq_iff_eq]
  constructor
  · rintro ⟨h1, h2⟩
    exact ⟨h1.symm, h2.symm.imp (fun e => e.symm) (fun e => e.symm)⟩
  · rintro ⟨h1, h2⟩
    exact ⟨h1.symm, h2.symm.imp (fun e => e.symm) (fun e => e.symm)⟩
theorem heirs_fates (h : rightF m F = true) {D : DeskD} (hd : rightK D = true) {i : Nat} {x : DefD} (hx : D.defs[i]? = some x) :
    heirsZ m F x.name x.loc = (elemsZ m F 0).filter fun z => fateZ m F z D == (i : Int) :=
  List.filter_congr fun _ hz => fate_heir h hd hx hz
end
/-- How many of the list have a fate below i. -/
def cntF (g : Int → Int) (l : List Int) (i : Int) : Nat := l.countP fun z => decide (0 ≤ g z) && decide (g z < i)
theorem cntF_zero (g : Int → Int) : ∀ (l : List Int), cntF g l 0 = 0 := fun l => by
  unfold cntF
  rw [List.countP_eq_zero]
  intro z _
  simp
theorem cntF_step (g : Int → Int) (i : Nat) : ∀ (l : List Int), cntF g l ((i : Int) + 1) = cntF g l i + (l.filter fun z => g z == (i : Int)).length
  | [] => rfl
  | z :: r => by
    have ih := cntF_step g i r
    unfold cntF at ih ⊢
    rw [List.countP_cons, List.countP_cons, List.filter_cons, ih]
    by_cases h1 : g z = (i : Int)
    · rw [h1]
      have e1 : decide ((0 : Int) ≤ (i : Int)) = true := decide_eq_true (by omega)
      have e2 : decide ((i : Int) < (i : Int) + 1) = true := decide_eq_true (by omega)
      have e3 : decide ((i : Int) < (i : Int)) = false := decide_eq_false (by omega)
      have e4 : ((i : Int) == (i : Int)) = true := beq_self_eq_true _
      rw [e1, e2, e3, e4, if_pos rfl, if_pos (show (true && true) = true from rfl), if_neg (show ¬ (true && false) = true by decide), List.length_cons]
      omega
    · have e : (g z == (i : Int)) = false := beq_eq_false_iff_ne.2 h1
      rw [e]
      have e2 : (decide (0 ≤ g z) && decide (g z < (i : Int) + 1)) = (decide (0 ≤ g z) && decide (g z < (i : Int))) := by
        congr 1
        rw [decide_eq_decide]
        omega
      rw [e2]
      simp
      omega
theorem cntF_le (g : Int → Int) (l : List Int) (i : Int) : cntF g l i ≤ l.length := List.countP_le_length
theorem filterMap_count {α β : Type} {g : α → Option β} {p : α → Bool} : ∀ {l : List α}, (∀ z ∈ l, (g z).isSome = p z) → (l.filterMap g).length = l.countP p
  | [], _ => rfl
  | z :: r, h => by
    have ih := filterMap_count (l := r) fun y hy => h y (by simp [hy])
    have hz := h z (by simp)
    rw [List.filterMap_cons, List.countP_cons, ← ih, ← hz]
    cases g z <;> rfl
theorem tries_count {m : Int} {F : List Core} {D : DeskD} (h : rightF m F = true) (hd : rightK D = true) {n : Int} : (triesZ m F n D).length = cntF (fun z => fateZ m F z D) (elemsZ m F n) (D.defs.length : Int) := by
  rw [tries_tri hd]
  unfold cntF
  refine filterMap_count fun z hz => ?_
  obtain ⟨t, rfl, ht⟩ := elemsZ_in hz
  have hc := List.getElem?_eq_getElem ht
  show (triG F D (t : Int)).isSome = (decide (0 ≤ fateZ m F (t : Int) D) && decide (fateZ m F (t : Int) D < (D.defs.length : Int)))
  rw [fate_zat h hc]
  by_cases hf : fateC D F[t] = -1
  · rw [tri_none hc hf, hf]
    rfl
  · rw [tri_some hc rfl hf]
    obtain ⟨j, x, hj, FF⟩ := fate_facts hd hf
    have := (List.getElem?_eq_some_iff.1 FF.def_).1
    rw [hj]
    simp
    omega
end Go.Proofs.YtkomeijlljcdgaaGreat
/- The walk of instarlaw10's HeirAll. -/
namespace Go.Proofs.YtkomeijlljcdgaaGreat
open Go.RowKit
theorem fdd_keep {V W X : World} {gf gd db o : Nat} {v0 v1 v2 v3 v4 v5 : Option Value} (l : gf < V.heap.size ∧ gd < V.heap.size ∧ db < V.heap.size)
    (h : W.cell? ⟨gf, 0, none⟩ = v0 ∧ W.cell? ⟨gf, 1, none⟩ = v1 ∧ W.cell? ⟨gd, 0, none⟩ = v2 ∧ W.cell? ⟨db, o, none⟩ = v3 ∧ W.cell? ⟨db, o + 1, none⟩ = v4 ∧ W.cell? ⟨db, o + 2, none⟩ = v5 ∧ Below V.heap.size V W) (hb : Below W.heap.size W X) :
    X.cell? ⟨gf, 0, none⟩ = v0 ∧ X.cell? ⟨gf, 1, none⟩ = v1 ∧ X.cell? ⟨gd, 0, none⟩ = v2 ∧ X.cell? ⟨db, o, none⟩ = v3 ∧ X.cell? ⟨db, o + 1, none⟩ = v4 ∧ X.cell? ⟨db, o + 2, none⟩ = v5 ∧ Below V.heap.size V X := by
  obtain ⟨c0, c1, c2, c3, c4, c5, hB⟩ := h
  have hs := hB.size
  exact ⟨(hb.cell (p := ⟨_, _, none⟩) (by simp only; omega)).trans c0, (hb.cell (p := ⟨_, _, none⟩) (by simp only; omega)).trans c1, (hb.cell (p := ⟨_, _, none⟩) (by simp only; omega)).trans c2, (hb.cell (p := ⟨_, _, none⟩) (by simp only; omega)).trans c3, (hb.cell (p := ⟨_, _, none⟩) (by simp only; omega)).trans c4, (hb.cell (p := ⟨_, _, none⟩) (by simp only; omega)).trans c5, hB.trans (hb.mono hB.size)⟩
/-- Those of the first ones whose fate is i. -/
def selG (g : Int → Int) (E : List Int) (i : Int) (k : Nat) : List Int := (E.take k).filter fun z => g z == i
theorem selG_step {g : Int → Int} {E : List Int} {i : Int} {k : Nat} {z : Int} (h : E[k]? = some z) : selG g E i (k + 1) = selG g E i k ++ if g z == i then [z] else [] := by
  obtain ⟨hl, hg⟩ := List.getElem?_eq_some_iff.1 h
  unfold selG
  rw [List.take_succ_eq_append_getElem hl, hg, List.filter_append]
  congr 1
  rw [List.filter_cons]
  rfl
theorem selG_len (g : Int → Int) (E : List Int) (i : Int) (k : Nat) : (selG g E i k).length ≤ E.length := Nat.le_trans (List.length_filter_le _ _) (List.length_take_le' _ _)
set_option maxHeartbeats 8000000 in
set_option maxRecDepth 100000 in
theorem heirAll_walk (_F : True) (a : Option Addr) (len cap : Nat) (m : Int) (K : List NodeD) (da : Option Addr) (dl dc : Nat) (wa : Option Addr) (wl wc : Nat) (nx : Int) (bz : Bool) (L : List DefD) (M : List WaitD) (w : World)
    (h0 : NodeRow w a len cap K) (hm : In64 m) (hD : DeskAt w da dl dc wa wl wc ⟨L, M, nx, bz⟩) :
    Calls Tryz.prog 4 #[forV a len cap m, deskV da dl dc wa wl wc nx bz] w fun e w' => e = .returned (.bool true) ∧ Below w.heap.size w w' := by
  have AW := Lib.hid (fun W => awake10_any W)
  have FX := Lib.hid (FD.start (m := m) (nx := nx) (bz := bz) h0 hD.d hD.t)
  have HM := Lib.hid hm
  have HL := Lib.hid h0.hlen
  have HDL := Lib.hid hD.d.hlen
  have hl0 := h0.len64
  have hdl := hD.d.len64
  (have z0 := FX.out.f.c0; have z1 := FX.out.f.c1; have d0 := FX.out.d.c0; have d1 := FX.out.d.c1; have d2 := FX.out.d.c2; have d3 := FX.out.d.c3)
  obtain ⟨q0, hq0⟩ : ∃ q, shortF K = q := ⟨_, rfl⟩
  obtain ⟨q1, hq1⟩ : ∃ q, shortK L M = q := ⟨_, rfl⟩
  obtain ⟨q2, hq2⟩ : ∃ q, rightF m (coreL K) = q := ⟨_, rfl⟩
  obtain ⟨q3, hq3⟩ : ∃ q, rightK ⟨L, M, nx, bz⟩ = q := ⟨_, rfl⟩
  have S3 : Hid (∀ V, NodeRow V a len cap K → Calls Tryz.prog 8 #[forV a len cap m] V fun e w' => e = .returned (.bool q0) ∧ Below V.heap.size V w') := Lib.hid (fun V h1 => by
    have h := refshortF_any a len cap m K V h1
    rw [hq0] at h
    exact h)
  have S9 : Hid (∀ V, DefRow V da dl dc L → WaitRow V wa wl wc M → Calls Tryz.prog 9 #[deskV da dl dc wa wl wc nx bz] V fun e w' => e = .returned (.bool q1) ∧ Below V.heap.size V w') := Lib.hid (fun V h1 h2 => by
    have h := refshort9_any da dl dc wa wl wc nx bz L M V h1 h2
    rw [hq1] at h
    exact h)
  have R9 : Hid (∀ V, DefRow V da dl dc L → WaitRow V wa wl wc M → Calls Tryz.prog 23 #[deskV da dl dc wa wl wc nx bz] V fun e w' => e = .returned (.bool q3) ∧ Below V.heap.size V w') := Lib.hid (fun V h1 h2 => by
    have h := deskright_any da dl dc wa wl wc nx bz L M V h1 h2
    rw [hq3] at h
    exact h)
  clear h0 hm hD _F
  cases q0 with
  | false => clear hq0 hq1 hq2 hq3; (go_enter Tryz.func4, Tryz.ntmps4; go_wp2_with (first
                                                                                                                                                 | (go_at_call 7; (with_reducible refine (AW.out _).mono ?_); rintro e w5 ⟨rfl, hb⟩; (clear z0 z1 d0 d1 d2 d3; have FX := Lib.hid (FX.out.keep hb); (have z0 := FX.out.f.c0; have z1 := FX.out.f.c1; have d0 := FX.out.d.c0; have d1 := FX.out.d.c1; have d2 := FX.out.d.c2; have d3 := FX.out.d.c3); clear hb))
                                                                                                                                                 | (go_at_call 8; (with_reducible refine (S3.out _ FX.out.f.row).mono ?_); rintro e w5 ⟨rfl, hb⟩; (clear z0 z1 d0 d1 d2 d3; have FX := Lib.hid (FX.out.keep hb); (have z0 := FX.out.f.c0; have z1 := FX.out.f.c1; have d0 := FX.out.d.c0; have d1 := FX.out.d.c1; have d2 := FX.out.d.c2; have d3 := FX.out.d.c3); clear hb))
                                                                                                                                                 | (go_at_call 9; (with_reducible refine (S9.out _ FX.out.d.d FX.out.d.t).mono ?_); rintro e w5 ⟨rfl, hb⟩; (clear z0 z1 d0 d1 d2 d3; have FX := Lib.hid (FX.out.keep hb); (have z0 := FX.out.f.c0; have z1 := FX.out.f.c1; have d0 := FX.out.d.c0; have d1 := FX.out.d.c1; have d2 := FX.out.d.c2; have d3 := FX.out.d.c3); clear hb))
                                                                                                                                                 | (go_at_call 22; (with_reducible refine (R3.out _ FX.out.f.row).mono ?_); rintro e w5 ⟨rfl, hb⟩; (clear z0 z1 d0 d1 d2 d3; have FX := Lib.hid (FX.out.keep hb); (have z0 := FX.out.f.c0; have z1 := FX.out.f.c1; have d0 := FX.out.d.c0; have d1 := FX.out.d.c1; have d2 := FX.out.d.c2; have d3 := FX.out.d.c3); clear hb))
                                                                                                                                                 | (go_at_call 23; (with_reducible refine (R9.out _ FX.out.d.d FX.out.d.t).mono ?_); rintro e w5 ⟨rfl, hb⟩; (clear z0 z1 d0 d1 d2 d3; have FX := Lib.hid (FX.out.keep hb); (have z0 := FX.out.f.c0; have z1 := FX.out.f.c1; have d0 := FX.out.d.c0; have d1 := FX.out.d.c1; have d2 := FX.out.d.c2; have d3 := FX.out.d.c3); clear hb))); go_ret; exact ⟨rfl, FX.out.f.below⟩)
  | true =>
  have SM := Lib.hid (small_of_short hq0)
  have R3 : Hid (∀ V, NodeRow V a len cap K → Calls Tryz.prog 22 #[forV a len cap m] V fun e w' => e = .returned (.bool q2) ∧ Below V.heap.size V w') := Lib.hid (fun V h1 => by
    have h := rightF_any a len cap m K V h1 HM.out SM.out
    rw [hq2] at h
    exact h)
  clear hq0
  cases q1 with
  | false => clear hq1 hq2 hq3; (go_enter Tryz.func4, Tryz.ntmps4; go_wp2_with (first
                                                                                                                                             | (go_at_call 7; (with_reducible refine (AW.out _).mono ?_); rintro e w5 ⟨rfl, hb⟩; (clear z0 z1 d0 d1 d2 d3; have FX := Lib.hid (FX.out.keep hb); (have z0 := FX.out.f.c0; have z1 := FX.out.f.c1; have d0 := FX.out.d.c0; have d1 := FX.out.d.c1; have d2 := FX.out.d.c2; have d3 := FX.out.d.c3); clear hb))
                                                                                                                                             | (go_at_call 8; (with_reducible refine (S3.out _ FX.out.f.row).mono ?_); rintro e w5 ⟨rfl, hb⟩; (clear z0 z1 d0 d1 d2 d3; have FX := Lib.hid (FX.out.keep hb); (have z0 := FX.out.f.c0; have z1 := FX.out.f.c1; have d0 := FX.out.d.c0; have d1 := FX.out.d.c1; have d2 := FX.out.d.c2; have d3 := FX.out.d.c3); clear hb))
                                                                                                                                             | (go_at_call 9; (with_reducible refine (S9.out _ FX.out.d.d FX.out.d.t).mono ?_); rintro e w5 ⟨rfl, hb⟩; (clear z0 z1 d0 d1 d2 d3; have FX := Lib.hid (FX.out.keep hb); (have z0 := FX.out.f.c0; have z1 := FX.out.f.c1; have d0 := FX.out.d.c0; have d1 := FX.out.d.c1; have d2 := FX.out.d.c2; have d3 := FX.out.d.c3); clear hb))
                                                                                                                                             | (go_at_call 22; (with_reducible refine (R3.out _ FX.out.f.row).mono ?_); rintro e w5 ⟨rfl, hb⟩; (clear z0 z1 d0 d1 d2 d3; have FX := Lib.hid (FX.out.keep hb); (have z0 := FX.out.f.c0; have z1 := FX.out.f.c1; have d0 := FX.out.d.c0; have d1 := FX.out.d.c1; have d2 := FX.out.d.c2; have d3 := FX.out.d.c3); clear hb))
                                                                                                                                             | (go_at_call 23; (with_reducible refine (R9.out _ FX.out.d.d FX.out.d.t).mono ?_); rintro e w5 ⟨rfl, hb⟩; (clear z0 z1 d0 d1 d2 d3; have FX := Lib.hid (FX.out.keep hb); (have z0 := FX.out.f.c0; have z1 := FX.out.f.c1; have d0 := FX.out.d.c0; have d1 := FX.out.d.c1; have d2 := FX.out.d.c2; have d3 := FX.out.d.c3); clear hb))); go_ret; exact ⟨rfl, FX.out.f.below⟩)
  | true =>
  clear hq1
  cases q2 with
  | false => clear hq2 hq3; (go_enter Tryz.func4, Tryz.ntmps4; go_wp2_with (first
                                                                                                                                         | (go_at_call 7; (with_reducible refine (AW.out _).mono ?_); rintro e w5 ⟨rfl, hb⟩; (clear z0 z1 d0 d1 d2 d3; have FX := Lib.hid (FX.out.keep hb); (have z0 := FX.out.f.c0; have z1 := FX.out.f.c1; have d0 := FX.out.d.c0; have d1 := FX.out.d.c1; have d2 := FX.out.d.c2; have d3 := FX.out.d.c3); clear hb))
                                                                                                                                         | (go_at_call 8; (with_reducible refine (S3.out _ FX.out.f.row).mono ?_); rintro e w5 ⟨rfl, hb⟩; (clear z0 z1 d0 d1 d2 d3; have FX := Lib.hid (FX.out.keep hb); (have z0 := FX.out.f.c0; have z1 := FX.out.f.c1; have d0 := FX.out.d.c0; have d1 := FX.out.d.c1; have d2 := FX.out.d.c2; have d3 := FX.out.d.c3); clear hb))
                                                                                                                                         | (go_at_call 9; (with_reducible refine (S9.out _ FX.out.d.d FX.out.d.t).mono ?_); rintro e w5 ⟨rfl, hb⟩; (clear z0 z1 d0 d1 d2 d3; have FX := Lib.hid (FX.out.keep hb); (have z0 := FX.out.f.c0; have z1 := FX.out.f.c1; have d0 := FX.out.d.c0; have d1 := FX.out.d.c1; have d2 := FX.out.d.c2; have d3 := FX.out.d.c3); clear hb))
                                                                                                                                         | (go_at_call 22; (with_reducible refine (R3.out _ FX.out.f.row).mono ?_); rintro e w5 ⟨rfl, hb⟩; (clear z0 z1 d0 d1 d2 d3; have FX := Lib.hid (FX.out.keep hb); (have z0 := FX.out.f.c0; have z1 := FX.out.f.c1; have d0 := FX.out.d.c0; have d1 := FX.out.d.c1; have d2 := FX.out.d.c2; have d3 := FX.out.d.c3); clear hb))
                                                                                                                                         | (go_at_call 23; (with_reducible refine (R9.out _ FX.out.d.d FX.out.d.t).mono ?_); rintro e w5 ⟨rfl, hb⟩; (clear z0 z1 d0 d1 d2 d3; have FX := Lib.hid (FX.out.keep hb); (have z0 := FX.out.f.c0; have z1 := FX.out.f.c1; have d0 := FX.out.d.c0; have d1 := FX.out.d.c1; have d2 := FX.out.d.c2; have d3 := FX.out.d.c3); clear hb))); go_ret; exact ⟨rfl, FX.out.f.below⟩)
  | true =>
  have RF := Lib.hid hq2
  clear hq2
  cases q3 with
  | false => clear hq3; (go_enter Tryz.func4, Tryz.ntmps4; go_wp2_with (first
                                                                                                                                     | (go_at_call 7; (with_reducible refine (AW.out _).mono ?_); rintro e w5 ⟨rfl, hb⟩; (clear z0 z1 d0 d1 d2 d3; have FX := Lib.hid (FX.out.keep hb); (have z0 := FX.out.f.c0; have z1 := FX.out.f.c1; have d0 := FX.out.d.c0; have d1 := FX.out.d.c1; have d2 := FX.out.d.c2; have d3 := FX.out.d.c3); clear hb))
                                                                                                                                     | (go_at_call 8; (with_reducible refine (S3.out _ FX.out.f.row).mono ?_); rintro e w5 ⟨rfl, hb⟩; (clear z0 z1 d0 d1 d2 d3; have FX := Lib.hid (FX.out.keep hb); (have z0 := FX.out.f.c0; have z1 := FX.out.f.c1; have d0 := FX.out.d.c0; have d1 := FX.out.d.c1; have d2 := FX.out.d.c2; have d3 := FX.out.d.c3); clear hb))
                                                                                                                                     | (go_at_call 9; (with_reducible refine (S9.out _ FX.out.d.d FX.out.d.t).mono ?_); rintro e w5 ⟨rfl, hb⟩; (clear z0 z1 d0 d1 d2 d3; have FX := Lib.hid (FX.out.keep hb); (have z0 := FX.out.f.c0; have z1 := FX.out.f.c1; have d0 := FX.out.d.c0; have d1 := FX.out.d.c1; have d2 := FX.out.d.c2; have d3 := FX.out.d.c3); clear hb))
                                                                                                                                     | (go_at_call 22; (with_reducible refine (R3.out _ FX.out.f.row).mono ?_); rintro e w5 ⟨rfl, hb⟩; (clear z0 z1 d0 d1 d2 d3; have FX := Lib.hid (FX.out.keep hb); (have z0 := FX.out.f.c0; have z1 := FX.out.f.c1; have d0 := FX.out.d.c0; have d1 := FX.out.d.c1; have d2 := FX.out.d.c2; have d3 := FX.out.d.c3); clear hb))
                                                                                                                                     | (go_at_call 23; (with_reducible refine (R9.out _ FX.out.d.d FX.out.d.t).mono ?_); rintro e w5 ⟨rfl, hb⟩; (clear z0 z1 d0 d1 d2 d3; have FX := Lib.hid (FX.out.keep hb); (have z0 := FX.out.f.c0; have z1 := FX.out.f.c1; have d0 := FX.out.d.c0; have d1 := FX.out.d.c1; have d2 := FX.out.d.c2; have d3 := FX.out.d.c3); clear hb))); go_ret; exact ⟨rfl, FX.out.f.below⟩)
  | true =>
  have RK := Lib.hid hq3
  clear hq3
  have hlp : 0 < len := by
    have := right_len RF.out
    rwa [coreL_len, HL.out] at this
  obtain ⟨T, hT⟩ : ∃ T, triesZ m (coreL K) 0 ⟨L, M, nx, bz⟩ = T := ⟨_, rfl⟩
  obtain ⟨E, hE⟩ : ∃ E, elemsZ m (coreL K) 0 = E := ⟨_, rfl⟩
  obtain ⟨G, hG⟩ : ∃ G : Int → Int, (fun z => fateZ m (coreL K) z ⟨L, M, nx, bz⟩) = G := ⟨_, rfl⟩
  have HTC : Hid (T.length = cntF G E dl) := Lib.hid (by rw [← hT, tries_count RF.out RK.out, hE, hG]; dsimp only; rw [HDL.out])
  have HEI : Hid (∀ z ∈ E, ∃ t : Nat, z = (t : Int) ∧ t < len) := Lib.hid (fun z hz => by
    rw [← hE] at hz
    obtain ⟨t, h1, h2⟩ := elemsZ_in hz
    rw [coreL_len, HL.out] at h2
    exact ⟨t, h1, h2⟩)
  have HE1 : Hid (E.length ≤ 1000) := Lib.hid (by
    rw [← hE]
    exact Nat.le_trans (elemsZ_len _ _ _) (by rw [coreL_len]; exact SM.out.1))
  have CT : Hid (∀ V, NodeRow V a len cap K → DefRow V da dl dc L → WaitRow V wa wl wc M → Calls Tryz.prog 16 #[forV a len cap m, .int .i64 0, deskV da dl dc wa wl wc nx bz] V (DuePost V T)) := Lib.hid (fun V h1 h2 h3 => by
    have h := tries_any a len cap m 0 K da dl dc wa wl wc nx bz L M V h1 HM.out ⟨by decide, by decide⟩ SM.out h2 h3
    rw [hT] at h
    exact h)
  have CE : Hid (∀ V, NodeRow V a len cap K → Calls Tryz.prog 24 #[forV a len cap m, .int .i64 0] V (OrdPost V E)) := Lib.hid (fun V h1 => by
    have h := elemsFn_any a len cap m K 0 V h1 HM.out ⟨by decide, by decide⟩ SM.out
    rw [hE] at h
    exact h)
  have CF : Hid (∀ V (t : Nat), t < len → NodeRow V a len cap K → DefRow V da dl dc L → WaitRow V wa wl wc M → Calls Tryz.prog 14 #[forV a len cap m, .int .i64 t, deskV da dl dc wa wl wc nx bz] V fun e w' => e = .returned (.int .i64 (G t)) ∧ Below V.heap.size V w') := Lib.hid (fun V t ht h1 h2 h3 => by
    have h := fateFn_any a len cap m K t da dl dc wa wl wc nx bz L M V h1 HM.out ⟨by omega, by omega⟩ SM.out h2 h3
    rw [← hG]
    exact h)
  have CH : Hid (∀ V (i : Nat) x, L[i]? = some x → NodeRow V a len cap K → Calls Tryz.prog 15 #[forV a len cap m, .agg #[.string x.name, .string x.loc, .int .i64 x.cls]] V (OrdPost V (E.filter fun z => G z == (i : Int)))) := Lib.hid (fun V i x hx h1 => by
    have h := heirs_any a len cap m K x.name x.loc x.cls V h1 HM.out SM.out
    rw [heirs_fates (D := ⟨L, M, nx, bz⟩) RF.out RK.out hx, hE] at h
    rw [← hG]
    exact h)
  clear hT hE hG
  go_enter Tryz.func4, Tryz.ntmps4
  go_upto_region 6 with (first
    | (first
          | (go_at_call 7; (with_reducible refine (AW.out _).mono ?_); rintro e w5 ⟨rfl, hb⟩; (clear z0 z1 d0 d1 d2 d3; have FX := Lib.hid (FX.out.keep hb); (have z0 := FX.out.f.c0; have z1 := FX.out.f.c1; have d0 := FX.out.d.c0; have d1 := FX.out.d.c1; have d2 := FX.out.d.c2; have d3 := FX.out.d.c3); clear hb))
          | (go_at_call 8; (with_reducible refine (S3.out _ FX.out.f.row).mono ?_); rintro e w5 ⟨rfl, hb⟩; (clear z0 z1 d0 d1 d2 d3; have FX := Lib.hid (FX.out.keep hb); (have z0 := FX.out.f.c0; have z1 := FX.out.f.c1; have d0 := FX.out.d.c0; have d1 := FX.out.d.c1; have d2 := FX.out.d.c2; have d3 := FX.out.d.c3); clear hb))
          | (go_at_call 9; (with_reducible refine (S9.out _ FX.out.d.d FX.out.d.t).mono ?_); rintro e w5 ⟨rfl, hb⟩; (clear z0 z1 d0 d1 d2 d3; have FX := Lib.hid (FX.out.keep hb); (have z0 := FX.out.f.c0; have z1 := FX.out.f.c1; have d0 := FX.out.d.c0; have d1 := FX.out.d.c1; have d2 := FX.out.d.c2; have d3 := FX.out.d.c3); clear hb))
          | (go_at_call 22; (with_reducible refine (R3.out _ FX.out.f.row).mono ?_); rintro e w5 ⟨rfl, hb⟩; (clear z0 z1 d0 d1 d2 d3; have FX := Lib.hid (FX.out.keep hb); (have z0 := FX.out.f.c0; have z1 := FX.out.f.c1; have d0 := FX.out.d.c0; have d1 := FX.out.d.c1; have d2 := FX.out.d.c2; have d3 := FX.out.d.c3); clear hb))
          | (go_at_call 23; (with_reducible refine (R9.out _ FX.out.d.d FX.out.d.t).mono ?_); rintro e w5 ⟨rfl, hb⟩; (clear z0 z1 d0 d1 d2 d3; have FX := Lib.hid (FX.out.keep hb); (have z0 := FX.out.f.c0; have z1 := FX.out.f.c1; have d0 := FX.out.d.c0; have d1 := FX.out.d.c1; have d2 := FX.out.d.c2; have d3 := FX.out.d.c3); clear hb)))
    | (go_at_call 24; (with_reducible refine (CE.out _ FX.out.f.row).mono ?_); rintro e w6 ⟨ae, le, ce, rfl, hie, hb⟩; have ER := Lib.hid hie; clear hie; (clear z0 z1 d0 d1 d2 d3; have FX := Lib.hid (FX.out.keep hb); (have z0 := FX.out.f.c0; have z1 := FX.out.f.c1; have d0 := FX.out.d.c0; have d1 := FX.out.d.c1; have d2 := FX.out.d.c2; have d3 := FX.out.d.c3); clear hb)))
  have hel := ER.out.len64
  have HEL := Lib.hid ER.out.hlen
  have hle : le ≤ 1000 := by rw [← HEL.out]; exact HE1.out
  obtain ⟨V3, rfl⟩ : ∃ V3, V3 = w6 := ⟨_, rfl⟩
  clear CE S3 S9 R3 R9
  obtain ⟨i0, hi0, hz0, hz1, hz2⟩ := info_parts int_info
  go_wp2_with fail
  go_loopw [6, 7] (fun f i wr => ∃ k : Nat, k ≤ dl ∧ i = .int .i64 k ∧ (∃ c : Nat, f = .int .i64 c ∧ Hid (c = cntF G E k)) ∧ Hid (Below V3.heap.size V3 wr)) (fun _ i _ => dl - (intOf i).toNat)
  case atStart => exact ⟨0, Nat.zero_le _, rfl, ⟨0, rfl, Lib.hid (cntF_zero G E).symm⟩, Lib.hid (Below.refl _ _)⟩
  case round =>
    obtain ⟨i, hi, rfl, ⟨c, rfl, HC⟩, HB⟩ := hrel
    obtain ⟨wo, rfl⟩ : ∃ wo, wo = wr := ⟨_, rfl⟩
    have FR := Lib.hid (FX.out.keep HB.out)
    have ERR := Lib.hid (ER.out.below HB.out)
    clear z0 z1 d0 d1 d2 d3
    have z0 := FR.out.f.c0
    have z1 := FR.out.f.c1
    have d0 := FR.out.d.c0
    have d1 := FR.out.d.c1
    have d2 := FR.out.d.c2
    have d3 := FR.out.d.c3
    have hck : c ≤ 1000 := by rw [HC.out]; exact Nat.le_trans (cntF_le _ _ _) HE1.out
    by_cases hlt : i < dl
    · go_wp2_with fail
      have OW0 : Hid (wo.ownsRow wo.heap.size 3 1 (.slice none 0 0) (selG G E i 0).length ((selG G E i 0).flatMap encZ)) := Lib.hid (World.ownsRow_nil _ _ _ _)
      go_loopw [8, 9] (fun v j wr => ∃ k : Nat, k ≤ le ∧ j = .int .i64 k ∧ Hid (Below wo.heap.size wo wr) ∧ Hid (wr.ownsRow wo.heap.size 3 1 v (selG G E i k).length ((selG G E i k).flatMap encZ))) (fun _ j _ => le - (intOf j).toNat)
      case atStart => exact ⟨0, Nat.zero_le _, rfl, Lib.hid (Below.refl _ _), OW0⟩
      case round =>
        clear OW0 z0 z1 d0 d1 d2 d3
        obtain ⟨k, hk, rfl, HBW, OW⟩ := hrel
        have FQ := Lib.hid (FR.out.keep HBW.out)
        have EQ := Lib.hid (ERR.out.below HBW.out)
        have HSL : Hid ((selG G E i k).length ≤ 1000) := Lib.hid (Nat.le_trans (selG_len _ _ _ _) HE1.out)
        by_cases hlk : k < le
        · obtain ⟨eb, eo, z, rfl, heb, hz, hce, -⟩ := EQ.out.get hlk
          obtain ⟨t, rfl, ht⟩ := HEI.out z (List.mem_of_getElem? hz)
          have HST := Lib.hid (selG_step (g := G) (i := (i : Int)) hz)
          have CFQ : Hid (∀ X : Ext wr, Calls Tryz.prog 14 #[forV a len cap m, .int .i64 t, deskV da dl dc wa wl wc nx bz] X.v fun e w' => e = .returned (.int .i64 (G t)) ∧ Below X.v.heap.size X.v w') := Lib.hid (fun X => CF.out X.v t ht (FQ.out.keep X.below).f.row (FQ.out.keep X.below).d.d (FQ.out.keep X.below).d.t)
          obtain ⟨gt, hgt⟩ : ∃ gt, G t = gt := ⟨_, rfl⟩
          rw [hgt] at CFQ HST
          clear hgt hz
          obtain ⟨n1, hn1⟩ : ∃ n1, (selG G E i k).length = n1 := ⟨_, rfl⟩
          have HN1 := Lib.hid hn1
          rw [hn1] at OW HSL
          clear hn1
          have hsl := HSL.out
          have HEB := Lib.hid heb
          have z0 := Ext.cell FQ.out.f.c0 FQ.out.f.lt
          have z1 := Ext.cell FQ.out.f.c1 FQ.out.f.lt
          have d0 := Ext.cell FQ.out.d.c0 FQ.out.d.lt
          have d1 := Ext.cell FQ.out.d.c1 FQ.out.d.lt
          have d2 := Ext.cell FQ.out.d.c2 FQ.out.d.lt
          have d3 := Ext.cell FQ.out.d.c3 FQ.out.d.lt
          have ec := Ext.cell hce heb
          have HCE := Lib.hid hce
          clear hce heb
          go_upto_region 14 with fail
          cases hq : gt == (i : Int)
          all_goals
            refine wp_region_ext (by kernel_rfl) (by kernel_rfl) ?_
            repeat (go_big_quiet_step (first | (go_at_call 14; exact Ext.call_below (CFQ.out _))))
            refine wpQuiet_nil ?_
            intro w' hw'
            obtain ⟨⟨w8, hb8⟩, hw''⟩ := hw'
            dsimp only at hw''
            subst hw''
            clear z0 z1 d0 d1 d2 d3 ec CFQ
            have HBY : Hid (Below wo.heap.size wo w') := Lib.hid (HBW.out.trans (hb8.mono HBW.out.size))
            have OWY := Lib.hid (own_below OW.out hb8)
            have hcy := (hb8.cell (p := ⟨eb, eo + k, none⟩) HEB.out).trans HCE.out
            clear hb8
          · have HS2 : Hid (selG G E i (k + 1) = selG G E i k) := Lib.hid (by rw [HST.out, hq]; simp)
            go_wp2
            go_roundw
            case rel => exact ⟨k + 1, by omega, by go_num, HBY, Lib.hid (by rw [HS2.out, HN1.out]; exact OWY.out)⟩
            case measure => simp [intOf]; omega
          · have HS2 : Hid (selG G E i (k + 1) = selG G E i k ++ [(t : Int)]) := Lib.hid (by rw [HST.out, hq]; rfl)
            go_wp2_with (at_builtin
                         refine wpList_append_rows rfl (.tmp 54) (.tmp 59) 36 rfl 3 i0 _ 1 8 Tryz.underlying36 hi0 hz0 hz1 hz2 rfl (by decide) wo.heap.size _ n1 (selG G E i k) [(t : Int)] rfl (OWY.out.alloc _) _ 1 1 rfl (own_one _ _ _ _ rfl rfl) (fun x _ => encZ_one x) (by unfold maxLen; omega) (by omega) (by have := HBY.out.size; simp; omega) (fun h => by cases h) ?_
                         intro v3 w3 hown3 hg3 hat3
                         have HB3 := Lib.hid (below_own HBY.out OWY.out hg3)
                         have HO3 := Lib.hid hown3
                         clear hown3 hg3 hat3)
            go_roundw
            case rel => exact ⟨k + 1, by omega, by go_num, HB3, Lib.hid (by
              have h1 := HO3.out
              rw [← HS2.out] at h1
              rwa [show n1 + 1 = (selG G E i (k + 1)).length by rw [HS2.out, List.length_append, HN1.out]; rfl] at h1)⟩
            case measure => simp [intOf]; omega
        · have hkk : k = le := by omega
          subst hkk
          have HIN : Hid (∀ z ∈ selG G E i k, In64 z) := Lib.hid (fun z hz => by
            unfold selG at hz
            obtain ⟨q, rfl, hq⟩ := HEI.out z (List.mem_of_mem_take ((List.mem_filter.1 hz).1))
            exact ⟨by omega, by omega⟩)
          have HSE : Hid ((E.filter fun z => G z == (i : Int)) = selG G E i k) := Lib.hid (by
            unfold selG
            rw [List.take_of_length_le (by rw [HEL.out]; exact Nat.le_refl _)])
          obtain ⟨n9, hn9⟩ : ∃ n, (selG G E i k).length = n := ⟨_, rfl⟩
          have HN9 := Lib.hid hn9
          rw [hn9] at OW HSL
          obtain ⟨a9, cap9, rfl, hr9, -⟩ := IntRow.of_own_new (M := selG G E i k) (n := n9) hn9 OW.out HIN.out
          have HR9 := Lib.hid hr9
          have hsl := HSL.out
          clear hr9 OW hn9
          obtain ⟨db, do_, xd, rfl, hdb, hxd, e0, e1, e2, -⟩ := FQ.out.d.d.get hlt
          have HXD := Lib.hid hxd
          have HDB := Lib.hid hdb
          clear hxd hdb
          have CI : Hid (∀ X b l c2, IntRow X b l c2 (E.filter fun z => G z == (i : Int)) → IntRow X a9 n9 cap9 (selG G E i k) → Calls Tryz.prog 17 #[.slice b l c2, .slice a9 n9 cap9] X fun e w' => e = .returned (.bool true) ∧ Below X.heap.size X w') := Lib.hid (fun X b l c2 h1 h2 => by
            refine (refints_any b a9 l c2 n9 cap9 _ _ X h1 h2).mono fun e w' ⟨he, n, hn⟩ => ⟨?_, by rw [hn]; exact below_drewN (Below.refl _ _) n⟩
            rw [he, HSE.out, decide_eq_true rfl])
          have SV : wr.cell? ⟨w.heap.size, 0, none⟩ = some (.slice a len cap) ∧ wr.cell? ⟨w.heap.size, 1, none⟩ = some (.int .i64 m) ∧ wr.cell? ⟨w.heap.size + 1, 0, none⟩ = some (.slice (some ⟨db, do_, none⟩) dl dc) ∧ wr.cell? ⟨db, do_ + i * 3, none⟩ = some (.string xd.name) ∧ wr.cell? ⟨db, do_ + i * 3 + 1, none⟩ = some (.string xd.loc) ∧ wr.cell? ⟨db, do_ + i * 3 + 2, none⟩ = some (.int .i64 xd.cls) ∧ Below wr.heap.size wr wr := ⟨FQ.out.f.c0, FQ.out.f.c1, FQ.out.d.c0, e0, e1, e2, Below.refl _ _⟩
          have HLT : Hid (w.heap.size < wr.heap.size ∧ w.heap.size + 1 < wr.heap.size ∧ db < wr.heap.size) := Lib.hid ⟨FQ.out.f.lt, FQ.out.d.lt, HDB.out⟩
          have z0 := FQ.out.f.c0
          clear e0 e1 e2
          go_upto_region 16 with fail
          clear z0
          go_region_held3 (fun w' => w'.cell? ⟨w.heap.size, 0, none⟩ = some (.slice a len cap) ∧ w'.cell? ⟨w.heap.size, 1, none⟩ = some (.int .i64 m) ∧ w'.cell? ⟨w.heap.size + 1, 0, none⟩ = some (.slice (some ⟨db, do_, none⟩) dl dc) ∧ w'.cell? ⟨db, do_ + i * 3, none⟩ = some (.string xd.name) ∧ w'.cell? ⟨db, do_ + i * 3 + 1, none⟩ = some (.string xd.loc) ∧ w'.cell? ⟨db, do_ + i * 3 + 2, none⟩ = some (.int .i64 xd.cls) ∧ Below wr.heap.size wr w')
            (first | assumption | exact fdd_keep HLT.out (by assumption) (by assumption) | exact fdd_keep HLT.out SV (Below.refl _ _).drew)
            (first
              | (go_at_call 15; (with_reducible refine (CH.out _ i xd HXD.out (FQ.out.keep (‹_ ∧ _ ∧ _ ∧ _ ∧ _ ∧ _ ∧ Below _ _ _›).2.2.2.2.2.2).f.row).mono ?_); rintro e w6 ⟨a6, l6, c6, rfl, hi6, hb⟩; have R6 := Lib.hid hi6; clear hi6)
              | (go_at_call 17; (with_reducible refine (CI.out _ _ _ _ R6.out (HR9.out.below (‹_ ∧ _ ∧ _ ∧ _ ∧ _ ∧ _ ∧ Below _ _ _›).2.2.2.2.2.2)).mono ?_); rintro e w7 ⟨rfl, hb7⟩))
          have HBE : Hid (Below wr.heap.size wr w7) := Lib.hid (‹_ ∧ _ ∧ _ ∧ _ ∧ _ ∧ _ ∧ Below _ _ _›).2.2.2.2.2.2
          have HBF : Hid (Below V3.heap.size V3 w7) := Lib.hid (HB.out.trans ((HBW.out.trans (HBE.out.mono HBW.out.size)).mono HB.out.size))
          have hw : IntKind.i64.wrap ((c : Int) + (n9 : Int)) = (c : Int) + (n9 : Int) := by rw [IntKind.wrap_i64]; omega
          go_wp2
          go_roundw
          case rel => exact ⟨i + 1, by omega, by go_num, ⟨c + n9, by go_num, Lib.hid (by rw [show ((i + 1 : Nat) : Int) = (i : Int) + 1 by omega, cntF_step, ← HC.out, HSE.out, HN9.out])⟩, HBF⟩
          case measure => simp [intOf]; omega
    · have hkd : i = dl := by omega
      subst hkd
      go_wp2_with (go_at_call 16; (with_reducible refine (CT.out _ FR.out.f.row FR.out.d.d FR.out.d.t).mono ?_); rintro e w9 ⟨at_, lt, ct, rfl, hdu, hb⟩; have hlt9 : lt = c := by { rw [HC.out, ← HTC.out]; exact hdu.row.hlen.symm }; subst hlt9; have HB9 := Lib.hid (FR.out.keep hb).f.below; clear hb hdu)
      go_ret
      exact ⟨rfl, HB9.out⟩
end Go.Proofs.YtkomeijlljcdgaaGreat
