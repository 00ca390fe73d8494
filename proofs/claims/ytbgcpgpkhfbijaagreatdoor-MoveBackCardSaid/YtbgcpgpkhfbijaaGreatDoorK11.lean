/- Texts joined in build order: Ref3Two ValidOut ValidSwapMath ValidPutMath MoveMath MoveTell MoveWhy MoveAs MoveMath2. -/
import Derived.Test.YtbgcpgpkhfbijaaGreatDoorK10
import Derived.Test.YtbgcpgpkhfbijaaGreatDoorK07
import Derived.Test.YtbgcpgpkhfbijaaGreatDoorK05
import Derived.Test.YtbgcpgpkhfbijaaGreatDoorK09
import Derived.Test.YtbgcpgpkhfbijaaGreatDoorK08
import Derived.Deep.RegionLaw
import Derived.Deep.DeepCutAuto
import Derived.Test.YtbgcpgpkhfbijaaGreatDoorK02
import Derived.WalkKit
import Derived.LaidEql
import Derived.Stop.Asserts
import Derived.RowKitTokens
/- Two appends in a region that draws its order: a copy of a forest's nodes, and one node more. -/
namespace Go.Proofs.YtbgcpgpkhfbijaaGreatDoor
open Go.RowKit
/-- A row of nodes that was made behind W. -/
structure RowOf (W V : World) (v : Value) (n : Nat) (L : List NodeD) : Prop where
  own : V.ownsRow W.heap.size 53 10 v n (L.flatMap encN)
  below : Below W.heap.size W V
/-- A literal of one node that was made behind W. -/
structure LitOf (W V : World) (g : Nat) (y : NodeD) : Prop where
  row : SRow encN 10 V (some ⟨g, 0, none⟩) 1 1 [y]
  ge : W.heap.size ≤ g
  lt : g < V.heap.size
/-- An empty literal that was made behind W. -/
structure NilOf (W V : World) (g : Nat) : Prop where
  own : V.ownsRow W.heap.size 53 10 (.slice (some ⟨g, 0, none⟩) 0 0) 0 (([] : List NodeD).flatMap encN)
theorem RowOf.keep {W V V2 : World} {v : Value} {n : Nat} {L : List NodeD} (h : RowOf W V v n L) (hb : Below V.heap.size V V2) : RowOf W V2 v n L := ⟨own_below h.own hb, h.below.trans (hb.mono h.below.size)⟩
theorem LitOf.keep {W V V2 : World} {g : Nat} {y : NodeD} (h : LitOf W V g y) (hb : Below V.heap.size V V2) : LitOf W V2 g y := ⟨h.row.below hb, h.ge, Nat.lt_of_lt_of_le h.lt hb.size⟩
theorem NilOf.keep {W V V2 : World} {g : Nat} (h : NilOf W V g) (hb : Below V.heap.size V V2) : NilOf W V2 g := ⟨own_below h.own hb⟩
theorem LitOf.new {W V : World} {g : Nat} {y : NodeD} (hb : Below W.heap.size W V) (hg : g = V.heap.size) : LitOf W (V.alloc (nodB y)) g y := by
  subst hg
  exact ⟨own_one V 53 y (encN y).toArray (by simp) rfl, hb.size, by simp⟩
theorem NilOf.new {W V : World} {g : Nat} (hb : Below W.heap.size W V) (hg : g = V.heap.size) : NilOf W (V.alloc (.cells #[] 53)) g := by
  subst hg
  exact ⟨World.ownsRow_lit (base := W.heap.size) (e := 53) (size := 10) V #[] 0 hb.size (Nat.zero_le _) (by simp)⟩
theorem LitOf.grown {W V V2 : World} {g : Nat} {y : NodeD} {row : Option Nat} (h : LitOf W V g y) (hg : V.grownBy V2 row) (hne : some g ≠ row) : LitOf W V2 g y :=
  ⟨h.row.grown hg (fun b off e _ => by
    injection e with e
    injection e with e1
    rw [← e1]
    exact hne), h.ge, Nat.lt_of_lt_of_le h.lt hg.size⟩
theorem Box2.newAt {W : World} {g : Nat} {u v : Value} {t : TypeId} (hg : g = W.heap.size) : Box2 (W.alloc (.cells #[u, v] t)) g u v := by
  subst hg
  exact Box2.new W u v t
/-- A box behind W that the row does not lie in. -/
structure BoxOf (V : World) (g : Nat) (v : Value) : Prop where
  box : Box2 V g (.slice none 0 0) (.int .i64 0)
  ne : v.ownBlock ≠ some g
theorem step_first {P : Program} {W V : World} {ops : Array Oper} {o : Oper} {a : Act} {K : Act → World → Prop} {Q : Exit → Act → World → Prop} {E : Prop} (hgd : o.guard = none) (s x : Operand) (t : TypeId)
    (ho : o.op = .call { callee := .builtin .append, args := #[s, x], argTypes := #[t, t] })
    (i : TypeInfo) (z : Value) (ht : P.underlying t = some (.slice 53)) (hi : P.info? 53 = some i) (hz : i.zero = some z)
    (hsize : i.size = 10) (hby : i.bytes = 136) (hzs : z.cells.size = 10)
    {ad : Option Addr} {len cap : Nat} {L : List NodeD} (hr : NodeRow W ad len cap L) (hl : len ≤ 1000) (g : Nat) (hs : a.eval s = .slice (some ⟨g, 0, none⟩) 0 0) (hb : Below W.heap.size W V) (hn : NilOf W V g) (hx : a.eval x = .slice ad len cap)
    (h : ∀ v' w', RowOf W w' v' len L → V.grownBy w' (some g) → (v'.ownBlock = some g ∨ v'.ownBlock = some V.heap.size) → K (a.put o.dst v') w') :
    if Region.wanted o (yielded ops a.tmps) = true then Oper.wp P o a V K Q else E := by
  refine step_append_rows hgd s x t ho 53 i z 10 136 ht hi hz hsize hby hzs (by decide) W.heap.size _ 0 [] L hs hn.own ad len cap hx (hr.below hb).row (fun x _ => encN_one x) (by unfold maxLen; omega) (by omega) hb.size hr.hnil ?_
  intro v' w' h1 h2 h3
  refine h v' w' ⟨by rwa [Nat.zero_add, List.nil_append] at h1, hb.grown h2 hb.size (fun k e => (hn.own.lt k e).1)⟩ h2 h3
theorem step_second {P : Program} {W V : World} {ops : Array Oper} {o : Oper} {a : Act} {K : Act → World → Prop} {Q : Exit → Act → World → Prop} {E : Prop} (hgd : o.guard = none) (s x : Operand) (t : TypeId)
    (ho : o.op = .call { callee := .builtin .append, args := #[s, x], argTypes := #[t, t] })
    (i : TypeInfo) (z : Value) (ht : P.underlying t = some (.slice 53)) (hi : P.info? 53 = some i) (hz : i.zero = some z)
    (hsize : i.size = 10) (hby : i.bytes = 136) (hzs : z.cells.size = 10)
    (v : Value) (len : Nat) (L : List NodeD) (hl : len ≤ 1000) (hs : a.eval s = v) (hr : RowOf W V v len L) (g : Nat) (y : NodeD) (hx : a.eval x = .slice (some ⟨g, 0, none⟩) 1 1) (hq : LitOf W V g y)
    (h : ∀ g' cap' w', RowOf W w' (.slice (some ⟨g', 0, none⟩) (len + 1) cap') (len + 1) (L ++ [y]) → V.grownBy w' v.ownBlock → (v.ownBlock = some g' ∨ g' = V.heap.size) → K (a.put o.dst (.slice (some ⟨g', 0, none⟩) (len + 1) cap')) w') :
    if Region.wanted o (yielded ops a.tmps) = true then Oper.wp P o a V K Q else E := by
  refine step_append_rows hgd s x t ho 53 i z 10 136 ht hi hz hsize hby hzs (by decide) W.heap.size v len L [y] hs hr.own (some ⟨g, 0, none⟩) 1 1 hx hq.row (fun x _ => encN_one x) (by unfold maxLen; omega) (by omega) hr.below.size (fun h => by cases h) ?_
  intro v' w' h1 h2 h3
  have hv : ∃ g' cap', v' = .slice (some ⟨g', 0, none⟩) (len + 1) cap' := by
    rcases h1.2 with ⟨_, h0⟩ | ⟨g', cap', _, rfl, _⟩
    · omega
    · exact ⟨g', cap', rfl⟩
  obtain ⟨g', cap', rfl⟩ := hv
  exact h g' cap' w' ⟨h1, hr.below.grown h2 hr.below.size (fun k e => (hr.own.lt k e).1)⟩ h2 (by
    rcases h3 with h3 | h3
    · exact .inl h3.symm
    · exact .inr (by injection h3))
end Go.Proofs.YtbgcpgpkhfbijaaGreatDoor
/- instarlaw05's out: a node goes from its parent, in a row that may be written. -/
namespace Go.Proofs.YtbgcpgpkhfbijaaGreatDoor
open Go.RowKit
/-- What is left of a list: all but n, of the first ones. -/
def restZ (l : List Int) (n : Int) (k : Nat) : List Int := (l.take k).filter (fun z => z != n)
theorem restZ_step {l : List Int} {n z : Int} {k : Nat} (h : l[k]? = some z) : restZ l n (k + 1) = restZ l n k ++ if z != n then [z] else [] := by
  obtain ⟨hl, hg⟩ := List.getElem?_eq_some_iff.1 h
  unfold restZ
  rw [List.take_succ_eq_append_getElem hl, hg, List.filter_append]
  congr 1
  rw [List.filter_cons]
  rfl
theorem restZ_len (l : List Int) (n : Int) (k : Nat) : (restZ l n k).length ≤ l.length := Nat.le_trans (List.length_filter_le _ _) (List.length_take_le' _ _)
theorem restZ_mem {l : List Int} {n z : Int} {k : Nat} (h : z ∈ restZ l n k) : z ∈ l := List.mem_of_mem_take (List.mem_filter.1 h).1
/-- What comes of out. -/
def OutOf (m : Int) (F G : List Core) (n : Nat) : Prop := ∃ x, F[n]? = some x ∧ ((x.parent = -1 ∧ G = F) ∨ ∃ p, Out m F G n p x)
theorem out_made {m : Int} {M : List NodeD} {n p : Nat} {x y : NodeD} (hr : rightF m (coreL M) = true) (hx : M[n]? = some x) (hy : M[p]? = some y) (hp : x.core.parent = (p : Int)) {a : Option Addr} {l c : Nat} : n ≠ p ∧ Out m (coreL M) (coreL ((M.set p (withK y a l c (y.core.kids.filter (fun z => z != (n : Int))))).set n (withP x (-1)))) n p x.core := by
  have hxc := coreL_get hx
  have hyc := coreL_get hy
  have hnp : n ≠ p := fun e => by
    subst e
    have hpar : parS (coreL M) n = some n := parS_some ((next_par hxc (by omega)).trans hp)
    have := (treeS hr).rank_up n n (List.getElem?_eq_some_iff.1 hxc).1 hpar
    omega
  refine ⟨hnp, hr, hxc, hp, ⟨by unfold coreL; simp, fun j z hz => ?_⟩⟩
  obtain ⟨q, hq, rfl⟩ : ∃ q, M[j]? = some q ∧ q.core = z := by
    unfold coreL at hz
    rw [List.getElem?_map] at hz
    cases hm : M[j]? with
    | none => rw [hm] at hz; cases hz
    | some q => rw [hm] at hz; exact ⟨q, rfl, Option.some.inj hz⟩
  have hjl := (List.getElem?_eq_some_iff.1 hq).1
  unfold coreL
  rw [List.getElem?_map]
  by_cases e : j = n
  · subst e
    obtain rfl : x = q := Option.some.inj (hx.symm.trans hq)
    rw [List.getElem?_set_self (by rw [List.length_set]; exact hjl), if_pos rfl, if_neg hnp]
    rfl
  · rw [List.getElem?_set_ne (fun e2 => e e2.symm), if_neg e]
    by_cases e2 : j = p
    · subst e2
      obtain rfl : y = q := Option.some.inj (hy.symm.trans hq)
      rw [List.getElem?_set_self hjl, if_pos rfl]
      rfl
    · rw [List.getElem?_set_ne (fun e3 => e2 e3.symm), if_neg e2, hq]
      rfl
theorem out_small {M : List NodeD} {n p : Nat} {x y : NodeD} (hs : smallF M) (hx : M[n]? = some x) (hy : M[p]? = some y) {a : Option Addr} {l c : Nat} : smallF ((M.set p (withK y a l c (y.core.kids.filter (fun z => z != (n : Int))))).set n (withP x (-1))) := by
  refine ⟨by simpa using hs.1, fun z hz => ?_⟩
  have h1 := hs.2 x (List.mem_of_getElem? hx)
  have h2 := hs.2 y (List.mem_of_getElem? hy)
  rcases List.mem_or_eq_of_mem_set hz with hz | rfl
  · rcases List.mem_or_eq_of_mem_set hz with hz | rfl
    · exact hs.2 z hz
    · exact ⟨Nat.le_trans (List.length_filter_le _ _) h2.1, h2.2⟩
  · exact h1
end Go.Proofs.YtbgcpgpkhfbijaaGreatDoor
/- What ValidSwap asks, over data. Plain mathematics, no program. -/
namespace Go.Proofs.YtbgcpgpkhfbijaaGreatDoor
open Go.RowKit
theorem inF_of' {F : List Core} {k : Nat} (h : k < F.length) : inF F (k : Int) = true := by unfold inF; rw [decide_eq_true (by omega), decide_eq_true (by omega)]; rfl
theorem vknows_of' {m : Int} {F : List Core} (h : rightF m F = true) {n p : Nat} (hn : n < F.length) (hp : p < F.length) {c : Int} (hc : c = -1 ∨ inF F c = true) : vknowsB m F n p c = true := by
  unfold vknowsB
  rw [inF_of' hn, inF_of' hp, h]
  rcases hc with rfl | hc
  · rfl
  · rw [hc]; simp
theorem refuse_zero {m : Int} {F : List Core} {n p g : Int} : refuseE m F n p true g = 0 ↔ kindK F p ≠ 2 ∧ overZ m F n p = false ∧ kindK F n ≠ 0 ∧ kindK F n ≠ 4 ∧ (kindK F p = 0 → docTakesB F n p g = true) := by
  unfold refuseE
  constructor
  · intro h
    split at h
    · cases h
    rename_i h1
    rw [if_neg (by simp)] at h
    split at h
    · cases h
    rename_i h3
    split at h
    · cases h
    rename_i h4
    refine ⟨fun e => h1 (.inl e), ?_, fun e => h3 (.inl e), fun e => h3 (.inr e), fun e => ?_⟩
    · cases hq : overZ m F n p with
      | false => rfl
      | true => exact absurd (.inr hq) h1
    · cases hq : docTakesB F n p g with
      | true => rfl
      | false => exact absurd ⟨e, hq⟩ h4
  · rintro ⟨h1, h2, h3, h4, h5⟩
    rw [if_neg (by rw [h2]; simp [h1]), if_neg (by simp), if_neg (by simp [h3, h4])]
    by_cases e : kindK F p = 0
    · rw [if_neg (by rw [h5 e]; simp)]
    · rw [if_neg (by simp [e])]
theorem swap_is {m : Int} {F : List Core} (h : rightF m F = true) {X Y C : Nat} (hX : X < F.length) (hY : Y < F.length) (hC : C < F.length) (hp : parentK F C = (Y : Int)) : swapZ m F X Y C = refuseE m F X Y true C := by
  unfold swapZ
  rw [vknows_of' h hX hY (.inr (inF_of' hC)), if_pos rfl, hp, show ((C : Int) != -1) = true from bne_iff_ne.2 (by omega)]
  simp
theorem may_is {m : Int} {F : List Core} (h : rightF m F = true) {X Y C : Nat} (hX : X < F.length) (hY : Y < F.length) (hC : C < F.length) (hp : parentK F C = (Y : Int)) : mayZ m F X Y C = refuseE m F X Y true (-1) := by
  unfold mayZ
  rw [vknows_of' h hX hY (.inr (inF_of' hC)), if_pos rfl, hp]
  simp
theorem may_none {m : Int} {F : List Core} (h : rightF m F = true) {X Y : Nat} (hX : X < F.length) (hY : Y < F.length) : mayZ m F X Y (-1) = refuseE m F X Y true (-1) := by
  unfold mayZ
  rw [vknows_of' h hX hY (.inl rfl), if_pos rfl]
  rfl
theorem swap_none {m : Int} {F : List Core} {X Y : Int} : swapZ m F X Y (-1) ≠ 0 := by
  unfold swapZ
  split
  · unfold refuseE
    split
    · decide
    · rw [if_pos (by simp)]; decide
  · decide
theorem countNe_all {l : List Int} (h : ∀ z ∈ l, 0 ≤ z) : countNe l (-1) = l.length := by
  unfold countNe
  exact List.countP_eq_length.2 (fun z hz => bne_iff_ne.2 (by have := h z hz; omega))
theorem kids_nat {m : Int} {F : List Core} (h : rightF m F = true) {Y : Nat} {y : Core} (hy : F[Y]? = some y) : ∀ z ∈ y.kids, 0 ≤ z := fun z hz => by
  obtain ⟨c, h1, _⟩ := (right_node h hy).kids z hz
  exact (getC_some h1).1
theorem kidsK_get {F : List Core} {Y : Nat} {y : Core} (hy : F[Y]? = some y) : kidsK F (Y : Int) = y.kids := by unfold kidsK; rw [getC_nat, hy]
theorem kindK_at {F : List Core} {Y : Nat} {y : Core} (hy : F[Y]? = some y) : kindK F (Y : Int) = y.kind := by unfold kindK; rw [getC_nat, hy]
theorem parentK_at {F : List Core} {Y : Nat} {y : Core} (hy : F[Y]? = some y) : parentK F (Y : Int) = y.parent := by unfold parentK; rw [getC_nat, hy]
theorem parts_at {F : List Core} {Y : Nat} {y : Core} (hy : F[Y]? = some y) : partsZ F (Y : Int) = if y.kind = 3 then y.kids else [(Y : Int)] := by unfold partsZ; rw [getC_nat, hy]
theorem over_self {m : Int} {F : List Core} (h : rightF m F = true) {X : Nat} (hX : X < F.length) : overZ m F X X = true := (overZ_iff h hX hX).2 (holds_refl X)
/-- Who may be put may be put in the place of whomever. -/
theorem may_swap {m : Int} {F : List Core} (hr : rightF m F = true) {X Y C : Nat} (hX : X < F.length) (hY : Y < F.length) (hC : C < F.length) (hpC : parentK F C = (Y : Int)) (h : mayZ m F X Y C = 0) : swapZ m F X Y C = 0 := by
  obtain ⟨y, hy⟩ : ∃ y, F[Y]? = some y := ⟨_, List.getElem?_eq_getElem hY⟩
  rw [may_is hr hX hY hC hpC, refuse_zero] at h
  rw [swap_is hr hX hY hC hpC, refuse_zero]
  obtain ⟨h1, h2, h3, h4, h5⟩ := h
  refine ⟨h1, h2, h3, h4, fun e => ?_⟩
  have h6 := h5 e
  unfold docTakesB at h6 ⊢
  rw [Bool.and_eq_true, decide_eq_true_eq] at h6 ⊢
  refine ⟨h6.1, ?_⟩
  rw [kidsK_get hy] at h6 ⊢
  rw [countNe_all (kids_nat hr hy)] at h6
  have := countNe_le y.kids C
  omega
/-- What is asked of two nodes, and a child of one. -/
structure SwapFacts (m : Int) (F G : List Core) (X Y C : Nat) : Prop where
  same : X = C → overZ m F X Y = false → swapZ m F X Y C = 0
  gone : X ≠ C → overZ m F X Y = false → (swapZ m F X Y C = 0 ↔ mayZ m G X Y (-1) = 0)
theorem swap_facts {m : Int} {F G : List Core} {X Y C : Nat} {c : Core} (hX : X < F.length) (hY : Y < F.length) (ho : Out m F G C Y c) : SwapFacts m F G X Y C := by
  have hr := ho.right
  have hC := ho.lt
  have hpC : parentK F C = (Y : Int) := by rw [parentK_at ho.hx]; exact ho.hp
  obtain ⟨y, hy⟩ : ∃ y, F[Y]? = some y := ⟨_, List.getElem?_eq_getElem hY⟩
  obtain ⟨x, hx⟩ : ∃ x, F[X]? = some x := ⟨_, List.getElem?_eq_getElem hX⟩
  refine ⟨fun hXC hov => ?_, fun hXC hov => ?_⟩
  · subst hXC
    rw [swap_is hr hX hY hC hpC, refuse_zero]
    have hpf := par_facts hr ho.hx ho.hp hy
    refine ⟨by rw [kindK_at hy]; exact hpf.2.1, hov, ?_, ?_, fun e => ?_⟩
    · rw [kindK_at ho.hx]; rcases hpf.1 with e | e <;> omega
    · rw [kindK_at ho.hx]; rcases hpf.1 with e | e <;> omega
    · rw [kindK_at hy] at e
      obtain ⟨h1, h2⟩ := (right_node hr hy).root e
      have hm := hasZ_mem hpf.2.2
      have hk := h2 _ hm
      rw [kindK_at ho.hx] at hk
      have hl : y.kids = [(X : Int)] := by
        match hq : y.kids with
        | [] => rw [hq] at hm; cases hm
        | [z] => rw [hq] at hm; rw [List.mem_singleton.1 hm]
        | a :: b :: r => rw [hq] at h1; simp at h1
      unfold docTakesB
      rw [kidsK_get hy, parts_at ho.hx, if_neg (by omega), hl]
      have : kindK F (X : Int) = 1 := by rw [kindK_at ho.hx]; exact hk
      simp [countNe, this]
  · have hrG := ho.rightG
    have hXG : X < G.length := by rw [ho.ed.len]; exact hX
    have hYG : Y < G.length := by rw [ho.ed.len]; exact hY
    have hXY : X ≠ Y := fun e => by subst e; rw [over_self hr hX] at hov; cases hov
    have hovG : overZ m G X Y = false := by
      cases hq : overZ m G X Y with
      | false => rfl
      | true =>
        have h1 := ((ho.over hX hY).1 ((overZ_iff hrG hXG hYG).1 hq)).1
        rw [(overZ_iff hr hX hY).2 h1] at hov
        cases hov
    rw [swap_is hr hX hY hC hpC, may_none hrG hXG hYG, refuse_zero, refuse_zero, ho.ed.kindK, ho.ed.kindK, hov, hovG]
    have hd : docTakesB G X Y (-1) = docTakesB F X Y C := by
      have hyG := ho.ed.at_ Y y hy
      have hxG := ho.ed.at_ X x hx
      unfold docTakesB
      rw [kidsK_get hy, kidsK_get hyG, parts_at hx, parts_at hxG]
      have hk : (fun k => kindK G k == 2) = (fun k => kindK F k == 2) := by funext k; rw [ho.ed.kindK]
      rw [hk]
      show ((!(if x.kind = 3 then (if X = Y then x.kids.filter (fun z => z != (C : Int)) else x.kids) else [(X : Int)]).any (fun k => kindK F k == 2)) && decide (countNe (if Y = Y then y.kids.filter (fun z => z != (C : Int)) else y.kids) (-1) + (if x.kind = 3 then (if X = Y then x.kids.filter (fun z => z != (C : Int)) else x.kids) else [(X : Int)]).length ≤ 1)) = _
      rw [if_neg hXY, if_pos rfl, countNe_all (fun z hz => kids_nat hr hy z (List.mem_filter.1 hz).1)]
      have : (y.kids.filter (fun z => z != (C : Int))).length = countNe y.kids C := by unfold countNe; rw [List.countP_eq_length_filter]
      rw [this]
    rw [hd]
end Go.Proofs.YtbgcpgpkhfbijaaGreatDoor
/- The mathematics of the law ValidPut: parts go from where they are, one by one, and hang under a node. No program. -/
namespace Go.Proofs.YtbgcpgpkhfbijaaGreatDoor
open Go.RowKit
section
variable {F G : List Core} {P P' : Nat → Core → Int} {K K' : Nat → Core → List Int} {D D' : Nat → Core → Int} {M : List NodeD} {q : Nat} {x : NodeD}
theorem Edit.congr (h : Edit F G P K D) (hP : ∀ (j : Nat) c, F[j]? = some c → P j c = P' j c) (hK : ∀ (j : Nat) c, F[j]? = some c → K j c = K' j c) (hD : ∀ (j : Nat) c, F[j]? = some c → D j c = D' j c) : Edit F G P' K' D' :=
  ⟨h.len, fun j c hc => by rw [← hP j c hc, ← hK j c hc, ← hD j c hc]; exact h.at_ j c hc⟩
theorem core_set (M : List NodeD) (q : Nat) (y : NodeD) : coreL (M.set q y) = (coreL M).set q y.core := by unfold coreL; rw [List.map_set]
theorem Edit.setP (h : Edit F (coreL M) P K D) (hx : M[q]? = some x) (v : Int) : Edit F (coreL (M.set q (withP x v))) (fun j c => if j = q then v else P j c) K D := by
  refine ⟨by rw [core_set, List.length_set]; exact h.len, fun j c hc => ?_⟩
  have h1 := h.at_ j c hc
  rw [core_set]
  by_cases e : j = q
  · subst e
    rw [List.getElem?_set_self (List.getElem?_eq_some_iff.1 h1).1, if_pos rfl]
    rw [coreL_get hx] at h1
    have h2 := Option.some.inj h1
    show some (⟨x.core.kind, x.core.name, x.core.is, x.core.data, x.core.attrs, v, x.core.kids, x.core.host, x.core.under, x.core.doc⟩ : Core) = _
    rw [h2]
    rfl
  · rw [List.getElem?_set_ne (fun e2 => e e2.symm), h1, if_neg e]
theorem Edit.setD (h : Edit F (coreL M) P K D) (hx : M[q]? = some x) (v : Int) : Edit F (coreL (M.set q (withD x v))) P K (fun j c => if j = q then v else D j c) := by
  refine ⟨by rw [core_set, List.length_set]; exact h.len, fun j c hc => ?_⟩
  have h1 := h.at_ j c hc
  rw [core_set]
  by_cases e : j = q
  · subst e
    rw [List.getElem?_set_self (List.getElem?_eq_some_iff.1 h1).1, if_pos rfl]
    rw [coreL_get hx] at h1
    have h2 := Option.some.inj h1
    show some (⟨x.core.kind, x.core.name, x.core.is, x.core.data, x.core.attrs, x.core.parent, x.core.kids, x.core.host, x.core.under, v⟩ : Core) = _
    rw [h2]
    rfl
  · rw [List.getElem?_set_ne (fun e2 => e e2.symm), h1, if_neg e]
theorem Edit.setK (h : Edit F (coreL M) P K D) (hx : M[q]? = some x) (a : Option Addr) (n c0 : Nat) (l : List Int) : Edit F (coreL (M.set q (withK x a n c0 l))) P (fun j c => if j = q then l else K j c) D := by
  refine ⟨by rw [core_set, List.length_set]; exact h.len, fun j c hc => ?_⟩
  have h1 := h.at_ j c hc
  rw [core_set]
  by_cases e : j = q
  · subst e
    rw [List.getElem?_set_self (List.getElem?_eq_some_iff.1 h1).1, if_pos rfl]
    rw [coreL_get hx] at h1
    have h2 := Option.some.inj h1
    show some (⟨x.core.kind, x.core.name, x.core.is, x.core.data, x.core.attrs, x.core.parent, l, x.core.host, x.core.under, x.core.doc⟩ : Core) = _
    rw [h2]
    rfl
  · rw [List.getElem?_set_ne (fun e2 => e e2.symm), h1, if_neg e]
end
/-- The first ones of a row, and the others. -/
theorem SRow.take {α : Type} {enc : α → List Value} {size : Nat} {w : World} {a : Option Addr} {len cap k : Nat} {L : List α} (h : SRow enc size w a len cap L) (hk : k ≤ len) : SRow enc size w a k cap (L.take k) := by
  refine ⟨by rw [List.length_take, h.hlen]; omega, Nat.le_trans hk h.hcap, h.hmax, fun x hx => h.henc x (List.mem_of_mem_take hx), ?_⟩
  rcases h.cells with h0 | ⟨b, off, ha, hb, hc⟩
  · exact .inl (by omega)
  · refine .inr ⟨b, off, ha, hb, fun i x j v hx hv => hc i x j v ?_ hv⟩
    rw [List.getElem?_take] at hx
    split at hx
    · exact hx
    · cases hx
theorem SRow.rest {α : Type} {enc : α → List Value} {w : World} {a : Option Addr} {len cap k : Nat} {L : List α} (h : SRow enc 1 w a len cap L) (hk : k ≤ len) : SRow enc 1 w (if cap = k then a else Option.map (fun x => x.add k) a) (len - k) (cap - k) (L.drop k) := by
  have hcap := h.hcap
  have hmax := h.hmax
  refine ⟨by rw [List.length_drop, h.hlen], by omega, by omega, fun x hx => h.henc x (List.mem_of_mem_drop hx), ?_⟩
  by_cases h0 : len - k = 0
  · exact .inl h0
  rcases h.cells with h1 | ⟨b, off, ha, hb, hc⟩
  · omega
  · refine .inr ⟨b, off + k, ?_, hb, fun i x j v hx hv => ?_⟩
    · rw [if_neg (by omega), ha, Option.map_some, Go.WideShapes.add_plain]
    · rw [List.getElem?_drop] at hx
      have := hc (k + i) x j v hx hv
      rw [show off + k + i * 1 + j = off + (k + i) * 1 + j by omega]
      exact this
/-- The first k of l have gone from where they were. -/
structure OutsOf (m : Int) (F G : List Core) (l : List Int) (k : Nat) : Prop where
  right : rightF m G = true
  ed : Edit F G (fun j c => if (l.take k).contains (j : Int) then -1 else c.parent) (fun _ c => c.kids.filter (fun z => !(l.take k).contains z)) (fun _ c => c.doc)
theorem OutsOf.start {m : Int} {F : List Core} {l : List Int} (h : rightF m F = true) : OutsOf m F F l 0 := by
  refine ⟨h, rfl, fun j c hc => ?_⟩
  have : c.kids.filter (fun z => !(l.take 0).contains z) = c.kids := by simp
  rw [this, hc]
  rfl
theorem contains_take {l : List Int} {k : Nat} {q z : Int} (hq : l[k]? = some q) : (l.take (k + 1)).contains z = ((l.take k).contains z || z == q) := by
  obtain ⟨hl, hg⟩ := List.getElem?_eq_some_iff.1 hq
  rw [List.take_succ_eq_append_getElem hl, hg, List.contains_append]
  simp
  rfl
theorem OutsOf.step {m : Int} {F G G' : List Core} {l : List Int} {k q : Nat} (h : OutsOf m F G l k) (hq : l[k]? = some (q : Int)) (ho : OutOf m G G' q) : OutsOf m F G' l (k + 1) := by
  obtain ⟨x, hx, hcase⟩ := ho
  have hf : ∀ (ks : List Int), ks.filter (fun z => !(l.take (k + 1)).contains z) = (ks.filter (fun z => !(l.take k).contains z)).filter (fun z => z != (q : Int)) := fun ks => by
    rw [List.filter_filter]
    refine List.filter_congr (fun z _ => ?_)
    rw [contains_take hq]
    cases (l.take k).contains z <;> cases hz : (z == (q : Int)) <;> simp [bne, hz]
  have notin : ∀ (j : Nat) (y : Core), G[j]? = some y → (x.parent = -1 ∨ x.parent ≠ (j : Int)) → y.kids.filter (fun z => z != (q : Int)) = y.kids := fun j y hy hp => by
    refine List.filter_eq_self.2 (fun z hz => bne_iff_ne.2 (fun e => ?_))
    subst e
    obtain ⟨c, h1, _, h3, _⟩ := (right_node h.right hy).kids _ hz
    rw [getC_nat, hx] at h1
    rw [← Option.some.inj h1] at h3
    rcases hp with hp | hp
    · omega
    · exact hp h3
  have hP : ∀ (j : Nat) (c : Core), (if (l.take (k + 1)).contains (j : Int) then (-1 : Int) else c.parent) = if j = q then -1 else if (l.take k).contains (j : Int) then -1 else c.parent := fun j c => by
    rw [contains_take hq]
    by_cases e : j = q
    · subst e; simp
    · have e2 : ((j : Int) == (q : Int)) = false := beq_eq_false_iff_ne.2 (by omega)
      rw [if_neg e, e2, Bool.or_false]
  rcases hcase with ⟨h1, rfl⟩ | ⟨p, h1⟩
  · refine ⟨h.right, h.ed.len, fun j c hc => ?_⟩
    have h2 := h.ed.at_ j c hc
    have h9 : (c.kids.filter (fun z => !(l.take k).contains z)).filter (fun z => z != (q : Int)) = c.kids.filter (fun z => !(l.take k).contains z) := notin j _ h2 (.inl h1)
    rw [h2, hf, h9, hP]
    by_cases e : j = q
    · subst e
      rw [hx] at h2
      have h3 := congrArg Core.parent (Option.some.inj h2)
      rw [if_pos rfl]
      have h3b : x.parent = (if (l.take k).contains (j : Int) then (-1 : Int) else c.parent) := h3
      have h4 : (if (l.take k).contains (j : Int) then (-1 : Int) else c.parent) = -1 := h3b.symm.trans h1
      rw [h4]
    · rw [if_neg e]
  · refine ⟨h1.rightG, by rw [h1.ed.len]; exact h.ed.len, fun j c hc => ?_⟩
    have h2 := h.ed.at_ j c hc
    rw [h1.ed.at_ j _ h2, hf, hP]
    have hk : (if j = p then (edC c (if (l.take k).contains (j : Int) then -1 else c.parent) (c.kids.filter (fun z => !(l.take k).contains z)) c.doc).kids.filter (fun z => z != (q : Int)) else (edC c (if (l.take k).contains (j : Int) then -1 else c.parent) (c.kids.filter (fun z => !(l.take k).contains z)) c.doc).kids) = (c.kids.filter (fun z => !(l.take k).contains z)).filter (fun z => z != (q : Int)) := by
      by_cases e : j = p
      · rw [if_pos e]; rfl
      · rw [if_neg e]
        exact (notin j _ h2 (.inr (by
          have h3 := h1.hx
          rw [hx] at h3
          rw [h1.hp]
          omega))).symm
    rw [hk]
    rfl
/-- The parents, while the parts are hung. -/
def putP (l : List Int) (p : Nat) (i j : Nat) (c : Core) : Int := if (l.take i).contains (j : Int) then (p : Int) else if l.contains (j : Int) then -1 else c.parent
def putK (l : List Int) (p : Nat) (A B : List Int) (j : Nat) (c : Core) : List Int := if j = p then A ++ l ++ B else c.kids.filter (fun z => !l.contains z)
def mvL (F : List Core) (l : List Int) (i j : Nat) : Bool := (l.take i).any (fun q => (allI F q).contains (j : Int))
def putD (F : List Core) (l : List Int) (dp : Int) (i : Nat) (r : List Int) (j : Nat) (c : Core) : Int := if mvL F l i j || r.contains (j : Int) then dp else c.doc
theorem putP_next {l : List Int} {p i q : Nat} (hq : l[i]? = some (q : Int)) (j : Nat) (c : Core) : (if j = q then (p : Int) else putP l p i j c) = putP l p (i + 1) j c := by
  unfold putP
  rw [contains_take hq]
  by_cases e : j = q
  · subst e; simp
  · have e2 : ((j : Int) == (q : Int)) = false := beq_eq_false_iff_ne.2 (by omega)
    rw [if_neg e, e2, Bool.or_false]
theorem putD_next {F : List Core} {l : List Int} {dp : Int} {i k t : Nat} {r : List Int} (ht : r[k]? = some (t : Int)) (j : Nat) (c : Core) : (if j = t then dp else putD F l dp i (r.take k) j c) = putD F l dp i (r.take (k + 1)) j c := by
  unfold putD
  rw [contains_take ht]
  by_cases e : j = t
  · subst e; simp
  · have e2 : ((j : Int) == (t : Int)) = false := beq_eq_false_iff_ne.2 (by omega)
    rw [if_neg e, e2, Bool.or_false]
theorem putD_all {F : List Core} {l : List Int} {dp : Int} {i q : Nat} (hq : l[i]? = some (q : Int)) (j : Nat) (c : Core) : putD F l dp i (allI F q) j c = putD F l dp (i + 1) [] j c := by
  obtain ⟨hl, hg⟩ := List.getElem?_eq_some_iff.1 hq
  unfold putD mvL
  rw [List.take_succ_eq_append_getElem hl, hg, List.any_append]
  simp
section
variable {m : Int} {F : List Core} {n p : Nat} {c : Int} {cn cp : Core}
/-- What is known of what may be put. -/
structure PutOk (m : Int) (F : List Core) (n p : Nat) (c : Int) (l : List Int) (cp : Core) : Prop where
  right : rightF m F = true
  hp : F[p]? = some cp
  kp : cp.kind ≠ 2
  once : l.Nodup
  ls : ∀ z ∈ l, ∃ (q : Nat) (c : Core), z = q ∧ F[q]? = some c ∧ (c.kind = 1 ∨ c.kind = 2)
  over : ∀ q : Nat, (q : Int) ∈ l → ¬ holdsT (parS F) q p
  root : cp.kind = 0 → cp.kids.length + l.length ≤ 1 ∧ ∀ k ∈ l, kindK F k = 1
  before : beforeZ m F n p c = -1 ∨ beforeZ m F n p c ∈ cp.kids.filter (fun z => !l.contains z)
theorem PutOk.of (h : mayZ m F n p c = 0) (hp : F[p]? = some cp) : PutOk m F n p c (partsZ F n) cp := by
  obtain ⟨hk, h2, h3, h4, h5, h6, h7⟩ := may_ok h
  obtain ⟨hr, ⟨N, hN1, hN⟩, ⟨p', hp1, hpl⟩, hcc⟩ := vknows_nat hk
  obtain rfl : n = N := by omega
  obtain rfl : p = p' := by omega
  obtain ⟨cn, hn⟩ : ∃ cn, F[n]? = some cn := ⟨_, List.getElem?_eq_getElem hN⟩
  have NN := right_node hr hn
  have NP := right_node hr hp
  rw [kindK_at hp] at h2 h7
  rw [kindK_at hn] at h5 h6
  have hov : ¬ holdsT (parS F) n p := fun hh => by rw [(overZ_iff hr hN hpl).2 hh] at h3; cases h3
  have hkind := NN.kind
  have hls : ∀ z ∈ partsZ F n, ∃ (q : Nat) (c : Core), z = q ∧ F[q]? = some c ∧ (c.kind = 1 ∨ c.kind = 2) := fun z hz => by
    rw [parts_at hn] at hz
    split at hz
    · obtain ⟨c1, g1, g2, _, _⟩ := NN.kids z hz
      obtain ⟨g3, _, g4⟩ := getC_some g1
      exact ⟨z.toNat, c1, by omega, g4, g2⟩
    · rw [List.mem_singleton] at hz
      exact ⟨n, cn, hz, hn, by omega⟩
  have hfrag : ∀ z ∈ partsZ F n, z = (n : Int) ∨ (cn.kind = 3 ∧ z ∈ cn.kids) := fun z hz => by
    rw [parts_at hn] at hz
    split at hz
    · next e => exact .inr ⟨e, hz⟩
    · exact .inl (List.mem_singleton.1 hz)
  have hholds : ∀ q : Nat, (q : Int) ∈ partsZ F n → holdsT (parS F) n q := fun q hq => by
    rcases hfrag _ hq with e | ⟨_, e⟩
    · rw [show q = n by omega]; exact holds_refl n
    · obtain ⟨c1, g1, _, g3, _⟩ := NN.kids _ e
      rw [getC_nat] at g1
      exact holds_par (parS_parent g1 g3)
  refine ⟨hr, hp, h2, ?_, hls, fun q hq hh => hov (holds_trans (hholds q hq) hh), fun e => ?_, ?_⟩
  · rw [parts_at hn]
    split
    · exact NN.once
    · simp
  · have h8 := h7 e
    unfold docTakesB at h8
    rw [Bool.and_eq_true, Bool.not_eq_true', decide_eq_true_eq, kidsK_get hp, countNe_all (kids_nat hr hp)] at h8
    refine ⟨h8.2, fun k hk2 => ?_⟩
    obtain ⟨q, c1, rfl, g1, g2⟩ := hls k hk2
    have := List.any_eq_false.1 h8.1 _ hk2
    rw [kindK_at g1] at this ⊢
    rcases g2 with g2 | g2
    · exact g2
    · simp [g2] at this
  · by_cases hb : beforeZ m F n p c = -1
    · exact .inl hb
    right
    unfold beforeZ at hb ⊢
    rw [if_pos h] at hb ⊢
    rw [List.mem_filter]
    by_cases hcn : c = (n : Int)
    · rw [if_pos hcn] at hb ⊢
      have hpar : cn.parent = (p : Int) := by
        rcases h4 with h4 | h4
        · omega
        · rw [hcn, parentK_at hn] at h4; exact h4
      obtain ⟨k, e1, e2, e3⟩ := place_at hr hn hpar hp
      have hk3 := (par_facts hr hn hpar hp).1
      rw [e1, kidsK_get hp, show ((k : Int) + 1).toNat = k + 1 by omega] at hb ⊢
      cases hz : cp.kids[k + 1]? with
      | none => rw [hz] at hb; exact absurd rfl hb
      | some z =>
        dsimp only
        refine ⟨List.mem_of_getElem? hz, ?_⟩
        rw [parts_at hn, if_neg (by omega)]
        have hne : z ≠ (n : Int) := fun e => by
          subst e
          have g1 := (List.getElem?_eq_some_iff.1 e3)
          have g2 := (List.getElem?_eq_some_iff.1 hz)
          obtain ⟨g3, g4⟩ := g1
          obtain ⟨g5, g6⟩ := g2
          exact List.pairwise_iff_getElem.1 NP.once k (k + 1) g3 g5 (by omega) (by rw [g4, g6])
        simpa using hne
    · rw [if_neg hcn] at hb ⊢
      have hpc : parentK F c = p := h4.resolve_left hb
      rcases hcc with e | ⟨C, rfl, hC⟩
      · exact absurd e hb
      obtain ⟨cc, hcc⟩ : ∃ cc, F[C]? = some cc := ⟨_, List.getElem?_eq_getElem hC⟩
      rw [parentK_at hcc] at hpc
      have hm := hasZ_mem (par_facts hr hcc hpc hp).2.2
      refine ⟨hm, ?_⟩
      have hnl : (C : Int) ∉ partsZ F n := fun hh => by
        rcases hfrag _ hh with e | ⟨_, e⟩
        · exact hcn e
        · obtain ⟨c1, g1, _, g3, _⟩ := NN.kids _ e
          rw [getC_nat, hcc] at g1
          rw [← Option.some.inj g1, hpc] at g3
          exact hov (by rw [show p = n by omega]; exact holds_refl n)
      simpa using hnl
/-- What is put has short lists. -/
theorem small_put {L M : List NodeD} {P : Nat → Core → Int} {D : Nat → Core → Int} {l A B : List Int} (hs : smallF L) (hk : ∀ x ∈ L, x.core.kids.length ≤ 60) (he : Edit (coreL L) (coreL M) P (putK l p A B) D) (hab : (A ++ l ++ B).length ≤ 120) : smallF M := by
  refine ⟨by have := he.len; rw [coreL_len, coreL_len] at this; rw [this]; exact hs.1, fun x hx => ?_⟩
  obtain ⟨j, hj⟩ := List.getElem?_of_mem hx
  obtain ⟨c, hc, e⟩ := he.back (coreL_get hj)
  obtain ⟨y, hy, rfl⟩ : ∃ y ∈ L, y.core = c := by
    have := List.mem_of_getElem? hc
    unfold coreL at this
    obtain ⟨y, h1, h2⟩ := List.mem_map.1 this
    exact ⟨y, h1, h2⟩
  have h1 := hs.2 y hy
  have h2 := hk y hy
  refine ⟨?_, ?_, ?_⟩
  · rw [e]
    show (putK l p A B j y.core).length ≤ 1000
    unfold putK
    split
    · omega
    · have := List.length_filter_le (fun z => !l.contains z) y.core.kids
      omega
  · rw [e]; exact h1.2.1
  · rw [e]; exact h1.2.2
/-- The last step: all is put. -/
theorem PutOk.rightG {l A B : List Int} {G : List Core} (h : PutOk m F n p c l cp) (hab : A ++ B = cp.kids.filter (fun z => !l.contains z)) (he : Edit F G (putP l p l.length) (putK l p A B) (putD F l cp.doc l.length [])) : rightF m G = true := by
  have T := PutIn.rightG (m := m) (F := F) (G := G) (l := l) (p := p) (cp := cp) (A := A) (B := B) (mv := mvL F l l.length)
  refine T ⟨h.right, h.hp, h.kp, h.once, h.ls, h.over, hab, fun e => ?_, fun j hj => ?_, he.congr (fun j c _ => ?_) (fun j c _ => rfl) (fun j c _ => ?_)⟩
  · obtain ⟨h1, h2⟩ := h.root e
    have hl : (A ++ l ++ B).length = (cp.kids.filter (fun z => !l.contains z)).length + l.length := by rw [← hab]; simp only [List.length_append]; omega
    refine ⟨by rw [hl]; have := List.length_filter_le (fun z => !l.contains z) cp.kids; omega, fun k hk => ?_⟩
    have hk2 : k ∈ l ∨ k ∈ A ++ B := by
      simp only [List.mem_append] at hk ⊢
      rcases hk with (h | h) | h
      · exact .inr (.inl h)
      · exact .inl h
      · exact .inr (.inr h)
    rcases hk2 with hk2 | hk2
    · exact h2 k hk2
    · rw [hab] at hk2
      exact ((right_node h.right h.hp).root e).2 k (List.mem_filter.1 hk2).1
  · unfold mvL
    rw [List.take_length, List.any_eq_true]
    constructor
    · rintro ⟨z, hz, hm⟩
      obtain ⟨q, c1, rfl, g1, _⟩ := h.ls z hz
      have hql := (List.getElem?_eq_some_iff.1 g1).1
      refine ⟨q, hz, (overZ_iff h.right hql hj).1 ?_⟩
      cases ho : overZ m F q j with
      | true => rfl
      | false =>
        have := hasZ_all h.right hql hj
        rw [ho] at this
        have h3 := hasZ_pos (List.contains_iff_mem.1 hm)
        rw [this] at h3
        exact absurd h3 (by decide)
    · rintro ⟨q, hq, hh⟩
      obtain ⟨q2, c1, e, g1, _⟩ := h.ls _ hq
      obtain rfl : q = q2 := by omega
      have hql := (List.getElem?_eq_some_iff.1 g1).1
      refine ⟨_, hq, List.contains_iff_mem.2 (hasZ_mem ?_)⟩
      rw [hasZ_all h.right hql hj, (overZ_iff h.right hql hj).2 hh]
      rfl
  · unfold putP
    rw [List.take_length]
    by_cases e : l.contains (j : Int) = true
    · rw [if_pos e, if_pos e]
    · rw [if_neg e, if_neg e, if_neg e]
  · unfold putD
    simp
end
end Go.Proofs.YtbgcpgpkhfbijaaGreatDoor
/- Package move, as mathematics: a node goes out, is taken over, is put; what is told. No program. -/
namespace Go.Proofs.YtbgcpgpkhfbijaaGreatDoor
open Go.RowKit
/-- A forest with other parents, children, documents. -/
def edF (F : List Core) (P : Nat → Core → Int) (K : Nat → Core → List Int) (D : Nat → Core → Int) : List Core := F.mapIdx fun j c => edC c (P j c) (K j c) (D j c)
theorem edF_edit (F : List Core) (P : Nat → Core → Int) (K : Nat → Core → List Int) (D : Nat → Core → Int) : Edit F (edF F P K D) P K D :=
  ⟨by unfold edF; simp, fun j c hc => by unfold edF; rw [List.getElem?_mapIdx, hc]; rfl⟩
section
variable {F G : List Core} {P P' : Nat → Core → Int} {K K' : Nat → Core → List Int} {D D' : Nat → Core → Int}
theorem Edit.eq (h : Edit F G P K D) : G = edF F P K D := by
  apply List.ext_getElem?
  intro i
  by_cases hi : i < F.length
  · have hc : F[i]? = some F[i] := List.getElem?_eq_getElem hi
    rw [h.at_ i _ hc, (edF_edit F P K D).at_ i _ hc]
  · rw [List.getElem?_eq_none (by rw [h.len]; omega), List.getElem?_eq_none (by rw [(edF_edit F P K D).len]; omega)]
theorem Edit.cong (h : Edit F G P K D) (hh : ∀ (j : Nat) c, F[j]? = some c → P j c = P' j c ∧ K j c = K' j c ∧ D j c = D' j c) : Edit F G P' K' D' :=
  ⟨h.len, fun j c hc => by obtain ⟨e1, e2, e3⟩ := hh j c hc; rw [h.at_ j c hc, e1, e2, e3]⟩
theorem edC_self (c : Core) : edC c c.parent c.kids c.doc = c := rfl
theorem edF_id (hh : ∀ (j : Nat) c, F[j]? = some c → P j c = c.parent ∧ K j c = c.kids ∧ D j c = c.doc) : edF F P K D = F :=
  ((Edit.cong (G := F) (P := fun _ c => c.parent) (K := fun _ c => c.kids) (D := fun _ c => c.doc) ⟨rfl, fun j c hc => hc⟩ (fun j c hc => by obtain ⟨e1, e2, e3⟩ := hh j c hc; exact ⟨e1.symm, e2.symm, e3.symm⟩)).eq).symm
end
/-- A node goes out of its parent. -/
def mvOut (F : List Core) (n : Nat) : List Core := edF F (fun j c => if j = n then -1 else c.parent) (fun j c => if (j : Int) = parentK F n then c.kids.filter (fun z => z != (n : Int)) else c.kids) (fun _ c => c.doc)
/-- A node, and all that it is over, get another document. -/
def mvDoc (F : List Core) (n : Nat) (d : Int) : List Core := edF F (fun _ c => c.parent) (fun _ c => c.kids) (fun j c => if (j : Int) ∈ allI F n then d else c.doc)
/-- A child more, ahead of another one, or behind all. -/
def insB (l : List Int) (b n : Int) : List Int := if b = -1 then l ++ [n] else l.take (findN l b) ++ n :: l.drop (findN l b)
/-- A node without a parent becomes a child. -/
def mvIn (F : List Core) (n p : Nat) (b : Int) : List Core := edF F (fun j c => if j = n then (p : Int) else c.parent) (fun j c => if j = p then insB c.kids b n else c.kids) (fun _ c => c.doc)
abbrev note (k : Int) : NoteD := ⟨k, 0, 0, 0, ⟨#[]⟩, false, false, ⟨#[]⟩, ⟨#[]⟩⟩
def noteAt (x : NoteD) (z : Int) : NoteD := ⟨x.kind, z, x.src, x.dst, x.name, x.had, x.has, x.old, x.new⟩
/-- A note of each element in full order. -/
def tellN (F : List Core) (n : Nat) (x : NoteD) : List NoteD := ((allI F n).filter (fun z => kindK F z == 1)).map (noteAt x)
def connF (F : List Core) (n : Nat) : Bool := kindK F (topF F n) == 0
abbrev St := List Core × List NoteD
def outS (S : St) (n : Nat) : St := if parentK S.1 n = -1 then S else (mvOut S.1 n, if connF S.1 n then S.2 ++ tellN S.1 n (note 2) else S.2)
def docK (F : List Core) (n : Int) : Int := match getC F n with | some x => x.doc | none => 0
def overS (S : St) (n : Nat) (d : Int) : St := let T := outS S n; if docK T.1 n = d then T else (mvDoc T.1 n d, T.2 ++ tellN T.1 n ⟨3, 0, docK T.1 n, d, ⟨#[]⟩, false, false, ⟨#[]⟩, ⟨#[]⟩⟩)
def inS (p : Nat) (b : Int) (S : St) (q : Nat) : St := let T := overS S q (docK S.1 p); let G := mvIn T.1 q p b; (G, if connF G q then T.2 ++ tellN G q (note 1) else T.2)
def putS (S : St) (n p : Nat) (b : Int) : St :=
  let l := (partsZ S.1 n).map Int.toNat
  let T := if kindK S.1 n = 3 then l.foldl outS S else S
  l.foldl (inS p b) T
/-! ### What is so of forests that are right -/
section
variable {m : Int} {F G : List Core}
theorem right_len400 (h : rightF m F = true) : F.length ≤ 400 := by
  obtain ⟨⟨_, h2, h3, _⟩, _⟩ := (rightF_iff m F).1 h
  omega
theorem right_kids (h : rightF m F = true) {i : Nat} {x : Core} (hx : F[i]? = some x) : x.kids.length ≤ 400 := by
  have T := tree_of_right h
  have e : kidsF F i = x.kids.map Int.toNat := by unfold kidsF; rw [hx]
  have h1 := nodup_lt F.length (kidsF F i) (T.nodup i) (fun k hk => T.kid_lt i k hk)
  rw [e, List.length_map] at h1
  exact Nat.le_trans h1 (right_len400 h)
theorem small_edit {M M' : List NodeD} {P : Nat → Core → Int} {K : Nat → Core → List Int} {D : Nat → Core → Int} (hs : smallF M) (he : Edit (coreL M) (coreL M') P K D) (hr : rightF m (coreL M') = true) : smallF M' := by
  refine ⟨?_, fun x hx => ?_⟩
  · have := he.len
    rw [coreL_len, coreL_len] at this
    rw [this]
    exact hs.1
  · obtain ⟨i, hi⟩ := List.getElem?_of_mem hx
    have hc := coreL_get hi
    obtain ⟨c, h1, h2⟩ := he.back hc
    obtain ⟨y, hy, rfl⟩ : ∃ y ∈ M, y.core = c := by
      have := List.mem_of_getElem? h1
      unfold coreL at this
      obtain ⟨y, h3, h4⟩ := List.mem_map.1 this
      exact ⟨y, h3, h4⟩
    have h5 := hs.2 y hy
    refine ⟨Nat.le_trans (right_kids hr hc) (by decide), ?_, ?_⟩
    · rw [h2]; exact h5.2.1
    · rw [h2]; exact h5.2.2
theorem docK_at {n : Nat} {x : Core} (hx : F[n]? = some x) : docK F (n : Int) = x.doc := by unfold docK; rw [getC_nat, hx]
/-- A node that has a parent goes out: what is known of it. -/
theorem mvOut_out (h : rightF m F = true) {n : Nat} {x : Core} (hx : F[n]? = some x) (hp : x.parent ≠ -1) : ∃ p : Nat, x.parent = p ∧ p < F.length ∧ Out m F (mvOut F n) n p x := by
  obtain ⟨p, h1, h2, _⟩ := right_par h hx hp
  refine ⟨p, h1, h2, h, hx, h1, (edF_edit F _ _ _).cong (fun j c hc => ⟨rfl, ?_, rfl⟩)⟩
  rw [parentK_at hx, h1]
  by_cases e : j = p
  · rw [if_pos e, if_pos (by omega)]
  · rw [if_neg e, if_neg (by omega)]
theorem mem_all (h : rightF m F = true) {n j : Nat} (hn : n < F.length) (hj : j < F.length) : (j : Int) ∈ allI F n ↔ holdsT (parS F) n j := by
  rw [mem_allI, Int.toNat_natCast]
  exact (treeS h).mem_ord _ _ hn (by omega) j hj
/-- All in one tree have one document. -/
theorem doc_up (h : rightF m F = true) {j q : Nat} (hj : j < F.length) (hq : parS F j = some q) : docK F j = docK F q := by
  have hc : F[j]? = some F[j] := List.getElem?_eq_getElem hj
  have N := right_node h hc
  obtain ⟨hn, hql⟩ := parS_next h hj hq
  have hcq : F[q]? = some F[q] := List.getElem?_eq_getElem hql
  rw [docK_at hc, docK_at hcq]
  rw [nextUp_at hc] at hn
  by_cases hp : F[j].parent = -1
  · have hn : F[j].host = (q : Int) := by
      have : (if F[j].parent = -1 then F[j].host else F[j].parent) = (q : Int) := hn
      rwa [if_pos hp] at this
    have hk : F[j].kind = 4 := by
      by_cases e : F[j].kind = 4
      · exact e
      · have := N.free e
        omega
    obtain ⟨d, h1, _, _, h4⟩ := N.host hk
    rw [hn, getC_nat, hcq] at h1
    rw [Option.some.inj h1]
    exact h4.symm
  · have hn : F[j].parent = (q : Int) := by
      have : (if F[j].parent = -1 then F[j].host else F[j].parent) = (q : Int) := hn
      rwa [if_neg hp] at this
    rcases N.par with e | ⟨_, d, h1, _, h3⟩
    · exact absurd e hp
    · rw [hn, getC_nat, hcq] at h1
      obtain rfl := Option.some.inj h1
      obtain ⟨c, h4, _, _, h6⟩ := (right_node h hcq).kids _ h3
      rw [getC_nat, hc] at h4
      rw [Option.some.inj h4]
      exact h6
theorem doc_over (h : rightF m F = true) {a : Nat} : ∀ (k b : Nat), b < F.length → upN (parS F) k b = some a → docK F b = docK F a
  | 0, b, _, hu => by rw [Option.some.inj hu]
  | k + 1, b, hb, hu => by
    unfold upN at hu
    cases hq : parS F b with
    | none => rw [hq] at hu; cases hu
    | some q =>
      rw [hq] at hu
      rw [doc_up h hb hq]
      exact doc_over h k q (parS_next h hb hq).2 hu
theorem doc_all (h : rightF m F = true) {n j : Nat} (hn : n < F.length) (hj : (j : Int) ∈ allI F n) (hjl : j < F.length) : docK F j = docK F n := by
  obtain ⟨k, hk⟩ := (mem_all h hn hjl).1 hj
  exact doc_over h k j hjl hk
/-- A node without a parent is taken over: it stays right. -/
structure Taken (m : Int) (F G : List Core) (n : Nat) (d : Int) : Prop where
  right : rightF m F = true
  lt : n < F.length
  top : parS F n = none
  kind : kindK F n ≠ 0
  doc : ∃ c, getC F d = some c ∧ c.kind = 0
  ed : Edit F G (fun _ c => c.parent) (fun _ c => c.kids) (fun j c => if (j : Int) ∈ allI F n then d else c.doc)
section
variable {n : Nat} {d : Int}
theorem Taken.up (h : Taken m F G n d) {j q : Nat} (hj : j < F.length) (hq : parS F j = some q) : (j : Int) ∈ allI F n ↔ (q : Int) ∈ allI F n := by
  have hql := (parS_next h.right hj hq).2
  rw [mem_all h.right h.lt hj, mem_all h.right h.lt hql]
  constructor
  · intro hh
    rcases holds_up hh with e | ⟨s, e1, e2⟩
    · rw [← e, h.top] at hq
      cases hq
    · rw [hq] at e1
      rw [Option.some.inj e1]
      exact e2
  · exact fun hh => holds_trans hh (holds_par hq)
theorem Taken.node (h : Taken m F G n d) {j : Nat} {y : Core} (hy : G[j]? = some y) : NodeP G j y := by
  obtain ⟨c, hc, rfl⟩ := h.ed.back hy
  have hjl := (List.getElem?_eq_some_iff.1 hc).1
  have N := right_node h.right hc
  refine ⟨N.kind, ?_, fun e => ?_, ?_, N.once, fun k hk => ?_, N.leaf, fun e => ?_, fun e => ?_, N.free, ?_, N.text⟩
  · show ∃ d', getC G (if (j : Int) ∈ allI F n then d else c.doc) = some d' ∧ d'.kind = 0
    split
    · obtain ⟨d', h1, h2⟩ := h.doc
      exact ⟨_, h.ed.getC h1, h2⟩
    · obtain ⟨d', h1, h2⟩ := N.doc
      exact ⟨_, h.ed.getC h1, h2⟩
  · show (if (j : Int) ∈ allI F n then d else c.doc) = (j : Int)
    have e : c.kind = 0 := e
    have hnm : ¬ (j : Int) ∈ allI F n := fun hm => by
      rcases holds_up ((mem_all h.right h.lt hjl).1 hm) with e1 | ⟨s, e1, _⟩
      · exact h.kind (by rw [e1, kindK_at hc]; exact e)
      · have hn := (parS_next h.right hjl e1).1
        rw [nextUp_at hc] at hn
        have hn2 : (if c.parent = -1 then c.host else c.parent) = (s : Int) := hn
        have hpar : c.parent = -1 := by
          rcases N.par with h3 | ⟨h3, _⟩
          · exact h3
          · omega
        rw [if_pos hpar, N.free (by omega)] at hn2
        omega
    rw [if_neg hnm]
    exact N.own e
  · rcases N.par with h1 | ⟨h1, q, h2, h3, h4⟩
    · exact .inl h1
    · exact .inr ⟨h1, _, h.ed.getC h2, h3, h4⟩
  · obtain ⟨c', h1, h2, h3, h4⟩ := N.kids k hk
    obtain ⟨g0, g1, g2⟩ := getC_some h1
    have hkn : ((k.toNat : Nat) : Int) = k := by omega
    refine ⟨_, h.ed.getC h1, h2, h3, ?_⟩
    show (if ((k.toNat : Nat) : Int) ∈ allI F n then d else c'.doc) = if (j : Int) ∈ allI F n then d else c.doc
    have hu := h.up g1 (parS_parent g2 h3)
    by_cases e : (j : Int) ∈ allI F n
    · rw [if_pos e, if_pos (hu.2 e)]
    · rw [if_neg e, if_neg (fun e2 => e (hu.1 e2)), h4]
  · obtain ⟨h1, h2⟩ := N.root e
    exact ⟨h1, fun k hk => by rw [h.ed.kindK]; exact h2 k hk⟩
  · obtain ⟨d', h1, h2, h3, h4⟩ := N.host e
    obtain ⟨g0, g1, g2⟩ := getC_some h1
    refine ⟨_, h.ed.getC h1, h2, h3, ?_⟩
    show (if ((c.host.toNat : Nat) : Int) ∈ allI F n then d else d'.doc) = if (j : Int) ∈ allI F n then d else c.doc
    have e4 : c.kind = 4 := e
    have hpar : c.parent = -1 := by
      rcases N.par with h5 | ⟨h5, _⟩
      · exact h5
      · omega
    have hu := h.up hjl (parS_host hc hpar (show c.host = ((c.host.toNat : Nat) : Int) by omega))
    by_cases e : (j : Int) ∈ allI F n
    · rw [if_pos e, if_pos (hu.1 e)]
    · rw [if_neg e, if_neg (fun e2 => e (hu.2 e2)), h4]
  · rcases N.under with h1 | ⟨h1, u, h2, h3, h4⟩
    · exact .inl h1
    · exact .inr ⟨h1, _, h.ed.getC h2, h3, h4⟩
theorem Taken.next (h : Taken m F G n d) (j : Nat) : nextUp G (j : Int) = nextUp F j := by
  by_cases hj : j < F.length
  · have hc : F[j]? = some F[j] := List.getElem?_eq_getElem hj
    rw [h.ed.next hc, nextUp_at hc]
    rfl
  · unfold nextUp
    rw [getC_nat, getC_nat, List.getElem?_eq_none (by rw [h.ed.len]; omega), List.getElem?_eq_none (by omega)]
theorem Taken.rightG (h : Taken m F G n d) : rightF m G = true := by
  obtain ⟨⟨h1, h2, h3, h4⟩, _, _⟩ := (rightF_iff m F).1 h.right
  refine right_of h1 h2 (by rw [h.ed.len]; exact h3) (h.ed.head h4) (fun i y hy => h.node hy) (rankF F) (fun i hi => ?_)
  rw [h.ed.len] at hi ⊢
  rw [h.next]
  exact rank_next h.right hi
end
end
end Go.Proofs.YtbgcpgpkhfbijaaGreatDoor
/- Package move: connected, tell. -/
namespace Go.Proofs.YtbgcpgpkhfbijaaGreatDoor
open Go.RowKit
abbrev ptrV (b : Nat) : Value := .pointer (some ⟨b, 0, none⟩)
abbrev workV (b : Nat) : Value := .agg #[.pointer (some ⟨b, 0, none⟩)]
theorem note_info : (Tryz.prog.info? 58).map (fun i => (i.zero, i.size, i.bytes)) = some (some (.agg #[.int .i64 0, .int .i64 0, .int .i64 0, .int .i64 0, .string ⟨#[]⟩, .bool false, .bool false, .string ⟨#[]⟩, .string ⟨#[]⟩]), 9, 88) := by kernel_rfl
section
variable {ρ : Nat → Nat} {pw g cap len : Nat} {m : Int} {M : List NodeD} {v : Value} {N : List NoteD}
theorem top_at (h : rightF m (coreL M) = true) {n : Nat} (hn : n < M.length) : ∃ (t : Nat) (x : NodeD), topF (coreL M) n = t ∧ M[t]? = some x ∧ connF (coreL M) n = (x.core.kind == 0) := by
  have ht := topF_lt h (show n < (coreL M).length by rw [coreL_len]; exact hn)
  rw [coreL_len] at ht
  refine ⟨_, M[topF (coreL M) n], rfl, List.getElem?_eq_getElem ht, ?_⟩
  unfold connF
  rw [kindK_at (coreL_get (List.getElem?_eq_getElem ht))]
set_option maxHeartbeats 4000000 in
set_option maxRecDepth 100000 in
theorem mconn_any (w : World) (h : Wk ρ w pw g cap len m M v N) (hr : rightF m (coreL M) = true) (n : Nat) (hn : n < len) :
    Calls Tryz.prog 118 #[ptrV pw, .int .i64 n] w fun e w' => e = .returned (.bool (connF (coreL M) n)) ∧ Below w.heap.size w w' := by
  obtain ⟨t, x, ht, hx, hc⟩ := top_at hr (by rw [h.hlen]; exact hn)
  have htl : t < len := by rw [← h.hlen]; exact (List.getElem?_eq_some_iff.1 hx).1
  have CT : Hid (∀ W, NodeRow W (some ⟨g, 0, none⟩) len cap M → Calls Tryz.prog 143 #[.slice (some ⟨g, 0, none⟩) len cap, .int .i64 n] W fun e w' => e = .returned (.int .i64 t) ∧ Below W.heap.size W w') := Lib.hid (fun W h1 => by
    have := wtop_any _ _ _ m _ n W h1 hr hn
    rwa [ht] at this)
  have HW := Lib.hid h
  have HC := Lib.hid hc
  have hl64 : (len : Int) ≤ 9223372036854775807 := by have h1 := h.hcap; have h2 := h.hmax; unfold maxLen at h2; omega
  have E0 := Ext.cell h.c0 h.plt
  have EK := Ext.cell (h.at_ hx).c0 h.glt
  have EX := Lib.hid (fun (y : Ext w) => CT.out y.v (HW.out.row.below y.below))
  clear h hr ht hx hc
  go_enter Tryz.func118, Tryz.ntmps118
  go_upto_region 1 with fail
  refine wp_region_ext (by kernel_rfl) (by kernel_rfl) ?_
  repeat (go_big_quiet_step (first | (go_at_call 143; exact Ext.call_below (EX.out _))))
  refine wpQuiet_nil ?_
  intro w3 hw'
  obtain ⟨⟨w4, hb4⟩, hw''⟩ := hw'
  dsimp only at hw''
  subst hw''
  go_wp2
  go_ret
  exact ⟨ret_bool HC.out.symm, hb4⟩
/-- The notes of the first k of a row of nodes. -/
def toldN (F : List Core) (l : List Int) (x : NoteD) (k : Nat) : List NoteD := ((l.take k).filter (fun z => kindK F z == 1)).map (noteAt x)
theorem toldN_step {F : List Core} {l : List Int} {x : NoteD} {k : Nat} {z : Int} (hz : l[k]? = some z) : toldN F l x (k + 1) = toldN F l x k ++ if kindK F z == 1 then [noteAt x z] else [] := by
  unfold toldN
  rw [List.take_add_one, hz, List.filter_append, List.map_append]
  congr 1
  simp only [Option.toList_some, List.filter_cons, List.filter_nil]
  split <;> rfl
theorem toldN_len {F : List Core} {l : List Int} {x : NoteD} {k : Nat} : (toldN F l x k).length ≤ l.length := by
  unfold toldN
  rw [List.length_map]
  exact Nat.le_trans (List.length_filter_le _ _) (by rw [List.length_take]; omega)
theorem toldN_all {F : List Core} {n : Nat} {x : NoteD} {k : Nat} (hk : (allI F n).length ≤ k) : toldN F (allI F n) x k = tellN F n x := by
  unfold toldN tellN
  rw [List.take_of_length_le hk]
abbrev noteB (x : NoteD) : Obj := .cells #[.int .i64 x.kind, .int .i64 x.node, .int .i64 x.src, .int .i64 x.dst, .string x.name, .bool x.had, .bool x.has, .string x.old, .string x.new] 58
/-- A note in a box. -/
structure TBox (W : World) (b : Nat) (x : NoteD) : Prop where
  lt : b < W.heap.size
  c : ∀ j u, (encO x)[j]? = some u → W.cell? ⟨b, j, none⟩ = some u
  f : ∀ j, W.frozen? ⟨b, j, none⟩ = false
theorem TBox.new (W : World) (x : NoteD) : TBox (W.alloc (noteB x)) W.heap.size x :=
  ⟨by simp, fun j u hu => by rw [cell_of_row (W.alloc (noteB x)) W.heap.size j _ 58 (0, 0) (heap_alloc_new W _)]; simpa [encO] using hu, fun j => row_free (heap_alloc_new W (noteB x)) j⟩
theorem TBox.keep {W W2 : World} {b : Nat} {x : NoteD} (h : TBox W b x) (hb : Below W.heap.size W W2) : TBox W2 b x :=
  ⟨Nat.lt_of_lt_of_le h.lt hb.size, fun j u hu => (hb.cell (p := ⟨b, j, none⟩) h.lt).trans (h.c j u hu), fun j => (hb.frozen (p := ⟨b, j, none⟩) h.lt).trans (h.f j)⟩
theorem TBox.at_ {W : World} {b : Nat} {x : NoteD} (h : TBox W b x) (z : Int) : TBox (W.setCell ⟨b, 1, none⟩ (.int .i64 z)) b (noteAt x z) := by
  refine ⟨by simpa [World.setCell] using h.lt, fun j u hu => ?_, fun j => by rw [World.frozen?_setCell]; exact h.f j⟩
  by_cases e : j = 1
  · subst e
    have hu : some (Value.int .i64 z) = some u := hu
    rw [← Option.some.inj hu]
    exact World.cell?_setCell_same _ _ _ (h.c 1 _ rfl)
  · rw [World.cell?_setCell_other _ _ _ _ (fun e' => by injection e' with _ e'; omega)]
    refine h.c j u ?_
    rw [show encO (noteAt x z) = (encO x).set 1 (.int .i64 z) from rfl, List.getElem?_set_ne (fun e2 => e e2.symm)] at hu
    exact hu
/-- A box elsewhere, while the work goes on. -/
theorem TBox.turn {W W2 : World} {b : Nat} {x : NoteD} (h : TBox W b x) (hs : W.heap.size ≤ W2.heap.size) (hb : W2.heap[b]? = W.heap[b]?) : TBox W2 b x :=
  ⟨Nat.lt_of_lt_of_le h.lt hs, fun j u hu => (World.cell?_of_block (w := W) (a := ⟨b, j, none⟩) hb).trans (h.c j u hu), fun j => (World.frozen?_of_block (w := W) (a := ⟨b, j, none⟩) hb).trans (h.f j)⟩
/-- What a piece of work leaves. -/
def WkPost (ρ : Nat → Nat) (w : World) (pw g cap len : Nat) (m : Int) (Q : List NodeD → List NoteD → Prop) (e : Ending) (w' : World) : Prop :=
  e = .returned (.tuple #[]) ∧ ∃ ρ' M' v' N', Wk ρ' w' pw g cap len m M' v' N' ∧ Turn ρ w w' ∧ (∀ k, k < w.heap.size → ρ' k = ρ k) ∧ Q M' N'
theorem own_some {w : World} {base : Nat} {e : TypeId} {size n : Nat} {v : Value} {xs : List Value} (h : w.ownsRow base e size v n xs) (hn : 0 < n) : ∃ g cap, v = .slice (some ⟨g, 0, none⟩) n cap := by
  rcases h.2 with ⟨_, h0⟩ | ⟨g, cap, cur, hv, _⟩
  · omega
  · exact ⟨g, cap, hv⟩
theorem note_one (W : World) (x : NoteD) : SRow encO 9 (W.alloc (noteB x)) (some ⟨W.heap.size, 0, none⟩) 1 1 [x] := own_one (size := 9) W 58 x #[.int .i64 x.kind, .int .i64 x.node, .int .i64 x.src, .int .i64 x.dst, .string x.name, .bool x.had, .bool x.has, .string x.old, .string x.new] rfl rfl
/-- While notes are told: the work, and the box with the note. -/
structure TellIn (ρ1 : Nat → Nat) (w1 : World) (pw g cap len : Nat) (m : Int) (M : List NodeD) (bx : Nat) (Nk : List NoteD) (wr : World) (ρk : Nat → Nat) (vk : Value) (xk : NoteD) : Prop where
  wk : Wk ρk wr pw g cap len m M vk Nk
  turn : Turn ρ1 w1 wr
  agree : ∀ k, k < w1.heap.size → ρk k = ρ1 k
  box : TBox wr bx xk
  b4 : ρ1 bx = 4
  blt : bx < w1.heap.size
section
variable {ρ1 ρk : Nat → Nat} {w1 wr W W1 : World} {bx : Nat} {Nk : List NoteD} {vk v' : Value} {xk : NoteD}
theorem TellIn.keep (h : TellIn ρ1 w1 pw g cap len m M bx Nk wr ρk vk xk) (hb : Below wr.heap.size wr W) : TellIn ρ1 w1 pw g cap len m M bx Nk W ρk vk xk :=
  ⟨h.wk.keep hb, h.turn.keep hb, h.agree, h.box.keep hb, h.b4, h.blt⟩
theorem TellIn.at_ (h : TellIn ρ1 w1 pw g cap len m M bx Nk wr ρk vk xk) (z : Int) : TellIn ρ1 w1 pw g cap len m M bx Nk (wr.setCell ⟨bx, 1, none⟩ (.int .i64 z)) ρk vk (noteAt xk z) :=
  ⟨h.wk.other (by rw [h.agree bx h.blt, h.b4]) _ _, h.turn.setCell (.inr (by rw [h.b4]; decide)) _ _, h.agree, h.box.at_ z, h.b4, h.blt⟩
theorem TellIn.more (h : TellIn ρ1 w1 pw g cap len m M bx Nk W ρk vk xk) (hok : NoteOk xk) (ho : W1.ownsRow 0 58 9 v' (Nk.length + 1) ((Nk ++ [xk]).flatMap encO)) (hg : W.grownBy W1 vk.ownBlock) (hat : v'.ownBlock = vk.ownBlock ∨ v'.ownBlock = some W.heap.size) :
    TellIn ρ1 w1 pw g cap len m M bx (Nk ++ [xk]) (W1.setCell ⟨pw, 2, none⟩ v') (upd ρk v'.ownBlock 3) v' xk ∧ W1.cell? ⟨pw, 2, none⟩ = some vk ∧ W1.frozen? ⟨pw, 2, none⟩ = false := by
  have hb : ∀ b, v'.ownBlock = some b → vk.ownBlock = some b ∨ W.heap.size ≤ b := fun b e => by
    rcases hat with h1 | h1
    · exact .inl (h1.symm.trans e)
    · rw [h1] at e
      injection e with e
      exact .inr (by omega)
  have hs := h.turn.size
  have pne : some pw ≠ vk.ownBlock := fun e => by
    have h1 := h.wk.nrole pw e.symm
    have h2 := h.wk.prole
    omega
  have sp := hg.block pw h.wk.plt pne
  have b4 : ρk bx = 4 := by rw [h.agree bx h.blt, h.b4]
  have bne : some bx ≠ vk.ownBlock := fun e => by
    have h1 := h.wk.nrole bx e.symm
    omega
  have hbp : bx ≠ pw := fun e => by
    have h2 := h.wk.prole
    rw [← e] at h2
    omega
  refine ⟨⟨h.wk.note hok hg ho hb, ?_, fun k hk => ?_, ?_, h.b4, h.blt⟩, (World.cell?_of_block (w := W) (a := ⟨pw, 2, none⟩) sp).trans h.wk.c2, (World.frozen?_of_block (w := W) (a := ⟨pw, 2, none⟩) sp).trans (h.wk.pfree 2)⟩
  · refine (h.turn.grown hg (fun k e => ?_)).setCell ?_ _ _
    · rcases Nat.lt_or_ge k w1.heap.size with h1 | h1
      · right
        rw [← h.agree k h1, h.wk.nrole k e]
        decide
      · exact .inl h1
    · rcases Nat.lt_or_ge pw w1.heap.size with h1 | h1
      · right
        rw [← h.agree pw h1, h.wk.prole]
        decide
      · exact .inl h1
  · rw [← h.agree k hk]
    exact upd_old (fun b e => (hb b e).imp (h.wk.nrole b) id) k (by omega)
  · refine h.box.turn (by simpa [World.setCell] using hg.size) ?_
    rw [Below.heap_setCell _ _ _ bx hbp]
    exact hg.block bx h.box.lt bne
end
theorem NoteOk.at_ {x : NoteD} (h : NoteOk x) {z : Int} (hz : In64 z) : NoteOk (noteAt x z) := ⟨h.kind, hz, h.src, h.dst, h.name, h.old, h.new⟩
theorem all_in {m : Int} {F : List Core} (hr : rightF m F = true) {n : Nat} (hn : n < F.length) : ∀ z ∈ allI F (n : Int), ∃ t : Nat, z = t ∧ t < F.length := ordB_in (sh := true) hr hn
set_option maxHeartbeats 8000000 in
set_option maxRecDepth 100000 in
theorem mtell_any (w : World) (h : Wk ρ w pw g cap len m M v N) (hr : rightF m (coreL M) = true) (hs : smallF M) (n : Nat) (hn : n < len) (x : NoteD) (hx : NoteOk x) (hN : N.length ≤ 100000000) :
    Calls Tryz.prog 121 #[ptrV pw, .int .i64 n, noteV x] w (WkPost ρ w pw g cap len m fun M' N' => M' = M ∧ N' = N ++ tellN (coreL M) n x) := by
  have HL : Hid ((coreL M).length = len) := Lib.hid (by rw [coreL_len, h.hlen])
  have hl1k : len ≤ 1000 := by rw [← h.hlen]; exact hs.1
  have CF : Hid (∀ W, NodeRow W (some ⟨g, 0, none⟩) len cap M → Calls Tryz.prog 112 #[.slice (some ⟨g, 0, none⟩) len cap, .int .i64 n] W (OrdNew W (allI (coreL M) n))) := Lib.hid (fun W h1 => wfull_any _ _ _ m _ n W h1 hs hr hn)
  have HA : Hid (∀ z ∈ allI (coreL M) n, ∃ t : Nat, z = t ∧ t < len) := Lib.hid (fun z hz => by
    obtain ⟨t, h1, h2⟩ := all_in hr (by rw [HL.out]; exact hn) z hz
    exact ⟨t, h1, by rw [← HL.out]; exact h2⟩)
  have HAL : Hid ((allI (coreL M) n).length ≤ 1000) := Lib.hid (Nat.le_trans (allI_len hr (by rw [HL.out]; exact hn)) (by rw [HL.out]; exact hl1k))
  have HX := Lib.hid hx
  have HN := Lib.hid hN
  have HF := Lib.hid h.fresh
  have hbx : w.heap.size < (w.alloc (noteB x)).heap.size := by simp
  obtain ⟨w0, hw0, WK0, BX0, hlt0⟩ : ∃ w0, w.alloc (noteB x) = w0 ∧ Hid (Wk (upd ρ (some w.heap.size) 4) w0 pw g cap len m M v N) ∧ Hid (TBox w0 w.heap.size x) ∧ Below w.heap.size w w0 := by
    have hb : Below w.heap.size w (w.alloc (noteB x)) := (Below.refl _ _).alloc (Nat.le_refl _) _
    refine ⟨_, rfl, Lib.hid ((h.keep hb).mark hbx (h.fresh _ (Nat.le_refl _)) (fun z hz b' off he hp e => ?_)), Lib.hid (TBox.new w x), hb⟩
    have := attr_block_lt (h.aok z hz) he hp
    omega
  have HW0 := Lib.hid hw0
  have HB0 := Lib.hid hlt0
  have hlt1 : w.heap.size < w0.heap.size := by rw [← hw0]; exact hbx
  have p0 := WK0.out.c0
  clear h hr hs hx hN hbx hw0 hlt0
  go_enter Tryz.func121, Tryz.ntmps121
  go_upto_region 1 with fail
  rw [HW0.out]
  go_wp2_with (go_at_call 112; (with_reducible refine (CF.out _ WK0.out.row).mono ?_); rintro e w1 ⟨ra, rl, rc, rfl, hrl, hb, hrn⟩; have LR := Lib.hid hrl; have LN := Lib.hid hrn; have WK1 := Lib.hid (WK0.out.keep hb); have BX1 := Lib.hid (BX0.out.keep hb); have HB1 := Lib.hid hb; clear hb hrl hrn p0)
  have T0 : Hid (TellIn (upd ρ (some w.heap.size) 4) w1 pw g cap len m M w.heap.size N w1 (upd ρ (some w.heap.size) 4) v x) := Lib.hid ⟨WK1.out, Turn.refl _ _, fun _ _ => rfl, BX1.out, by unfold upd; rw [if_pos rfl], BX1.out.lt⟩
  have hrl := LR.out.hlen
  have HRL := Lib.hid hrl
  have hrl1k : rl ≤ 1000 := by rw [← hrl]; exact HAL.out
  have LR0 : Hid (∀ b off, ra = some ⟨b, off, none⟩ → 0 < rl → upd ρ (some w.heap.size) 4 b = 0) := Lib.hid (fun b off he hp => by
    have h1 := LN.out b off he
    unfold upd
    rw [if_neg (fun e => by injection e with e; omega)]
    exact HF.out b (by omega))
  clear hrl
  go_loopw [16] (fun i wr => ∃ (k : Nat) (ρk : Nat → Nat) (vk : Value) (xk : NoteD) (Nk : List NoteD), k ≤ rl ∧ i = .int .i64 k ∧ Nk.length ≤ 100000000 + k ∧ Hid (Nk = N ++ toldN (coreL M) (allI (coreL M) n) x k) ∧ Hid (∃ z0, xk = noteAt x z0) ∧ Hid (TellIn (upd ρ (some w.heap.size) 4) w1 pw g cap len m M w.heap.size Nk wr ρk vk xk)) (fun i _ => rl - (intOf i).toNat)
  case atStart => exact ⟨0, _, v, x, N, Nat.zero_le _, rfl, by have := HN.out; omega, Lib.hid (by simp [toldN]), Lib.hid ⟨x.node, rfl⟩, T0⟩
  case round =>
    obtain ⟨k, ρk, vk, xk, Nk, hk, rfl, hNk, HNK, HXK, TI⟩ := hrel
    by_cases hlt : k < rl
    · obtain ⟨bp, op, z, hpa, hbp, hz, hcz, hin⟩ := (TI.out.turn.introw LR.out LR0.out).get hlt
      obtain ⟨q, rfl, hql⟩ := HA.out z (List.mem_of_getElem? hz)
      have HST := Lib.hid (toldN_step (F := coreL M) (x := x) hz)
      have HIN := Lib.hid hin
      obtain ⟨y, hy⟩ : ∃ y, M[q]? = some y := ⟨_, List.getElem?_eq_getElem (by rw [TI.out.wk.hlen]; exact hql)⟩
      have HKY : Hid (kindK (coreL M) (q : Int) = y.core.kind) := Lib.hid (kindK_at (coreL_get hy))
      have p0 := TI.out.wk.c0
      have yk := (TI.out.wk.at_ hy).c0
      subst hpa
      have hk64 : (k : Int) + 1 ≤ 9223372036854775807 := by omega
      clear hz hin hy
      by_cases hk1 : y.core.kind = 1
      · have e1 : (y.core.kind == 1) = true := by rw [hk1]; rfl
        have HS2 : Hid (toldN (coreL M) (allI (coreL M) n) x (k + 1) = toldN (coreL M) (allI (coreL M) n) x k ++ [noteAt x (q : Int)]) := Lib.hid (by rw [HST.out, HKY.out, hk1]; rfl)
        have b1 := TI.out.box.c 1 _ rfl
        have f1 := TI.out.box.f 1
        clear hk1
        go_upto_region 6 with fail
        have TI2 := Lib.hid (TI.out.at_ (q : Int))
        obtain ⟨wa, hwa⟩ : ∃ wa, wr.setCell ⟨w.heap.size, 1, none⟩ (.int .i64 (q : Int)) = wa := ⟨_, rfl⟩
        obtain ⟨z0, rfl⟩ := HXK.out
        rw [hwa] at TI2 ⊢
        obtain ⟨xq, hxq⟩ : ∃ xq, noteAt (noteAt x z0) (q : Int) = xq := ⟨_, rfl⟩
        have HXQ : Hid (noteAt x (q : Int) = xq) := Lib.hid hxq
        rw [hxq] at TI2
        have OKQ : Hid (NoteOk xq) := Lib.hid (by rw [← hxq]; exact HX.out.at_ HIN.out)
        clear hwa hxq b1 f1 p0 yk TI HXK
        have n0 := TI2.out.box.c 0 _ rfl
        have n1 := TI2.out.box.c 1 _ rfl
        have n2 := TI2.out.box.c 2 _ rfl
        have n3 := TI2.out.box.c 3 _ rfl
        have n4 := TI2.out.box.c 4 _ rfl
        have n5 := TI2.out.box.c 5 _ rfl
        have n6 := TI2.out.box.c 6 _ rfl
        have n7 := TI2.out.box.c 7 _ rfl
        have n8 := TI2.out.box.c 8 _ rfl
        have p2 := TI2.out.wk.c2
        have AL : Hid (∀ o : Obj, Below wa.heap.size wa (wa.alloc o).drew) := Lib.hid (fun o => ((Below.refl _ _).alloc (Nat.le_refl _) o).drew)
        have p2a := fun o => (TI2.out.wk.keep (AL.out o)).c2
        obtain ⟨i0, hi0, hq0, hq1, hq2⟩ := info_parts note_info
        have ho63 : xq.old.size ≤ 9223372036854775807 := by have := OKQ.out.old; unfold maxLen at this; omega
        go_region_law (go_loud (refine step_append_rows rfl (.tmp 36) (.tmp 38) 27 rfl 58 i0 _ 9 88 Tryz.underlying27 hi0 hq0 hq1 hq2 rfl (by decide) 0 vk Nk.length Nk [xq] rfl (own_below TI2.out.wk.nown (AL.out _)) _ 1 1 rfl (note_one wa xq).drew (fun x _ => encO_one x) (by unfold maxLen; omega) (by omega) (Nat.zero_le _) (fun h => by cases h) ?_; intro v5 w5 hown5 hg5 hat5; obtain ⟨g5, cap5, rfl⟩ := own_some hown5 (Nat.succ_pos _); obtain ⟨t5, c5, f5⟩ := (TI2.out.keep (AL.out _)).more OKQ.out hown5 hg5 hat5; have T5 := Lib.hid t5; clear hown5 hg5 hat5 t5))
        all_goals
          go_wp2
          go_roundw
          case rel => exact ⟨k + 1, _, _, xq, _, by omega, by go_num, by rw [List.length_append]; simp; omega, Lib.hid (by rw [HS2.out, HNK.out, HXQ.out, List.append_assoc]), Lib.hid ⟨q, HXQ.out.symm⟩, T5⟩
          case measure => simp [intOf]; omega
      · have e1 : (y.core.kind == 1) = false := beq_eq_false_iff_ne.2 hk1
        have HS2 : Hid (toldN (coreL M) (allI (coreL M) n) x (k + 1) = toldN (coreL M) (allI (coreL M) n) x k) := Lib.hid (by rw [HST.out, HKY.out, e1]; simp)
        clear hk1
        go_wp2
        go_roundw
        case rel => exact ⟨k + 1, ρk, vk, xk, Nk, by omega, by go_num, by omega, Lib.hid (by rw [HS2.out, HNK.out]), HXK, TI⟩
        case measure => simp [intOf]; omega
    · have hkk : k = rl := by omega
      subst hkk
      have HT : Hid (toldN (coreL M) (allI (coreL M) n) x k = tellN (coreL M) n x) := Lib.hid (toldN_all (by rw [HRL.out]; exact Nat.le_refl _))
      go_wp2
      have hs01 := HB1.out.size
      have hs00 := HB0.out.size
      refine bodyPost_ret (v := .tuple #[]) (by simp [results, Tryz.results121]) rfl ⟨rfl, ρk, M, vk, Nk, TI.out.wk, ?_, fun j hj => ?_, rfl, by rw [HNK.out, HT.out]⟩
      · refine (Turn.of_below (ρ := ρ) (HB0.out.trans (HB1.out.mono hs00))).trans (ρ1 := upd ρ (some w.heap.size) 4) (fun j hj => ?_) TI.out.turn
        unfold upd
        rw [if_neg (fun e => by injection e with e; omega)]
      · rw [TI.out.agree j (by omega)]
        unfold upd
        rw [if_neg (fun e => by injection e with e; omega)]
end
end Go.Proofs.YtbgcpgpkhfbijaaGreatDoor
/- Package move: refuse, why: errors that wrap a number, and are asked for it by errors.As. -/
namespace Go.Proofs.YtbgcpgpkhfbijaaGreatDoor
open Go.RowKit Go.Extern.Stop Go.Stop Go.Extern
/-- What package errors' own variable reads as. -/
def ErrVar (w : World) : Prop := w.cell? ⟨0, 0, none⟩ = some (.iface 197 (.agg #[.pointer (some ⟨2, 95, none⟩)]))
theorem ErrVar.lt {w : World} (h : ErrVar w) : 0 < w.heap.size := by
  rcases Nat.eq_zero_or_pos w.heap.size with h0 | h1
  · unfold ErrVar at h
    simp [World.cell?, h0] at h
  · exact h1
theorem ErrVar.keep {w w2 : World} (h : ErrVar w) (hb : Below w.heap.size w w2) : ErrVar w2 := (hb.cell (p := ⟨0, 0, none⟩) h.lt).trans h
abbrev faultV (no : Int) : Value := .iface 143 (.int .i64 no)
abbrev refusedV (s : ByteArray) (no : Int) : Value := .iface 145 (.agg #[.string s, faultV no])
set_option maxHeartbeats 4000000 in
theorem mrefuse_any (s : ByteArray) (no : Int) (w : World) : Calls Tryz.prog 61 #[.string s, .int .i64 no] w fun e w' => e = .returned (refusedV s no) ∧ w' = w := by
  go_enter Tryz.func61, Tryz.ntmps61
  go_wp2
  go_ret
  exact ⟨rfl, rfl⟩
theorem unwrap_any (s : ByteArray) (no : Int) (w : World) : Calls Tryz.prog 212 #[.agg #[.string s, faultV no]] w fun e w' => e = .returned (faultV no) ∧ w' = w.alloc (.cells #[.string s, faultV no] 145) := by
  go_enter Tryz.func212, Tryz.ntmps212
  go_wp2
  go_ret
  exact ⟨rfl, rfl⟩
/-- errors.As(nil, target). -/
theorem as_nil (t : Value) (w : World) : Calls Tryz.prog 153 #[.nilIface, t] w fun e w' => e = .returned (.bool false) ∧ w' = w := by
  go_enter Tryz.func153, Tryz.ntmps153
  go_wp2
  go_ret
  exact ⟨rfl, rfl⟩
/-! ### Closed facts on the model's entries for internal/reflectlite -/
abbrev hdl (t : Nat) : Value := .pointer (some ⟨2, t, none⟩)
theorem rl_valueOfP (t : Addr) (w : World) : (ReflectliteValue.unpack (.iface 171 (.pointer (some t)))).run Tryz.prog w
    = .ok (.agg #[hdl 171, .pointer (some ⟨w.heap.size, 0, none⟩), .int .u64 150]) (w.alloc (.cells #[.pointer (some t)] 171)) := by kernel_rfl
theorem rl_typeP (a : Addr) (w : World) : (ReflectliteValue.methodAny (ReflectliteValue.valueError "reflectlite.Value.Type" 0) (fun t _ _ _ => ReflectliteType.toType t) #[.agg #[hdl 171, .pointer (some a), .int .u64 150]]).run Tryz.prog w
    = .ok (.iface 197 (.agg #[hdl 171])) w := by kernel_rfl
theorem rl_methodKind (h : Value) (w : World) : (Go.method 347 197 (.agg #[h]) "Kind").run Tryz.prog w = .ok (207, h) w := by kernel_rfl
theorem rl_kindP (w : World) : ((ReflectliteType.abiMethod fun t => (fun a : Nat => Value.int IntKind.u8 (a : Int)) <$> Rtype.kind t) #[hdl 171]).run Tryz.prog w = .ok (.int .u8 22) w := by kernel_rfl
theorem rl_kindF (w : World) : ((ReflectliteType.abiMethod fun t => (fun a : Nat => Value.int IntKind.u8 (a : Int)) <$> Rtype.kind t) #[hdl 143]).run Tryz.prog w = .ok (.int .u8 2) w := by kernel_rfl
theorem rlm (z : Sem Value) (f : TypeId → Addr → Nat → Nat → Sem Value) (v : Value) :
    ReflectliteValue.method z f #[v] = (do match ← ReflectliteValue.parts v with | none => z | some (t, a, fl) => f t a fl (fl % 32)) := rfl
theorem rl_partsP (a : Addr) (w : World) : (ReflectliteValue.parts (.agg #[hdl 171, .pointer (some a), .int .u64 150])).run Tryz.prog w = .ok (some (171, a, 150)) w := by kernel_rfl
theorem rl_isNilP (a p : Addr) (W : World) (ha : W.cell? a = some (.pointer (some p))) :
    (ReflectliteValue.method (ReflectliteValue.valueError "reflectlite.Value.IsNil" 0) ReflectliteValue.isNil #[.agg #[hdl 171, .pointer (some a), .int .u64 150]]).run Tryz.prog W = .ok (.bool false) W := by
  rw [rlm]
  simp only [Sem.run_bind, rl_partsP, Result.andThen]
  simp [ReflectliteValue.isNil, loadVar, isAgg, underlying, Tryz.underlying171, ha, Result.andThen]
theorem rl_methodElem (h : Value) (w : World) : (Go.method 347 197 (.agg #[h]) "Elem").run Tryz.prog w = .ok (219, .agg #[h]) w := by kernel_rfl
theorem rl_methodImpl (h : Value) (w : World) : (Go.method 347 197 (.agg #[h]) "Implements").run Tryz.prog w = .ok (220, .agg #[h]) w := by kernel_rfl
theorem rl_methodAsg (h : Value) (w : World) : (Go.method 347 197 (.agg #[h]) "AssignableTo").run Tryz.prog w = .ok (217, .agg #[h]) w := by kernel_rfl
theorem rl_elemP (w : World) : (ReflectliteType.method ReflectliteType.elem #[.agg #[hdl 171]]).run Tryz.prog w = .ok (.iface 197 (.agg #[hdl 143])) w := by kernel_rfl
theorem rl_implF (w : World) : (ReflectliteType.relation "Implements" ReflectliteType.implements_ #[.agg #[hdl 143], .iface 197 (.agg #[hdl 95])]).run Tryz.prog w = .ok (.bool true) w := by kernel_rfl
theorem rl_typeOfF (v : Value) (w : World) : (ReflectliteType.typeOf #[.iface 143 v]).run Tryz.prog w = .ok (.iface 197 (.agg #[hdl 143])) w := by kernel_rfl
theorem rl_typeOfR (v : Value) (w : World) : (ReflectliteType.typeOf #[.iface 145 v]).run Tryz.prog w = .ok (.iface 197 (.agg #[hdl 145])) w := by kernel_rfl
theorem rl_asgF (w : World) : (ReflectliteType.relation "AssignableTo" ReflectliteType.assignableTo #[.agg #[hdl 143], .iface 197 (.agg #[hdl 143])]).run Tryz.prog w = .ok (.bool true) w := by kernel_rfl
theorem rl_asgR (w : World) : (ReflectliteType.relation "AssignableTo" ReflectliteType.assignableTo #[.agg #[hdl 145], .iface 197 (.agg #[hdl 143])]).run Tryz.prog w = .ok (.bool false) w := by kernel_rfl
theorem rl_valueOfF (no : Int) (w : World) : (ReflectliteValue.unpack (faultV no)).run Tryz.prog w
    = .ok (.agg #[hdl 143, .pointer (some ⟨w.heap.size, 0, none⟩), .int .u64 130]) (w.alloc (.cells #[.int .i64 no] 143)) := by kernel_rfl
theorem rl_elemOfP (w : World) : (Rtype.elem? 171).run Tryz.prog w = .ok (some 143) w := by kernel_rfl
theorem rl_mkF (p : Addr) (w : World) : (ReflectliteValue.mk 143 p ReflectliteValue.flagAddr).run Tryz.prog w = .ok (.agg #[hdl 143, .pointer (some p), .int .u64 386]) w := by kernel_rfl
theorem rl_elemVP (a p : Addr) (W : World) (ha : W.cell? a = some (.pointer (some p))) :
    (ReflectliteValue.method (ReflectliteValue.valueError "reflectlite.Value.Elem" 0) ReflectliteValue.elem #[.agg #[hdl 171, .pointer (some a), .int .u64 150]]).run Tryz.prog W
      = .ok (.agg #[hdl 143, .pointer (some p), .int .u64 386]) W := by
  rw [rlm]
  simp only [Sem.run_bind, rl_partsP, Result.andThen]
  simp [ReflectliteValue.elem, loadVar, isAgg, underlying, Tryz.underlying171, ha, Result.andThen, rl_elemOfP, rl_mkF]
theorem rls (v x : Value) : ReflectliteValue.set #[v, x] = (do
    let (some (dst, a, fl), some (src, b, _)) := (← ReflectliteValue.parts v, ← ReflectliteValue.parts x)
      | unsupported (.noEntry "extern/(internal/reflectlite.Value).Set.zeroValue")
    if fl / ReflectliteValue.flagAddr % 2 == 0 then unsupported (.noEntry "extern/(internal/reflectlite.Value).Set.unaddressable")
    let val ← loadVar src b
    if ← Rtype.directlyAssignable dst src then storeVar dst a val
    else if ← Rtype.implements dst src then
      if (← Rtype.kind src) == 20 then
        match val with
        | .nilIface => unsupported (.noEntry "extern/reflectlite: a nil value of one interface type handed on as a value of another")
        | _ => storeVar dst a val
      else storeVar dst a (.iface src val)
    else panicString ("reflectlite.Set: value of type " ++ (← Rtype.spelt src) ++ " is not assignable to type " ++ (← Rtype.spelt dst))
    pure (.tuple #[])) := rfl
theorem rl_partsFa (a : Addr) (w : World) : (ReflectliteValue.parts (.agg #[hdl 143, .pointer (some a), .int .u64 386])).run Tryz.prog w = .ok (some (143, a, 386)) w := by kernel_rfl
theorem rl_partsF (a : Addr) (w : World) : (ReflectliteValue.parts (.agg #[hdl 143, .pointer (some a), .int .u64 130])).run Tryz.prog w = .ok (some (143, a, 130)) w := by kernel_rfl
theorem rl_direct (w : World) : (Rtype.directlyAssignable 143 143).run Tryz.prog w = .ok true w := by kernel_rfl
theorem rl_setF (ta b : Addr) (no : Int) (old : Value) (W : World) (hb : W.cell? b = some (.int .i64 no)) (ht : W.cell? ta = some old) (hf : W.frozen? ta = false) :
    (ReflectliteValue.set #[.agg #[hdl 143, .pointer (some ta), .int .u64 386], .agg #[hdl 143, .pointer (some b), .int .u64 130]]).run Tryz.prog W
      = .ok (.tuple #[]) (W.setCell ta (.int .i64 no)) := by
  rw [rls]
  simp only [Sem.run_bind, rl_partsFa, rl_partsF, Result.andThen]
  simp [ReflectliteValue.flagAddr, loadVar, isAgg, underlying, Tryz.underlying143, hb, Result.andThen, rl_direct, storeVar, Value.cells, storeCells, Addr.add]
  rw [run_store Tryz.prog W ta _ _ (by rfl)]
  simp [ht, hf]
theorem rl_noAs (v : Value) (xT : TypeId) (w : World) : (Instr.typeAssert (.iface 145 v) xT 202 true).run Tryz.prog w = .ok (.tuple #[.nilIface, .bool false]) w :=
  run_typeAssert_lacksB Tryz.underlying202 (by kernel_rfl) (by kernel_rfl) v xT w
theorem rl_unwraps (v : Value) (xT : TypeId) (w : World) : (Instr.typeAssert (.iface 145 v) xT 205 true).run Tryz.prog w = .ok (.tuple #[.iface 145 v, .bool true]) w :=
  run_typeAssert_hasB Tryz.underlying205 (by kernel_rfl) v xT w
theorem rl_methodUnwrap (s : ByteArray) (no : Int) (w : World) : (Go.method 347 145 (.agg #[.string s, faultV no]) "Unwrap").run Tryz.prog w = .ok (212, .agg #[.string s, faultV no]) w := by kernel_rfl
end Go.Proofs.YtbgcpgpkhfbijaaGreatDoor
/- Package move: why. -/
namespace Go.Proofs.YtbgcpgpkhfbijaaGreatDoor
open Go.RowKit Go.Extern.Stop Go.Stop Go.Extern
abbrev asW1 (w : World) (t : Addr) : World := w.alloc (.cells #[.pointer (some t)] 171)
abbrev asW2 (w : World) (t : Addr) : World := (asW1 w t).alloc (.cells #[hdl 171, .pointer (some ⟨w.heap.size, 0, none⟩), .int .u64 150] 185)
abbrev asW3 (w : World) (t : Addr) : World := (asW2 w t).alloc (.cells #[hdl 171, .pointer (some ⟨w.heap.size, 0, none⟩), .int .u64 150] 185)
abbrev asW4 (w : World) (t : Addr) (s : ByteArray) (no : Int) : World := (asW3 w t).alloc (.cells #[.string s, faultV no] 145)
abbrev asW5 (w : World) (t : Addr) (s : ByteArray) (no : Int) : World := (asW4 w t s no).alloc (.cells #[.int .i64 no] 143)
set_option maxHeartbeats 8000000 in
set_option maxRecDepth 100000 in
theorem as_any (s : ByteArray) (no : Int) (t : Addr) (old : Value) (w : World) (hg : ErrVar w) (ht0 : w.cell? t = some old) (hf0 : w.frozen? t = false) :
    Calls Tryz.prog 153 #[refusedV s no, .iface 171 (.pointer (some t))] w fun e w' => e = .returned (.bool true) ∧ w' = (asW5 w t s no).setCell t (.int .i64 no) := by
  have h134 := @run_callFunc_extern Tryz.prog 167 _ (fun args => ReflectliteValue.unpack (args.getD 0 (.tuple #[]))) Tryz.func167 (by kernel_rfl) (by kernel_rfl) (by kernel_rfl) (by kernel_rfl)
  have h135 := @run_callFunc_extern Tryz.prog 168 _ (ReflectliteValue.methodAny (ReflectliteValue.valueError "reflectlite.Value.Type" 0) (fun t _ _ _ => ReflectliteType.toType t)) Tryz.func168 (by kernel_rfl) (by kernel_rfl) (by kernel_rfl) (by kernel_rfl)
  have h136 := @run_callFunc_extern Tryz.prog 169 _ (ReflectliteValue.method (ReflectliteValue.valueError "reflectlite.Value.IsNil" 0) ReflectliteValue.isNil) Tryz.func169 (by kernel_rfl) (by kernel_rfl) (by kernel_rfl) (by kernel_rfl)
  have h27 := @run_callFunc_extern Tryz.prog 207 _ (ReflectliteType.abiMethod fun t => do pure (.int .u8 (← Rtype.kind t))) Tryz.func207 (by kernel_rfl) (by kernel_rfl) (by kernel_rfl) (by kernel_rfl)
  have h37 := @run_callFunc_extern Tryz.prog 219 _ (ReflectliteType.method ReflectliteType.elem) Tryz.func219 (by kernel_rfl) (by kernel_rfl) (by kernel_rfl) (by kernel_rfl)
  have h38 := @run_callFunc_extern Tryz.prog 220 _ (ReflectliteType.relation "Implements" ReflectliteType.implements_) Tryz.func220 (by kernel_rfl) (by kernel_rfl) (by kernel_rfl) (by kernel_rfl)
  have h10 := @run_callFunc_extern Tryz.prog 180 _ ReflectliteType.typeOf Tryz.func180 (by kernel_rfl) (by kernel_rfl) (by kernel_rfl) (by kernel_rfl)
  have h35 := @run_callFunc_extern Tryz.prog 217 _ (ReflectliteType.relation "AssignableTo" ReflectliteType.assignableTo) Tryz.func217 (by kernel_rfl) (by kernel_rfl) (by kernel_rfl) (by kernel_rfl)
  have h11 := @run_callFunc_extern Tryz.prog 181 _ (ReflectliteValue.method (ReflectliteValue.valueError "reflectlite.Value.Elem" 0) ReflectliteValue.elem) Tryz.func181 (by kernel_rfl) (by kernel_rfl) (by kernel_rfl) (by kernel_rfl)
  have h12 := @run_callFunc_extern Tryz.prog 182 _ ReflectliteValue.set Tryz.func182 (by kernel_rfl) (by kernel_rfl) (by kernel_rfl) (by kernel_rfl)
  have tO := rl_typeOfF
  have tR := rl_typeOfR
  have mA := rl_methodAsg
  have aF := rl_asgF
  have aR := rl_asgR
  have vF := rl_valueOfF
  have f6 := rl_valueOfP
  have f7 := rl_typeP
  have mK := rl_methodKind
  have mE := rl_methodElem
  have mI := rl_methodImpl
  have kP := rl_kindP
  have kF := rl_kindF
  have eP := rl_elemP
  have iF := rl_implF
  have nA := rl_noAs
  have uW := rl_unwraps
  have mU := rl_methodUnwrap
  have hlt := hg.lt
  unfold ErrVar at hg
  have htl : t.block < w.heap.size := by
    rcases Nat.lt_or_ge t.block w.heap.size with h | h
    · exact h
    · simp [World.cell?, Array.getElem?_eq_none h] at ht0
  have n8 := rl_isNilP ⟨w.heap.size, 0, none⟩ t (asW2 w t) (by simp)
  have hg2 : (asW2 w t).cell? ⟨0, 0, none⟩ = some (.iface 197 (.agg #[hdl 95])) := by
    rw [World.cell?_alloc_lt _ _ ⟨0, 0, none⟩ (by simp), World.cell?_alloc_lt _ _ ⟨0, 0, none⟩ hlt]; exact hg
  have el := rl_elemVP ⟨w.heap.size, 0, none⟩ t (asW4 w t s no) (by
    rw [World.cell?_alloc_lt _ _ ⟨w.heap.size, 0, none⟩ (by simp; omega), World.cell?_alloc_lt _ _ ⟨w.heap.size, 0, none⟩ (by simp; omega)]
    simp)
  have hb3 : (asW4 w t s no).cell? ⟨w.heap.size + 1 + 1, 0, none⟩ = some (hdl 171) ∧ (asW4 w t s no).cell? ⟨w.heap.size + 1 + 1, 1, none⟩ = some (.pointer (some ⟨w.heap.size, 0, none⟩)) ∧ (asW4 w t s no).cell? ⟨w.heap.size + 1 + 1, 2, none⟩ = some (.int .u64 150) := by
    refine ⟨?_, ?_, ?_⟩
    all_goals
      rw [World.cell?_alloc_lt _ _ _ (by simp), World.cell?_alloc_at _ _ _ _ (by simp)]
      rfl
  obtain ⟨b30, b31, b32⟩ := hb3
  have st := rl_setF t ⟨w.heap.size + 1 + 1 + 1 + 1, 0, none⟩ no old (asW5 w t s no)
    (by rw [World.cell?_alloc_at _ _ _ _ (by simp)]; rfl)
    (by rw [World.cell?_alloc_lt _ _ t (by simp; omega), World.cell?_alloc_lt _ _ t (by simp; omega), World.cell?_alloc_lt _ _ t (by simp; omega), World.cell?_alloc_lt _ _ t (by simp; omega), World.cell?_alloc_lt _ _ t htl]; exact ht0)
    (by rw [World.frozen?_alloc_old _ _ t (by simp; omega), World.frozen?_alloc_old _ _ t (by simp; omega), World.frozen?_alloc_old _ _ t (by simp; omega), World.frozen?_alloc_old _ _ t (by simp; omega), World.frozen?_alloc_old _ _ t (Nat.ne_of_lt htl)]; exact hf0)
  go_enter Tryz.func153, Tryz.ntmps153
  go_wp2
  refine wp_loop_rounds 2 ?_
  rw [rounds_succ]
  go_wp2
  rw [rounds_succ]
  go_wp2
  go_ret
  exact ⟨rfl, rfl⟩
theorem as_below {w : World} {t : Addr} {s : ByteArray} {no : Int} : Below w.heap.size w (asW5 w t s no) := by
  have h1 := (Below.refl w.heap.size w).alloc (Nat.le_refl _) (.cells #[.pointer (some t)] 171)
  have h2 := h1.alloc h1.size (.cells #[hdl 171, .pointer (some ⟨w.heap.size, 0, none⟩), .int .u64 150] 185)
  have h3 := h2.alloc h2.size (.cells #[hdl 171, .pointer (some ⟨w.heap.size, 0, none⟩), .int .u64 150] 185)
  have h4 := h3.alloc h3.size (.cells #[.string s, faultV no] 145)
  exact h4.alloc h4.size _
set_option maxHeartbeats 4000000 in
theorem mwhyNil_any (w : World) : Calls Tryz.prog 116 #[.nilIface] w fun e w' => e = .returned (.int .i64 0) ∧ Below w.heap.size w w' := by
  go_enter Tryz.func116, Tryz.ntmps116
  go_wp2_with (go_at_call 153; (refine (as_nil _ _).mono ?_); rintro e w1 ⟨rfl, rfl⟩)
  go_ret
  exact ⟨rfl, below_box _ _⟩
set_option maxHeartbeats 4000000 in
theorem mwhy_any (s : ByteArray) (no : Int) (w : World) (hg : ErrVar w) : Calls Tryz.prog 116 #[refusedV s no] w fun e w' => e = .returned (.int .i64 no) ∧ Below w.heap.size w w' := by
  have hb0 : Below w.heap.size w (w.alloc (.cells #[.int .i64 0] 143)) := below_box _ _
  have c0 : (w.alloc (.cells #[.int .i64 0] 143)).cell? ⟨w.heap.size, 0, none⟩ = some (.int .i64 0) := by
    rw [cell_of_row (w.alloc (.cells #[.int .i64 0] 143)) w.heap.size 0 _ _ (0, 0) (heap_alloc_new w _)]
    rfl
  have f0 : (w.alloc (.cells #[.int .i64 0] 143)).frozen? ⟨w.heap.size, 0, none⟩ = false := row_free (heap_alloc_new w _) 0
  have CA := Lib.hid (as_any s no ⟨w.heap.size, 0, none⟩ (.int .i64 0) _ (hg.keep hb0) c0 f0)
  obtain ⟨w0, hw0⟩ : ∃ w0, w.alloc (.cells #[.int .i64 0] 143) = w0 := ⟨_, rfl⟩
  have hlt : w.heap.size < w0.heap.size := by rw [← hw0]; simp
  rw [hw0] at CA hb0 c0 f0
  obtain ⟨w5, hw5, hb5⟩ : ∃ w5, asW5 w0 ⟨w.heap.size, 0, none⟩ s no = w5 ∧ Below w0.heap.size w0 w5 := ⟨_, rfl, as_below⟩
  rw [hw5] at CA
  have c5 : (w5.setCell ⟨w.heap.size, 0, none⟩ (.int .i64 no)).cell? ⟨w.heap.size, 0, none⟩ = some (.int .i64 no) := World.cell?_setCell_same _ _ _ ((hb5.cell (p := ⟨w.heap.size, 0, none⟩) hlt).trans c0)
  have HB : Hid (Below w.heap.size w (w5.setCell ⟨w.heap.size, 0, none⟩ (.int .i64 no))) := Lib.hid ((hb0.trans (hb5.mono hb0.size)).setCell (p := ⟨w.heap.size, 0, none⟩) (Nat.le_refl _) _)
  have HW0 := Lib.hid hw0
  clear hw0 hb0 hb5 hw5 c0 f0 hg
  go_enter Tryz.func116, Tryz.ntmps116
  go_wp2_with (go_at_call 153; rw [HW0.out]; (with_reducible refine CA.out.mono ?_); rintro e w1 ⟨rfl, rfl⟩)
  go_ret
  exact ⟨rfl, HB.out⟩
end Go.Proofs.YtbgcpgpkhfbijaaGreatDoor
/- Package move, as mathematics: what stands under a node stays as it is when that goes. No program. -/
namespace Go.Proofs.YtbgcpgpkhfbijaaGreatDoor
open Go.RowKit
section
variable {m : Int} {F G : List Core} {P : Nat → Core → Int} {K : Nat → Core → List Int} {D : Nat → Core → Int}
theorem ordN_congr (h : rightF m F = true) : ∀ (f i : Nat), i < F.length → (∀ j, j < F.length → holdsT (parS F) i j → kidsS G j = kidsS F j) → ordN (kidsS G) f i = ordN (kidsS F) f i
  | 0, _, _, _ => rfl
  | f + 1, i, hi, hk => by
    have T := treeS h
    show i :: (kidsS G i).flatMap (ordN (kidsS G) f) = i :: (kidsS F i).flatMap (ordN (kidsS F) f)
    rw [hk i hi (holds_refl i)]
    congr 1
    exact flat_congr (fun k hkk => ordN_congr h f k (T.kid_lt i k hkk) (fun j hj hh => hk j hj (holds_trans (holds_par (T.kid_par i k hkk)) hh)))
theorem allI_congr (h : rightF m F = true) (hl : G.length = F.length) {n : Nat} (hn : n < F.length) (hk : ∀ j, j < F.length → holdsT (parS F) n j → kidsS G j = kidsS F j) : allI G n = allI F n := by
  unfold allI allF
  rw [Int.toNat_natCast, hl, ordN_congr h (F.length + 1) n hn hk]
theorem edit_undS (h : Edit F G P K D) (j : Nat) : undS G j = undS F j := by
  unfold undS
  by_cases hj : j < F.length
  · have hc : F[j]? = some F[j] := List.getElem?_eq_getElem hj
    rw [h.at_ j _ hc, hc]
    rfl
  · rw [List.getElem?_eq_none (by rw [h.len]; omega), List.getElem?_eq_none (by omega)]
theorem edit_kidsS (h : Edit F G P K D) {j : Nat} {c : Core} (hc : F[j]? = some c) (hk : K j c = c.kids) : kidsS G j = kidsS F j := by
  unfold kidsS
  rw [edit_undS h j]
  congr 1
  unfold kidsF
  rw [h.at_ j c hc, hc]
  show (K j c).map Int.toNat = c.kids.map Int.toNat
  rw [hk]
theorem tellN_congr (h : Edit F G P K D) {n : Nat} (ha : allI G n = allI F n) (x : NoteD) : tellN G n x = tellN F n x := by
  unfold tellN
  rw [ha]
  congr 1
  exact List.filter_congr (fun z _ => by rw [h.kindK])
theorem allI_out (h : rightF m F = true) {n : Nat} {x : Core} (hx : F[n]? = some x) (hp : x.parent ≠ -1) : allI (mvOut F n) n = allI F n := by
  obtain ⟨p, hpp, hpl, ho⟩ := mvOut_out h hx hp
  have hn := (List.getElem?_eq_some_iff.1 hx).1
  refine allI_congr h ho.ed.len hn (fun j hj hh => ?_)
  have hc : F[j]? = some F[j] := List.getElem?_eq_getElem hj
  refine edit_kidsS ho.ed hc ?_
  by_cases e : j = p
  · subst e
    have hpar : parS F n = some j := parS_parent hx hpp
    have e2 := (treeS h).holds_anti hn hj hh (holds_par hpar)
    have := (treeS h).rank_up j n hn hpar
    rw [e2] at this
    omega
  · exact if_neg e
theorem tellN_out (h : rightF m F = true) {n : Nat} {x : Core} (hx : F[n]? = some x) (hp : x.parent ≠ -1) (y : NoteD) : tellN (mvOut F n) n y = tellN F n y := tellN_congr (edF_edit F _ _ _) (allI_out h hx hp) y
theorem allI_doc (h : rightF m F = true) {n : Nat} (hn : n < F.length) (d : Int) : allI (mvDoc F n d) n = allI F n :=
  allI_congr h (edF_edit F _ _ _).len hn (fun _ hj _ => edit_kidsS (edF_edit F _ _ _) (List.getElem?_eq_getElem hj) rfl)
theorem tellN_doc (h : rightF m F = true) {n : Nat} (hn : n < F.length) (d : Int) (y : NoteD) : tellN (mvDoc F n d) n y = tellN F n y := tellN_congr (edF_edit F _ _ _) (allI_doc h hn d) y
theorem tellN_len (h : rightF m F = true) {n : Nat} (hn : n < F.length) (y : NoteD) : (tellN F n y).length ≤ 400 := by
  unfold tellN
  rw [List.length_map]
  exact Nat.le_trans (List.length_filter_le _ _) (Nat.le_trans (allI_len h hn) (right_len400 h))
end
end Go.Proofs.YtbgcpgpkhfbijaaGreatDoor
