/- Texts joined in build order: Ref6Set RegionInv CopyRegion Ref3Make Ref6With Ref6Attrs. -/
import Derived.Test.YtiffhlncnpppoaaGreatDoorM06
import Derived.Test.YtiffhlncnpppoaaGreatDoorM01
import Derived.Laws.AppendOwn
import Derived.Orders
import Derived.Deep.DeepCutAuto
import Derived.Test.YtiffhlncnpppoaaGreatDoorM13
import Derived.Test.YtiffhlncnpppoaaGreatDoorM04
namespace Go.Proofs.YtiffhlncnpppoaaGreatDoor
open Go.RowKit
set_option linter.unusedVariables false
def setRow (W : World) (g off : Nat) : List Value → World
  | [] => W
  | v :: vs => setRow (W.setCell ⟨g, off, none⟩ v) g (off + 1) vs
theorem setRow_size : ∀ (vs : List Value) (W : World) (g off : Nat), (setRow W g off vs).heap.size = W.heap.size
  | [], _, _, _ => rfl
  | v :: vs, W, g, off => (setRow_size vs _ g (off + 1)).trans (by simp [World.setCell])
theorem setRow_frozen : ∀ (vs : List Value) (W : World) (g off : Nat) (p : Addr), (setRow W g off vs).frozen? p = W.frozen? p
  | [], _, _, _, _ => rfl
  | v :: vs, W, g, off, p => (setRow_frozen vs _ g (off + 1) p).trans (World.frozen?_setCell ..)
theorem setRow_other : ∀ (vs : List Value) (W : World) (g off o : Nat), (o < off ∨ off + vs.length ≤ o) → (setRow W g off vs).cell? ⟨g, o, none⟩ = W.cell? ⟨g, o, none⟩
  | [], _, _, _, _, _ => rfl
  | v :: vs, W, g, off, o, h => by
    rw [List.length_cons] at h
    exact (setRow_other vs _ g (off + 1) o (by omega)).trans (World.cell?_setCell_other _ _ _ _ (fun e => by injection e with _ e; omega))
theorem setRow_at : ∀ (vs : List Value) (W : World) (g off j : Nat) (u : Value), vs[j]? = some u → (∀ k, k < vs.length → ∃ z, W.cell? ⟨g, off + k, none⟩ = some z) → (setRow W g off vs).cell? ⟨g, off + j, none⟩ = some u
  | [], _, _, _, _, _, h, _ => by cases h
  | v :: vs, W, g, off, 0, u, h, hc => by
    obtain ⟨z, hz⟩ := hc 0 (Nat.succ_pos _)
    rw [← Option.some.inj h]
    exact (setRow_other vs _ g (off + 1) (off + 0) (by omega)).trans (World.cell?_setCell_same _ _ _ hz)
  | v :: vs, W, g, off, j + 1, u, h, hc => by
    have e : off + (j + 1) = off + 1 + j := by omega
    rw [e]
    refine setRow_at vs _ g (off + 1) j u h (fun k hk => ?_)
    obtain ⟨z, hz⟩ := hc (k + 1) (by simp; omega)
    exact ⟨z, (World.cell?_setCell_other _ _ _ _ (fun e => by injection e with _ e; omega)).trans (by rw [show off + 1 + k = off + (k + 1) by omega]; exact hz)⟩
theorem setRow_below : ∀ (vs : List Value) (W : World) (g off B : Nat) (w : World), B ≤ g → Below B w W → Below B w (setRow W g off vs)
  | [], _, _, _, _, _, _, h => h
  | v :: vs, W, g, off, B, w, hb, h => setRow_below vs _ g (off + 1) B w hb (h.setCell (p := ⟨g, off, none⟩) hb v)
theorem setRow_ok : ∀ (vs : List Value) (W : World) (g off : Nat) (x : NodeD), NodeOk W x → NodeAway g x → NodeOk (setRow W g off vs) x
  | [], _, _, _, _, h, _ => h
  | v :: vs, W, g, off, x, h, ha => setRow_ok vs _ g (off + 1) x (h.setCell ha v) ha
theorem setRow_box : ∀ (vs : List Value) (W : World) (g off b : Nat) (o : Nat), b ≠ g → (setRow W g off vs).cell? ⟨b, o, none⟩ = W.cell? ⟨b, o, none⟩
  | [], _, _, _, _, _, _ => rfl
  | v :: vs, W, g, off, b, o, h => (setRow_box vs _ g (off + 1) b o h).trans (World.cell?_setCell_other _ _ _ _ (fun e => by injection e with e _; exact h e.symm))
theorem WRow.setN {W : World} {g len cap : Nat} {M : List NodeD} (h : WRow W g len cap M) {n : Nat} {x : NodeD} (hn : n < len) (hx : NodeOk W x) (ha : NodeAway g x) : WRow (setRow W g (n * 10) (encN x)) g len cap (M.set n x) := by
  have hM : M.length = len := h.row.hlen
  have hlt : g < (setRow W g (n * 10) (encN x)).heap.size := by rw [setRow_size]; exact h.lt
  obtain ⟨hl, hcap, hmax, henc, hcells⟩ := h.row.row
  have hc : ∀ (i : Nat) y j u, M[i]? = some y → (encN y)[j]? = some u → W.cell? ⟨g, i * 10 + j, none⟩ = some u := by
    rcases hcells with h0 | ⟨b, off, e, _, hc⟩
    · omega
    · injection e with e
      injection e with e1 e2
      subst e1 e2
      intro i y j u hy hu
      have := hc i y j u hy hu
      rwa [Nat.zero_add] at this
  obtain ⟨y0, hy0⟩ : ∃ y0, M[n]? = some y0 := ⟨_, List.getElem?_eq_getElem (by rw [hM]; exact hn)⟩
  refine ⟨⟨⟨by rw [List.length_set]; exact hl, hcap, hmax, fun y _ => encN_len y, .inr ⟨g, 0, rfl, hlt, fun i y j u hy hu => ?_⟩⟩, fun y hy => ?_, fun e => by cases e⟩, hlt, fun o => by rw [setRow_frozen]; exact h.free o, fun y hy => ?_⟩
  · rw [Nat.zero_add]
    have hj : j < 10 := by have := (List.getElem?_eq_some_iff.1 hu).1; rwa [encN_len] at this
    by_cases e : i = n
    · subst e
      rw [List.getElem?_set_self (by rw [hM]; exact hn)] at hy
      obtain rfl := Option.some.inj hy
      exact setRow_at _ W g (i * 10) j u hu (fun k hk => ⟨_, hc i y0 k _ hy0 (List.getElem?_eq_getElem (by rw [encN_len]; rw [encN_len] at hk; exact hk))⟩)
    · rw [List.getElem?_set_ne (fun e2 => e e2.symm)] at hy
      rw [setRow_other _ _ _ _ _ (by rw [encN_len]; omega)]
      exact hc i y j u hy hu
  · rcases List.mem_or_eq_of_mem_set hy with hy | rfl
    · exact setRow_ok _ _ _ _ _ (h.row.ok y hy) (h.away y hy)
    · exact setRow_ok _ _ _ _ _ hx ha
  · rcases List.mem_or_eq_of_mem_set hy with hy | rfl
    · exact h.away y hy
    · exact ha
end Go.Proofs.YtiffhlncnpppoaaGreatDoor
namespace Go.Proofs.YtiffhlncnpppoaaGreatDoor
open Go.RowKit
section
variable {P : Program} {md : Region.Mode} {ops : Array Oper} {Q : Exit → Act → World → Prop}
theorem ready_iff {listed : Array Bool} {i : Nat} : i ∈ Region.ready md ops listed ↔ i < ops.size ∧ listed.getD i true = false ∧ ∃ o, ops[i]? = some o ∧ ∀ e ∈ o.after, Region.binds md e = true → listed.getD e.on false = true := by
  unfold Region.ready
  rw [List.mem_filter, List.mem_range, Bool.and_eq_true, Bool.not_eq_true']
  refine and_congr_right fun hi => and_congr_right fun _ => ?_
  rw [Array.getElem?_eq_getElem hi]
  simp only [Option.map_some, Option.getD_some, Array.all_eq_true_iff_forall_mem, Bool.or_eq_true, Bool.not_eq_true', Option.some.injEq, exists_eq_left']
  refine forall_congr' fun e => forall_congr' fun _ => ?_
  cases Region.binds md e <;> simp
theorem count_set {l : List Bool} {i : Nat} (h : l[i]? = some false) : (l.set i true).count false + 1 = l.count false := by
  induction l generalizing i with
  | nil => simp at h
  | cons b l ih =>
    cases i with
    | zero =>
      obtain rfl : b = false := by simpa using h
      simp
    | succ i =>
      have := ih (i := i) (by simpa using h)
      simp only [List.set_cons_succ, List.count_cons]
      omega
theorem wpAny_inv (S : Array Bool → Act → World → Prop)
    (hs : ∀ listed a w i, i ∈ Region.ready md ops listed → S listed a w → wpOp P ops Q i (S (listed.setIfInBounds i true)) a w)
    (he : ∀ listed a w, Region.ready md ops listed = [] → S listed a w → Q .normal a w) :
    ∀ (fuel : Nat) (listed : Array Bool) (a : Act) (w : World), listed.size = ops.size → listed.toList.count false ≤ fuel → S listed a w → wpAny P md ops Q fuel listed a w := by
  intro fuel
  induction fuel with
  | zero =>
    intro listed a w hz hc h
    have hr : Region.ready md ops listed = [] := by
      refine List.eq_nil_iff_forall_not_mem.2 fun i hi => ?_
      obtain ⟨h1, h2, -⟩ := ready_iff.1 hi
      have hm : false ∈ listed.toList := by
        have h3 : i < listed.size := by omega
        rw [Array.getD_eq_getD_getElem?, Array.getElem?_eq_getElem h3, Option.getD_some] at h2
        rw [← h2, Array.mem_toList_iff]
        exact Array.getElem_mem h3
      have := List.count_pos_iff.2 hm
      omega
    exact ⟨hr, he _ _ _ hr h⟩
  | succ fuel ih =>
    intro listed a w hz hc h
    refine ⟨fun hr => he _ _ _ hr h, fun i hi => ?_⟩
    refine wpOp_mono (fun a w hk => ih _ a w (by simpa using hz) ?_ hk) (hs _ _ _ _ hi h)
    obtain ⟨h1, h2, -⟩ := ready_iff.1 hi
    have h3 : i < listed.size := by omega
    rw [Array.getD_eq_getD_getElem?, Array.getElem?_eq_getElem h3, Option.getD_some] at h2
    have := count_set (l := listed.toList) (i := i) (by rw [List.getElem?_eq_getElem (by simpa using h3)]; simpa using h2)
    rw [Array.toList_setIfInBounds]
    omega
end
def blkOf : Value → List Nat
  | .slice (some a) _ _ => [a.block]
  | .pointer (some a) => [a.block]
  | _ => []
def blk : Value → List Nat
  | .agg vs => blkOf (vs.getD 0 undef)
  | v => blkOf v
def puts (l : List Value) : List (Option Tmp × Value) → List Value
  | [] => l
  | (some d, v) :: ps => puts (l.set d v) ps
  | (none, _) :: ps => puts l ps
theorem puts_eq {A : List Value} : ∀ (ps : List (Option Tmp × Value)) (l : List Value), A.length = l.length → (∀ p ∈ ps, ∀ d, p.1 = some d → A[d]? = some p.2) →
    (∀ t, (∀ p ∈ ps, p.1 ≠ some t) → A[t]? = l[t]?) → A = puts l ps := by
  intro ps
  induction ps with
  | nil =>
    intro l h1 h2 h3
    exact List.ext_getElem? fun t => h3 t (fun p hp => by cases hp)
  | cons p ps ih =>
    intro l h1 h2 h3
    obtain ⟨d, v⟩ := p
    cases d with
    | none => exact ih l h1 (fun p hp => h2 p (List.mem_cons_of_mem _ hp)) (fun t ht => h3 t (fun p hp => by
        rcases List.mem_cons.1 hp with rfl | hp
        · exact fun e => by cases e
        · exact ht p hp))
    | some d =>
      have hd := h2 _ (List.mem_cons_self ..) d rfl
      refine ih (l.set d v) (by rw [List.length_set]; exact h1) (fun p hp => h2 p (List.mem_cons_of_mem _ hp)) (fun t ht => ?_)
      by_cases hdt : d = t
      · subst hdt
        have hlt : d < l.length := by rw [← h1]; exact (List.getElem?_eq_some_iff.1 hd).1
        rw [hd, List.getElem?_set_self hlt]
      · rw [List.getElem?_set_ne hdt]
        refine h3 t (fun p hp => ?_)
        rcases List.mem_cons.1 hp with rfl | hp
        · exact fun e => hdt (by injection e)
        · exact ht p hp
structure Plan where
  fact : Nat → Value → World → Prop
  owns : Nat → Bool
  used : Nat → Option Nat
def Plan.live (p : Plan) (listed : Array Bool) (j : Nat) : Prop := listed.getD j false = true ∧ ∀ k, p.used j = some k → listed.getD k false = false
def edgeOn (o : Oper) (j : Nat) : Bool := o.after.any fun e => e.on == j && Region.binds .any e
def opOK (l : List Oper) (last n : Nat) (used : Nat → Option Nat) (i : Nat) (o : Oper) : Bool :=
  o.guard.isNone && (o.after.all fun e => decide (e.on < i)) &&
  (if i == last then (List.range last).all fun j => edgeOn o j
   else (match o.dst with
    | none => false
    | some d => decide (d < n) && ((List.range last).all fun j => j == i || ((l[j]?).bind (·.dst)) != some d)) &&
    ((List.range last).all fun j => used j != some i || edgeOn o j))
def planOK (l : List Oper) (last n : Nat) (used : Nat → Option Nat) : Bool :=
  (l.length == last + 1) && ((List.range (last + 1)).all fun i => match l[i]? with
    | none => false
    | some o => opOK l last n used i o)
structure RInv (p : Plan) (l : List Oper) (last : Nat) (W : World) (a0 : Act) (v : Nat → Value) (listed : Array Bool) (a : Act) (w : World) : Prop where
  defers : a.defers = a0.defers
  tsize : a.tmps.size = a0.tmps.size
  rest : ∀ t, (∀ i, i < last → listed.getD i false = true → (l[i]?).bind (·.dst) ≠ some t) → a.tmps[t]? = a0.tmps[t]?
  below : Below W.heap.size W w
  vals : ∀ i, i < last → listed.getD i false = true → ∀ d, (l[i]?).bind (·.dst) = some d → a.tmps[d]? = some (v i)
  facts : ∀ i, i < last → p.live listed i → p.fact i (v i) w
  apart : ∀ i j, i < last → j < last → p.live listed i → p.live listed j → i ≠ j → p.owns i = true → p.owns j = true → ∀ b ∈ blk (v i), b ∉ blk (v j)
  bound : ∀ i, i < last → p.live listed i → p.owns i = true → ∀ b ∈ blk (v i), W.heap.size ≤ b ∧ b < w.heap.size
structure StepIn (p : Plan) (l : List Oper) (last : Nat) (W : World) (a0 : Act) (i : Nat) (o : Oper) (a : Act) (w : World) (v : Nat → Value) : Prop where
  below : Below W.heap.size W w
  rest : ∀ t, (∀ j, j < last → (l[j]?).bind (·.dst) ≠ some t) → a.tmps[t]? = a0.tmps[t]?
  vals : ∀ j, j < last → edgeOn o j = true → ∀ d, (l[j]?).bind (·.dst) = some d → a.tmps[d]? = some (v j)
  facts : ∀ j, j < last → edgeOn o j = true → (p.used j = none ∨ p.used j = some i) → p.fact j (v j) w
  bound : ∀ j, j < last → edgeOn o j = true → (p.used j = none ∨ p.used j = some i) → p.owns j = true → ∀ b ∈ blk (v j), W.heap.size ≤ b ∧ b < w.heap.size
  apart : ∀ j k, j < last → k < last → p.used j = some i → p.used k = some i → j ≠ k → p.owns j = true → p.owns k = true → ∀ b ∈ blk (v j), b ∉ blk (v k)
def Took (p : Plan) (last i : Nat) (v : Nat → Value) (b : Nat) : Prop := ∃ j, j < last ∧ p.used j = some i ∧ p.owns j = true ∧ b ∈ blk (v j)
structure StepOut (p : Plan) (last i : Nat) (v : Nat → Value) (w : World) (u : Value) (w' : World) : Prop where
  fact : p.fact i u w'
  grown : ∃ row, w.grownBy w' row ∧ ∀ k, row = some k → Took p last i v k
  own : p.owns i = true → ∀ b ∈ blk u, (w.heap.size ≤ b ∧ b < w'.heap.size) ∨ Took p last i v b
def OpStep (P : Program) (Q : Exit → Act → World → Prop) (p : Plan) (l : List Oper) (last : Nat) (W : World) (a0 : Act) (i : Nat) (o : Oper) : Prop :=
  ∀ (a : Act) (w : World) (v : Nat → Value) (K : Act → World → Prop), StepIn p l last W a0 i o a w v → (∀ u w', StepOut p last i v w u w' → K (a.put o.dst u) w') → o.wp P a w K Q
theorem getD_set {listed : Array Bool} {i j : Nat} (hi : i < listed.size) : (listed.setIfInBounds i true).getD j false = if j = i then true else listed.getD j false := by
  by_cases h : j = i
  · subst h
    rw [if_pos rfl, Array.getD_eq_getD_getElem?, Array.getElem?_setIfInBounds_self_of_lt hi]
    rfl
  · rw [if_neg h, Array.getD_eq_getD_getElem?, Array.getD_eq_getD_getElem?, Array.getElem?_setIfInBounds_ne (fun e => h e.symm)]
theorem put_self {a : Act} {d : Nat} {u : Value} (h : d < a.tmps.size) : (a.put (some d) u).tmps[d]? = some u := by
  show (a.tmps.setIfInBounds d u)[d]? = _
  exact Array.getElem?_setIfInBounds_self_of_lt h
theorem put_ne {a : Act} {d t : Nat} {u : Value} (h : d ≠ t) : (a.put (some d) u).tmps[t]? = a.tmps[t]? := by
  show (a.tmps.setIfInBounds d u)[t]? = _
  exact Array.getElem?_setIfInBounds_ne h
theorem planOK_op {l : List Oper} {last n : Nat} {used : Nat → Option Nat} (h : planOK l last n used = true) {i : Nat} (hi : i < last + 1) : ∃ o, l[i]? = some o ∧ opOK l last n used i o = true := by
  unfold planOK at h
  rw [Bool.and_eq_true, List.all_eq_true] at h
  have := h.2 i (List.mem_range.2 hi)
  cases e : l[i]? with
  | none => rw [e] at this; cases this
  | some o => rw [e] at this; exact ⟨o, rfl, this⟩
theorem opOK_dst {l : List Oper} {last n : Nat} {used : Nat → Option Nat} {i : Nat} {o : Oper} (h : opOK l last n used i o = true) (hi : i < last) :
    o.guard = none ∧ ∃ d, o.dst = some d ∧ d < n ∧ (∀ j, j < last → j ≠ i → (l[j]?).bind (·.dst) ≠ some d) ∧ ∀ j, j < last → used j = some i → edgeOn o j = true := by
  unfold opOK at h
  rw [if_neg (by simpa using Nat.ne_of_lt hi)] at h
  simp only [Bool.and_eq_true, List.all_eq_true, List.mem_range, Option.isNone_iff_eq_none] at h
  obtain ⟨⟨h1, -⟩, h2, h3⟩ := h
  refine ⟨h1, ?_⟩
  cases hd : o.dst with
  | none => rw [hd] at h2; cases h2
  | some d =>
    rw [hd] at h2
    simp only [Bool.and_eq_true, decide_eq_true_eq, List.all_eq_true, List.mem_range, Bool.or_eq_true, beq_iff_eq, bne_iff_ne] at h2 h3
    exact ⟨d, rfl, h2.1, fun j hj hne => (h2.2 j hj).resolve_left hne, fun j hj hu => (h3 j hj).resolve_left (fun e => e hu)⟩
theorem opOK_last {l : List Oper} {last n : Nat} {used : Nat → Option Nat} {o : Oper} (h : opOK l last n used last o = true) : o.guard = none ∧ ∀ j, j < last → edgeOn o j = true := by
  unfold opOK at h
  rw [if_pos (by simp)] at h
  simp only [Bool.and_eq_true, List.all_eq_true, List.mem_range, Option.isNone_iff_eq_none] at h
  exact ⟨h.1.1, h.2⟩
theorem opOK_back {l : List Oper} {last n : Nat} {used : Nat → Option Nat} {i : Nat} {o : Oper} (h : opOK l last n used i o = true) : ∀ e ∈ o.after, e.on < i := by
  unfold opOK at h
  simp only [Bool.and_eq_true, Array.all_eq_true_iff_forall_mem, decide_eq_true_eq] at h
  exact h.1.2
theorem edge_listed {l : List Oper} {listed : Array Bool} {i j : Nat} {o : Oper} (ho : l[i]? = some o) (hr : i ∈ Region.ready .any l.toArray listed) (he : edgeOn o j = true) : listed.getD j false = true := by
  obtain ⟨-, -, o', ho', h⟩ := ready_iff.1 hr
  obtain rfl : o = o' := by
    rw [List.getElem?_toArray, ho] at ho'
    injection ho'
  obtain ⟨e, hm, h2⟩ := Array.any_eq_true'.1 he
  rw [Bool.and_eq_true, beq_iff_eq] at h2
  have := h e hm h2.2
  rwa [h2.1] at this
theorem RInv.step {P : Program} {Q : Exit → Act → World → Prop} {p : Plan} {l : List Oper} {last n : Nat} {W : World} {a0 : Act} {v : Nat → Value} {listed : Array Bool} {a : Act} {w : World} {i : Nat} {o : Oper}
    (hok : planOK l last n p.used = true) (hn : n ≤ a0.tmps.size) (hz : listed.size = last + 1) (hi : i < last) (ho : l[i]? = some o) (hr : i ∈ Region.ready .any l.toArray listed)
    (hstab : ∀ j, j < last → ∀ u w w' row, p.fact j u w → w.grownBy w' row → (∀ k, row = some k → p.owns j = true → k ∉ blk u) → (∀ k, row = some k → W.heap.size ≤ k) → p.fact j u w')
    (hop : OpStep P Q p l last W a0 i o) (h : RInv p l last W a0 v listed a w) :
    o.wp P a w (fun a' w' => ∃ v', RInv p l last W a0 v' (listed.setIfInBounds i true) a' w') Q := by
  obtain ⟨o', ho', hoo⟩ := planOK_op hok (show i < last + 1 by omega)
  obtain rfl : o = o' := by rw [ho] at ho'; injection ho'
  obtain ⟨-, d, hd, hdn, hdist, huse⟩ := opOK_dst hoo hi
  have hun : listed.getD i false = false := by
    have := (ready_iff.1 hr).2.1
    rw [Array.getD_eq_getD_getElem?, Array.getElem?_eq_getElem (by omega), Option.getD_some] at this ⊢
    exact this
  have hlive : ∀ j, edgeOn o j = true → (p.used j = none ∨ p.used j = some i) → p.live listed j := fun j he hu =>
    ⟨edge_listed ho hr he, fun k hk => by
      rcases hu with hu | hu
      · rw [hu] at hk; cases hk
      · rw [hu] at hk
        injection hk with hk
        rw [← hk]; exact hun⟩
  have hset : ∀ j, (listed.setIfInBounds i true).getD j false = if j = i then true else listed.getD j false := fun j => getD_set (by omega)
  have hda : d < a.tmps.size := by rw [h.tsize]; exact Nat.lt_of_lt_of_le hdn hn
  refine hop a w v _ ⟨h.below, fun t ht => h.rest t (fun j hj _ => ht j hj), fun j hj he d hd => h.vals j hj (edge_listed ho hr he) d hd, fun j hj he hu => h.facts j hj (hlive j he hu),
    fun j hj he hu => h.bound j hj (hlive j he hu), fun j k hj hk hu hu2 hne => h.apart j k hj hk (hlive j (huse j hj hu) (.inr hu)) (hlive k (huse k hk hu2) (.inr hu2)) hne⟩ ?_
  intro u w' ⟨hf, ⟨row, hg, hrow⟩, hown⟩
  have htook : ∀ b, Took p last i v b → W.heap.size ≤ b ∧ b < w.heap.size := fun b ⟨j, hj, hu, ho2, hb⟩ => h.bound j hj (hlive j (huse j hj hu) (.inr hu)) ho2 b hb
  have hold : ∀ j, j ≠ i → p.live (listed.setIfInBounds i true) j → p.live listed j ∧ p.used j ≠ some i := fun j hne hl =>
    ⟨⟨by have := hl.1; rwa [hset, if_neg hne] at this, fun k hk => by
        have := hl.2 k hk
        rw [hset] at this
        split at this
        · cases this
        · exact this⟩,
      fun e => by
        have := hl.2 i e
        rw [hset, if_pos rfl] at this
        cases this⟩
  have htookne : ∀ b j, j < last → p.live listed j → p.used j ≠ some i → p.owns j = true → Took p last i v b → b ∉ blk (v j) := fun b j hj hl hu ho2 ⟨k, hk, hu2, ho3, hb⟩ =>
    h.apart k j hk hj (hlive k (huse k hk hu2) (.inr hu2)) hl (fun e => hu (e ▸ hu2)) ho3 ho2 b hb
  refine ⟨fun j => if j = i then u else v j, ?_, ?_, ?_, ?_, ?_, ?_, ?_, ?_⟩
  · rw [hd]; exact h.defers
  · rw [hd, ← h.tsize]
    show (a.tmps.setIfInBounds d u).size = _
    simp
  · intro t ht
    have hdt : d ≠ t := fun e => ht i hi (by rw [hset, if_pos rfl]) (by rw [ho]; show o.dst = _; rw [hd, e])
    rw [hd, put_ne hdt]
    exact h.rest t (fun j hj hl => ht j hj (by rw [hset]; split <;> first | rfl | exact hl))
  · exact h.below.grown hg h.below.size (fun k hk => (htook k (hrow k hk)).1)
  · intro j hj hl d2 hd2
    by_cases hji : j = i
    · subst hji
      rw [ho] at hd2
      have e : some d = some d2 := hd.symm.trans hd2
      injection e with e
      subst e
      rw [hd, put_self hda, if_pos rfl]
    · rw [hset, if_neg hji] at hl
      have hne : d ≠ d2 := fun e => hdist j hj hji (by rw [e]; exact hd2)
      rw [hd, put_ne hne, if_neg hji]
      exact h.vals j hj hl d2 hd2
  · intro j hj hl
    by_cases hji : j = i
    · subst hji
      rw [if_pos rfl]; exact hf
    · obtain ⟨h1, h2⟩ := hold j hji hl
      rw [if_neg hji]
      exact hstab j hj _ _ _ row (h.facts j hj h1) hg (fun k hk ho2 => htookne k j hj h1 h2 ho2 (hrow k hk)) (fun k hk => (htook k (hrow k hk)).1)
  · intro j k hj hk hl hl2 hne ho1 ho2 b hb hb2
    by_cases hji : j = i
    · subst hji
      have hkj : k ≠ j := fun e => hne e.symm
      obtain ⟨h1, h2⟩ := hold k hkj hl2
      rw [if_pos rfl] at hb
      rw [if_neg hkj] at hb2
      rcases hown ho1 b hb with h3 | h3
      · have := (h.bound k hk h1 ho2 b hb2).2
        omega
      · exact htookne b k hk h1 h2 ho2 h3 hb2
    · obtain ⟨h1, h2⟩ := hold j hji hl
      rw [if_neg hji] at hb
      by_cases hki : k = i
      · subst hki
        rw [if_pos rfl] at hb2
        rcases hown ho2 b hb2 with h3 | h3
        · have := (h.bound j hj h1 ho1 b hb).2
          omega
        · exact htookne b j hj h1 h2 ho1 h3 hb
      · rw [if_neg hki] at hb2
        exact h.apart j k hj hk h1 (hold k hki hl2).1 hne ho1 ho2 b hb hb2
  · intro j hj hl ho1 b hb
    by_cases hji : j = i
    · subst hji
      rw [if_pos rfl] at hb
      rcases hown ho1 b hb with h3 | h3
      · exact ⟨Nat.le_trans h.below.size h3.1, h3.2⟩
      · exact ⟨(htook b h3).1, Nat.lt_of_lt_of_le (htook b h3).2 hg.size⟩
    · rw [if_neg hji] at hb
      have := h.bound j hj (hold j hji hl).1 ho1 b hb
      exact ⟨this.1, Nat.lt_of_lt_of_le this.2 hg.size⟩
theorem rep_false {n j : Nat} : (Array.replicate n false).getD j false = false := by
  rw [Array.getD_eq_getD_getElem?, Array.getElem?_replicate]
  split <;> rfl
def allPut (l : List Oper) (last : Nat) (a0 : Act) (v : Nat → Value) : Act := ⟨(puts a0.tmps.toList ((List.range last).map fun i => ((l[i]?).bind (·.dst), v i))).toArray, a0.defers⟩
theorem wp_region_inv {P : Program} {id : Nat} {Q : Exit → Act → World → Prop} {a0 : Act} {W : World} {l : List Oper} (p : Plan) (last n : Nat) (hm : P.follows .mixedOrders = true)
    (hok : planOK l last n p.used = true) (hn : n ≤ a0.tmps.size)
    (hstab : ∀ j, j < last → ∀ u w w' row, p.fact j u w → w.grownBy w' row → (∀ k, row = some k → p.owns j = true → k ∉ blk u) → (∀ k, row = some k → W.heap.size ≤ k) → p.fact j u w')
    (hop : ∀ i, i < last → ∀ o, l[i]? = some o → OpStep P Q p l last W a0 i o)
    (hlast : ∀ o, l[last]? = some o → ∀ w v, StepIn p l last W a0 last o (allPut l last a0 v) w v → o.wp P (allPut l last a0 v) w (Q .normal) Q) :
    (Code.region id l.toArray true).wp P Q a0 W := by
  have hlen : l.length = last + 1 := by
    unfold planOK at hok
    rw [Bool.and_eq_true, beq_iff_eq] at hok
    exact hok.1
  refine wp_region_any hm (wpAny_inv (fun listed a w => listed.size = last + 1 ∧ ((listed.getD last false = true → (∀ j, j < last → listed.getD j false = true) ∧ Q .normal a w) ∧ (listed.getD last false = false → ∃ v, RInv p l last W a0 v listed a w))) ?_ ?_ _ _ _ _ (by simp) (by simp) ?_)
  · intro listed a w i hi ⟨hz, h1, h2⟩
    obtain ⟨hil, hun, -⟩ := ready_iff.1 hi
    have hil : i < last + 1 := by simpa [hlen] using hil
    obtain ⟨o, ho, hk⟩ := planOK_op hok hil
    have hgd : o.guard = none := by
      unfold opOK at hk
      simp only [Bool.and_eq_true, Option.isNone_iff_eq_none] at hk
      exact hk.1.1
    have hun' : listed.getD i false = false := by
      rw [Array.getD_eq_getD_getElem?, Array.getElem?_eq_getElem (by omega), Option.getD_some] at hun ⊢
      exact hun
    unfold wpOp
    rw [List.getElem?_toArray, ho]
    show if Region.wanted o _ = true then _ else _
    rw [if_pos (by simp [Region.wanted, hgd])]
    refine .inl ?_
    by_cases hil2 : i = last
    · subst hil2
      obtain ⟨v, hv⟩ := h2 hun'
      have hall : ∀ j, j < i → listed.getD j false = true := fun j hj => edge_listed ho hi ((opOK_last hk).2 j hj)
      have hlive : ∀ j, j < i → (p.used j = none ∨ p.used j = some i) → p.live listed j := fun j hj hu => ⟨hall j hj, fun k hk => by
        rcases hu with hu | hu
        · rw [hu] at hk; cases hk
        · rw [hu] at hk
          injection hk with hk
          rw [← hk]; exact hun'⟩
      have ea : a = allPut l i a0 v := by
        have e := puts_eq (A := a.tmps.toList) ((List.range i).map fun j => ((l[j]?).bind (·.dst), v j)) a0.tmps.toList (by simp [hv.tsize]) (fun q hq d hd => by
          obtain ⟨j, hj, rfl⟩ := List.mem_map.1 hq
          rw [List.mem_range] at hj
          rw [Array.getElem?_toList]
          exact hv.vals j hj (hall j hj) d hd) (fun t ht => by
          rw [Array.getElem?_toList, Array.getElem?_toList]
          exact hv.rest t (fun j hj _ e => ht _ (List.mem_map.2 ⟨j, List.mem_range.2 hj, rfl⟩) e))
        obtain ⟨ts, ds⟩ := a
        have e2 : ds = a0.defers := hv.defers
        unfold allPut
        rw [← e, e2]
      have := hlast o ho w v ⟨hv.below, fun t ht => by rw [← ea]; exact hv.rest t (fun j hj _ => ht j hj), fun j hj he d hd => by rw [← ea]; exact hv.vals j hj (hall j hj) d hd, fun j hj _ hu => hv.facts j hj (hlive j hj hu),
        fun j hj _ hu => hv.bound j hj (hlive j hj hu), fun j k hj hk hu hu2 hne => hv.apart j k hj hk (hlive j hj (.inr hu)) (hlive k hk (.inr hu2)) hne⟩
      rw [← ea] at this
      refine Oper.wp_mono (fun a' w' hq => ⟨by simpa using hz, fun _ => ⟨fun j hj => by rw [getD_set (by omega), if_neg (by omega)]; exact hall j hj, hq⟩, fun e => ?_⟩) this
      rw [getD_set (by omega), if_pos rfl] at e
      cases e
    · have hi2 : i < last := by omega
      have hll : listed.getD last false = false := by
        cases hc : listed.getD last false with
        | false => rfl
        | true =>
          have := (h1 hc).1 i hi2
          rw [this] at hun'
          cases hun'
      obtain ⟨v, hv⟩ := h2 hll
      refine Oper.wp_mono (fun a' w' hq => ⟨by simpa using hz, fun e => ?_, fun _ => hq⟩) (RInv.step hok hn hz hi2 ho hi hstab (hop i hi2 o ho) hv)
      rw [getD_set (by omega), if_neg (fun e => hil2 e.symm), hll] at e
      cases e
  · intro listed a w hr ⟨hz, h1, h2⟩
    have hall : ∀ j, j < last + 1 → listed.getD j false = true := by
      intro j
      induction j using Nat.strongRecOn with
      | ind j ih =>
        intro hj
        cases hc : listed.getD j false with
        | true => rfl
        | false =>
          obtain ⟨o, ho, hk⟩ := planOK_op hok hj
          have : j ∈ Region.ready .any l.toArray listed := ready_iff.2 ⟨by simpa [hlen] using hj, by
            rw [Array.getD_eq_getD_getElem?, Array.getElem?_eq_getElem (by omega), Option.getD_some] at hc ⊢
            exact hc, o, by rw [List.getElem?_toArray]; exact ho, fun e he _ => ih e.on (opOK_back hk e he) (by have := opOK_back hk e he; omega)⟩
          rw [hr] at this
          cases this
    exact (h1 (hall last (by omega))).2
  · refine ⟨by simp [hlen], fun e => ?_, fun _ => ⟨fun _ => undef, rfl, rfl, fun _ _ => rfl, (Below.refl _ _).drew, ?_, ?_, ?_, ?_⟩⟩
    · rw [rep_false] at e; cases e
    · intro i _ e; rw [rep_false] at e; cases e
    · intro i _ e; have := e.1; rw [rep_false] at this; cases this
    · intro i j _ _ e; have := e.1; rw [rep_false] at this; cases this
    · intro i _ e; have := e.1; rw [rep_false] at this; cases this
end Go.Proofs.YtiffhlncnpppoaaGreatDoor
namespace Go.Proofs.YtiffhlncnpppoaaGreatDoor
open Go.RowKit
structure Item (W : World) where
  fact : Value → World → Prop
  owns : Bool
  used : Option Nat
  stab : ∀ u w w' row, fact u w → w.grownBy w' row → (∀ k, row = some k → owns = true → k ∉ blk u) → (∀ k, row = some k → W.heap.size ≤ k) → fact u w'
def planOf {W : World} (its : List (Item W)) (used : List (Option Nat)) : Plan := ⟨fun i u w => match its[i]? with | some it => it.fact u w | none => True, fun i => match its[i]? with | some it => it.owns | none => false, fun i => used.getD i none⟩
theorem planOf_stab {W : World} (its : List (Item W)) (used : List (Option Nat)) (last : Nat) : ∀ j, j < last → ∀ u w w' row, (planOf its used).fact j u w → w.grownBy w' row → (∀ k, row = some k → (planOf its used).owns j = true → k ∉ blk u) → (∀ k, row = some k → W.heap.size ≤ k) → (planOf its used).fact j u w' := by
  intro j _ u w w' row
  unfold planOf
  dsimp only
  cases its[j]? with
  | none => exact fun _ _ _ _ => trivial
  | some it => exact it.stab u w w' row
theorem own_grown {w w' : World} {base : Nat} {e : TypeId} {size n : Nat} {v : Value} {xs : List Value} {row : Option Nat} (h : w.ownsRow base e size v n xs) (hg : w.grownBy w' row) (hne : ∀ k, row = some k → v.ownBlock ≠ some k) : w'.ownsRow base e size v n xs := by
  refine ⟨h.1, ?_⟩
  rcases h.2 with h | ⟨g, cap, cur, hv, hbg, hg2, h1, h2, h3, h4⟩
  · exact .inl h
  · have hlt : g < w.heap.size := by
      rcases Nat.lt_or_ge g w.heap.size with h | h
      · exact h
      · rw [Array.getElem?_eq_none h] at hg2; cases hg2
    refine .inr ⟨g, cap, cur, hv, hbg, (hg.block g hlt (fun e => hne g e.symm (by rw [hv]; rfl))).trans hg2, h1, h2, h3, h4⟩
theorem own_blk {w : World} {base : Nat} {e : TypeId} {size n : Nat} {v : Value} {xs : List Value} (h : w.ownsRow base e size v n xs) : ∀ k, k ∈ blk v ↔ v.ownBlock = some k := by
  intro k
  rcases h.2 with ⟨rfl, _⟩ | ⟨g, cap, cur, rfl, _⟩
  · simp [blk, blkOf, Value.ownBlock]
  · simp [blk, blkOf, Value.ownBlock, eq_comm]
theorem RowOf.grown {W w w' : World} {v : Value} {n : Nat} {L : List NodeD} {row : Option Nat} (h : RowOf W w v n L) (hg : w.grownBy w' row) (hne : ∀ k, row = some k → k ∉ blk v) (hW : ∀ k, row = some k → W.heap.size ≤ k) : RowOf W w' v n L :=
  ⟨own_grown h.own hg (fun k hk e => hne k hk ((own_blk h.own k).2 e)), h.below.grown hg h.below.size hW⟩
def isItem (W : World) (x : Value) : Item W := ⟨fun u _ => u = x, false, none, fun _ _ _ _ h _ _ _ => h⟩
def nilItem (W : World) : Item W := ⟨fun u w => ∃ g, u = .slice (some ⟨g, 0, none⟩) 0 0 ∧ NilOf W w g, true, none, by
  rintro _ w w' row ⟨g, rfl, h⟩ hg hne _
  exact ⟨g, rfl, ⟨own_grown h.own hg (fun k hk e => hne k hk rfl (by
    injection e with e
    subst e
    simp [blk, blkOf]))⟩⟩⟩
def rowItem (W : World) (n : Nat) (L : List NodeD) : Item W := ⟨fun u w => RowOf W w u n L, true, none, fun _ _ _ _ h hg hne hW => h.grown hg (fun k hk => hne k hk rfl) hW⟩
def aggItem (W : World) (n : Nat) (L : List NodeD) (m : Int) : Item W := ⟨fun u w => ∃ v, u = .agg #[v, .int .i64 m] ∧ RowOf W w v n L, true, none, by
  rintro _ w w' row ⟨v, rfl, h⟩ hg hne hW
  refine ⟨v, rfl, h.grown hg (fun k hk hb => hne k hk rfl ?_) hW⟩
  rcases h.own.2 with ⟨rfl, _⟩ | ⟨g, cap, cur, rfl, _⟩
  · simp [blk, blkOf] at hb
  · simpa [blk, blkOf] using hb⟩
def boxItem (W : World) : Item W := ⟨fun u w => ∃ g, u = .pointer (some ⟨g, 0, none⟩) ∧ W.heap.size ≤ g ∧ Box2 w g (.slice none 0 0) (.int .i64 0), true, none, by
  rintro _ w w' row ⟨g, rfl, hW, h⟩ hg hne _
  refine ⟨g, rfl, hW, h.grown hg (fun e => hne g e.symm rfl (by simp [blk, blkOf]))⟩⟩
theorem stepOut_of {W : World} {its : List (Item W)} {used : List (Option Nat)} {last i : Nat} {v : Nat → Value} {w w' : World} {u : Value} {it : Item W} (h : its[i]? = some it) (hf : it.fact u w')
    (hg : ∃ row, w.grownBy w' row ∧ ∀ k, row = some k → Took (planOf its used) last i v k) (ho : it.owns = true → ∀ b ∈ blk u, (w.heap.size ≤ b ∧ b < w'.heap.size) ∨ Took (planOf its used) last i v b) : StepOut (planOf its used) last i v w u w' := by
  refine ⟨?_, hg, ?_⟩
  · unfold planOf
    dsimp only
    rw [h]
    exact hf
  · unfold planOf
    dsimp only
    rw [h]
    exact ho
theorem grownBy_refl (w : World) (row : Option Nat) : w.grownBy w row := ⟨rfl, rfl, rfl, Nat.le_refl _, fun _ _ _ => rfl⟩
theorem grownBy_alloc (w : World) (o : Obj) : w.grownBy (w.alloc o) none := ⟨rfl, rfl, rfl, by simp, fun k hk _ => Below.heap_alloc _ _ _ hk⟩
theorem StepIn.item {W : World} {its : List (Item W)} {used : List (Option Nat)} {l : List Oper} {last : Nat} {a0 : Act} {i : Nat} {o : Oper} {a : Act} {w : World} {v : Nat → Value} (h : StepIn (planOf its used) l last W a0 i o a w v) {j : Nat} {it : Item W} (hj : j < last) (hit : its[j]? = some it)
    (he : edgeOn o j = true) (hu : used.getD j none = none ∨ used.getD j none = some i) : it.fact (v j) w := by
  have := h.facts j hj he hu
  unfold planOf at this
  dsimp only at this
  rwa [hit] at this
theorem RowOf.shape {W V : World} {v : Value} {n : Nat} {L : List NodeD} (h : RowOf W V v n L) : ∃ ad cap, v = .slice ad n cap := by
  rcases h.own.2 with ⟨rfl, rfl⟩ | ⟨g, cap, cur, rfl, _⟩
  · exact ⟨none, 0, rfl⟩
  · exact ⟨_, _, rfl⟩
section
variable {Q : Exit → Act → World → Prop} {W : World} {its : List (Item W)} {used : List (Option Nat)} {l : List Oper} {last : Nat} {a0 : Act} {i : Nat} {pos : String} {after : Array Edge} {ty : TypeId}
theorem st_nil {s : Nat} (hit : its[i]? = some (nilItem W)) : OpStep Tryz.prog Q (planOf its used) l last W a0 i { dst := some s, op := .buildSlice 22 0 #[], type := ty, pos := pos, after := after, guard := none } := by
  intro a w v K h hK
  have hb := Lib.hid h.below
  have hK := Lib.hid hK
  clear h
  go_simp
  refine hK.out _ _ (stepOut_of hit ⟨_, rfl, NilOf.new hb.out rfl⟩ ⟨none, grownBy_alloc _ _, fun k hk => by cases hk⟩ (fun _ b hb2 => .inl ?_))
  have : b = w.heap.size := by simpa [blk, blkOf] using hb2
  subst this
  simp
theorem st_field0 {s f b : Nat} (hit : its[i]? = some (isItem W (.pointer (some ⟨b, 0, none⟩)))) (hf : ∀ j, j < last → (l[j]?).bind (·.dst) ≠ some f) (hfv : a0.tmps[f]? = some (.pointer (some ⟨b, 0, none⟩))) :
    OpStep Tryz.prog Q (planOf its used) l last W a0 i { dst := some s, op := .fieldAddr 24 (.tmp f) 0, type := ty, pos := pos, after := after, guard := none } := by
  intro a w v K h hK
  have e := (h.rest f hf).trans hfv
  have hK := Lib.hid hK
  clear h
  go_simp
  exact hK.out _ _ (stepOut_of hit rfl ⟨none, grownBy_refl _ _, fun k hk => by cases hk⟩ (fun h => by cases h))
theorem st_field1 {s f b : Nat} (hit : its[i]? = some (isItem W (.pointer (some ⟨b, 1, none⟩)))) (hf : ∀ j, j < last → (l[j]?).bind (·.dst) ≠ some f) (hfv : a0.tmps[f]? = some (.pointer (some ⟨b, 0, none⟩))) :
    OpStep Tryz.prog Q (planOf its used) l last W a0 i { dst := some s, op := .fieldAddr 24 (.tmp f) 1, type := ty, pos := pos, after := after, guard := none } := by
  intro a w v K h hK
  have e := (h.rest f hf).trans hfv
  have hK := Lib.hid hK
  clear h
  go_simp
  exact hK.out _ _ (stepOut_of hit rfl ⟨none, grownBy_refl _ _, fun k hk => by cases hk⟩ (fun h => by cases h))
theorem st_loadRow {s s1 j b : Nat} {ad : Option Addr} {len cap : Nat} (hit : its[i]? = some (isItem W (.slice ad len cap))) (hj : j < last) (hjt : its[j]? = some (isItem W (.pointer (some ⟨b, 0, none⟩)))) (hju : used.getD j none = none) (hs : (l[j]?).bind (·.dst) = some s1)
    (he : edgeOn { dst := some s, op := .load 22 (.tmp s1), type := ty, pos := pos, after := after, guard := none } j = true) (hb : b < W.heap.size) (hc : W.cell? ⟨b, 0, none⟩ = some (.slice ad len cap)) :
    OpStep Tryz.prog Q (planOf its used) l last W a0 i { dst := some s, op := .load 22 (.tmp s1), type := ty, pos := pos, after := after, guard := none } := by
  intro a w v K h hK
  have e := h.vals j hj he s1 hs
  have e2 : v j = _ := h.item hj hjt he (.inl hju)
  rw [e2] at e
  have ec := (h.below.cell (p := ⟨b, 0, none⟩) hb).trans hc
  have hK := Lib.hid hK
  clear h e2
  go_simp
  exact hK.out _ _ (stepOut_of hit rfl ⟨none, grownBy_refl _ _, fun k hk => by cases hk⟩ (fun h => by cases h))
theorem st_loadInt {s s1 j b : Nat} {m : Int} (hit : its[i]? = some (isItem W (.int .i64 m))) (hj : j < last) (hjt : its[j]? = some (isItem W (.pointer (some ⟨b, 1, none⟩)))) (hju : used.getD j none = none) (hs : (l[j]?).bind (·.dst) = some s1)
    (he : edgeOn { dst := some s, op := .load 3 (.tmp s1), type := ty, pos := pos, after := after, guard := none } j = true) (hb : b < W.heap.size) (hc : W.cell? ⟨b, 1, none⟩ = some (.int .i64 m)) :
    OpStep Tryz.prog Q (planOf its used) l last W a0 i { dst := some s, op := .load 3 (.tmp s1), type := ty, pos := pos, after := after, guard := none } := by
  intro a w v K h hK
  have e := h.vals j hj he s1 hs
  have e2 : v j = _ := h.item hj hjt he (.inl hju)
  rw [e2] at e
  have ec := (h.below.cell (p := ⟨b, 1, none⟩) hb).trans hc
  have hK := Lib.hid hK
  clear h e2
  go_simp
  exact hK.out _ _ (stepOut_of hit rfl ⟨none, grownBy_refl _ _, fun k hk => by cases hk⟩ (fun h => by cases h))
theorem st_box {s : Nat} (hit : its[i]? = some (boxItem W)) : OpStep Tryz.prog Q (planOf its used) l last W a0 i { dst := some s, op := .alloc 24, type := ty, pos := pos, after := after, guard := none } := by
  intro a w v K h hK
  have hb := Lib.hid h.below
  have hK := Lib.hid hK
  clear h
  go_simp
  refine hK.out _ _ (stepOut_of hit ⟨_, rfl, hb.out.size, Box2.newAt rfl⟩ ⟨none, grownBy_alloc _ _, fun k hk => by cases hk⟩ (fun _ b hb2 => .inl ?_))
  have : b = w.heap.size := by simpa [blk, blkOf] using hb2
  subst this
  simp
theorem st_app1 {s s1 s2 j k : Nat} {ad : Option Addr} {len cap : Nat} {L : List NodeD} (hit : its[i]? = some (rowItem W len L)) (hj : j < last) (hjt : its[j]? = some (nilItem W)) (hju : used.getD j none = some i) (hs : (l[j]?).bind (·.dst) = some s1)
    (hk : k < last) (hkt : its[k]? = some (isItem W (.slice ad len cap))) (hku : used.getD k none = none) (hs2 : (l[k]?).bind (·.dst) = some s2)
    (he : edgeOn { dst := some s, op := .call { callee := .builtin .append, args := #[.tmp s1, .tmp s2], argTypes := #[22, 22] }, type := ty, pos := pos, after := after, guard := none } j = true)
    (he2 : edgeOn { dst := some s, op := .call { callee := .builtin .append, args := #[.tmp s1, .tmp s2], argTypes := #[22, 22] }, type := ty, pos := pos, after := after, guard := none } k = true)
    (hr : NodeRow W ad len cap L) (hl : len ≤ 1000) :
    OpStep Tryz.prog Q (planOf its used) l last W a0 i { dst := some s, op := .call { callee := .builtin .append, args := #[.tmp s1, .tmp s2], argTypes := #[22, 22] }, type := ty, pos := pos, after := after, guard := none } := by
  intro a w v K h hK
  obtain ⟨i0, hi0, hz0, hz1, hz2⟩ := info_parts node_info
  have e := h.vals j hj he s1 hs
  obtain ⟨g, e2, hn⟩ := h.item hj hjt he (.inr hju)
  have f := h.vals k hk he2 s2 hs2
  have f2 : v k = _ := h.item hk hkt he2 (.inl hku)
  have := step_first (W := W) (V := w) (ops := #[]) (P := Tryz.prog) (Q := Q) (K := K) (E := True) (a := a) rfl (.tmp s1) (.tmp s2) 22 (o := { dst := some s, op := .call { callee := .builtin .append, args := #[.tmp s1, .tmp s2], argTypes := #[22, 22] }, type := ty, pos := pos, after := after, guard := none }) rfl i0 _ Tryz.underlying22 hi0 hz0 hz1 hz2 (by rfl) hr hl g
    (by show a.tmps.getD s1 undef = _; rw [Array.getD_eq_getD_getElem?, e, e2]; rfl) h.below hn (by show a.tmps.getD s2 undef = _; rw [Array.getD_eq_getD_getElem?, f, f2]; rfl) (fun u w' h1 h2 h3 => hK u w' (stepOut_of hit h1 ⟨some g, h2, fun k hk => ?_⟩ (fun _ b hb => ?_)))
  · rwa [if_pos (by simp [Region.wanted])] at this
  · injection hk with hk
    subst hk
    exact ⟨j, hj, hju, by unfold planOf; dsimp only; rw [hjt]; rfl, by rw [e2]; simp [blk, blkOf]⟩
  · have hb2 := (own_blk h1.own b).1 hb
    rcases h3 with h3 | h3
    · rw [h3] at hb2
      injection hb2 with hb2
      subst hb2
      exact .inr ⟨j, hj, hju, by unfold planOf; dsimp only; rw [hjt]; rfl, by rw [e2]; simp [blk, blkOf]⟩
    · rw [h3] at hb2
      injection hb2 with hb2
      subst hb2
      exact .inl ⟨Nat.le_refl _, (h1.own.lt _ h3).2⟩
set_option maxRecDepth 100000 in
set_option maxHeartbeats 4000000 in
theorem st_agg {s s1 s2 j k : Nat} {len : Nat} {L : List NodeD} {m : Int} (hit : its[i]? = some (aggItem W len L m)) (hj : j < last) (hjt : its[j]? = some (rowItem W len L)) (hju : used.getD j none = some i) (hs : (l[j]?).bind (·.dst) = some s1)
    (hk : k < last) (hkt : its[k]? = some (isItem W (.int .i64 m))) (hku : used.getD k none = none) (hs2 : (l[k]?).bind (·.dst) = some s2)
    (he : edgeOn { dst := some s, op := .build 24 #[(0, .tmp s1), (1, .tmp s2)], type := ty, pos := pos, after := after, guard := none } j = true)
    (he2 : edgeOn { dst := some s, op := .build 24 #[(0, .tmp s1), (1, .tmp s2)], type := ty, pos := pos, after := after, guard := none } k = true) :
    OpStep Tryz.prog Q (planOf its used) l last W a0 i { dst := some s, op := .build 24 #[(0, .tmp s1), (1, .tmp s2)], type := ty, pos := pos, after := after, guard := none } := by
  intro a w v K h hK
  have e := h.vals j hj he s1 hs
  have hrow : RowOf W w (v j) len L := h.item hj hjt he (.inr hju)
  have f := h.vals k hk he2 s2 hs2
  have f2 : v k = _ := h.item hk hkt he2 (.inl hku)
  rw [f2] at f
  obtain ⟨ua, uc, hu⟩ := hrow.shape
  have hbu : blk (.agg #[.slice ua len uc, .int .i64 m]) = blk (.slice ua len uc) := by
    rfl
  have HU := Lib.hid hu
  have HB := Lib.hid hbu
  have HR := Lib.hid hrow
  rw [hu] at e
  have hK := Lib.hid hK
  clear h f2 hu hrow hbu
  go_simp
  refine hK.out _ _ (stepOut_of hit ⟨_, rfl, HU.out ▸ HR.out⟩ ⟨none, grownBy_refl _ _, fun k hk => by cases hk⟩ (fun _ b hb => .inr ⟨j, hj, hju, by unfold planOf; dsimp only; rw [hjt]; rfl, ?_⟩))
  rw [HU.out, ← HB.out]
  exact hb
end
structure Copied (W V : World) (g gr len cap : Nat) (m : Int) (L : List NodeD) : Prop where
  box : Box2 V g (.slice (some ⟨gr, 0, none⟩) len cap) (.int .i64 m)
  row : RowOf W V (.slice (some ⟨gr, 0, none⟩) len cap) len L
  ne : gr ≠ g
  ge : W.heap.size ≤ g
theorem Copied.wrow {W V : World} {g gr len cap : Nat} {m : Int} {L : List NodeD} (h : Copied W V g gr len cap m L) (hl : L.length = len) (hok : ∀ x ∈ L, NodeOk W x) : WRow V gr len cap L := by
  obtain ⟨a, cap', he, hr, _⟩ := SRow.of_own (L := L) (fun x _ => encN_len x) hl h.row.own
  injection he with h1 h2 h3
  subst h1; subst h3
  have hlt := h.row.own.lt gr rfl
  exact ⟨⟨hr, fun x hx => (hok x hx).below h.row.below, fun h => by cases h⟩, hlt.2, fun o => own_free h.row.own o, fun x hx => (hok x hx).away hlt.1⟩
set_option maxHeartbeats 4000000 in
set_option maxRecDepth 100000 in
theorem st_store {Q : Exit → Act → World → Prop} {W : World} {its : List (Item W)} {used : List (Option Nat)} {l : List Oper} {last : Nat} {a0 : Act} {pos : String} {after : Array Edge} {ty : TypeId} {s1 s2 j k len : Nat} {m : Int} {L : List NodeD} {a : Act} {w : World} {v : Nat → Value}
    (h : StepIn (planOf its used) l last W a0 last { dst := none, op := .store 24 (.tmp s1) (.tmp s2), type := ty, pos := pos, after := after, guard := none } a w v)
    (hj : j < last) (hjt : its[j]? = some (boxItem W)) (hju : used.getD j none = some last) (hs : (l[j]?).bind (·.dst) = some s1) (he : edgeOn { dst := none, op := .store 24 (.tmp s1) (.tmp s2), type := ty, pos := pos, after := after, guard := none } j = true)
    (hk : k < last) (hkt : its[k]? = some (aggItem W len L m)) (hku : used.getD k none = some last) (hs2 : (l[k]?).bind (·.dst) = some s2) (he2 : edgeOn { dst := none, op := .store 24 (.tmp s1) (.tmp s2), type := ty, pos := pos, after := after, guard := none } k = true) (hjk : j ≠ k) (hlen : 0 < len)
    (hQ : ∀ g gr cap w', v j = .pointer (some ⟨g, 0, none⟩) → v k = .agg #[.slice (some ⟨gr, 0, none⟩) len cap, .int .i64 m] → Copied W w' g gr len cap m L → Q .normal a w') :
    Oper.wp Tryz.prog { dst := none, op := .store 24 (.tmp s1) (.tmp s2), type := ty, pos := pos, after := after, guard := none } a w (Q .normal) Q := by
  have e := h.vals j hj he s1 hs
  obtain ⟨g, e2, hg, hbox⟩ := h.item hj hjt he (.inr hju)
  have f := h.vals k hk he2 s2 hs2
  obtain ⟨u, f2, hrow⟩ := h.item hk hkt he2 (.inr hku)
  obtain ⟨gr, cap, rfl⟩ : ∃ gr cap, u = .slice (some ⟨gr, 0, none⟩) len cap := by
    rcases hrow.own.2 with ⟨_, h0⟩ | ⟨g', cap', _, h1, _⟩
    · omega
    · exact ⟨g', cap', h1⟩
  have hne : gr ≠ g := by
    intro e3
    refine h.apart j k hj hk hju hku hjk ?_ ?_ g ?_ ?_
    · unfold planOf; dsimp only; rw [hjt]; rfl
    · unfold planOf; dsimp only; rw [hkt]; rfl
    · rw [e2]; simp [blk, blkOf]
    · rw [f2, e3]; simp [blk, blkOf]
  have HQ := Lib.hid (fun w' => hQ g gr cap w' e2 f2)
  rw [e2] at e
  rw [f2] at f
  have HR := Lib.hid hrow
  have HG := Lib.hid hg
  have HN := Lib.hid hne
  obtain ⟨hlt, hc0, hc1, hf0, hf1⟩ := hbox
  clear h hQ hju hku hjt hkt he he2 hs hs2 hrow e2 f2 hg hne
  have HLT := Lib.hid hlt
  have HC0 := Lib.hid hc0
  have HC1 := Lib.hid hc1
  have HF0 := Lib.hid hf0
  have HF1 := Lib.hid hf1
  clear hlt
  go_simp
  have hne2 : (Value.slice (some ⟨gr, 0, none⟩) len cap).ownBlock ≠ some g := fun e => HN.out (by injection e)
  exact HQ.out _ ⟨Box2.set ⟨HLT.out, HC0.out, HC1.out, HF0.out, HF1.out⟩ _ _, ⟨own_boxCell (own_boxCell HR.out.own hne2 _) hne2 _, (HR.out.below.setCell (p := ⟨g, 0, none⟩) HG.out _).setCell (p := ⟨g, 1, none⟩) HG.out _⟩, HN.out, HG.out⟩
def copy1Ops (f s0 s1 s2 s3 s4 s5 s6 s7 : Nat) (pos : String) : List Oper := [
  { dst := some s0, op := .buildSlice 22 0 #[], type := 22, pos := pos, after := #[], guard := none },
  { dst := some s1, op := .fieldAddr 24 (.tmp f) 0, type := 0, pos := pos, after := #[], guard := none },
  { dst := some s2, op := .load 22 (.tmp s1), type := 22, pos := pos, after := #[{ on := 1, ground := .data }], guard := none },
  { dst := some s3, op := .call { callee := .builtin .append, args := #[.tmp s0, .tmp s2], argTypes := #[22, 22] }, type := 22, pos := pos, after := #[{ on := 0, ground := .data }, { on := 2, ground := .data }], guard := none },
  { dst := some s4, op := .fieldAddr 24 (.tmp f) 1, type := 0, pos := pos, after := #[], guard := none },
  { dst := some s5, op := .load 3 (.tmp s4), type := 3, pos := pos, after := #[{ on := 4, ground := .data }], guard := none },
  { dst := some s6, op := .build 24 #[(0, .tmp s3), (1, .tmp s5)], type := 24, pos := pos, after := #[{ on := 3, ground := .data }, { on := 5, ground := .data }], guard := none },
  { dst := some s7, op := .alloc 24, type := 0, pos := pos, after := #[], guard := none },
  { dst := none, op := .store 24 (.tmp s7) (.tmp s6), type := 0, pos := pos, after := #[{ on := 7, ground := .data }, { on := 6, ground := .data }, { on := 3, ground := .chain }, { on := 0, ground := .phase }, { on := 1, ground := .phase }, { on := 2, ground := .phase }, { on := 3, ground := .phase }, { on := 4, ground := .phase }, { on := 5, ground := .phase }, { on := 6, ground := .phase }, { on := 7, ground := .phase }], guard := none }]
set_option maxHeartbeats 4000000 in
set_option maxRecDepth 100000 in
theorem copy1_region {id : Nat} {Q : Exit → Act → World → Prop} {a0 : Act} {W : World} (f s0 s1 s2 s3 s4 s5 s6 s7 n : Nat) (pos : String)
    (hok : planOK (copy1Ops f s0 s1 s2 s3 s4 s5 s6 s7 pos) 8 n (fun i => [some 3, none, none, some 6, none, none, some 8, some 8].getD i none) = true) (hn : n ≤ a0.tmps.size)
    (hf : ∀ j, j < 8 → ((copy1Ops f s0 s1 s2 s3 s4 s5 s6 s7 pos)[j]?).bind (·.dst) ≠ some f) (b : Nat) (ad : Option Addr) (len cap0 : Nat) (m : Int) (L : List NodeD) (hfv : a0.tmps[f]? = some (.pointer (some ⟨b, 0, none⟩))) (hb : b < W.heap.size) (hc0 : W.cell? ⟨b, 0, none⟩ = some (.slice ad len cap0)) (hc1 : W.cell? ⟨b, 1, none⟩ = some (.int .i64 m)) (hr : NodeRow W ad len cap0 L) (hl : 0 < len ∧ len ≤ 1000)
    (hQ : ∀ (v : Nat → Value) g gr cap w', Copied W w' g gr len cap m L → Q .normal ⟨(puts a0.tmps.toList [(some s0, v 0), (some s1, v 1), (some s2, v 2), (some s3, v 3), (some s4, v 4), (some s5, v 5), (some s6, .agg #[.slice (some ⟨gr, 0, none⟩) len cap, .int .i64 m]), (some s7, .pointer (some ⟨g, 0, none⟩))]).toArray, a0.defers⟩ w') : (Code.region id (copy1Ops f s0 s1 s2 s3 s4 s5 s6 s7 pos).toArray true).wp Tryz.prog Q a0 W := by
  refine wp_region_inv (planOf [nilItem W, isItem W (.pointer (some ⟨b, 0, none⟩)), isItem W (.slice ad len cap0), rowItem W len L, isItem W (.pointer (some ⟨b, 1, none⟩)), isItem W (.int .i64 m), aggItem W len L m, boxItem W] [some 3, none, none, some 6, none, none, some 8, some 8]) 8 n (by kernel_rfl) hok hn (planOf_stab _ _ _) ?_ ?_
  · intro i hi o ho
    match i, hi with
    | 0, _ => cases ho; exact st_nil rfl
    | 1, _ => cases ho; exact st_field0 rfl hf hfv
    | 2, _ => cases ho; exact st_loadRow rfl (j := 1) (by decide) rfl rfl rfl (by simp [edgeOn, Region.binds]) hb hc0
    | 3, _ => cases ho; exact st_app1 rfl (j := 0) (k := 2) (by decide) rfl rfl rfl (by decide) rfl rfl rfl (by simp [edgeOn, Region.binds]) (by simp [edgeOn, Region.binds]) hr hl.2
    | 4, _ => cases ho; exact st_field1 rfl hf hfv
    | 5, _ => cases ho; exact st_loadInt rfl (j := 4) (by decide) rfl rfl rfl (by simp [edgeOn, Region.binds]) hb hc1
    | 6, _ => cases ho; exact st_agg rfl (j := 3) (k := 5) (by decide) rfl rfl rfl (by decide) rfl rfl rfl (by simp [edgeOn, Region.binds]) (by simp [edgeOn, Region.binds])
    | 7, _ => cases ho; exact st_box rfl
  · intro o ho w v h
    cases ho
    refine st_store h (j := 7) (k := 6) (by decide) rfl rfl rfl (by simp [edgeOn, Region.binds]) (by decide) rfl rfl rfl (by simp [edgeOn, Region.binds]) (by decide) (by omega) ?_
    intro g gr cap w' e1 e2 hc
    have := hQ v g gr cap w' hc
    show Q .normal ⟨(puts a0.tmps.toList [(some s0, v 0), (some s1, v 1), (some s2, v 2), (some s3, v 3), (some s4, v 4), (some s5, v 5), (some s6, v 6), (some s7, v 7)]).toArray, a0.defers⟩ w'
    rw [e1, e2]
    exact this
end Go.Proofs.YtiffhlncnpppoaaGreatDoor
namespace Go.Proofs.YtiffhlncnpppoaaGreatDoor
open Go.RowKit
attribute [local go_sem ↓] Go.wp_at_zero Go.wp_at_succ
end Go.Proofs.YtiffhlncnpppoaaGreatDoor
namespace Go.Proofs.YtiffhlncnpppoaaGreatDoor
open Go.RowKit
def WithPost (w : World) (len : Nat) (m : Int) (M : List NodeD) (e : Ending) (w' : World) : Prop := ∃ g cap, e = .returned (forV (some ⟨g, 0, none⟩) len cap m) ∧ NodeRow w' (some ⟨g, 0, none⟩) len cap M ∧ Below w.heap.size w w' ∧ w.heap.size ≤ g
set_option maxHeartbeats 8000000 in
set_option maxRecDepth 100000 in
theorem refwith_any (a : Option Addr) (len cap : Nat) (m : Int) (L : List NodeD) (n : Nat) (x : NodeD) (w : World) (h : NodeRow w a len cap L) (hl : len ≤ 1000) (hn : n < len) (hx : NodeOk w x) :
    Calls Tryz.prog 127 #[forV a len cap m, .int .i64 n, nodVal x] w (WithPost w len m (L.set n x)) := by
  have HL := Lib.hid h.hlen
  have H0 := Lib.hid h
  have HX := Lib.hid hx
  obtain ⟨w0, hw0, hsz, ST⟩ : ∃ w0, ((w.alloc (forB a len cap m)).alloc (nodB x)).alloc zeroFB = w0 ∧ w.heap.size + 3 = w0.heap.size ∧ MakeSt w w0 a len cap m L x := ⟨_, rfl, by simp, MakeSt.start h hx⟩
  have ST := Lib.hid ST
  have HW := Lib.hid hw0
  have HSZ := Lib.hid hsz
  clear h hx hw0 hsz
  have z0 := ST.out.box.c0
  have z1 := ST.out.box.c1
  go_enter Tryz.func127, Tryz.ntmps127
  go_upto_region 1 with fail
  rw [HW.out]
  refine copy1_region 3 8 9 10 11 12 13 14 7 21 _ (by kernel_rfl) (by exact Nat.le_refl _) (by decide) w.heap.size a len cap m L rfl ST.out.box.lt z0 z1 ST.out.box.row (by omega) ?_
  intro v g gr cap2 w6 hc
  have hrow := hc.wrow HL.out (fun z hz => (H0.out.ok z hz).below ST.out.box.below)
  have WR := Lib.hid hrow
  have G0 := hc.box.c0
  have G1 := hc.box.c1
  have HCB := Lib.hid hc.row.below
  have HNE := Lib.hid hc.ne
  have HGE := Lib.hid (show w0.heap.size ≤ gr from (hc.row.own.lt gr rfl).1)
  have HGG := Lib.hid hc.ge
  have HXB := Lib.hid hc.box
  have ST2 := Lib.hid (ST.out.keep hc.row.below)
  obtain ⟨-, x0, x1, x2, x3, x4, x5, x6, x7, x8, x9, -⟩ := ST2.out.node
  obtain ⟨y, hy⟩ : ∃ y, L[n]? = some y := ⟨_, List.getElem?_eq_getElem (by rw [HL.out]; exact hn)⟩
  have hat := (WR.out.at_ hy).1
  obtain ⟨q0, q1, q2, q3, q4, q5, q6, q7, q8, q9⟩ := hat
  have hfr := WR.out.free
  simp only [puts, List.set_cons_succ, List.set_cons_zero]
  generalize v 0 = v0, v 1 = v1, v 2 = v2, v 3 = v3, v 4 = v4, v 5 = v5
  have hl64 : (len : Int) ≤ 9223372036854775807 := by omega
  clear hc hrow hy z0 z1
  go_upto_region 3 with fail
  obtain ⟨w7, hw7⟩ : ∃ w7, setRow w6 gr (n * 10) (encN x) = w7 := ⟨_, rfl⟩
  show Code.wp Tryz.prog _ _ _ (setRow w6 gr (n * 10) (encN x))
  rw [hw7]
  have hgr : w.heap.size + 2 < gr := by have := HGE.out; have := HSZ.out; omega
  have hg : w.heap.size + 2 < g := by have := HGG.out; have := HSZ.out; omega
  have W7 := Lib.hid (show WRow w7 gr len cap2 (L.set n x) by rw [← hw7]; exact WR.out.setN hn (HX.out.below ST2.out.box.below) (HX.out.away (by omega)))
  have HB7 := Lib.hid (show Below w.heap.size w w7 by rw [← hw7]; exact setRow_below _ _ _ _ _ _ (by omega) ST2.out.box.below)
  have R2 := ST2.out.res
  have cs : ∀ b o, b ≠ gr → w7.cell? ⟨b, o, none⟩ = w6.cell? ⟨b, o, none⟩ := fun b o hne => by rw [← hw7]; exact setRow_box _ _ _ _ _ _ hne
  have fs : ∀ b o, w7.frozen? ⟨b, o, none⟩ = w6.frozen? ⟨b, o, none⟩ := fun b o => by rw [← hw7]; exact setRow_frozen _ _ _ _ _
  have G0 := (cs g 0 (fun e => HNE.out e.symm)).trans G0
  have G1 := (cs g 1 (fun e => HNE.out e.symm)).trans G1
  have d0 : w7.cell? ⟨w.heap.size + 1 + 1, 0, none⟩ = _ := (cs (w.heap.size + 2) 0 (by omega)).trans R2.c0
  have d1 : w7.cell? ⟨w.heap.size + 1 + 1, 1, none⟩ = _ := (cs (w.heap.size + 2) 1 (by omega)).trans R2.c1
  have f0 : w7.frozen? ⟨w.heap.size + 1 + 1, 0, none⟩ = _ := (fs (w.heap.size + 2) 0).trans R2.f0
  have f1 : w7.frozen? ⟨w.heap.size + 1 + 1, 1, none⟩ = _ := (fs (w.heap.size + 2) 1).trans R2.f1
  clear x0 x1 x2 x3 x4 x5 x6 x7 x8 x9 q0 q1 q2 q3 q4 q5 q6 q7 q8 q9 hfr R2 cs fs hw7
  go_wp2
  have q0 : ((w7.setCell ⟨w.heap.size + 1 + 1, 0, none⟩ (.slice (some ⟨gr, 0, none⟩) len cap2)).setCell ⟨w.heap.size + 1 + 1, 1, none⟩ (.int .i64 m)).cell? ⟨w.heap.size + 1 + 1, 0, none⟩ = some (.slice (some ⟨gr, 0, none⟩) len cap2) := (World.cell?_setCell_other _ _ _ _ (fun e => by injection e with _ e; omega)).trans (World.cell?_setCell_same _ _ _ d0)
  have q1 : ((w7.setCell ⟨w.heap.size + 1 + 1, 0, none⟩ (.slice (some ⟨gr, 0, none⟩) len cap2)).setCell ⟨w.heap.size + 1 + 1, 1, none⟩ (.int .i64 m)).cell? ⟨w.heap.size + 1 + 1, 1, none⟩ = some (.int .i64 m) := World.cell?_setCell_same _ _ _ ((World.cell?_setCell_other _ _ _ _ (fun e => by injection e with _ e; omega)).trans d1)
  have ha : ∀ z ∈ L.set n x, NodeAway (w.heap.size + 1 + 1) z := fun z hz => by
    rcases List.mem_or_eq_of_mem_set hz with hz | rfl
    · exact (H0.out.ok z hz).away (by omega)
    · exact HX.out.away (by omega)
  refine bodyPost_ret (v := forV (some ⟨gr, 0, none⟩) len cap2 m) ?_ rfl ⟨gr, cap2, rfl, ((W7.out.other (b := w.heap.size + 1 + 1) (by omega) ha 0 _).other (b := w.heap.size + 1 + 1) (by omega) ha 1 _).row, (HB7.out.setCell (p := ⟨w.heap.size + 1 + 1, 0, none⟩) (by show w.heap.size ≤ w.heap.size + 1 + 1; omega) _).setCell (p := ⟨w.heap.size + 1 + 1, 1, none⟩) (by show w.heap.size ≤ w.heap.size + 1 + 1; omega) _, by omega⟩
  simp [results, Tryz.results127, go_sem, q0, q1]
end Go.Proofs.YtiffhlncnpppoaaGreatDoor
namespace Go.Proofs.YtiffhlncnpppoaaGreatDoor
open Go.RowKit
structure Box3 (W : World) (b : Nat) (x y z : Value) : Prop where
  lt : b < W.heap.size
  c0 : W.cell? ⟨b, 0, none⟩ = some x
  c1 : W.cell? ⟨b, 1, none⟩ = some y
  c2 : W.cell? ⟨b, 2, none⟩ = some z
  f : ∀ o, W.frozen? ⟨b, o, none⟩ = false
theorem Box3.new (W : World) (x y z : Value) (t : TypeId) : Box3 (W.alloc (.cells #[x, y, z] t)) W.heap.size x y z :=
  ⟨by simp, cell_of_row _ W.heap.size 0 _ t (0, 0) (heap_alloc_new W _), cell_of_row _ W.heap.size 1 _ t (0, 0) (heap_alloc_new W _), cell_of_row _ W.heap.size 2 _ t (0, 0) (heap_alloc_new W _), fun o => row_free (heap_alloc_new W _) o⟩
theorem Box3.keep {W W2 : World} {b : Nat} {x y z : Value} (h : Box3 W b x y z) (hb : Below W.heap.size W W2) : Box3 W2 b x y z :=
  ⟨Nat.lt_of_lt_of_le h.lt hb.size, (hb.cell (p := ⟨b, 0, none⟩) h.lt).trans h.c0, (hb.cell (p := ⟨b, 1, none⟩) h.lt).trans h.c1, (hb.cell (p := ⟨b, 2, none⟩) h.lt).trans h.c2, fun o => (hb.frozen (p := ⟨b, o, none⟩) h.lt).trans (h.f o)⟩
structure VBox (W : World) (b : Nat) (vs : List Value) : Prop where
  lt : b < W.heap.size
  c : ∀ j u, vs[j]? = some u → W.cell? ⟨b, j, none⟩ = some u
  f : ∀ o, W.frozen? ⟨b, o, none⟩ = false
theorem VBox.new (W : World) (cs : Array Value) (t : TypeId) : VBox (W.alloc (.cells cs t)) W.heap.size cs.toList :=
  ⟨by simp, fun j u hu => by rw [cell_of_row _ W.heap.size j _ t (0, 0) (heap_alloc_new W _)]; simpa using hu, fun o => row_free (heap_alloc_new W _) o⟩
theorem VBox.keep {W W2 : World} {b : Nat} {vs : List Value} (h : VBox W b vs) (hb : Below W.heap.size W W2) : VBox W2 b vs :=
  ⟨Nat.lt_of_lt_of_le h.lt hb.size, fun j u hu => (hb.cell (p := ⟨b, j, none⟩) h.lt).trans (h.c j u hu), fun o => (hb.frozen (p := ⟨b, o, none⟩) h.lt).trans (h.f o)⟩
theorem VBox.set {W : World} {b : Nat} {vs : List Value} (h : VBox W b vs) {j : Nat} (hj : j < vs.length) (u : Value) : VBox (W.setCell ⟨b, j, none⟩ u) b (vs.set j u) := by
  refine ⟨by simpa [World.setCell] using h.lt, fun i z hz => ?_, fun o => by rw [World.frozen?_setCell]; exact h.f o⟩
  by_cases e : i = j
  · subst e
    rw [List.getElem?_set_self hj] at hz
    rw [← Option.some.inj hz]
    exact World.cell?_setCell_same _ _ _ (h.c i _ (List.getElem?_eq_getElem hj))
  · rw [List.getElem?_set_ne (fun e2 => e e2.symm)] at hz
    rw [World.cell?_setCell_other _ _ _ _ (fun e' => by injection e' with _ e'; omega)]
    exact h.c i z hz
theorem VBox.other {W : World} {b q : Nat} {vs : List Value} (h : VBox W b vs) (hq : b ≠ q) (o : Nat) (u : Value) : VBox (W.setCell ⟨q, o, none⟩ u) b vs :=
  ⟨by simpa [World.setCell] using h.lt, fun j z hz => (World.cell?_setCell_other _ _ _ _ (fun e => by injection e with e _; exact hq e.symm)).trans (h.c j z hz), fun o => by rw [World.frozen?_setCell]; exact h.f o⟩
abbrev stZ : Obj := .cells #[.slice none 0 0, .int .i64 0, .slice none 0 0] 34
abbrev stV (a : Option Addr) (len cap : Nat) (m : Int) (va : Option Addr) (vl vc : Nat) : Value := .agg #[.slice a len cap, .int .i64 m, .slice va vl vc]
def AwayF (k : Nat) (a : Option Addr) (M : List NodeD) : Prop := (∀ b off, a = some ⟨b, off, none⟩ → b ≠ k) ∧ ∀ z ∈ M, NodeAway k z
def StPost (w : World) (m : Int) (P : Nat → Prop) (F : List Core) (N : List NoteD) (e : Ending) (w' : World) : Prop :=
  ∃ a len cap M va vl vc, e = .returned (stV a len cap m va vl vc) ∧ NodeRow w' a len cap M ∧ coreL M = F ∧ NoteRow w' va vl vc N ∧ Below w.heap.size w w' ∧ ∀ k, k < w.heap.size → P k → AwayF k a M ∧ ∀ b off, va = some ⟨b, off, none⟩ → b ≠ k
theorem stored3 {W : World} {b : Nat} {x y z : Value} (h : Box3 W b x y z) (u v t : Value) : (((W.setCell ⟨b, 0, none⟩ u).setCell ⟨b, 1, none⟩ v).setCell ⟨b, 2, none⟩ t).cell? ⟨b, 0, none⟩ = some u ∧ (((W.setCell ⟨b, 0, none⟩ u).setCell ⟨b, 1, none⟩ v).setCell ⟨b, 2, none⟩ t).cell? ⟨b, 1, none⟩ = some v ∧ (((W.setCell ⟨b, 0, none⟩ u).setCell ⟨b, 1, none⟩ v).setCell ⟨b, 2, none⟩ t).cell? ⟨b, 2, none⟩ = some t := by
  have n1 : ∀ (i j : Nat), i ≠ j → (⟨b, i, none⟩ : Addr) ≠ ⟨b, j, none⟩ := fun i j hij e => by injection e with _ e; exact hij e
  refine ⟨?_, ?_, ?_⟩
  · rw [World.cell?_setCell_other _ _ _ _ (by simp), World.cell?_setCell_other _ _ _ _ (by simp)]
    exact World.cell?_setCell_same _ _ _ h.c0
  · rw [World.cell?_setCell_other _ _ _ _ (by simp)]
    exact World.cell?_setCell_same _ _ _ ((World.cell?_setCell_other _ _ _ _ (by simp)).trans h.c1)
  · exact World.cell?_setCell_same _ _ _ ((World.cell?_setCell_other _ _ _ _ (by simp)).trans ((World.cell?_setCell_other _ _ _ _ (by simp)).trans h.c2))
theorem far3 {W : World} {a va : Option Addr} {len cap vl vc q : Nat} {M : List NodeD} {N : List NoteD} (h : NodeRow W a len cap M) (hN : NoteRow W va vl vc N) (ha : AwayF q a M) (hv : ∀ b off, va = some ⟨b, off, none⟩ → b ≠ q) (u v t : Value) :
    NodeRow (((W.setCell ⟨q, 0, none⟩ u).setCell ⟨q, 1, none⟩ v).setCell ⟨q, 2, none⟩ t) a len cap M ∧ NoteRow (((W.setCell ⟨q, 0, none⟩ u).setCell ⟨q, 1, none⟩ v).setCell ⟨q, 2, none⟩ t) va vl vc N :=
  ⟨((h.far ha.1 ha.2 0 u).far ha.1 ha.2 1 v).far ha.1 ha.2 2 t, ((hN.far hv 0 u).far hv 1 v).far hv 2 t⟩
def StEnd (w : World) (m : Int) (P : Nat → Prop) (F : List Core) (N : List NoteD) (wx : World) : Prop :=
  ∃ a len cap M va vl vc, (wx.cell? ⟨w.heap.size + 1, 0, none⟩ = some (.slice a len cap) ∧ wx.cell? ⟨w.heap.size + 1, 1, none⟩ = some (.int .i64 m) ∧ wx.cell? ⟨w.heap.size + 1, 2, none⟩ = some (.slice va vl vc)) ∧ NodeRow wx a len cap M ∧ coreL M = F ∧ NoteRow wx va vl vc N ∧ Below w.heap.size w wx ∧ ∀ k, k < w.heap.size → P k → AwayF k a M ∧ ∀ b off, va = some ⟨b, off, none⟩ → b ≠ k
theorem st_end {w W : World} {m : Int} {P : Nat → Prop} {F : List Core} {N : List NoteD} {a va : Option Addr} {len cap vl vc : Nat} {M : List NodeD} {x y z : Value} (RB : Box3 W (w.heap.size + 1) x y z) (R : NodeRow W a len cap M) (NR : NoteRow W va vl vc N) (hB : Below w.heap.size w W) (hc : coreL M = F)
    (haw : AwayF (w.heap.size + 1) a M) (hva : ∀ b off, va = some ⟨b, off, none⟩ → b ≠ w.heap.size + 1) (hP : ∀ k, k < w.heap.size → P k → AwayF k a M ∧ ∀ b off, va = some ⟨b, off, none⟩ → b ≠ k) :
    StEnd w m P F N (((W.setCell ⟨w.heap.size + 1, 0, none⟩ (.slice a len cap)).setCell ⟨w.heap.size + 1, 1, none⟩ (.int .i64 m)).setCell ⟨w.heap.size + 1, 2, none⟩ (.slice va vl vc)) := by
  obtain ⟨R9, N9⟩ := far3 (q := w.heap.size + 1) R NR haw hva (.slice a len cap) (.int .i64 m) (.slice va vl vc)
  exact ⟨a, len, cap, M, va, vl, vc, stored3 RB _ _ _, R9, hc, N9, ((hB.setCell (p := ⟨w.heap.size + 1, 0, none⟩) (by show w.heap.size ≤ w.heap.size + 1; omega) _).setCell (p := ⟨w.heap.size + 1, 1, none⟩) (by show w.heap.size ≤ w.heap.size + 1; omega) _).setCell (p := ⟨w.heap.size + 1, 2, none⟩) (by show w.heap.size ≤ w.heap.size + 1; omega) _, hP⟩
set_option maxHeartbeats 16000000 in
set_option maxRecDepth 100000 in
theorem refattrs_any (a : Option Addr) (len cap : Nat) (m : Int) (L : List NodeD) (n : Nat) (x : NodeD) (s : ByteArray) (al : Option Addr) (ln lc : Nat) (l : AL) (w : World) (h : NodeRow w a len cap L) (hl : len ≤ 1000) (hx : L[n]? = some x) (hs : s.size ≤ 1000) (hal : AttrRow w al ln lc l) :
    Calls Tryz.prog 80 #[forV a len cap m, .int .i64 n, .string s, .slice al ln lc] w (StPost w m (fun k => AwayF k a L ∧ ∀ b off, al = some ⟨b, off, none⟩ → 0 < ln → b ≠ k) (chgF (coreL L) n l) [chgN n s.toList x.core.attrs l]) := by
  have hn : n < len := by rw [← h.hlen]; exact (List.getElem?_eq_some_iff.1 hx).1
  have hm := List.mem_of_getElem? hx
  obtain ⟨b, off, x', hab, hb, hx', hat, hok⟩ := h.get hn
  obtain rfl : x = x' := Option.some.inj (hx.symm.trans hx')
  subst hab
  have H0 := Lib.hid h
  have HOK := Lib.hid hok
  have HX := Lib.hid hx
  have HAL := Lib.hid hal
  have HSZ := Lib.hid hs
  have CSM : Hid (∀ W, Calls Tryz.prog 122 #[.string s] W fun e w' => e = .returned (.string (ofL (smallL s.toList))) ∧ Below W.heap.size W w') := Lib.hid (fun W => refsmall_any s W (by omega))
  have CG1 : Hid (∀ W, Below w.heap.size w W → Calls Tryz.prog 83 #[.slice x.aA x.aN x.aC, .string s] W fun e w' => e = .returned (.tuple #[.string (valA x.core.attrs s.toList), .bool (hasA x.core.attrs s.toList)]) ∧ Below W.heap.size W w') := Lib.hid (fun W hb => refget_any _ _ _ _ s W (hok.attrs.below hb) (by unfold maxLen; omega))
  have CG2 : Hid (∀ W, Below w.heap.size w W → Calls Tryz.prog 83 #[.slice al ln lc, .string s] W fun e w' => e = .returned (.tuple #[.string (valA l s.toList), .bool (hasA l s.toList)]) ∧ Below W.heap.size W w') := Lib.hid (fun W hb => refget_any _ _ _ _ s W (hal.below hb) (by unfold maxLen; omega))
  obtain ⟨w0, hw0, BX, RB, HB0⟩ : ∃ w0, (w.alloc (forB (some ⟨b, off, none⟩) len cap m)).alloc stZ = w0 ∧ Hid (Box w w0 w.heap.size (some ⟨b, off, none⟩) len cap m L (coreL L)) ∧ Hid (Box3 w0 (w.heap.size + 1) (.slice none 0 0) (.int .i64 0) (.slice none 0 0)) ∧ Hid (Below w.heap.size w w0) := by
    refine ⟨_, rfl, Lib.hid ((Box.start h).keep (below_box _ _)), Lib.hid ?_, Lib.hid ((below_box _ _).trans ((below_box _ _).mono (by simp)))⟩
    have := Box3.new (w.alloc (forB (some ⟨b, off, none⟩) len cap m)) (.slice none 0 0) (.int .i64 0) (.slice none 0 0) 34
    rwa [show (w.alloc (forB (some ⟨b, off, none⟩) len cap m)).heap.size = w.heap.size + 1 by simp] at this
  have HW0 := Lib.hid hw0
  have NA : Hid (NodeAt w0 b (off + n * 10) x) := Lib.hid (by
    obtain ⟨q0, q1, q2, q3, q4, q5, q6, q7, q8, q9⟩ := hat
    have k : ∀ o, w0.cell? ⟨b, o, none⟩ = w.cell? ⟨b, o, none⟩ := fun o => HB0.out.cell (p := ⟨b, o, none⟩) hb
    exact ⟨(k _).trans q0, (k _).trans q1, (k _).trans q2, (k _).trans q3, (k _).trans q4, (k _).trans q5, (k _).trans q6, (k _).trans q7, (k _).trans q8, (k _).trans q9⟩)
  obtain ⟨q0, q1, q2, q3, q4, q5, q6, q7, q8, q9⟩ := NA.out
  have z0 := BX.out.c0
  have hl64 : (len : Int) ≤ 9223372036854775807 := by omega
  have CG1 : Hid (∀ W, Below w0.heap.size w0 W → Calls Tryz.prog 83 #[.slice x.aA x.aN x.aC, .string s] W fun e w' => e = .returned (.tuple #[.string (valA x.core.attrs s.toList), .bool (hasA x.core.attrs s.toList)]) ∧ Below W.heap.size W w') := Lib.hid (fun W hb => CG1.out W (HB0.out.trans (hb.mono HB0.out.size)))
  have CG2 : Hid (∀ W, Below w0.heap.size w0 W → Calls Tryz.prog 83 #[.slice al ln lc, .string s] W fun e w' => e = .returned (.tuple #[.string (valA l s.toList), .bool (hasA l s.toList)]) ∧ Below W.heap.size W w') := Lib.hid (fun W hb => CG2.out W (HB0.out.trans (hb.mono HB0.out.size)))
  clear h hx hs hal hm hx' hat hok hw0
  go_enter Tryz.func80, Tryz.ntmps80
  go_upto_region 1 with fail
  rw [HW0.out]
  go_upto_region 2 with fail
  obtain ⟨wn, hwn, NB, HBN⟩ : ∃ wn, w0.alloc (nodB x) = wn ∧ Hid (VBox wn w0.heap.size [.int .i64 x.core.kind, .string x.core.name, .string x.core.is, .string x.core.data, .slice x.aA x.aN x.aC, .int .i64 x.core.parent, .slice x.kA x.kN x.kC, .int .i64 x.core.host, .int .i64 x.core.under, .int .i64 x.core.doc]) ∧ Hid (Below w0.heap.size w0 wn) := ⟨_, rfl, Lib.hid (VBox.new w0 _ _), Lib.hid (below_box _ _)⟩
  rw [hwn]
  have HBW := Lib.hid HBN.out
  clear q0 q1 q2 q3 q4 q5 q6 q7 q8 q9 z0 hwn
  go_upto_region 3 with (go_at_call 122; (refine (CSM.out _).mono ?_); rintro e w1 ⟨rfl, hb1⟩; have NB := Lib.hid (NB.out.keep hb1); have HBW := Lib.hid (HBW.out.trans (hb1.mono HBW.out.size)); clear hb1)
  have HNT := Lib.hid NB.out.lt
  obtain ⟨sm, hsm⟩ : ∃ sm, ofL (smallL s.toList) = sm := ⟨_, rfl⟩
  have HSM := Lib.hid hsm
  rw [hsm]
  obtain ⟨w2, hw2, TB⟩ : ∃ w2, w1.alloc (.cells #[.int .i64 4, .int .i64 n, .int .i64 0, .int .i64 0, .string sm, .bool false, .bool false, .string ⟨#[]⟩, .string ⟨#[]⟩] 58) = w2 ∧ Hid (VBox w2 w1.heap.size [.int .i64 4, .int .i64 n, .int .i64 0, .int .i64 0, .string sm, .bool false, .bool false, .string ⟨#[]⟩, .string ⟨#[]⟩]) := ⟨_, rfl, Lib.hid (VBox.new w1 _ _)⟩
  have hb2 : Below w1.heap.size w1 w2 := by rw [← hw2]; exact below_box _ _
  have NB := Lib.hid (NB.out.keep hb2)
  have HBW := Lib.hid (HBW.out.trans (hb2.mono HBW.out.size))
  rw [hw2]
  clear hsm hw2 hb2
  have y4 := NB.out.c 4 _ rfl
  have t5 := TB.out.c 5 _ rfl
  have t7 := TB.out.c 7 _ rfl
  have tf := TB.out.f
  go_upto_region 4 with (go_at_call 83; (refine (CG1.out _ HBW.out).mono ?_); rintro e w3 ⟨rfl, hb⟩; have NB := Lib.hid (NB.out.keep hb); have TB := Lib.hid (TB.out.keep hb); have HBW := Lib.hid (HBW.out.trans (hb.mono HBW.out.size)); have t5 := TB.out.c 5 _ rfl; have t7 := TB.out.c 7 _ rfl; have tf := TB.out.f; clear hb y4)
  obtain ⟨va, hva⟩ : ∃ va, valA x.core.attrs s.toList = va := ⟨_, rfl⟩
  obtain ⟨ha, hha⟩ : ∃ ha, hasA x.core.attrs s.toList = ha := ⟨_, rfl⟩
  rw [hva, hha]
  have HVA := Lib.hid hva
  have HHA := Lib.hid hha
  have hne : w0.heap.size ≠ w1.heap.size := Nat.ne_of_lt HNT.out
  obtain ⟨w4, hw4, TB4, NB4, HB4⟩ : ∃ w4, (w3.setCell ⟨w1.heap.size, 7, none⟩ (.string va)).setCell ⟨w1.heap.size, 5, none⟩ (.bool ha) = w4 ∧ Hid (VBox w4 w1.heap.size [.int .i64 4, .int .i64 n, .int .i64 0, .int .i64 0, .string sm, .bool ha, .bool false, .string va, .string ⟨#[]⟩]) ∧ Hid (VBox w4 w0.heap.size [.int .i64 x.core.kind, .string x.core.name, .string x.core.is, .string x.core.data, .slice x.aA x.aN x.aC, .int .i64 x.core.parent, .slice x.kA x.kN x.kC, .int .i64 x.core.host, .int .i64 x.core.under, .int .i64 x.core.doc]) ∧ Hid (Below w0.heap.size w0 w4) :=
    ⟨_, rfl, Lib.hid ((TB.out.set (j := 7) (by simp) _).set (j := 5) (by simp) _), Lib.hid ((NB.out.other hne _ _).other hne _ _), Lib.hid ((HBW.out.setCell (p := ⟨w1.heap.size, 7, none⟩) (by have := HNT.out; show w0.heap.size ≤ w1.heap.size; omega) _).setCell (p := ⟨w1.heap.size, 5, none⟩) (by have := HNT.out; show w0.heap.size ≤ w1.heap.size; omega) _)⟩
  rw [hw4]
  clear hw4 hva hha t5 t7 tf
  have t6 := TB4.out.c 6 _ rfl
  have t8 := TB4.out.c 8 _ rfl
  have tf := TB4.out.f
  go_upto_region 5 with (go_at_call 83; (refine (CG2.out _ HB4.out).mono ?_); rintro e w5 ⟨rfl, hb⟩; have NB5 := Lib.hid (NB4.out.keep hb); have TB5 := Lib.hid (TB4.out.keep hb); have HB5 := Lib.hid (HB4.out.trans (hb.mono HB4.out.size)); have t6 := TB5.out.c 6 _ rfl; have t8 := TB5.out.c 8 _ rfl; have tf := TB5.out.f; clear hb)
  obtain ⟨vn, hvn⟩ : ∃ vn, valA l s.toList = vn := ⟨_, rfl⟩
  obtain ⟨hn2, hhn⟩ : ∃ hn2, hasA l s.toList = hn2 := ⟨_, rfl⟩
  rw [hvn, hhn]
  have HVN := Lib.hid hvn
  have HHN := Lib.hid hhn
  obtain ⟨w6, hw6, TB6, NB6, HB6⟩ : ∃ w6, (w5.setCell ⟨w1.heap.size, 8, none⟩ (.string vn)).setCell ⟨w1.heap.size, 6, none⟩ (.bool hn2) = w6 ∧ Hid (VBox w6 w1.heap.size [.int .i64 4, .int .i64 n, .int .i64 0, .int .i64 0, .string sm, .bool ha, .bool hn2, .string va, .string vn]) ∧ Hid (VBox w6 w0.heap.size [.int .i64 x.core.kind, .string x.core.name, .string x.core.is, .string x.core.data, .slice x.aA x.aN x.aC, .int .i64 x.core.parent, .slice x.kA x.kN x.kC, .int .i64 x.core.host, .int .i64 x.core.under, .int .i64 x.core.doc]) ∧ Hid (Below w0.heap.size w0 w6) :=
    ⟨_, rfl, Lib.hid ((TB5.out.set (j := 8) (by simp) _).set (j := 6) (by simp) _), Lib.hid ((NB5.out.other hne _ _).other hne _ _), Lib.hid ((HB5.out.setCell (p := ⟨w1.heap.size, 8, none⟩) (by have := HNT.out; show w0.heap.size ≤ w1.heap.size; omega) _).setCell (p := ⟨w1.heap.size, 6, none⟩) (by have := HNT.out; show w0.heap.size ≤ w1.heap.size; omega) _)⟩
  rw [hw6]
  clear hw6 hvn hhn t6 t8 tf
  have y4 := NB6.out.c 4 _ rfl
  have yf := NB6.out.f
  go_upto_region 6 with fail
  obtain ⟨w7, hw7, TB7, NB7, HB7⟩ : ∃ w7, w6.setCell ⟨w0.heap.size, 4, none⟩ (.slice al ln lc) = w7 ∧ Hid (VBox w7 w1.heap.size [.int .i64 4, .int .i64 n, .int .i64 0, .int .i64 0, .string sm, .bool ha, .bool hn2, .string va, .string vn]) ∧ Hid (VBox w7 w0.heap.size [.int .i64 x.core.kind, .string x.core.name, .string x.core.is, .string x.core.data, .slice al ln lc, .int .i64 x.core.parent, .slice x.kA x.kN x.kC, .int .i64 x.core.host, .int .i64 x.core.under, .int .i64 x.core.doc]) ∧ Hid (Below w0.heap.size w0 w7) :=
    ⟨_, rfl, Lib.hid (TB6.out.other hne.symm _ _), Lib.hid (NB6.out.set (j := 4) (by simp) _), Lib.hid (HB6.out.setCell (p := ⟨w0.heap.size, 4, none⟩) (Nat.le_refl _) _)⟩
  rw [hw7]
  clear hw7 y4 yf
  have BX7 := Lib.hid (BX.out.keep HB7.out)
  have RB7 := Lib.hid (RB.out.keep HB7.out)
  obtain ⟨y, hy⟩ : ∃ y, withA x al ln lc l = y := ⟨_, rfl⟩
  have HYD := Lib.hid hy
  have HYL : Hid (coreL (L.set n y) = chgF (coreL L) n l) := Lib.hid (by rw [← hy]; exact core_setA HX.out _ _ _ _)
  have HYOK : Hid (NodeOk w7 y) := Lib.hid (by
    have h1 := HOK.out.below BX7.out.below
    rw [← hy]
    exact ⟨(HAL.out.below BX7.out.below), h1.kids, h1.name, h1.is, h1.data, h1.kind, h1.parent, h1.host, h1.under, h1.doc⟩)
  have CW : Hid (∀ W, Below w7.heap.size w7 W → Calls Tryz.prog 127 #[forV (some ⟨b, off, none⟩) len cap m, .int .i64 n, .agg #[.int .i64 x.core.kind, .string x.core.name, .string x.core.is, .string x.core.data, .slice al ln lc, .int .i64 x.core.parent, .slice x.kA x.kN x.kC, .int .i64 x.core.host, .int .i64 x.core.under, .int .i64 x.core.doc]] W (WithPost W len m (L.set n y))) := Lib.hid (fun W hb => by
    have := refwith_any (some ⟨b, off, none⟩) len cap m L n y W (BX7.out.row.below hb) hl hn (HYOK.out.below hb)
    rw [← hy] at this ⊢
    exact this)
  have HNO : Hid (NoteOk (⟨4, n, 0, 0, sm, ha, hn2, va, vn⟩ : NoteD)) := Lib.hid (by
    refine ⟨⟨by show (-9223372036854775808 : Int) ≤ 4; decide, by show (4 : Int) ≤ _; decide⟩, in64_nat (by omega), mv0, mv0, ?_, ?_, ?_⟩
    · show sm.size ≤ maxLen
      rw [← HSM.out, size_ofL, smallL_length, tl_len]
      have := HSZ.out
      unfold maxLen
      omega
    · show va.size ≤ maxLen
      rw [← HVA.out]
      exact val_small HOK.out.attrs _
    · show vn.size ≤ maxLen
      rw [← HVN.out]
      exact val_small HAL.out _)
  have HXQ : Hid (chgN n s.toList x.core.attrs l = (⟨4, n, 0, 0, sm, ha, hn2, va, vn⟩ : NoteD)) := Lib.hid (by rw [← HSM.out, ← HVA.out, ← HHA.out, ← HVN.out, ← HHN.out]; rfl)
  have HNA : Hid (∀ W : World, NoteRow (W.alloc (.cells #[.int .i64 4, .int .i64 n, .int .i64 0, .int .i64 0, .string sm, .bool ha, .bool hn2, .string va, .string vn] 58)) (some ⟨W.heap.size, 0, none⟩) 1 1 [(⟨4, n, 0, 0, sm, ha, hn2, va, vn⟩ : NoteD)]) := Lib.hid (fun W => ⟨note_one W ⟨4, n, 0, 0, sm, ha, hn2, va, vn⟩, fun z hz => by rw [List.mem_singleton.1 hz]; exact HNO.out, fun e => by cases e⟩)
  have z0 := BX7.out.c0
  have z1 := BX7.out.c1
  have za0 := fun o => (BX7.out.keep (below_box w7 o)).c0
  have za1 := fun o => (BX7.out.keep (below_box w7 o)).c1
  have y0 := NB7.out.c 0 _ rfl
  have y1 := NB7.out.c 1 _ rfl
  have y2 := NB7.out.c 2 _ rfl
  have y3 := NB7.out.c 3 _ rfl
  have y4 := NB7.out.c 4 _ rfl
  have y5 := NB7.out.c 5 _ rfl
  have y6 := NB7.out.c 6 _ rfl
  have y7 := NB7.out.c 7 _ rfl
  have y8 := NB7.out.c 8 _ rfl
  have y9 := NB7.out.c 9 _ rfl
  have ya0 := fun o => (NB7.out.keep (below_box w7 o)).c 0 _ rfl
  have ya1 := fun o => (NB7.out.keep (below_box w7 o)).c 1 _ rfl
  have ya2 := fun o => (NB7.out.keep (below_box w7 o)).c 2 _ rfl
  have ya3 := fun o => (NB7.out.keep (below_box w7 o)).c 3 _ rfl
  have ya4 := fun o => (NB7.out.keep (below_box w7 o)).c 4 _ rfl
  have ya5 := fun o => (NB7.out.keep (below_box w7 o)).c 5 _ rfl
  have ya6 := fun o => (NB7.out.keep (below_box w7 o)).c 6 _ rfl
  have ya7 := fun o => (NB7.out.keep (below_box w7 o)).c 7 _ rfl
  have ya8 := fun o => (NB7.out.keep (below_box w7 o)).c 8 _ rfl
  have ya9 := fun o => (NB7.out.keep (below_box w7 o)).c 9 _ rfl
  have t0 := TB7.out.c 0 _ rfl
  have t1 := TB7.out.c 1 _ rfl
  have t2 := TB7.out.c 2 _ rfl
  have t3 := TB7.out.c 3 _ rfl
  have t4 := TB7.out.c 4 _ rfl
  have t5 := TB7.out.c 5 _ rfl
  have t6 := TB7.out.c 6 _ rfl
  have t7 := TB7.out.c 7 _ rfl
  have t8 := TB7.out.c 8 _ rfl
  have AL : Hid (∀ o : Obj, Below w7.heap.size w7 (w7.alloc o).drew) := Lib.hid (fun o => ((Below.refl _ _).alloc (Nat.le_refl _) o).drew)
  have A0 : Hid (Below w7.heap.size w7 w7.drew) := Lib.hid ((Below.refl _ _).drew)
  clear hy
  go_cut [] (fun wx => True ∧ StEnd w m (fun k => AwayF k (some ⟨b, off, none⟩) L ∧ ∀ b off, al = some ⟨b, off, none⟩ → 0 < ln → b ≠ k) (chgF (coreL L) n l) [chgN n s.toList x.core.attrs l] wx)
  case first =>
    have hs7 := HB7.out.size
    have hs0 := HB0.out.size
    have hrl := RB.out.lt
    have HAWY : Hid (∀ k, AwayF k (some ⟨b, off, none⟩) L → (∀ b off, al = some ⟨b, off, none⟩ → 0 < ln → b ≠ k) → ∀ z ∈ L.set n y, NodeAway k z) := Lib.hid (fun k h1 h2 z hz => by
      rcases List.mem_or_eq_of_mem_set hz with hz | rfl
      · exact h1.2 z hz
      · rw [← HYD.out]
        exact ⟨h2, (h1.2 x (List.mem_of_getElem? HX.out)).2⟩)
    have HAWQ : Hid (∀ z ∈ L.set n y, NodeAway (w.heap.size + 1) z) := Lib.hid (fun z hz => by
      rcases List.mem_or_eq_of_mem_set hz with hz | rfl
      · exact (H0.out.ok z hz).away (by omega)
      · rw [← HYD.out]
        have h1 := HOK.out
        exact (NodeOk.mk (x := withA x al ln lc l) HAL.out h1.kids h1.name h1.is h1.data h1.kind h1.parent h1.host h1.under h1.doc).away (by omega))
    have HB07 := Lib.hid (HB0.out.trans (HB7.out.mono hs0))
    have FIN : Hid (∀ (W : World) (g8 c8 gn : Nat), Below w7.heap.size w7 W → NodeRow W (some ⟨g8, 0, none⟩) len c8 (L.set n y) → w7.heap.size ≤ g8 → w7.heap.size ≤ gn → NoteRow W (some ⟨gn, 0, none⟩) 1 1 [(⟨4, n, 0, 0, sm, ha, hn2, va, vn⟩ : NoteD)] → StEnd w m (fun k => AwayF k (some ⟨b, off, none⟩) L ∧ ∀ b off, al = some ⟨b, off, none⟩ → 0 < ln → b ≠ k) (chgF (coreL L) n l) [chgN n s.toList x.core.attrs l] (((W.setCell ⟨w.heap.size + 1, 0, none⟩ (.slice (some ⟨g8, 0, none⟩) len c8)).setCell ⟨w.heap.size + 1, 1, none⟩ (.int .i64 m)).setCell ⟨w.heap.size + 1, 2, none⟩ (.slice (some ⟨gn, 0, none⟩) 1 1)))   := Lib.hid (fun W g8 c8 gn hb hr hg hn' hN => by rw [HXQ.out]; exact st_end (RB7.out.keep hb) hr hN (HB07.out.trans (hb.mono HB07.out.size)) HYL.out ⟨fun b off e => by injection e with e; injection e with e; omega, HAWQ.out⟩ (fun b off e => by injection e with e; injection e with e; omega) (fun k hk hp => ⟨⟨fun b off e => by injection e with e; injection e with e; omega, HAWY.out k hp.1 hp.2⟩, fun b off e => by injection e with e; injection e with e; omega⟩))
    clear hs7 hs0 hrl
    go_region_with (go_at_call 127; (refine (CW.out _ (by first | exact A0.out | exact AL.out _)).mono ?_); rintro e w8 ⟨g8, c8, rfl, hr8, hb8, hg8⟩; have R8 := Lib.hid hr8; have HG8 : Hid (w7.heap.size ≤ g8) := Lib.hid (by first | exact Nat.le_trans A0.out.size hg8 | exact Nat.le_trans (AL.out _).size hg8); clear hg8; have HB8 : Hid (Below w7.heap.size w7 w8) := Lib.hid (by first | exact A0.out.trans (hb8.mono A0.out.size) | exact (AL.out _).trans (hb8.mono (AL.out _).size)); (try (have HN8 : Hid (NoteRow w8 (some ⟨w7.heap.size, 0, none⟩) 1 1 [(⟨4, n, 0, 0, sm, ha, hn2, va, vn⟩ : NoteD)]) := (Lib.hid ((HNA.out w7).below ((Below.refl _ _).drew.trans hb8))))); have TB8 := Lib.hid (TB7.out.keep HB8.out); have RB8 := Lib.hid (RB7.out.keep HB8.out); clear hr8 hb8 z0 z1 za0 za1 y0 y1 y2 y3 y4 y5 y6 y7 y8 y9 ya0 ya1 ya2 ya3 ya4 ya5 ya6 ya7 ya8 ya9 t0 t1 t2 t3 t4 t5 t6 t7 t8; have t0 := TB8.out.c 0 _ rfl; have t1 := TB8.out.c 1 _ rfl; have t2 := TB8.out.c 2 _ rfl; have t3 := TB8.out.c 3 _ rfl; have t4 := TB8.out.c 4 _ rfl; have t5 := TB8.out.c 5 _ rfl; have t6 := TB8.out.c 6 _ rfl; have t7 := TB8.out.c 7 _ rfl; have t8 := TB8.out.c 8 _ rfl; have r0 := RB8.out.c0; have r1 := RB8.out.c1; have r2 := RB8.out.c2; have rf := RB8.out.f; have ra0 := fun o => (RB8.out.keep (below_box w8 o)).c0; have ra1 := fun o => (RB8.out.keep (below_box w8 o)).c1; have ra2 := fun o => (RB8.out.keep (below_box w8 o)).c2; have rfa := fun o => (RB8.out.keep (below_box w8 o)).f)
    all_goals go_wp2
    all_goals go_meet
    all_goals exact ⟨trivial, by first | exact FIN.out _ _ _ _ HB8.out R8.out HG8.out (Nat.le_refl _) HN8.out | exact FIN.out _ _ _ _ (HB8.out.trans ((below_box w8 _).mono HB8.out.size)) (R8.out.below (below_box w8 _)) HG8.out HB8.out.size (HNA.out w8)⟩
  case rest =>
    obtain ⟨-, a9, len9, cap9, M9, va9, vl9, vc9, ⟨k0, k1, k2⟩, R9, C9, N9, B9, P9⟩ := hcut
    go_wp2
    refine bodyPost_ret (v := stV a9 len9 cap9 m va9 vl9 vc9) ?_ rfl ⟨_, _, _, _, _, _, _, rfl, R9, C9, N9, B9, P9⟩
    simp [results, Tryz.results80, go_sem, k0, k1, k2]
end Go.Proofs.YtiffhlncnpppoaaGreatDoor
