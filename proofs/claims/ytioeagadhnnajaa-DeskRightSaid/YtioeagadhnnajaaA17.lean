/- Texts joined in build order: RegionIv1. -/
import Derived.Test.YtioeagadhnnajaaA16
import Derived.Laws.AppendOwn
import Derived.Orders
/- (As XRegionInv, of aggregates whose second part is of the call's own.) A region that draws its order, walked once for all orders: what each operation leaves behind, kept by all the others. -/
namespace Go.Proofs.Ytioeagadhnnajaa.Iv1
open Go.RowKit
section
variable {P : Program} {md : Region.Mode} {ops : Array Oper} {Q : Exit → Act → World → Prop}
theorem ready_iff {listed : Array Bool} {i : Nat} : i ∈ Region.ready md ops listed ↔ i < ops.size ∧ listed.getD i true = false ∧ ∃ o, ops[i]? = some o ∧ ∀ e ∈ o.after, Region.binds md e = true → listed.getD e.on false = true := by
  unfold Region.ready
  rw [List.mem_filter, List.mem_range, Bool.and_eq_true, Bool.not_eq_true']
  refine and_congr_right fun hi => and_congr_right fun _ => ?_
  rw [Array.getElem?_eq_getElem hi]
  simp only [Option.map_some, Option.getD_some, Array.all_eq_true_iff_forall_mem, Bool.or_eq_true, Bool.not_eq_true', Option.some.injEq, exists_eq_left']
  refine forall_congr' fun e => forall_congr' fun _ => ?_
  cases Region.binds md e <;> simp
theorem count_set {l : List Bool} {i : Nat} (h : l[i]? = some false) : (l.set i true).count false + 1 = l.count false := by
  induction l generalizing i with
  | nil => simp at h
  | cons b l ih =>
    cases i with
    | zero =>
      obtain rfl : b = false := by simpa using h
      simp
    | succ i =>
      have := ih (i := i) (by simpa using h)
      simp only [List.set_cons_succ, List.count_cons]
      omega
theorem wpAny_inv (S : Array Bool → Act → World → Prop)
    (hs : ∀ listed a w i, i ∈ Region.ready md ops listed → S listed a w → wpOp P ops Q i (S (listed.setIfInBounds i true)) a w)
    (he : ∀ listed a w, Region.ready md ops listed = [] → S listed a w → Q .normal a w) :
    ∀ (fuel : Nat) (listed : Array Bool) (a : Act) (w : World), listed.size = ops.size → listed.toList.count false ≤ fuel → S listed a w → wpAny P md ops Q fuel listed a w := by
  intro fuel
  induction fuel with
  | zero =>
    intro listed a w hz hc h
    have hr : Region.ready md ops listed = [] := by
      refine List.eq_nil_iff_forall_not_mem.2 fun i hi => ?_
      obtain ⟨h1, h2, -⟩ := ready_iff.1 hi
      have hm : false ∈ listed.toList := by
        have h3 : i < listed.size := by omega
        rw [Array.getD_eq_getD_getElem?, Array.getElem?_eq_getElem h3, Option.getD_some] at h2
        rw [← h2, Array.mem_toList_iff]
        exact Array.getElem_mem h3
      have := List.count_pos_iff.2 hm
      omega
    exact ⟨hr, he _ _ _ hr h⟩
  | succ fuel ih =>
    intro listed a w hz hc h
    refine ⟨fun hr => he _ _ _ hr h, fun i hi => ?_⟩
    refine wpOp_mono (fun a w hk => ih _ a w (by simpa using hz) ?_ hk) (hs _ _ _ _ hi h)
    obtain ⟨h1, h2, -⟩ := ready_iff.1 hi
    have h3 : i < listed.size := by omega
    rw [Array.getD_eq_getD_getElem?, Array.getElem?_eq_getElem h3, Option.getD_some] at h2
    have := count_set (l := listed.toList) (i := i) (by rw [List.getElem?_eq_getElem (by simpa using h3)]; simpa using h2)
    rw [Array.toList_setIfInBounds]
    omega
end
/-- The block that a value points to first. -/
def blkOf : Value → List Nat
  | .slice (some a) _ _ => [a.block]
  | .pointer (some a) => [a.block]
  | _ => []
def blk : Value → List Nat
  | .agg vs => blkOf (vs.getD 1 undef)
  | v => blkOf v
/-- What is laid into a frame's slots. -/
def puts (l : List Value) : List (Option Tmp × Value) → List Value
  | [] => l
  | (some d, v) :: ps => puts (l.set d v) ps
  | (none, _) :: ps => puts l ps
theorem puts_eq {A : List Value} : ∀ (ps : List (Option Tmp × Value)) (l : List Value), A.length = l.length → (∀ p ∈ ps, ∀ d, p.1 = some d → A[d]? = some p.2) →
    (∀ t, (∀ p ∈ ps, p.1 ≠ some t) → A[t]? = l[t]?) → A = puts l ps := by
  intro ps
  induction ps with
  | nil =>
    intro l h1 h2 h3
    exact List.ext_getElem? fun t => h3 t (fun p hp => by cases hp)
  | cons p ps ih =>
    intro l h1 h2 h3
    obtain ⟨d, v⟩ := p
    cases d with
    | none => exact ih l h1 (fun p hp => h2 p (List.mem_cons_of_mem _ hp)) (fun t ht => h3 t (fun p hp => by
        rcases List.mem_cons.1 hp with rfl | hp
        · exact fun e => by cases e
        · exact ht p hp))
    | some d =>
      have hd := h2 _ (List.mem_cons_self ..) d rfl
      refine ih (l.set d v) (by rw [List.length_set]; exact h1) (fun p hp => h2 p (List.mem_cons_of_mem _ hp)) (fun t ht => ?_)
      by_cases hdt : d = t
      · subst hdt
        have hlt : d < l.length := by rw [← h1]; exact (List.getElem?_eq_some_iff.1 hd).1
        rw [hd, List.getElem?_set_self hlt]
      · rw [List.getElem?_set_ne hdt]
        refine h3 t (fun p hp => ?_)
        rcases List.mem_cons.1 hp with rfl | hp
        · exact fun e => hdt (by injection e)
        · exact ht p hp
/-- What the region's operations are for: what is kept of each (fact), whether it is a block of its own (owns), and which operation takes it (used). -/
structure Plan where
  fact : Nat → Value → World → Prop
  owns : Nat → Bool
  used : Nat → Option Nat
/-- Whether what operation j left still stands. -/
def Plan.live (p : Plan) (listed : Array Bool) (j : Nat) : Prop := listed.getD j false = true ∧ ∀ k, p.used j = some k → listed.getD k false = false
/-- The checks of the text. -/
def edgeOn (o : Oper) (j : Nat) : Bool := o.after.any fun e => e.on == j && Region.binds .any e
def opOK (l : List Oper) (last n : Nat) (used : Nat → Option Nat) (i : Nat) (o : Oper) : Bool :=
  o.guard.isNone && (o.after.all fun e => decide (e.on < i)) &&
  (if i == last then (List.range last).all fun j => edgeOn o j
   else (match o.dst with
    | none => false
    | some d => decide (d < n) && ((List.range last).all fun j => j == i || ((l[j]?).bind (·.dst)) != some d)) &&
    ((List.range last).all fun j => used j != some i || edgeOn o j))
def planOK (l : List Oper) (last n : Nat) (used : Nat → Option Nat) : Bool :=
  (l.length == last + 1) && ((List.range (last + 1)).all fun i => match l[i]? with
    | none => false
    | some o => opOK l last n used i o)
structure RInv (p : Plan) (l : List Oper) (last : Nat) (W : World) (a0 : Act) (v : Nat → Value) (listed : Array Bool) (a : Act) (w : World) : Prop where
  defers : a.defers = a0.defers
  tsize : a.tmps.size = a0.tmps.size
  rest : ∀ t, (∀ i, i < last → listed.getD i false = true → (l[i]?).bind (·.dst) ≠ some t) → a.tmps[t]? = a0.tmps[t]?
  below : Below W.heap.size W w
  vals : ∀ i, i < last → listed.getD i false = true → ∀ d, (l[i]?).bind (·.dst) = some d → a.tmps[d]? = some (v i)
  facts : ∀ i, i < last → p.live listed i → p.fact i (v i) w
  apart : ∀ i j, i < last → j < last → p.live listed i → p.live listed j → i ≠ j → p.owns i = true → p.owns j = true → ∀ b ∈ blk (v i), b ∉ blk (v j)
  bound : ∀ i, i < last → p.live listed i → p.owns i = true → ∀ b ∈ blk (v i), W.heap.size ≤ b ∧ b < w.heap.size
/-- What a step of operation i may ask, and must give. -/
structure StepIn (p : Plan) (l : List Oper) (last : Nat) (W : World) (a0 : Act) (i : Nat) (o : Oper) (a : Act) (w : World) (v : Nat → Value) : Prop where
  below : Below W.heap.size W w
  rest : ∀ t, (∀ j, j < last → (l[j]?).bind (·.dst) ≠ some t) → a.tmps[t]? = a0.tmps[t]?
  vals : ∀ j, j < last → edgeOn o j = true → ∀ d, (l[j]?).bind (·.dst) = some d → a.tmps[d]? = some (v j)
  facts : ∀ j, j < last → edgeOn o j = true → (p.used j = none ∨ p.used j = some i) → p.fact j (v j) w
  bound : ∀ j, j < last → edgeOn o j = true → (p.used j = none ∨ p.used j = some i) → p.owns j = true → ∀ b ∈ blk (v j), W.heap.size ≤ b ∧ b < w.heap.size
  apart : ∀ j k, j < last → k < last → p.used j = some i → p.used k = some i → j ≠ k → p.owns j = true → p.owns k = true → ∀ b ∈ blk (v j), b ∉ blk (v k)
def Took (p : Plan) (last i : Nat) (v : Nat → Value) (b : Nat) : Prop := ∃ j, j < last ∧ p.used j = some i ∧ p.owns j = true ∧ b ∈ blk (v j)
structure StepOut (p : Plan) (last i : Nat) (v : Nat → Value) (w : World) (u : Value) (w' : World) : Prop where
  fact : p.fact i u w'
  grown : ∃ row, w.grownBy w' row ∧ ∀ k, row = some k → Took p last i v k
  own : p.owns i = true → ∀ b ∈ blk u, (w.heap.size ≤ b ∧ b < w'.heap.size) ∨ Took p last i v b
def OpStep (P : Program) (Q : Exit → Act → World → Prop) (p : Plan) (l : List Oper) (last : Nat) (W : World) (a0 : Act) (i : Nat) (o : Oper) : Prop :=
  ∀ (a : Act) (w : World) (v : Nat → Value) (K : Act → World → Prop), StepIn p l last W a0 i o a w v → (∀ u w', StepOut p last i v w u w' → K (a.put o.dst u) w') → o.wp P a w K Q
theorem getD_set {listed : Array Bool} {i j : Nat} (hi : i < listed.size) : (listed.setIfInBounds i true).getD j false = if j = i then true else listed.getD j false := by
  by_cases h : j = i
  · subst h
    rw [if_pos rfl, Array.getD_eq_getD_getElem?, Array.getElem?_setIfInBounds_self_of_lt hi]
    rfl
  · rw [if_neg h, Array.getD_eq_getD_getElem?, Array.getD_eq_getD_getElem?, Array.getElem?_setIfInBounds_ne (fun e => h e.symm)]
theorem put_self {a : Act} {d : Nat} {u : Value} (h : d < a.tmps.size) : (a.put (some d) u).tmps[d]? = some u := by
  show (a.tmps.setIfInBounds d u)[d]? = _
  exact Array.getElem?_setIfInBounds_self_of_lt h
theorem put_ne {a : Act} {d t : Nat} {u : Value} (h : d ≠ t) : (a.put (some d) u).tmps[t]? = a.tmps[t]? := by
  show (a.tmps.setIfInBounds d u)[t]? = _
  exact Array.getElem?_setIfInBounds_ne h
theorem planOK_op {l : List Oper} {last n : Nat} {used : Nat → Option Nat} (h : planOK l last n used = true) {i : Nat} (hi : i < last + 1) : ∃ o, l[i]? = some o ∧ opOK l last n used i o = true := by
  unfold planOK at h
  rw [Bool.and_eq_true, List.all_eq_true] at h
  have := h.2 i (List.mem_range.2 hi)
  cases e : l[i]? with
  | none => rw [e] at this; cases this
  | some o => rw [e] at this; exact ⟨o, rfl, this⟩
theorem opOK_dst {l : List Oper} {last n : Nat} {used : Nat → Option Nat} {i : Nat} {o : Oper} (h : opOK l last n used i o = true) (hi : i < last) :
    o.guard = none ∧ ∃ d, o.dst = some d ∧ d < n ∧ (∀ j, j < last → j ≠ i → (l[j]?).bind (·.dst) ≠ some d) ∧ ∀ j, j < last → used j = some i → edgeOn o j = true := by
  unfold opOK at h
  rw [if_neg (by simpa using Nat.ne_of_lt hi)] at h
  simp only [Bool.and_eq_true, List.all_eq_true, List.mem_range, Option.isNone_iff_eq_none] at h
  obtain ⟨⟨h1, -⟩, h2, h3⟩ := h
  refine ⟨h1, ?_⟩
  cases hd : o.dst with
  | none => rw [hd] at h2; cases h2
  | some d =>
    rw [hd] at h2
    simp only [Bool.and_eq_true, decide_eq_true_eq, List.all_eq_true, List.mem_range, Bool.or_eq_true, beq_iff_eq, bne_iff_ne] at h2 h3
    exact ⟨d, rfl, h2.1, fun j hj hne => (h2.2 j hj).resolve_left hne, fun j hj hu => (h3 j hj).resolve_left (fun e => e hu)⟩
theorem opOK_last {l : List Oper} {last n : Nat} {used : Nat → Option Nat} {o : Oper} (h : opOK l last n used last o = true) : o.guard = none ∧ ∀ j, j < last → edgeOn o j = true := by
  unfold opOK at h
  rw [if_pos (by simp)] at h
  simp only [Bool.and_eq_true, List.all_eq_true, List.mem_range, Option.isNone_iff_eq_none] at h
  exact ⟨h.1.1, h.2⟩
theorem opOK_back {l : List Oper} {last n : Nat} {used : Nat → Option Nat} {i : Nat} {o : Oper} (h : opOK l last n used i o = true) : ∀ e ∈ o.after, e.on < i := by
  unfold opOK at h
  simp only [Bool.and_eq_true, Array.all_eq_true_iff_forall_mem, decide_eq_true_eq] at h
  exact h.1.2
theorem edge_listed {l : List Oper} {listed : Array Bool} {i j : Nat} {o : Oper} (ho : l[i]? = some o) (hr : i ∈ Region.ready .any l.toArray listed) (he : edgeOn o j = true) : listed.getD j false = true := by
  obtain ⟨-, -, o', ho', h⟩ := ready_iff.1 hr
  obtain rfl : o = o' := by
    rw [List.getElem?_toArray, ho] at ho'
    injection ho'
  obtain ⟨e, hm, h2⟩ := Array.any_eq_true'.1 he
  rw [Bool.and_eq_true, beq_iff_eq] at h2
  have := h e hm h2.2
  rwa [h2.1] at this
/-- One step keeps all. -/
theorem RInv.step {P : Program} {Q : Exit → Act → World → Prop} {p : Plan} {l : List Oper} {last n : Nat} {W : World} {a0 : Act} {v : Nat → Value} {listed : Array Bool} {a : Act} {w : World} {i : Nat} {o : Oper}
    (hok : planOK l last n p.used = true) (hn : n ≤ a0.tmps.size) (hz : listed.size = last + 1) (hi : i < last) (ho : l[i]? = some o) (hr : i ∈ Region.ready .any l.toArray listed)
    (hstab : ∀ j, j < last → ∀ u w w' row, p.fact j u w → w.grownBy w' row → (∀ k, row = some k → p.owns j = true → k ∉ blk u) → (∀ k, row = some k → W.heap.size ≤ k) → p.fact j u w')
    (hop : OpStep P Q p l last W a0 i o) (h : RInv p l last W a0 v listed a w) :
    o.wp P a w (fun a' w' => ∃ v', RInv p l last W a0 v' (listed.setIfInBounds i true) a' w') Q := by
  obtain ⟨o', ho', hoo⟩ := planOK_op hok (show i < last + 1 by omega)
  obtain rfl : o = o' := by rw [ho] at ho'; injection ho'
  obtain ⟨-, d, hd, hdn, hdist, huse⟩ := opOK_dst hoo hi
  have hun : listed.getD i false = false := by
    have := (ready_iff.1 hr).2.1
    rw [Array.getD_eq_getD_getElem?, Array.getElem?_eq_getElem (by omega), Option.getD_some] at this ⊢
    exact this
  have hlive : ∀ j, edgeOn o j = true → (p.used j = none ∨ p.used j = some i) → p.live listed j := fun j he hu =>
    ⟨edge_listed ho hr he, fun k hk => by
      rcases hu with hu | hu
      · rw [hu] at hk; cases hk
      · rw [hu] at hk
        injection hk with hk
        rw [← hk]; exact hun⟩
  have hset : ∀ j, (listed.setIfInBounds i true).getD j false = if j = i then true else listed.getD j false := fun j => getD_set (by omega)
  have hda : d < a.tmps.size := by rw [h.tsize]; exact Nat.lt_of_lt_of_le hdn hn
  refine hop a w v _ ⟨h.below, fun t ht => h.rest t (fun j hj _ => ht j hj), fun j hj he d hd => h.vals j hj (edge_listed ho hr he) d hd, fun j hj he hu => h.facts j hj (hlive j he hu),
    fun j hj he hu => h.bound j hj (hlive j he hu), fun j k hj hk hu hu2 hne => h.apart j k hj hk (hlive j (huse j hj hu) (.inr hu)) (hlive k (huse k hk hu2) (.inr hu2)) hne⟩ ?_
  intro u w' ⟨hf, ⟨row, hg, hrow⟩, hown⟩
  have htook : ∀ b, Took p last i v b → W.heap.size ≤ b ∧ b < w.heap.size := fun b ⟨j, hj, hu, ho2, hb⟩ => h.bound j hj (hlive j (huse j hj hu) (.inr hu)) ho2 b hb
  have hold : ∀ j, j ≠ i → p.live (listed.setIfInBounds i true) j → p.live listed j ∧ p.used j ≠ some i := fun j hne hl =>
    ⟨⟨by have := hl.1; rwa [hset, if_neg hne] at this, fun k hk => by
        have := hl.2 k hk
        rw [hset] at this
        split at this
        · cases this
        · exact this⟩,
      fun e => by
        have := hl.2 i e
        rw [hset, if_pos rfl] at this
        cases this⟩
  have htookne : ∀ b j, j < last → p.live listed j → p.used j ≠ some i → p.owns j = true → Took p last i v b → b ∉ blk (v j) := fun b j hj hl hu ho2 ⟨k, hk, hu2, ho3, hb⟩ =>
    h.apart k j hk hj (hlive k (huse k hk hu2) (.inr hu2)) hl (fun e => hu (e ▸ hu2)) ho3 ho2 b hb
  refine ⟨fun j => if j = i then u else v j, ?_, ?_, ?_, ?_, ?_, ?_, ?_, ?_⟩
  · rw [hd]; exact h.defers
  · rw [hd, ← h.tsize]
    show (a.tmps.setIfInBounds d u).size = _
    simp
  · intro t ht
    have hdt : d ≠ t := fun e => ht i hi (by rw [hset, if_pos rfl]) (by rw [ho]; show o.dst = _; rw [hd, e])
    rw [hd, put_ne hdt]
    exact h.rest t (fun j hj hl => ht j hj (by rw [hset]; split <;> first | rfl | exact hl))
  · exact h.below.grown hg h.below.size (fun k hk => (htook k (hrow k hk)).1)
  · intro j hj hl d2 hd2
    by_cases hji : j = i
    · subst hji
      rw [ho] at hd2
      have e : some d = some d2 := hd.symm.trans hd2
      injection e with e
      subst e
      rw [hd, put_self hda, if_pos rfl]
    · rw [hset, if_neg hji] at hl
      have hne : d ≠ d2 := fun e => hdist j hj hji (by rw [e]; exact hd2)
      rw [hd, put_ne hne, if_neg hji]
      exact h.vals j hj hl d2 hd2
  · intro j hj hl
    by_cases hji : j = i
    · subst hji
      rw [if_pos rfl]; exact hf
    · obtain ⟨h1, h2⟩ := hold j hji hl
      rw [if_neg hji]
      exact hstab j hj _ _ _ row (h.facts j hj h1) hg (fun k hk ho2 => htookne k j hj h1 h2 ho2 (hrow k hk)) (fun k hk => (htook k (hrow k hk)).1)
  · intro j k hj hk hl hl2 hne ho1 ho2 b hb hb2
    by_cases hji : j = i
    · subst hji
      have hkj : k ≠ j := fun e => hne e.symm
      obtain ⟨h1, h2⟩ := hold k hkj hl2
      rw [if_pos rfl] at hb
      rw [if_neg hkj] at hb2
      rcases hown ho1 b hb with h3 | h3
      · have := (h.bound k hk h1 ho2 b hb2).2
        omega
      · exact htookne b k hk h1 h2 ho2 h3 hb2
    · obtain ⟨h1, h2⟩ := hold j hji hl
      rw [if_neg hji] at hb
      by_cases hki : k = i
      · subst hki
        rw [if_pos rfl] at hb2
        rcases hown ho2 b hb2 with h3 | h3
        · have := (h.bound j hj h1 ho1 b hb).2
          omega
        · exact htookne b j hj h1 h2 ho1 h3 hb
      · rw [if_neg hki] at hb2
        exact h.apart j k hj hk h1 (hold k hki hl2).1 hne ho1 ho2 b hb hb2
  · intro j hj hl ho1 b hb
    by_cases hji : j = i
    · subst hji
      rw [if_pos rfl] at hb
      rcases hown ho1 b hb with h3 | h3
      · exact ⟨Nat.le_trans h.below.size h3.1, h3.2⟩
      · exact ⟨(htook b h3).1, Nat.lt_of_lt_of_le (htook b h3).2 hg.size⟩
    · rw [if_neg hji] at hb
      have := h.bound j hj (hold j hji hl).1 ho1 b hb
      exact ⟨this.1, Nat.lt_of_lt_of_le this.2 hg.size⟩
theorem rep_false {n j : Nat} : (Array.replicate n false).getD j false = false := by
  rw [Array.getD_eq_getD_getElem?, Array.getElem?_replicate]
  split <;> rfl
/-- The frame behind all but the last operation. -/
def allPut (l : List Oper) (last : Nat) (a0 : Act) (v : Nat → Value) : Act := ⟨(puts a0.tmps.toList ((List.range last).map fun i => ((l[i]?).bind (·.dst), v i))).toArray, a0.defers⟩
theorem wp_region_inv {P : Program} {id : Nat} {Q : Exit → Act → World → Prop} {a0 : Act} {W : World} {l : List Oper} (p : Plan) (last n : Nat) (hm : P.follows .mixedOrders = true)
    (hok : planOK l last n p.used = true) (hn : n ≤ a0.tmps.size)
    (hstab : ∀ j, j < last → ∀ u w w' row, p.fact j u w → w.grownBy w' row → (∀ k, row = some k → p.owns j = true → k ∉ blk u) → (∀ k, row = some k → W.heap.size ≤ k) → p.fact j u w')
    (hop : ∀ i, i < last → ∀ o, l[i]? = some o → OpStep P Q p l last W a0 i o)
    (hlast : ∀ o, l[last]? = some o → ∀ w v, StepIn p l last W a0 last o (allPut l last a0 v) w v → o.wp P (allPut l last a0 v) w (Q .normal) Q) :
    (Code.region id l.toArray true).wp P Q a0 W := by
  have hlen : l.length = last + 1 := by
    unfold planOK at hok
    rw [Bool.and_eq_true, beq_iff_eq] at hok
    exact hok.1
  refine wp_region_any hm (wpAny_inv (fun listed a w => listed.size = last + 1 ∧ ((listed.getD last false = true → (∀ j, j < last → listed.getD j false = true) ∧ Q .normal a w) ∧ (listed.getD last false = false → ∃ v, RInv p l last W a0 v listed a w))) ?_ ?_ _ _ _ _ (by simp) (by simp) ?_)
  · intro listed a w i hi ⟨hz, h1, h2⟩
    obtain ⟨hil, hun, -⟩ := ready_iff.1 hi
    have hil : i < last + 1 := by simpa [hlen] using hil
    obtain ⟨o, ho, hk⟩ := planOK_op hok hil
    have hgd : o.guard = none := by
      unfold opOK at hk
      simp only [Bool.and_eq_true, Option.isNone_iff_eq_none] at hk
      exact hk.1.1
    have hun' : listed.getD i false = false := by
      rw [Array.getD_eq_getD_getElem?, Array.getElem?_eq_getElem (by omega), Option.getD_some] at hun ⊢
      exact hun
    unfold wpOp
    rw [List.getElem?_toArray, ho]
    show if Region.wanted o _ = true then _ else _
    rw [if_pos (by simp [Region.wanted, hgd])]
    refine .inl ?_
    by_cases hil2 : i = last
    · subst hil2
      obtain ⟨v, hv⟩ := h2 hun'
      have hall : ∀ j, j < i → listed.getD j false = true := fun j hj => edge_listed ho hi ((opOK_last hk).2 j hj)
      have hlive : ∀ j, j < i → (p.used j = none ∨ p.used j = some i) → p.live listed j := fun j hj hu => ⟨hall j hj, fun k hk => by
        rcases hu with hu | hu
        · rw [hu] at hk; cases hk
        · rw [hu] at hk
          injection hk with hk
          rw [← hk]; exact hun'⟩
      have ea : a = allPut l i a0 v := by
        have e := puts_eq (A := a.tmps.toList) ((List.range i).map fun j => ((l[j]?).bind (·.dst), v j)) a0.tmps.toList (by simp [hv.tsize]) (fun q hq d hd => by
          obtain ⟨j, hj, rfl⟩ := List.mem_map.1 hq
          rw [List.mem_range] at hj
          rw [Array.getElem?_toList]
          exact hv.vals j hj (hall j hj) d hd) (fun t ht => by
          rw [Array.getElem?_toList, Array.getElem?_toList]
          exact hv.rest t (fun j hj _ e => ht _ (List.mem_map.2 ⟨j, List.mem_range.2 hj, rfl⟩) e))
        obtain ⟨ts, ds⟩ := a
        have e2 : ds = a0.defers := hv.defers
        unfold allPut
        rw [← e, e2]
      have := hlast o ho w v ⟨hv.below, fun t ht => by rw [← ea]; exact hv.rest t (fun j hj _ => ht j hj), fun j hj he d hd => by rw [← ea]; exact hv.vals j hj (hall j hj) d hd, fun j hj _ hu => hv.facts j hj (hlive j hj hu),
        fun j hj _ hu => hv.bound j hj (hlive j hj hu), fun j k hj hk hu hu2 hne => hv.apart j k hj hk (hlive j hj (.inr hu)) (hlive k hk (.inr hu2)) hne⟩
      rw [← ea] at this
      refine Oper.wp_mono (fun a' w' hq => ⟨by simpa using hz, fun _ => ⟨fun j hj => by rw [getD_set (by omega), if_neg (by omega)]; exact hall j hj, hq⟩, fun e => ?_⟩) this
      rw [getD_set (by omega), if_pos rfl] at e
      cases e
    · have hi2 : i < last := by omega
      have hll : listed.getD last false = false := by
        cases hc : listed.getD last false with
        | false => rfl
        | true =>
          have := (h1 hc).1 i hi2
          rw [this] at hun'
          cases hun'
      obtain ⟨v, hv⟩ := h2 hll
      refine Oper.wp_mono (fun a' w' hq => ⟨by simpa using hz, fun e => ?_, fun _ => hq⟩) (RInv.step hok hn hz hi2 ho hi hstab (hop i hi2 o ho) hv)
      rw [getD_set (by omega), if_neg (fun e => hil2 e.symm), hll] at e
      cases e
  · intro listed a w hr ⟨hz, h1, h2⟩
    have hall : ∀ j, j < last + 1 → listed.getD j false = true := by
      intro j
      induction j using Nat.strongRecOn with
      | ind j ih =>
        intro hj
        cases hc : listed.getD j false with
        | true => rfl
        | false =>
          obtain ⟨o, ho, hk⟩ := planOK_op hok hj
          have : j ∈ Region.ready .any l.toArray listed := ready_iff.2 ⟨by simpa [hlen] using hj, by
            rw [Array.getD_eq_getD_getElem?, Array.getElem?_eq_getElem (by omega), Option.getD_some] at hc ⊢
            exact hc, o, by rw [List.getElem?_toArray]; exact ho, fun e he _ => ih e.on (opOK_back hk e he) (by have := opOK_back hk e he; omega)⟩
          rw [hr] at this
          cases this
    exact (h1 (hall last (by omega))).2
  · refine ⟨by simp [hlen], fun e => ?_, fun _ => ⟨fun _ => undef, rfl, rfl, fun _ _ => rfl, (Below.refl _ _).drew, ?_, ?_, ?_, ?_⟩⟩
    · rw [rep_false] at e; cases e
    · intro i _ e; rw [rep_false] at e; cases e
    · intro i _ e; have := e.1; rw [rep_false] at this; cases this
    · intro i j _ _ e; have := e.1; rw [rep_false] at this; cases this
    · intro i _ e; have := e.1; rw [rep_false] at this; cases this
end Go.Proofs.Ytioeagadhnnajaa.Iv1
