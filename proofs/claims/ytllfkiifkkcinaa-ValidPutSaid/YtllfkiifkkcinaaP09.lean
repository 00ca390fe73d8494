/- Texts joined in build order: RegionInv Ref3Bare Ref3New StepRows Ref3Two ForestProp ForestEdit NodeRowW. -/
import Derived.Test.YtllfkiifkkcinaaP02
import Derived.Laws.AppendOwn
import Derived.Orders
import Derived.Test.YtllfkiifkkcinaaP06
import Derived.Test.YtllfkiifkkcinaaP07
import Derived.Test.YtllfkiifkkcinaaP01
import Derived.Test.YtllfkiifkkcinaaP08
/- A region that draws its order, walked once for all orders: what each operation leaves behind, kept by all the others. -/
namespace Go.Proofs.Ytllfkiifkkcinaa
open Go.RowKit
section
variable {P : Program} {md : Region.Mode} {ops : Array Oper} {Q : Exit → Act → World → Prop}
theorem ready_iff {listed : Array Bool} {i : Nat} : i ∈ Region.ready md ops listed ↔ i < ops.size ∧ listed.getD i true = false ∧ ∃ o, ops[i]? = some o ∧ ∀ e ∈ o.after, Region.binds md e = true → listed.getD e.on false = true := by
  unfold Region.ready
  rw [List.mem_filter, List.mem_range, Bool.and_eq_true, Bool.not_eq_true']
  refine and_congr_right fun hi => and_congr_right fun _ => ?_
  rw [Array.getElem?_eq_getElem hi]
  simp only [Option.map_some, Option.getD_some, Array.all_eq_true_iff_forall_mem, Bool.or_eq_true, Bool.not_eq_true', Option.some.injEq, exists_eq_left']
  refine forall_congr' fun e => forall_congr' fun _ => ?_
  cases Region.binds md e <;> simp
theorem count_set {l : List Bool} {i : Nat} (h : l[i]? = some false) : (l.set i true).count false + 1 = l.count false := by
  induction l generalizing i with
  | nil => simp at h
  | cons b l ih =>
    cases i with
    | zero =>
      obtain rfl : b = false := by simpa using h
      simp
    | succ i =>
      have := ih (i := i) (by simpa using h)
      simp only [List.set_cons_succ, List.count_cons]
      omega
theorem wpAny_inv (S : Array Bool → Act → World → Prop)
    (hs : ∀ listed a w i, i ∈ Region.ready md ops listed → S listed a w → wpOp P ops Q i (S (listed.setIfInBounds i true)) a w)
    (he : ∀ listed a w, Region.ready md ops listed = [] → S listed a w → Q .normal a w) :
    ∀ (fuel : Nat) (listed : Array Bool) (a : Act) (w : World), listed.size = ops.size → listed.toList.count false ≤ fuel → S listed a w → wpAny P md ops Q fuel listed a w := by
  intro fuel
  induction fuel with
  | zero =>
    intro listed a w hz hc h
    have hr : Region.ready md ops listed = [] := by
      refine List.eq_nil_iff_forall_not_mem.2 fun i hi => ?_
      obtain ⟨h1, h2, -⟩ := ready_iff.1 hi
      have hm : false ∈ listed.toList := by
        have h3 : i < listed.size := by omega
        rw [Array.getD_eq_getD_getElem?, Array.getElem?_eq_getElem h3, Option.getD_some] at h2
        rw [← h2, Array.mem_toList_iff]
        exact Array.getElem_mem h3
      have := List.count_pos_iff.2 hm
      omega
    exact ⟨hr, he _ _ _ hr h⟩
  | succ fuel ih =>
    intro listed a w hz hc h
    refine ⟨fun hr => he _ _ _ hr h, fun i hi => ?_⟩
    refine wpOp_mono (fun a w hk => ih _ a w (by simpa using hz) ?_ hk) (hs _ _ _ _ hi h)
    obtain ⟨h1, h2, -⟩ := ready_iff.1 hi
    have h3 : i < listed.size := by omega
    rw [Array.getD_eq_getD_getElem?, Array.getElem?_eq_getElem h3, Option.getD_some] at h2
    have := count_set (l := listed.toList) (i := i) (by rw [List.getElem?_eq_getElem (by simpa using h3)]; simpa using h2)
    rw [Array.toList_setIfInBounds]
    omega
end
/-- The block that a value points to first. -/
def blkOf : Value → List Nat
  | .slice (some a) _ _ => [a.block]
  | .pointer (some a) => [a.block]
  | _ => []
def blk : Value → List Nat
  | .agg vs => blkOf (vs.getD 0 undef)
  | v => blkOf v
/-- What is laid into a frame's slots. -/
def puts (l : List Value) : List (Option Tmp × Value) → List Value
  | [] => l
  | (some d, v) :: ps => puts (l.set d v) ps
  | (none, _) :: ps => puts l ps
theorem puts_eq {A : List Value} : ∀ (ps : List (Option Tmp × Value)) (l : List Value), A.length = l.length → (∀ p ∈ ps, ∀ d, p.1 = some d → A[d]? = some p.2) →
    (∀ t, (∀ p ∈ ps, p.1 ≠ some t) → A[t]? = l[t]?) → A = puts l ps := by
  intro ps
  induction ps with
  | nil =>
    intro l h1 h2 h3
    exact List.ext_getElem? fun t => h3 t (fun p hp => by cases hp)
  | cons p ps ih =>
    intro l h1 h2 h3
    obtain ⟨d, v⟩ := p
    cases d with
    | none => exact ih l h1 (fun p hp => h2 p (List.mem_cons_of_mem _ hp)) (fun t ht => h3 t (fun p hp => by
        rcases List.mem_cons.1 hp with rfl | hp
        · exact fun e => by cases e
        · exact ht p hp))
    | some d =>
      have hd := h2 _ (List.mem_cons_self ..) d rfl
      refine ih (l.set d v) (by rw [List.length_set]; exact h1) (fun p hp => h2 p (List.mem_cons_of_mem _ hp)) (fun t ht => ?_)
      by_cases hdt : d = t
      · subst hdt
        have hlt : d < l.length := by rw [← h1]; exact (List.getElem?_eq_some_iff.1 hd).1
        rw [hd, List.getElem?_set_self hlt]
      · rw [List.getElem?_set_ne hdt]
        refine h3 t (fun p hp => ?_)
        rcases List.mem_cons.1 hp with rfl | hp
        · exact fun e => hdt (by injection e)
        · exact ht p hp
/-- What the region's operations are for: what is kept of each (fact), whether it is a block of its own (owns), and which operation takes it (used). -/
structure Plan where
  fact : Nat → Value → World → Prop
  owns : Nat → Bool
  used : Nat → Option Nat
/-- Whether what operation j left still stands. -/
def Plan.live (p : Plan) (listed : Array Bool) (j : Nat) : Prop := listed.getD j false = true ∧ ∀ k, p.used j = some k → listed.getD k false = false
/-- The checks of the text. -/
def edgeOn (o : Oper) (j : Nat) : Bool := o.after.any fun e => e.on == j && Region.binds .any e
def opOK (l : List Oper) (last n : Nat) (used : Nat → Option Nat) (i : Nat) (o : Oper) : Bool :=
  o.guard.isNone && (o.after.all fun e => decide (e.on < i)) &&
  (if i == last then (List.range last).all fun j => edgeOn o j
   else (match o.dst with
    | none => false
    | some d => decide (d < n) && ((List.range last).all fun j => j == i || ((l[j]?).bind (·.dst)) != some d)) &&
    ((List.range last).all fun j => used j != some i || edgeOn o j))
def planOK (l : List Oper) (last n : Nat) (used : Nat → Option Nat) : Bool :=
  (l.length == last + 1) && ((List.range (last + 1)).all fun i => match l[i]? with
    | none => false
    | some o => opOK l last n used i o)
structure RInv (p : Plan) (l : List Oper) (last : Nat) (W : World) (a0 : Act) (v : Nat → Value) (listed : Array Bool) (a : Act) (w : World) : Prop where
  defers : a.defers = a0.defers
  tsize : a.tmps.size = a0.tmps.size
  rest : ∀ t, (∀ i, i < last → listed.getD i false = true → (l[i]?).bind (·.dst) ≠ some t) → a.tmps[t]? = a0.tmps[t]?
  below : Below W.heap.size W w
  vals : ∀ i, i < last → listed.getD i false = true → ∀ d, (l[i]?).bind (·.dst) = some d → a.tmps[d]? = some (v i)
  facts : ∀ i, i < last → p.live listed i → p.fact i (v i) w
  apart : ∀ i j, i < last → j < last → p.live listed i → p.live listed j → i ≠ j → p.owns i = true → p.owns j = true → ∀ b ∈ blk (v i), b ∉ blk (v j)
  bound : ∀ i, i < last → p.live listed i → p.owns i = true → ∀ b ∈ blk (v i), W.heap.size ≤ b ∧ b < w.heap.size
/-- What a step of operation i may ask, and must give. -/
structure StepIn (p : Plan) (l : List Oper) (last : Nat) (W : World) (a0 : Act) (i : Nat) (o : Oper) (a : Act) (w : World) (v : Nat → Value) : Prop where
  below : Below W.heap.size W w
  rest : ∀ t, (∀ j, j < last → (l[j]?).bind (·.dst) ≠ some t) → a.tmps[t]? = a0.tmps[t]?
  vals : ∀ j, j < last → edgeOn o j = true → ∀ d, (l[j]?).bind (·.dst) = some d → a.tmps[d]? = some (v j)
  facts : ∀ j, j < last → edgeOn o j = true → (p.used j = none ∨ p.used j = some i) → p.fact j (v j) w
  bound : ∀ j, j < last → edgeOn o j = true → (p.used j = none ∨ p.used j = some i) → p.owns j = true → ∀ b ∈ blk (v j), W.heap.size ≤ b ∧ b < w.heap.size
  apart : ∀ j k, j < last → k < last → p.used j = some i → p.used k = some i → j ≠ k → p.owns j = true → p.owns k = true → ∀ b ∈ blk (v j), b ∉ blk (v k)
def Took (p : Plan) (last i : Nat) (v : Nat → Value) (b : Nat) : Prop := ∃ j, j < last ∧ p.used j = some i ∧ p.owns j = true ∧ b ∈ blk (v j)
structure StepOut (p : Plan) (last i : Nat) (v : Nat → Value) (w : World) (u : Value) (w' : World) : Prop where
  fact : p.fact i u w'
  grown : ∃ row, w.grownBy w' row ∧ ∀ k, row = some k → Took p last i v k
  own : p.owns i = true → ∀ b ∈ blk u, (w.heap.size ≤ b ∧ b < w'.heap.size) ∨ Took p last i v b
def OpStep (P : Program) (Q : Exit → Act → World → Prop) (p : Plan) (l : List Oper) (last : Nat) (W : World) (a0 : Act) (i : Nat) (o : Oper) : Prop :=
  ∀ (a : Act) (w : World) (v : Nat → Value) (K : Act → World → Prop), StepIn p l last W a0 i o a w v → (∀ u w', StepOut p last i v w u w' → K (a.put o.dst u) w') → o.wp P a w K Q
theorem getD_set {listed : Array Bool} {i j : Nat} (hi : i < listed.size) : (listed.setIfInBounds i true).getD j false = if j = i then true else listed.getD j false := by
  by_cases h : j = i
  · subst h
    rw [if_pos rfl, Array.getD_eq_getD_getElem?, Array.getElem?_setIfInBounds_self_of_lt hi]
    rfl
  · rw [if_neg h, Array.getD_eq_getD_getElem?, Array.getD_eq_getD_getElem?, Array.getElem?_setIfInBounds_ne (fun e => h e.symm)]
theorem put_self {a : Act} {d : Nat} {u : Value} (h : d < a.tmps.size) : (a.put (some d) u).tmps[d]? = some u := by
  show (a.tmps.setIfInBounds d u)[d]? = _
  exact Array.getElem?_setIfInBounds_self_of_lt h
theorem put_ne {a : Act} {d t : Nat} {u : Value} (h : d ≠ t) : (a.put (some d) u).tmps[t]? = a.tmps[t]? := by
  show (a.tmps.setIfInBounds d u)[t]? = _
  exact Array.getElem?_setIfInBounds_ne h
theorem planOK_op {l : List Oper} {last n : Nat} {used : Nat → Option Nat} (h : planOK l last n used = true) {i : Nat} (hi : i < last + 1) : ∃ o, l[i]? = some o ∧ opOK l last n used i o = true := by
  unfold planOK at h
  rw [Bool.and_eq_true, List.all_eq_true] at h
  have := h.2 i (List.mem_range.2 hi)
  cases e : l[i]? with
  | none => rw [e] at this; cases this
  | some o => rw [e] at this; exact ⟨o, rfl, this⟩
theorem opOK_dst {l : List Oper} {last n : Nat} {used : Nat → Option Nat} {i : Nat} {o : Oper} (h : opOK l last n used i o = true) (hi : i < last) :
    o.guard = none ∧ ∃ d, o.dst = some d ∧ d < n ∧ (∀ j, j < last → j ≠ i → (l[j]?).bind (·.dst) ≠ some d) ∧ ∀ j, j < last → used j = some i → edgeOn o j = true := by
  unfold opOK at h
  rw [if_neg (by simpa using Nat.ne_of_lt hi)] at h
  simp only [Bool.and_eq_true, List.all_eq_true, List.mem_range, Option.isNone_iff_eq_none] at h
  obtain ⟨⟨h1, -⟩, h2, h3⟩ := h
  refine ⟨h1, ?_⟩
  cases hd : o.dst with
  | none => rw [hd] at h2; cases h2
  | some d =>
    rw [hd] at h2
    simp only [Bool.and_eq_true, decide_eq_true_eq, List.all_eq_true, List.mem_range, Bool.or_eq_true, beq_iff_eq, bne_iff_ne] at h2 h3
    exact ⟨d, rfl, h2.1, fun j hj hne => (h2.2 j hj).resolve_left hne, fun j hj hu => (h3 j hj).resolve_left (fun e => e hu)⟩
theorem opOK_last {l : List Oper} {last n : Nat} {used : Nat → Option Nat} {o : Oper} (h : opOK l last n used last o = true) : o.guard = none ∧ ∀ j, j < last → edgeOn o j = true := by
  unfold opOK at h
  rw [if_pos (by simp)] at h
  simp only [Bool.and_eq_true, List.all_eq_true, List.mem_range, Option.isNone_iff_eq_none] at h
  exact ⟨h.1.1, h.2⟩
theorem opOK_back {l : List Oper} {last n : Nat} {used : Nat → Option Nat} {i : Nat} {o : Oper} (h : opOK l last n used i o = true) : ∀ e ∈ o.after, e.on < i := by
  unfold opOK at h
  simp only [Bool.and_eq_true, Array.all_eq_true_iff_forall_mem, decide_eq_true_eq] at h
  exact h.1.2
theorem edge_listed {l : List Oper} {listed : Array Bool} {i j : Nat} {o : Oper} (ho : l[i]? = some o) (hr : i ∈ Region.ready .any l.toArray listed) (he : edgeOn o j = true) : listed.getD j false = true := by
  obtain ⟨-, -, o', ho', h⟩ := ready_iff.1 hr
  obtain rfl : o = o' := by
    rw [List.getElem?_toArray, ho] at ho'
    injection ho'
  obtain ⟨e, hm, h2⟩ := Array.any_eq_true'.1 he
  rw [Bool.and_eq_true, beq_iff_eq] at h2
  have := h e hm h2.2
  rwa [h2.1] at this
/-- One step keeps all. -/
theorem RInv.step {P : Program} {Q : Exit → Act → World → Prop} {p : Plan} {l : List Oper} {last n : Nat} {W : World} {a0 : Act} {v : Nat → Value} {listed : Array Bool} {a : Act} {w : World} {i : Nat} {o : Oper}
    (hok : planOK l last n p.used = true) (hn : n ≤ a0.tmps.size) (hz : listed.size = last + 1) (hi : i < last) (ho : l[i]? = some o) (hr : i ∈ Region.ready .any l.toArray listed)
    (hstab : ∀ j, j < last → ∀ u w w' row, p.fact j u w → w.grownBy w' row → (∀ k, row = some k → p.owns j = true → k ∉ blk u) → (∀ k, row = some k → W.heap.size ≤ k) → p.fact j u w')
    (hop : OpStep P Q p l last W a0 i o) (h : RInv p l last W a0 v listed a w) :
    o.wp P a w (fun a' w' => ∃ v', RInv p l last W a0 v' (listed.setIfInBounds i true) a' w') Q := by
  obtain ⟨o', ho', hoo⟩ := planOK_op hok (show i < last + 1 by omega)
  obtain rfl : o = o' := by rw [ho] at ho'; injection ho'
  obtain ⟨-, d, hd, hdn, hdist, huse⟩ := opOK_dst hoo hi
  have hun : listed.getD i false = false := by
    have := (ready_iff.1 hr).2.1
    rw [Array.getD_eq_getD_getElem?, Array.getElem?_eq_getElem (by omega), Option.getD_some] at this ⊢
    exact this
  have hlive : ∀ j, edgeOn o j = true → (p.used j = none ∨ p.used j = some i) → p.live listed j := fun j he hu =>
    ⟨edge_listed ho hr he, fun k hk => by
      rcases hu with hu | hu
      · rw [hu] at hk; cases hk
      · rw [hu] at hk
        injection hk with hk
        rw [← hk]; exact hun⟩
  have hset : ∀ j, (listed.setIfInBounds i true).getD j false = if j = i then true else listed.getD j false := fun j => getD_set (by omega)
  have hda : d < a.tmps.size := by rw [h.tsize]; exact Nat.lt_of_lt_of_le hdn hn
  refine hop a w v _ ⟨h.below, fun t ht => h.rest t (fun j hj _ => ht j hj), fun j hj he d hd => h.vals j hj (edge_listed ho hr he) d hd, fun j hj he hu => h.facts j hj (hlive j he hu),
    fun j hj he hu => h.bound j hj (hlive j he hu), fun j k hj hk hu hu2 hne => h.apart j k hj hk (hlive j (huse j hj hu) (.inr hu)) (hlive k (huse k hk hu2) (.inr hu2)) hne⟩ ?_
  intro u w' ⟨hf, ⟨row, hg, hrow⟩, hown⟩
  have htook : ∀ b, Took p last i v b → W.heap.size ≤ b ∧ b < w.heap.size := fun b ⟨j, hj, hu, ho2, hb⟩ => h.bound j hj (hlive j (huse j hj hu) (.inr hu)) ho2 b hb
  have hold : ∀ j, j ≠ i → p.live (listed.setIfInBounds i true) j → p.live listed j ∧ p.used j ≠ some i := fun j hne hl =>
    ⟨⟨by have := hl.1; rwa [hset, if_neg hne] at this, fun k hk => by
        have := hl.2 k hk
        rw [hset] at this
        split at this
        · cases this
        · exact this⟩,
      fun e => by
        have := hl.2 i e
        rw [hset, if_pos rfl] at this
        cases this⟩
  have htookne : ∀ b j, j < last → p.live listed j → p.used j ≠ some i → p.owns j = true → Took p last i v b → b ∉ blk (v j) := fun b j hj hl hu ho2 ⟨k, hk, hu2, ho3, hb⟩ =>
    h.apart k j hk hj (hlive k (huse k hk hu2) (.inr hu2)) hl (fun e => hu (e ▸ hu2)) ho3 ho2 b hb
  refine ⟨fun j => if j = i then u else v j, ?_, ?_, ?_, ?_, ?_, ?_, ?_, ?_⟩
  · rw [hd]; exact h.defers
  · rw [hd, ← h.tsize]
    show (a.tmps.setIfInBounds d u).size = _
    simp
  · intro t ht
    have hdt : d ≠ t := fun e => ht i hi (by rw [hset, if_pos rfl]) (by rw [ho]; show o.dst = _; rw [hd, e])
    rw [hd, put_ne hdt]
    exact h.rest t (fun j hj hl => ht j hj (by rw [hset]; split <;> first | rfl | exact hl))
  · exact h.below.grown hg h.below.size (fun k hk => (htook k (hrow k hk)).1)
  · intro j hj hl d2 hd2
    by_cases hji : j = i
    · subst hji
      rw [ho] at hd2
      have e : some d = some d2 := hd.symm.trans hd2
      injection e with e
      subst e
      rw [hd, put_self hda, if_pos rfl]
    · rw [hset, if_neg hji] at hl
      have hne : d ≠ d2 := fun e => hdist j hj hji (by rw [e]; exact hd2)
      rw [hd, put_ne hne, if_neg hji]
      exact h.vals j hj hl d2 hd2
  · intro j hj hl
    by_cases hji : j = i
    · subst hji
      rw [if_pos rfl]; exact hf
    · obtain ⟨h1, h2⟩ := hold j hji hl
      rw [if_neg hji]
      exact hstab j hj _ _ _ row (h.facts j hj h1) hg (fun k hk ho2 => htookne k j hj h1 h2 ho2 (hrow k hk)) (fun k hk => (htook k (hrow k hk)).1)
  · intro j k hj hk hl hl2 hne ho1 ho2 b hb hb2
    by_cases hji : j = i
    · subst hji
      have hkj : k ≠ j := fun e => hne e.symm
      obtain ⟨h1, h2⟩ := hold k hkj hl2
      rw [if_pos rfl] at hb
      rw [if_neg hkj] at hb2
      rcases hown ho1 b hb with h3 | h3
      · have := (h.bound k hk h1 ho2 b hb2).2
        omega
      · exact htookne b k hk h1 h2 ho2 h3 hb2
    · obtain ⟨h1, h2⟩ := hold j hji hl
      rw [if_neg hji] at hb
      by_cases hki : k = i
      · subst hki
        rw [if_pos rfl] at hb2
        rcases hown ho2 b hb2 with h3 | h3
        · have := (h.bound j hj h1 ho1 b hb).2
          omega
        · exact htookne b j hj h1 h2 ho1 h3 hb
      · rw [if_neg hki] at hb2
        exact h.apart j k hj hk h1 (hold k hki hl2).1 hne ho1 ho2 b hb hb2
  · intro j hj hl ho1 b hb
    by_cases hji : j = i
    · subst hji
      rw [if_pos rfl] at hb
      rcases hown ho1 b hb with h3 | h3
      · exact ⟨Nat.le_trans h.below.size h3.1, h3.2⟩
      · exact ⟨(htook b h3).1, Nat.lt_of_lt_of_le (htook b h3).2 hg.size⟩
    · rw [if_neg hji] at hb
      have := h.bound j hj (hold j hji hl).1 ho1 b hb
      exact ⟨this.1, Nat.lt_of_lt_of_le this.2 hg.size⟩
theorem rep_false {n j : Nat} : (Array.replicate n false).getD j false = false := by
  rw [Array.getD_eq_getD_getElem?, Array.getElem?_replicate]
  split <;> rfl
/-- The frame behind all but the last operation. -/
def allPut (l : List Oper) (last : Nat) (a0 : Act) (v : Nat → Value) : Act := ⟨(puts a0.tmps.toList ((List.range last).map fun i => ((l[i]?).bind (·.dst), v i))).toArray, a0.defers⟩
theorem wp_region_inv {P : Program} {id : Nat} {Q : Exit → Act → World → Prop} {a0 : Act} {W : World} {l : List Oper} (p : Plan) (last n : Nat) (hm : P.follows .mixedOrders = true)
    (hok : planOK l last n p.used = true) (hn : n ≤ a0.tmps.size)
    (hstab : ∀ j, j < last → ∀ u w w' row, p.fact j u w → w.grownBy w' row → (∀ k, row = some k → p.owns j = true → k ∉ blk u) → (∀ k, row = some k → W.heap.size ≤ k) → p.fact j u w')
    (hop : ∀ i, i < last → ∀ o, l[i]? = some o → OpStep P Q p l last W a0 i o)
    (hlast : ∀ o, l[last]? = some o → ∀ w v, StepIn p l last W a0 last o (allPut l last a0 v) w v → o.wp P (allPut l last a0 v) w (Q .normal) Q) :
    (Code.region id l.toArray true).wp P Q a0 W := by
  have hlen : l.length = last + 1 := by
    unfold planOK at hok
    rw [Bool.and_eq_true, beq_iff_eq] at hok
    exact hok.1
  refine wp_region_any hm (wpAny_inv (fun listed a w => listed.size = last + 1 ∧ ((listed.getD last false = true → (∀ j, j < last → listed.getD j false = true) ∧ Q .normal a w) ∧ (listed.getD last false = false → ∃ v, RInv p l last W a0 v listed a w))) ?_ ?_ _ _ _ _ (by simp) (by simp) ?_)
  · intro listed a w i hi ⟨hz, h1, h2⟩
    obtain ⟨hil, hun, -⟩ := ready_iff.1 hi
    have hil : i < last + 1 := by simpa [hlen] using hil
    obtain ⟨o, ho, hk⟩ := planOK_op hok hil
    have hgd : o.guard = none := by
      unfold opOK at hk
      simp only [Bool.and_eq_true, Option.isNone_iff_eq_none] at hk
      exact hk.1.1
    have hun' : listed.getD i false = false := by
      rw [Array.getD_eq_getD_getElem?, Array.getElem?_eq_getElem (by omega), Option.getD_some] at hun ⊢
      exact hun
    unfold wpOp
    rw [List.getElem?_toArray, ho]
    show if Region.wanted o _ = true then _ else _
    rw [if_pos (by simp [Region.wanted, hgd])]
    refine .inl ?_
    by_cases hil2 : i = last
    · subst hil2
      obtain ⟨v, hv⟩ := h2 hun'
      have hall : ∀ j, j < i → listed.getD j false = true := fun j hj => edge_listed ho hi ((opOK_last hk).2 j hj)
      have hlive : ∀ j, j < i → (p.used j = none ∨ p.used j = some i) → p.live listed j := fun j hj hu => ⟨hall j hj, fun k hk => by
        rcases hu with hu | hu
        · rw [hu] at hk; cases hk
        · rw [hu] at hk
          injection hk with hk
          rw [← hk]; exact hun'⟩
      have ea : a = allPut l i a0 v := by
        have e := puts_eq (A := a.tmps.toList) ((List.range i).map fun j => ((l[j]?).bind (·.dst), v j)) a0.tmps.toList (by simp [hv.tsize]) (fun q hq d hd => by
          obtain ⟨j, hj, rfl⟩ := List.mem_map.1 hq
          rw [List.mem_range] at hj
          rw [Array.getElem?_toList]
          exact hv.vals j hj (hall j hj) d hd) (fun t ht => by
          rw [Array.getElem?_toList, Array.getElem?_toList]
          exact hv.rest t (fun j hj _ e => ht _ (List.mem_map.2 ⟨j, List.mem_range.2 hj, rfl⟩) e))
        obtain ⟨ts, ds⟩ := a
        have e2 : ds = a0.defers := hv.defers
        unfold allPut
        rw [← e, e2]
      have := hlast o ho w v ⟨hv.below, fun t ht => by rw [← ea]; exact hv.rest t (fun j hj _ => ht j hj), fun j hj he d hd => by rw [← ea]; exact hv.vals j hj (hall j hj) d hd, fun j hj _ hu => hv.facts j hj (hlive j hj hu),
        fun j hj _ hu => hv.bound j hj (hlive j hj hu), fun j k hj hk hu hu2 hne => hv.apart j k hj hk (hlive j hj (.inr hu)) (hlive k hk (.inr hu2)) hne⟩
      rw [← ea] at this
      refine Oper.wp_mono (fun a' w' hq => ⟨by simpa using hz, fun _ => ⟨fun j hj => by rw [getD_set (by omega), if_neg (by omega)]; exact hall j hj, hq⟩, fun e => ?_⟩) this
      rw [getD_set (by omega), if_pos rfl] at e
      cases e
    · have hi2 : i < last := by omega
      have hll : listed.getD last false = false := by
        cases hc : listed.getD last false with
        | false => rfl
        | true =>
          have := (h1 hc).1 i hi2
          rw [this] at hun'
          cases hun'
      obtain ⟨v, hv⟩ := h2 hll
      refine Oper.wp_mono (fun a' w' hq => ⟨by simpa using hz, fun e => ?_, fun _ => hq⟩) (RInv.step hok hn hz hi2 ho hi hstab (hop i hi2 o ho) hv)
      rw [getD_set (by omega), if_neg (fun e => hil2 e.symm), hll] at e
      cases e
  · intro listed a w hr ⟨hz, h1, h2⟩
    have hall : ∀ j, j < last + 1 → listed.getD j false = true := by
      intro j
      induction j using Nat.strongRecOn with
      | ind j ih =>
        intro hj
        cases hc : listed.getD j false with
        | true => rfl
        | false =>
          obtain ⟨o, ho, hk⟩ := planOK_op hok hj
          have : j ∈ Region.ready .any l.toArray listed := ready_iff.2 ⟨by simpa [hlen] using hj, by
            rw [Array.getD_eq_getD_getElem?, Array.getElem?_eq_getElem (by omega), Option.getD_some] at hc ⊢
            exact hc, o, by rw [List.getElem?_toArray]; exact ho, fun e he _ => ih e.on (opOK_back hk e he) (by have := opOK_back hk e he; omega)⟩
          rw [hr] at this
          cases this
    exact (h1 (hall last (by omega))).2
  · refine ⟨by simp [hlen], fun e => ?_, fun _ => ⟨fun _ => undef, rfl, rfl, fun _ _ => rfl, (Below.refl _ _).drew, ?_, ?_, ?_, ?_⟩⟩
    · rw [rep_false] at e; cases e
    · intro i _ e; rw [rep_false] at e; cases e
    · intro i _ e; have := e.1; rw [rep_false] at this; cases this
    · intro i j _ _ e; have := e.1; rw [rep_false] at this; cases this
    · intro i _ e; have := e.1; rw [rep_false] at this; cases this
end Go.Proofs.Ytllfkiifkkcinaa
/- instarref03's Bare. -/
namespace Go.Proofs.Ytllfkiifkkcinaa
open Go.RowKit
/-- A bare node. -/
def bareD (kind doc : Int) : NodeD := ⟨⟨kind, ⟨#[]⟩, ⟨#[]⟩, ⟨#[]⟩, [], -1, [], -1, -1, doc⟩, none, 0, 0, none, 0, 0⟩
theorem bareD_ok (w : World) {kind doc : Int} (hk : In64 kind) (hd : In64 doc) : NodeOk w (bareD kind doc) := by
  refine ⟨⟨SRow.nil, (fun z hz => by cases hz), fun _ => rfl⟩, ⟨SRow.nil, (fun z hz => by cases hz), fun _ => rfl⟩, ?_, ?_, ?_, hk, inM1, inM1, inM1, hd⟩
  · show 0 ≤ maxLen; decide
  · show 0 ≤ maxLen; decide
  · show 0 ≤ maxLen; decide
set_option maxHeartbeats 8000000 in
set_option maxRecDepth 100000 in
theorem refbare_any (kind doc : Int) (w : World) (hk : In64 kind) (hd : In64 doc) :
    Calls Try.prog 63 #[.int .i64 kind, .int .i64 doc] w fun e w' => e = .returned (nodVal (bareD kind doc)) ∧ Below w.heap.size w w' := by
  obtain ⟨W, hW, NB⟩ : ∃ W, w.alloc (nodB (bareD kind doc)) = W ∧ NBox w W w.heap.size (bareD kind doc) := ⟨_, rfl, (NKeep.start (bareD_ok w hk hd)).box⟩
  have NB := Lib.hid NB
  have HW := Lib.hid hW
  have HB : Hid (Below w.heap.size w W) := Lib.hid (by rw [← hW]; exact below_box w _)
  clear hW
  go_enter Try.func63, Try.ntmps63
  go_wp2
  refine (show ∀ W2, W2 = W → _ from fun W2 e => ?_) _ HW.out
  subst e
  obtain ⟨-, x0, x1, x2, x3, x4, x5, x6, x7, x8, x9, -⟩ := NB.out
  unfold bareD at x0 x1 x2 x3 x4 x5 x6 x7 x8 x9
  dsimp only at x0 x1 x2 x3 x4 x5 x6 x7 x8 x9
  refine bodyPost_ret (v := nodVal (bareD kind doc)) ?_ rfl ⟨rfl, HB.out⟩
  simp [results, Try.results63, go_sem, x0, x1, x2, x3, x4, x5, x6, x7, x8, x9, bareD]
end Go.Proofs.Ytllfkiifkkcinaa
/- instarref03's New. -/
namespace Go.Proofs.Ytllfkiifkkcinaa
open Go.RowKit
theorem bareD_away (g : Nat) (k d : Int) : NodeAway g (bareD k d) := ⟨fun b off hb _ _ => (by cases hb), fun b off hb => (by cases hb)⟩
set_option maxHeartbeats 8000000 in
set_option maxRecDepth 100000 in
theorem refnew_any (most : Int) (w : World) : Calls Try.prog 21 #[.int .i64 most] w fun e w' => ∃ a, e = .returned (forV a 1 1 most) ∧ NodeRow w' a 1 1 [bareD 0 0] ∧ Below w.heap.size w w' := by
  have CB : Hid (∀ W, Calls Try.prog 63 #[.int .i64 0, .int .i64 0] W fun e w' => e = .returned (nodVal (bareD 0 0)) ∧ Below W.heap.size W w') := Lib.hid (fun W => refbare_any 0 0 W ⟨by decide, by decide⟩ ⟨by decide, by decide⟩)
  have B0 := Lib.hid (Box2.new w (.slice none 0 0) (.int .i64 0) 24)
  go_enter Try.func21, Try.ntmps21
  go_wp2_with (go_at_call 63; refine (CB.out _).mono ?_; intro e w1 hp; obtain ⟨rfl, hb⟩ := hp; have HB := Lib.hid hb; have B1 := Lib.hid (B0.out.keep hb); have e0 := (B1.out.keep (below_box w1 (nodB (bareD 0 0)))).c0; have e1 := (B1.out.keep (below_box w1 (nodB (bareD 0 0)))).c1; have g0 := (B1.out.keep (below_box w1 (nodB (bareD 0 0)))).f0; have g1 := (B1.out.keep (below_box w1 (nodB (bareD 0 0)))).f1; clear hb)
  clear e0 e1 g0 g1
  obtain ⟨W, hW, RW, BR, BW⟩ : ∃ W, w1.alloc (nodB (bareD 0 0)) = W ∧ NodeRow W (some ⟨w1.heap.size, 0, none⟩) 1 1 [bareD 0 0] ∧ Box2 W w.heap.size (.slice none 0 0) (.int .i64 0) ∧ Below w.heap.size w W := by
    have h1 : NodeRow (w1.alloc (nodB (bareD 0 0))) (some ⟨w1.heap.size, 0, none⟩) 1 1 [bareD 0 0] := ⟨own_one w1 28 (bareD 0 0) (encN (bareD 0 0)).toArray (by simp) rfl, (fun z hz => by
      obtain rfl : z = bareD 0 0 := by simpa using hz
      exact bareD_ok _ ⟨by decide, by decide⟩ ⟨by decide, by decide⟩), fun h => by cases h⟩
    exact ⟨_, rfl, h1, B1.out.keep (below_box _ _), (below_box w _).trans ((HB.out.mono (by simp)).trans ((below_box w1 _).mono (by have := HB.out.size; simp at this; omega)))⟩
  have HW := Lib.hid hW
  have RW := Lib.hid RW
  have BR := Lib.hid BR
  have BW := Lib.hid BW
  have HNE : Hid (w1.heap.size ≠ w.heap.size) := Lib.hid (by have := HB.out.size; simp at this; omega)
  have HAW : Hid (∀ x ∈ [bareD 0 0], NodeAway w.heap.size x) := Lib.hid (fun x hx => by
    obtain rfl : x = bareD 0 0 := by simpa using hx
    exact bareD_away _ _ _)
  rw [hW]
  clear hW
  have e0 := BR.out.c0
  have e1 := BR.out.c1
  have g0 := BR.out.f0
  have g1 := BR.out.f1
  refine bodyPost_ret (v := forV (some ⟨w1.heap.size, 0, none⟩) 1 1 most) ?_ rfl ⟨_, rfl, (RW.out.boxCell HNE.out HAW.out 0 _).boxCell HNE.out HAW.out 1 _, (BW.out.setCell (p := ⟨w.heap.size, 0, none⟩) (Nat.le_refl _) _).setCell (p := ⟨w.heap.size, 1, none⟩) (Nat.le_refl _) _⟩
  simp [results, Try.results21, go_sem, e0, e1]
end Go.Proofs.Ytllfkiifkkcinaa
/- append of any slice onto one of the call's own, at a step of a region that draws its order. No program. -/
namespace Go.Proofs.Ytllfkiifkkcinaa
open Go.RowKit
theorem step_append_rows {P : Program} {α : Type} {enc : α → List Value} {w : World} {ops : Array Oper} {o : Oper} {a : Act} {K : Act → World → Prop} {Q : Exit → Act → World → Prop} {E : Prop} (hgd : o.guard = none) (s x : Operand) (t : TypeId)
    (ho : o.op = .call { callee := .builtin .append, args := #[s, x], argTypes := #[t, t] })
    (e : TypeId) (i : TypeInfo) (z : Value) (size bytes : Nat) (ht : P.underlying t = some (.slice e)) (hi : P.info? e = some i) (hz : i.zero = some z)
    (hsize : i.size = size) (hby : i.bytes = bytes) (hzs : z.cells.size = size) (hsz : 0 < size) (base : Nat)
    (v : Value) (n : Nat) (L M : List α) (hs : a.eval s = v) (hown : w.ownsRow base e size v n (L.flatMap enc)) (ad : Option Addr) (m c : Nat) (hx : a.eval x = .slice ad m c) (hsrc : SRow enc size w ad m c M) (h1 : ∀ x ∈ M, ∀ u ∈ enc x, u.oneCell' = true)
    (h63 : n + m ≤ maxLen) (hbytes : (n + m) * bytes ≤ 140737488355328) (hbase : base ≤ w.heap.size) (hnil : ad = none → c = 0)
    (h : ∀ v' w', w'.ownsRow base e size v' (n + m) ((L ++ M).flatMap enc) → w.grownBy w' v.ownBlock → (v'.ownBlock = v.ownBlock ∨ v'.ownBlock = some w.heap.size) → K (a.put o.dst v') w') :
    if Region.wanted o (yielded ops a.tmps) = true then Oper.wp P o a w K Q else E := by
  have hw : Region.wanted o (yielded ops a.tmps) = true := by simp [Region.wanted, hgd]
  rw [if_pos hw]
  obtain ⟨v', w', hr, h2, h3, h4⟩ := run_append_rows (P := P) w t o.type e i z size bytes ht hi hz hsize hby hzs hsz base v n L M hown ad m c hsrc h1 h63 hbytes hbase hnil
  unfold Oper.wp execOp
  simp only [ho, resolve, invoke, builtin, Sem.run_bind, Sem.run_pure, Result.andThen_ok, List.map_toArray, List.map_cons, List.map_nil, hs, hx, hr]
  exact h v' w' h2 h3 h4
end Go.Proofs.Ytllfkiifkkcinaa
/- Two appends in a region that draws its order: a copy of a forest's nodes, and one node more. -/
namespace Go.Proofs.Ytllfkiifkkcinaa
open Go.RowKit
/-- A row of nodes that was made behind W. -/
structure RowOf (W V : World) (v : Value) (n : Nat) (L : List NodeD) : Prop where
  own : V.ownsRow W.heap.size 28 10 v n (L.flatMap encN)
  below : Below W.heap.size W V
/-- A literal of one node that was made behind W. -/
structure LitOf (W V : World) (g : Nat) (y : NodeD) : Prop where
  row : SRow encN 10 V (some ⟨g, 0, none⟩) 1 1 [y]
  ge : W.heap.size ≤ g
  lt : g < V.heap.size
/-- An empty literal that was made behind W. -/
structure NilOf (W V : World) (g : Nat) : Prop where
  own : V.ownsRow W.heap.size 28 10 (.slice (some ⟨g, 0, none⟩) 0 0) 0 (([] : List NodeD).flatMap encN)
theorem RowOf.keep {W V V2 : World} {v : Value} {n : Nat} {L : List NodeD} (h : RowOf W V v n L) (hb : Below V.heap.size V V2) : RowOf W V2 v n L := ⟨own_below h.own hb, h.below.trans (hb.mono h.below.size)⟩
theorem LitOf.keep {W V V2 : World} {g : Nat} {y : NodeD} (h : LitOf W V g y) (hb : Below V.heap.size V V2) : LitOf W V2 g y := ⟨h.row.below hb, h.ge, Nat.lt_of_lt_of_le h.lt hb.size⟩
theorem NilOf.keep {W V V2 : World} {g : Nat} (h : NilOf W V g) (hb : Below V.heap.size V V2) : NilOf W V2 g := ⟨own_below h.own hb⟩
theorem LitOf.new {W V : World} {g : Nat} {y : NodeD} (hb : Below W.heap.size W V) (hg : g = V.heap.size) : LitOf W (V.alloc (nodB y)) g y := by
  subst hg
  exact ⟨own_one V 28 y (encN y).toArray (by simp) rfl, hb.size, by simp⟩
theorem NilOf.new {W V : World} {g : Nat} (hb : Below W.heap.size W V) (hg : g = V.heap.size) : NilOf W (V.alloc (.cells #[] 28)) g := by
  subst hg
  exact ⟨World.ownsRow_lit (base := W.heap.size) (e := 28) (size := 10) V #[] 0 hb.size (Nat.zero_le _) (by simp)⟩
theorem LitOf.grown {W V V2 : World} {g : Nat} {y : NodeD} {row : Option Nat} (h : LitOf W V g y) (hg : V.grownBy V2 row) (hne : some g ≠ row) : LitOf W V2 g y :=
  ⟨h.row.grown hg (fun b off e _ => by
    injection e with e
    injection e with e1
    rw [← e1]
    exact hne), h.ge, Nat.lt_of_lt_of_le h.lt hg.size⟩
theorem Box2.newAt {W : World} {g : Nat} {u v : Value} {t : TypeId} (hg : g = W.heap.size) : Box2 (W.alloc (.cells #[u, v] t)) g u v := by
  subst hg
  exact Box2.new W u v t
/-- A box behind W that the row does not lie in. -/
structure BoxOf (V : World) (g : Nat) (v : Value) : Prop where
  box : Box2 V g (.slice none 0 0) (.int .i64 0)
  ne : v.ownBlock ≠ some g
theorem step_first {P : Program} {W V : World} {ops : Array Oper} {o : Oper} {a : Act} {K : Act → World → Prop} {Q : Exit → Act → World → Prop} {E : Prop} (hgd : o.guard = none) (s x : Operand) (t : TypeId)
    (ho : o.op = .call { callee := .builtin .append, args := #[s, x], argTypes := #[t, t] })
    (i : TypeInfo) (z : Value) (ht : P.underlying t = some (.slice 28)) (hi : P.info? 28 = some i) (hz : i.zero = some z)
    (hsize : i.size = 10) (hby : i.bytes = 136) (hzs : z.cells.size = 10)
    {ad : Option Addr} {len cap : Nat} {L : List NodeD} (hr : NodeRow W ad len cap L) (hl : len ≤ 1000) (g : Nat) (hs : a.eval s = .slice (some ⟨g, 0, none⟩) 0 0) (hb : Below W.heap.size W V) (hn : NilOf W V g) (hx : a.eval x = .slice ad len cap)
    (h : ∀ v' w', RowOf W w' v' len L → V.grownBy w' (some g) → (v'.ownBlock = some g ∨ v'.ownBlock = some V.heap.size) → K (a.put o.dst v') w') :
    if Region.wanted o (yielded ops a.tmps) = true then Oper.wp P o a V K Q else E := by
  refine step_append_rows hgd s x t ho 28 i z 10 136 ht hi hz hsize hby hzs (by decide) W.heap.size _ 0 [] L hs hn.own ad len cap hx (hr.below hb).row (fun x _ => encN_one x) (by unfold maxLen; omega) (by omega) hb.size hr.hnil ?_
  intro v' w' h1 h2 h3
  refine h v' w' ⟨by rwa [Nat.zero_add, List.nil_append] at h1, hb.grown h2 hb.size (fun k e => (hn.own.lt k e).1)⟩ h2 h3
theorem step_second {P : Program} {W V : World} {ops : Array Oper} {o : Oper} {a : Act} {K : Act → World → Prop} {Q : Exit → Act → World → Prop} {E : Prop} (hgd : o.guard = none) (s x : Operand) (t : TypeId)
    (ho : o.op = .call { callee := .builtin .append, args := #[s, x], argTypes := #[t, t] })
    (i : TypeInfo) (z : Value) (ht : P.underlying t = some (.slice 28)) (hi : P.info? 28 = some i) (hz : i.zero = some z)
    (hsize : i.size = 10) (hby : i.bytes = 136) (hzs : z.cells.size = 10)
    (v : Value) (len : Nat) (L : List NodeD) (hl : len ≤ 1000) (hs : a.eval s = v) (hr : RowOf W V v len L) (g : Nat) (y : NodeD) (hx : a.eval x = .slice (some ⟨g, 0, none⟩) 1 1) (hq : LitOf W V g y)
    (h : ∀ g' cap' w', RowOf W w' (.slice (some ⟨g', 0, none⟩) (len + 1) cap') (len + 1) (L ++ [y]) → V.grownBy w' v.ownBlock → (v.ownBlock = some g' ∨ g' = V.heap.size) → K (a.put o.dst (.slice (some ⟨g', 0, none⟩) (len + 1) cap')) w') :
    if Region.wanted o (yielded ops a.tmps) = true then Oper.wp P o a V K Q else E := by
  refine step_append_rows hgd s x t ho 28 i z 10 136 ht hi hz hsize hby hzs (by decide) W.heap.size v len L [y] hs hr.own (some ⟨g, 0, none⟩) 1 1 hx hq.row (fun x _ => encN_one x) (by unfold maxLen; omega) (by omega) hr.below.size (fun h => by cases h) ?_
  intro v' w' h1 h2 h3
  have hv : ∃ g' cap', v' = .slice (some ⟨g', 0, none⟩) (len + 1) cap' := by
    rcases h1.2 with ⟨_, h0⟩ | ⟨g', cap', _, rfl, _⟩
    · omega
    · exact ⟨g', cap', rfl⟩
  obtain ⟨g', cap', rfl⟩ := hv
  exact h g' cap' w' ⟨h1, hr.below.grown h2 hr.below.size (fun k e => (hr.own.lt k e).1)⟩ h2 (by
    rcases h3 with h3 | h3
    · exact .inl h3.symm
    · exact .inr (by injection h3))
end Go.Proofs.Ytllfkiifkkcinaa
/- Forests that are right, said in words of each node; and how one is shown to be right. Plain mathematics, no program. -/
namespace Go.Proofs.Ytllfkiifkkcinaa
open Go.RowKit
/-- What a node of a forest keeps to. -/
structure NodeP (F : List Core) (i : Nat) (x : Core) : Prop where
  kind : 0 ≤ x.kind ∧ x.kind ≤ 4
  doc : ∃ d, getC F x.doc = some d ∧ d.kind = 0
  own : x.kind = 0 → x.doc = (i : Int)
  par : x.parent = -1 ∨ ((x.kind = 1 ∨ x.kind = 2) ∧ ∃ p, getC F x.parent = some p ∧ p.kind ≠ 2 ∧ (i : Int) ∈ p.kids)
  once : x.kids.Nodup
  kids : ∀ k ∈ x.kids, ∃ c, getC F k = some c ∧ (c.kind = 1 ∨ c.kind = 2) ∧ c.parent = (i : Int) ∧ c.doc = x.doc
  leaf : x.kind = 2 → x.kids = []
  root : x.kind = 0 → x.kids.length ≤ 1 ∧ ∀ k ∈ x.kids, kindK F k = 1
  host : x.kind = 4 → ∃ h, getC F x.host = some h ∧ h.kind = 1 ∧ h.under = (i : Int) ∧ h.doc = x.doc
  free : x.kind ≠ 4 → x.host = -1
  under : x.under = -1 ∨ (x.kind = 1 ∧ ∃ u, getC F x.under = some u ∧ u.kind = 4 ∧ u.host = (i : Int))
  text : textOk x = true
theorem shapeOk_iff {F : List Core} {x : Core} : shapeOk F x = true ↔ (x.kind = 2 → x.kids = []) ∧ (x.kind = 0 → elemsK F x ≤ 1 ∧ x.kids.length ≤ elemsK F x) := by
  unfold shapeOk
  simp only [Bool.and_eq_true, Bool.not_eq_true', Bool.and_eq_false_iff, beq_eq_false_iff_ne, decide_eq_false_iff_not, Bool.or_eq_false_iff]
  constructor
  · rintro ⟨h1, h2⟩
    refine ⟨fun e => ?_, fun e => ?_⟩
    · rcases h1 with h | h
      · exact absurd e h
      · exact List.eq_nil_of_length_eq_zero (by omega)
    · rcases h2 with h | h
      · exact absurd e h
      · omega
  · rintro ⟨h1, h2⟩
    refine ⟨?_, ?_⟩
    · by_cases e : x.kind = 2
      · right; rw [h1 e]; simp
      · exact .inl e
    · by_cases e : x.kind = 0
      · right; have := h2 e; omega
      · exact .inl e
theorem nodesP {F : List Core} : (∀ (i : Nat) x, F[i]? = some x → nodeOk F i x = true) ↔ ∀ (i : Nat) x, F[i]? = some x → NodeP F i x := by
  constructor
  · intro H i x hx
    obtain ⟨p1, p2, p3, p4, p5, p6⟩ := nodeOk_iff.1 (H i x hx)
    rw [Bool.and_eq_true] at p5
    unfold docOk at p1
    simp only [Bool.and_eq_true, Bool.or_eq_true, decide_eq_true_eq, bne_iff_ne, beq_iff_eq] at p1
    have hkid : ∀ k ∈ x.kids, ∃ c, getC F k = some c ∧ (c.kind = 1 ∨ c.kind = 2) ∧ c.parent = (i : Int) ∧ c.doc = x.doc := fun k hk => kidB_iff.1 (kidOk_iff.1 (p3 k hk)).2
    obtain ⟨s1, s2⟩ := shapeOk_iff.1 p4
    refine ⟨p1.1.1, ?_, fun e => p1.2.resolve_left (fun h => h e), ?_, nodup_of_has (fun z hz => (kidOk_iff.1 (p3 z hz)).1), hkid, s1, fun e => ?_, fun e => ?_, fun e => ?_, ?_, p6⟩
    · have h := p1.1.2
      cases hg : getC F x.doc with
      | none => rw [hg] at h; cases h
      | some d => rw [hg] at h; exact ⟨d, rfl, beq_iff_eq.1 h⟩
    · unfold parOk at p2
      rw [Bool.or_eq_true, beq_iff_eq] at p2
      rcases p2 with h | h
      · exact .inl h
      · right
        rw [Bool.and_eq_true, Bool.or_eq_true, beq_iff_eq, beq_iff_eq] at h
        refine ⟨h.1, ?_⟩
        cases hg : getC F x.parent with
        | none => rw [hg] at h; exact absurd h.2 (by simp)
        | some d =>
          rw [hg] at h
          have h2 := h.2
          dsimp only at h2
          rw [Bool.and_eq_true, bne_iff_ne, beq_iff_eq] at h2
          exact ⟨d, rfl, h2.1, hasZ_mem h2.2⟩
    · obtain ⟨h1, h2⟩ := s2 e
      refine ⟨by omega, fun k hk => ?_⟩
      unfold elemsK at h2
      have hc : x.kids.countP (fun k => kindK F k == 1) = x.kids.length := Nat.le_antisymm List.countP_le_length h2
      exact beq_iff_eq.1 (List.countP_eq_length.1 hc k hk)
    · have h := p5.1
      unfold hostOk at h
      rw [if_pos e] at h
      cases hg : getC F x.host with
      | none => rw [hg] at h; cases h
      | some d =>
        rw [hg] at h
        simp only [Bool.and_eq_true, beq_iff_eq] at h
        exact ⟨d, rfl, h.1.1, h.1.2, h.2⟩
    · have h := p5.1
      unfold hostOk at h
      rw [if_neg e] at h
      exact beq_iff_eq.1 h
    · have h := p5.2
      unfold underOk at h
      rw [Bool.or_eq_true, beq_iff_eq, Bool.and_eq_true, beq_iff_eq] at h
      rcases h with h | h
      · exact .inl h
      · right
        refine ⟨h.1, ?_⟩
        have h2 := h.2
        cases hg : getC F x.under with
        | none => rw [hg] at h2; cases h2
        | some d =>
          rw [hg] at h2
          simp only [Bool.and_eq_true, beq_iff_eq] at h2
          exact ⟨d, rfl, h2.1, h2.2⟩
  · intro H i x hx
    have h := H i x hx
    have hone : ∀ (l : List Int) (z : Int), l.Nodup → z ∈ l → hasZ l z = 1 := fun l z hn hz => by rw [hasZ_nodup hn, if_pos hz]
    refine nodeOk_iff.2 ⟨?_, ?_, fun k hk => kidOk_iff.2 ⟨hone _ _ h.once hk, kidB_iff.2 (h.kids k hk)⟩, shapeOk_iff.2 ⟨h.leaf, fun e => ?_⟩, ?_, h.text⟩
    · unfold docOk
      obtain ⟨d, h1, h2⟩ := h.doc
      rw [h1]
      simp only [Bool.and_eq_true, Bool.or_eq_true, decide_eq_true_eq, bne_iff_ne, beq_iff_eq]
      exact ⟨⟨h.kind, h2⟩, by by_cases e : x.kind = 0; exact .inr (h.own e); exact .inl e⟩
    · unfold parOk
      rw [Bool.or_eq_true, beq_iff_eq]
      rcases h.par with e | ⟨e, p, h1, h2, h3⟩
      · exact .inl e
      · right
        rw [h1, Bool.and_eq_true, Bool.or_eq_true, beq_iff_eq, beq_iff_eq]
        refine ⟨e, ?_⟩
        obtain ⟨g1, g2, g3⟩ := getC_some h1
        have := hone p.kids i (H _ p g3).once h3
        show (p.kind != 2 && hasZ p.kids i == 1) = true
        rw [this, bne_iff_ne.2 h2]
        rfl
    · obtain ⟨h1, h2⟩ := h.root e
      have : elemsK F x = x.kids.length := by
        unfold elemsK
        exact List.countP_eq_length.2 (fun k hk => beq_iff_eq.2 (h2 k hk))
      omega
    · rw [Bool.and_eq_true]
      constructor
      · unfold hostOk
        by_cases e : x.kind = 4
        · rw [if_pos e]
          obtain ⟨d, h1, h2, h3, h4⟩ := h.host e
          rw [h1]
          simp only [Bool.and_eq_true, beq_iff_eq]
          exact ⟨⟨h2, h3⟩, h4⟩
        · rw [if_neg e]
          exact beq_iff_eq.2 (h.free e)
      · unfold underOk
        rw [Bool.or_eq_true, beq_iff_eq]
        rcases h.under with e | ⟨e, u, h1, h2, h3⟩
        · exact .inl e
        · right
          rw [h1, Bool.and_eq_true]
          simp only [Bool.and_eq_true, beq_iff_eq]
          exact ⟨e, h2, h3⟩
theorem right_node {m : Int} {F : List Core} (h : rightF m F = true) {i : Nat} {x : Core} (hx : F[i]? = some x) : NodeP F i x := nodesP.1 ((rightF_iff m F).1 h).2.1 i x hx
/-- Who goes up always comes lower: the way up ends. -/
theorem ends_rank {nxt : Int → Int} {n : Nat} (r : Nat → Nat) (h : ∀ i : Nat, i < n → nxt i = -1 ∨ ∃ p : Nat, nxt i = p ∧ p < n ∧ r p < r i) : ∀ (k i : Nat), i < n → r i ≤ k → ∃ s, endsZ nxt s (i : Int) = true
  | 0, i, hi, hk => by
    rcases h i hi with e | ⟨p, _, _, e⟩
    · exact ⟨1, by rw [endsZ_step (by omega), e]; rfl⟩
    · omega
  | k + 1, i, hi, hk => by
    rcases h i hi with e | ⟨p, e1, e2, e3⟩
    · exact ⟨1, by rw [endsZ_step (by omega), e]; rfl⟩
    · obtain ⟨s, hs⟩ := ends_rank r h k p e2 (by omega)
      exact ⟨s + 1, by rw [endsZ_step (by omega), e1]; exact hs⟩
/-- How a forest is shown to be right. -/
theorem right_of {m : Int} {F : List Core} (h1 : 1 ≤ m) (h2 : m ≤ 400) (h3 : (F.length : Int) ≤ m) (h4 : headDoc F = true) (h5 : ∀ (i : Nat) x, F[i]? = some x → NodeP F i x) (r : Nat → Nat) (h6 : ∀ i : Nat, i < F.length → nextUp F i = -1 ∨ ∃ p : Nat, nextUp F i = p ∧ p < F.length ∧ r p < r i) : rightF m F = true := by
  refine (rightF_iff m F).2 ⟨⟨h1, h2, h3, h4⟩, nodesP.2 h5, fun i hi => ?_⟩
  obtain ⟨s, hs⟩ := ends_rank r h6 (r i) i hi (Nat.le_refl _)
  exact endsZ_le (Nat.le_succ _) (ends_small (n := F.length) (fun z h0 h1 => by
    obtain ⟨j, rfl⟩ : ∃ j : Nat, z = j := ⟨z.toNat, by omega⟩
    rcases h6 j (by omega) with e | ⟨p, e1, e2, _⟩
    · exact .inl e
    · exact .inr ⟨by omega, by omega⟩) (.inr ⟨by omega, by omega⟩) hs)
theorem rank_next {m : Int} {F : List Core} (h : rightF m F = true) {i : Nat} (hi : i < F.length) : nextUp F i = -1 ∨ ∃ p : Nat, nextUp F i = p ∧ p < F.length ∧ rankF F p < rankF F i := by
  by_cases e : nextUp F (i : Int) = -1
  · exact .inl e
  · right
    rcases right_up h i (by omega) (by omega) with e2 | ⟨e2, e3⟩
    · exact absurd e2 e
    · have hp : nextUp F (i : Int) = ((nextUp F (i : Int)).toNat : Int) := by omega
      refine ⟨_, hp, by omega, ?_⟩
      have := (treeS h).rank_up _ i hi (parS_some hp)
      omega
end Go.Proofs.Ytllfkiifkkcinaa
/- A forest in which parents, children and documents are changed; a node goes from its parent. Plain mathematics, no program. -/
namespace Go.Proofs.Ytllfkiifkkcinaa
open Go.RowKit
def edC (c : Core) (p : Int) (ks : List Int) (d : Int) : Core := ⟨c.kind, c.name, c.is, c.data, c.attrs, p, ks, c.host, c.under, d⟩
structure Edit (F G : List Core) (P : Nat → Core → Int) (K : Nat → Core → List Int) (D : Nat → Core → Int) : Prop where
  len : G.length = F.length
  at_ : ∀ (j : Nat) c, F[j]? = some c → G[j]? = some (edC c (P j c) (K j c) (D j c))
section
variable {F G : List Core} {P : Nat → Core → Int} {K : Nat → Core → List Int} {D : Nat → Core → Int}
theorem Edit.back (h : Edit F G P K D) {j : Nat} {y : Core} (hy : G[j]? = some y) : ∃ c, F[j]? = some c ∧ y = edC c (P j c) (K j c) (D j c) := by
  have hl := (List.getElem?_eq_some_iff.1 hy).1
  rw [h.len] at hl
  have hc : F[j]? = some F[j] := List.getElem?_eq_getElem hl
  have := h.at_ j _ hc
  rw [hy] at this
  exact ⟨_, hc, Option.some.inj this⟩
theorem Edit.getC (h : Edit F G P K D) {z : Int} {c : Core} (hc : Go.Proofs.Ytllfkiifkkcinaa.getC F z = some c) : Go.Proofs.Ytllfkiifkkcinaa.getC G z = some (edC c (P z.toNat c) (K z.toNat c) (D z.toNat c)) := by
  obtain ⟨h0, _, h2⟩ := getC_some hc
  unfold Go.Proofs.Ytllfkiifkkcinaa.getC
  rw [if_pos h0]
  exact h.at_ _ _ h2
theorem Edit.kindK (h : Edit F G P K D) (z : Int) : Go.Proofs.Ytllfkiifkkcinaa.kindK G z = Go.Proofs.Ytllfkiifkkcinaa.kindK F z := by
  unfold Go.Proofs.Ytllfkiifkkcinaa.kindK
  cases hc : Go.Proofs.Ytllfkiifkkcinaa.getC F z with
  | some c => rw [h.getC hc]; rfl
  | none =>
    have : Go.Proofs.Ytllfkiifkkcinaa.getC G z = none := by
      unfold Go.Proofs.Ytllfkiifkkcinaa.getC at hc ⊢
      by_cases h0 : 0 ≤ z
      · rw [if_pos h0] at hc ⊢
        rw [List.getElem?_eq_none_iff] at hc ⊢
        rw [h.len]
        exact hc
      · rw [if_neg h0]
    rw [this]
theorem Edit.head (h : Edit F G P K D) (hd : headDoc F = true) : headDoc G = true := by
  rw [head_eq, isKd_iff] at hd ⊢
  obtain ⟨c, h1, h2⟩ := hd
  exact ⟨_, h.getC h1, h2⟩
theorem Edit.next (h : Edit F G P K D) {j : Nat} {c : Core} (hc : F[j]? = some c) : nextUp G (j : Int) = if P j c = -1 then c.host else P j c := by
  unfold nextUp
  rw [getC_nat, h.at_ j c hc]
  rfl
end
/-- A node goes from its parent. -/
structure Out (m : Int) (F G : List Core) (n p : Nat) (x : Core) : Prop where
  right : rightF m F = true
  hx : F[n]? = some x
  hp : x.parent = (p : Int)
  ed : Edit F G (fun j c => if j = n then -1 else c.parent) (fun j c => if j = p then c.kids.filter (fun z => z != (n : Int)) else c.kids) (fun _ c => c.doc)
section
variable {m : Int} {F G : List Core} {n p : Nat} {x : Core}
theorem Out.kind (h : Out m F G n p x) : x.kind = 1 ∨ x.kind = 2 := right_held h.right h.hx (by rw [h.hp]; omega)
theorem Out.bare (h : Out m F G n p x) : x.host = -1 := (right_node h.right h.hx).free (by rcases h.kind with e | e <;> omega)
theorem Out.next (h : Out m F G n p x) {j : Nat} (hj : j < F.length) : nextUp G (j : Int) = if j = n then -1 else nextUp F j := by
  have hc : F[j]? = some F[j] := List.getElem?_eq_getElem hj
  rw [h.ed.next hc]
  by_cases e : j = n
  · subst e
    rw [if_pos rfl, if_pos rfl, if_pos rfl, ← h.bare]
    rw [h.hx] at hc
    rw [Option.some.inj hc]
  · rw [if_neg e, if_neg e, nextUp_at hc]
    rfl
theorem Out.node (h : Out m F G n p x) {j : Nat} {y : Core} (hy : G[j]? = some y) : NodeP G j y := by
  obtain ⟨c, hc, rfl⟩ := h.ed.back hy
  have N := right_node h.right hc
  refine ⟨N.kind, ?_, N.own, ?_, ?_, fun k hk => ?_, fun e => ?_, fun e => ?_, fun e => ?_, N.free, ?_, N.text⟩
  · obtain ⟨d, h1, h2⟩ := N.doc
    exact ⟨_, h.ed.getC h1, h2⟩
  · by_cases e : j = n
    · exact .inl (if_pos e)
    · rcases N.par with h1 | ⟨h1, q, h2, h3, h4⟩
      · exact .inl ((if_neg e).trans h1)
      · have g := h.ed.getC h2
        refine .inr ⟨h1, edC q (if c.parent.toNat = n then -1 else q.parent) (if c.parent.toNat = p then q.kids.filter (fun z => z != (n : Int)) else q.kids) q.doc, ?_, h3, ?_⟩
        · show getC G (if j = n then -1 else c.parent) = _
          rw [if_neg e]
          exact g
        show (j : Int) ∈ (if c.parent.toNat = p then q.kids.filter (fun z => z != (n : Int)) else q.kids)
        split
        · rw [List.mem_filter]
          exact ⟨h4, bne_iff_ne.2 (by omega)⟩
        · exact h4
  · show (if j = p then c.kids.filter (fun z => z != (n : Int)) else c.kids).Nodup
    split
    · exact N.once.filter _
    · exact N.once
  · have hk2 : k ∈ c.kids ∧ k ≠ (n : Int) := by
      have hk : k ∈ (if j = p then c.kids.filter (fun z => z != (n : Int)) else c.kids) := hk
      split at hk
      · rw [List.mem_filter] at hk
        exact ⟨hk.1, bne_iff_ne.1 hk.2⟩
      · rename_i hne
        refine ⟨hk, fun e => ?_⟩
        subst e
        obtain ⟨d, h1, _, h3, _⟩ := N.kids _ hk
        rw [getC_nat, h.hx] at h1
        rw [← Option.some.inj h1, h.hp] at h3
        exact hne (by omega)
    obtain ⟨d, h1, h2, h3, h4⟩ := N.kids k hk2.1
    obtain ⟨g1, _, _⟩ := getC_some h1
    refine ⟨_, h.ed.getC h1, h2, ?_, h4⟩
    show (if k.toNat = n then -1 else d.parent) = (j : Int)
    rw [if_neg (by have := hk2.2; omega)]
    exact h3
  · show (if j = p then c.kids.filter (fun z => z != (n : Int)) else c.kids) = []
    rw [N.leaf e]
    split <;> rfl
  · obtain ⟨h1, h2⟩ := N.root e
    have hsub : ∀ k ∈ (if j = p then c.kids.filter (fun z => z != (n : Int)) else c.kids), k ∈ c.kids := fun k hk => by
      split at hk
      · exact (List.mem_filter.1 hk).1
      · exact hk
    refine ⟨?_, fun k hk => by rw [h.ed.kindK]; exact h2 k (hsub k hk)⟩
    show (if j = p then c.kids.filter (fun z => z != (n : Int)) else c.kids).length ≤ 1
    split
    · exact Nat.le_trans (List.length_filter_le _ _) h1
    · exact h1
  · obtain ⟨d, h1, h2, h3, h4⟩ := N.host e
    exact ⟨_, h.ed.getC h1, h2, h3, h4⟩
  · rcases N.under with h1 | ⟨h1, u, h2, h3, h4⟩
    · exact .inl h1
    · exact .inr ⟨h1, _, h.ed.getC h2, h3, h4⟩
theorem Out.rightG (h : Out m F G n p x) : rightF m G = true := by
  obtain ⟨⟨h1, h2, h3, h4⟩, _, _⟩ := (rightF_iff m F).1 h.right
  refine right_of h1 h2 (by rw [h.ed.len]; exact h3) (h.ed.head h4) (fun i y hy => h.node hy) (rankF F) (fun i hi => ?_)
  rw [h.ed.len] at hi ⊢
  rw [h.next hi]
  by_cases e : i = n
  · exact .inl (if_pos e)
  · rw [if_neg e]
    exact rank_next h.right hi
theorem Out.parS (h : Out m F G n p x) {j : Nat} (hj : j < F.length) : Go.Proofs.Ytllfkiifkkcinaa.parS G j = if j = n then none else Go.Proofs.Ytllfkiifkkcinaa.parS F j := by
  unfold Go.Proofs.Ytllfkiifkkcinaa.parS
  rw [h.next hj]
  by_cases e : j = n
  · rw [if_pos e, if_pos rfl, if_pos e]
  · rw [if_neg e, if_neg e]
theorem Out.lt (h : Out m F G n p x) : n < F.length := (List.getElem?_eq_some_iff.1 h.hx).1
theorem Out.sub (h : Out m F G n p x) {a : Nat} : ∀ (k b : Nat), b < F.length → upN (Go.Proofs.Ytllfkiifkkcinaa.parS G) k b = some a → upN (Go.Proofs.Ytllfkiifkkcinaa.parS F) k b = some a
  | 0, b, _, hu => hu
  | k + 1, b, hb, hu => by
    unfold upN at hu ⊢
    rw [h.parS hb] at hu
    by_cases e : b = n
    · rw [if_pos e] at hu; cases hu
    · rw [if_neg e] at hu
      cases hq : Go.Proofs.Ytllfkiifkkcinaa.parS F b with
      | none => rw [hq] at hu; cases hu
      | some q =>
        rw [hq] at hu
        exact h.sub k q (parS_next h.right hb hq).2 hu
/-- Who is over whom, then: as before, but that who goes takes along all that it is over. -/
theorem Out.over (h : Out m F G n p x) {a b : Nat} (ha : a < F.length) (hb : b < F.length) : holdsT (Go.Proofs.Ytllfkiifkkcinaa.parS G) a b ↔ holdsT (Go.Proofs.Ytllfkiifkkcinaa.parS F) a b ∧ (holdsT (Go.Proofs.Ytllfkiifkkcinaa.parS F) n b → holdsT (Go.Proofs.Ytllfkiifkkcinaa.parS F) n a) := by
  have T := treeS h.right
  constructor
  · rintro ⟨k, hk⟩
    refine ⟨⟨k, h.sub k b hb hk⟩, fun hn => ?_⟩
    rcases holds_line ⟨k, h.sub k b hb hk⟩ hn with h1 | h1
    · -- a is over n; the way from b to a in G passes n only if a is n
      have key : ∀ (k b : Nat), b < F.length → upN (Go.Proofs.Ytllfkiifkkcinaa.parS G) k b = some a → holdsT (Go.Proofs.Ytllfkiifkkcinaa.parS F) n b → a = n := by
        intro k
        induction k with
        | zero =>
          intro b hb hu hn
          obtain rfl : b = a := Option.some.inj hu
          exact T.holds_anti ha h.lt h1 hn
        | succ k ih =>
          intro b hb hu hn
          unfold upN at hu
          rw [h.parS hb] at hu
          by_cases e : b = n
          · rw [if_pos e] at hu; cases hu
          · rw [if_neg e] at hu
            cases hq : Go.Proofs.Ytllfkiifkkcinaa.parS F b with
            | none => rw [hq] at hu; cases hu
            | some q =>
              rw [hq] at hu
              refine ih q (parS_next h.right hb hq).2 hu ?_
              rcases holds_up hn with e2 | ⟨q2, e2, e3⟩
              · exact absurd e2.symm e
              · rw [hq] at e2
                rw [Option.some.inj e2]
                exact e3
      rw [key k b hb hk hn]
      exact holds_refl n
    · exact h1
  · rintro ⟨⟨k, hk⟩, hn⟩
    have key : ∀ (k b : Nat), b < F.length → upN (Go.Proofs.Ytllfkiifkkcinaa.parS F) k b = some a → (holdsT (Go.Proofs.Ytllfkiifkkcinaa.parS F) n b → holdsT (Go.Proofs.Ytllfkiifkkcinaa.parS F) n a) → holdsT (Go.Proofs.Ytllfkiifkkcinaa.parS G) a b := by
      intro k
      induction k with
      | zero =>
        intro b hb hu _
        obtain rfl : b = a := Option.some.inj hu
        exact holds_refl b
      | succ k ih =>
        intro b hb hu hn
        unfold upN at hu
        cases hq : Go.Proofs.Ytllfkiifkkcinaa.parS F b with
        | none => rw [hq] at hu; cases hu
        | some q =>
          rw [hq] at hu
          have hql := (parS_next h.right hb hq).2
          by_cases e : b = n
          · subst e
            have h1 := hn (holds_refl b)
            have h2 : a = b := T.holds_anti ha hb (holds_trans ⟨k, hu⟩ (holds_par hq)) h1
            subst h2
            exact holds_refl a
          · have h1 := ih q hql hu (fun h2 => hn (holds_trans h2 (holds_par hq)))
            exact holds_trans h1 (holds_par (by rw [h.parS hb, if_neg e]; exact hq))
    exact key k b hb hk hn
end
end Go.Proofs.Ytllfkiifkkcinaa
/- A row of nodes in a block that may be written. -/
namespace Go.Proofs.Ytllfkiifkkcinaa
open Go.RowKit
structure WRow (W : World) (g len cap : Nat) (M : List NodeD) : Prop where
  row : NodeRow W (some ⟨g, 0, none⟩) len cap M
  lt : g < W.heap.size
  free : ∀ o, W.frozen? ⟨g, o, none⟩ = false
  away : ∀ x ∈ M, NodeAway g x
theorem WRow.keep {W W2 : World} {g len cap : Nat} {M : List NodeD} (h : WRow W g len cap M) (hb : Below W.heap.size W W2) : WRow W2 g len cap M :=
  ⟨h.row.below hb, Nat.lt_of_lt_of_le h.lt hb.size, fun o => (hb.frozen (p := ⟨g, o, none⟩) h.lt).trans (h.free o), h.away⟩
theorem WRow.at_ {W : World} {g len cap : Nat} {M : List NodeD} (h : WRow W g len cap M) {k : Nat} {x : NodeD} (hk : M[k]? = some x) : NodeAt W g (k * 10) x ∧ NodeOk W x := by
  have hl : k < len := by have := (List.getElem?_eq_some_iff.1 hk).1; rwa [h.row.hlen] at this
  obtain ⟨b, off, y, hab, _, hy, hat, hok⟩ := h.row.get hl
  injection hab with hab
  injection hab with e1 e2
  subst e1 e2
  obtain rfl : x = y := Option.some.inj (hk.symm.trans hy)
  rw [Nat.zero_add] at hat
  exact ⟨hat, hok⟩
theorem WRow.of_own {W : World} {base n : Nat} {v : Value} {M : List NodeD} (hown : W.ownsRow base 28 10 v n (M.flatMap encN)) (hl : M.length = n) (hn : 0 < n) (hok : ∀ x ∈ M, NodeOk W x) (haw : ∀ g, v.ownBlock = some g → ∀ x ∈ M, NodeAway g x) :
    ∃ g cap, v = .slice (some ⟨g, 0, none⟩) n cap ∧ base ≤ g ∧ WRow W g n cap M := by
  obtain ⟨a, cap', he, hr, _⟩ := SRow.of_own (fun x _ => encN_len x) hl hown
  rcases hown.2 with ⟨_, h0⟩ | ⟨g, cap, cur, hv, hb, hg, _⟩
  · omega
  · rw [hv] at he
    injection he with h1 h2 h3
    subst h1; subst h3
    refine ⟨g, cap, hv, hb, ⟨hr, hok, fun h => by cases h⟩, (Array.getElem?_eq_some_iff.1 hg).1, fun o => row_free hg o, haw g (by rw [hv]; rfl)⟩
/-- A store into a node. -/
theorem WRow.set {W : World} {g len cap : Nat} {M : List NodeD} (h : WRow W g len cap M) {k j : Nat} {x y : NodeD} {u : Value} (hk : M[k]? = some x) (hj : j < 10) (he : encN y = (encN x).set j u) (hy : NodeOk W y) (hw : NodeAway g y) :
    WRow (W.setCell ⟨g, k * 10 + j, none⟩ u) g len cap (M.set k y) := by
  obtain ⟨hkl, _⟩ := List.getElem?_eq_some_iff.1 hk
  have hlen : k < len := by rw [h.row.hlen] at hkl; exact hkl
  have aw : ∀ z ∈ M.set k y, NodeAway g z := fun z hz => by
    rcases List.mem_or_eq_of_mem_set hz with hz | rfl
    · exact h.away z hz
    · exact hw
  have ok : ∀ z ∈ M.set k y, NodeOk W z := fun z hz => by
    rcases List.mem_or_eq_of_mem_set hz with hz | rfl
    · exact h.row.ok z hz
    · exact hy
  refine ⟨⟨⟨by rw [List.length_set]; exact h.row.hlen, h.row.row.hcap, h.row.row.hmax, fun z _ => encN_len z, .inr ⟨g, 0, rfl, by simpa [World.setCell] using h.lt, fun i z j' v hz hv => ?_⟩⟩, fun z hz => (ok z hz).setCell (aw z hz) u, fun e => by cases e⟩, by simpa [World.setCell] using h.lt, fun o => by rw [World.frozen?_setCell]; exact h.free o, aw⟩
  have hj' : j' < 10 := by
    have := (List.getElem?_eq_some_iff.1 hv).1
    rwa [encN_len] at this
  by_cases e : i = k
  · subst e
    rw [List.getElem?_set_self hkl] at hz
    obtain rfl : y = z := Option.some.inj hz
    rw [he] at hv
    by_cases ej : j = j'
    · subst ej
      rw [List.getElem?_set_self (by rw [encN_len]; exact hj)] at hv
      rw [← Option.some.inj hv, Nat.zero_add]
      have hc : ∃ v0, (encN x)[j]? = some v0 := ⟨_, List.getElem?_eq_getElem (by rw [encN_len]; exact hj)⟩
      obtain ⟨v0, hv0⟩ := hc
      rcases h.row.row.cells with h0 | ⟨b, off, ha, _, hcell⟩
      · omega
      · injection ha with ha
        injection ha with e1 e2
        subst e1 e2
        have := hcell i x j v0 hk hv0
        rw [Nat.zero_add] at this
        exact World.cell?_setCell_same _ _ _ this
    · rw [List.getElem?_set_ne ej] at hv
      rw [World.cell?_setCell_other _ _ _ _ (fun e' => by injection e' with _ e'; omega)]
      rcases h.row.row.cells with h0 | ⟨b, off, ha, _, hcell⟩
      · omega
      · injection ha with ha
        injection ha with e1 e2
        subst e1 e2
        exact hcell i x j' v hk hv
  · rw [List.getElem?_set_ne (fun e2 => e e2.symm)] at hz
    rw [World.cell?_setCell_other _ _ _ _ (fun e' => by injection e' with _ e'; have : k * 10 + j = 0 + i * 10 + j' := e'; omega)]
    rcases h.row.row.cells with h0 | ⟨b, off, ha, _, hcell⟩
    · omega
    · injection ha with ha
      injection ha with e1 e2
      subst e1 e2
      exact hcell i z j' v hz hv
theorem grown_set {W W2 : World} {g : Nat} (h : W.grownBy W2 (some g)) (o : Nat) (u : Value) : W.grownBy (W2.setCell ⟨g, o, none⟩ u) (some g) :=
  ⟨h.os, h.tape, h.output, by simpa [World.setCell] using h.size, fun k hk hne => (Below.heap_setCell _ _ _ _ (fun e => hne (by rw [e]))).trans (h.block k hk hne)⟩
theorem grown_below {W W2 : World} {g : Nat} (h : Below W.heap.size W W2) : W.grownBy W2 (some g) := ⟨h.os, h.tape, h.output, h.size, fun k hk _ => h.block k hk⟩
theorem grown_far {W W2 : World} {b : Nat} {row : Option Nat} (h : W.grownBy W2 row) (hb : W.heap.size ≤ b) (o : Nat) (u : Value) : W.grownBy (W2.setCell ⟨b, o, none⟩ u) row :=
  ⟨h.os, h.tape, h.output, by simpa [World.setCell] using h.size, fun k hk hne => (Below.heap_setCell _ _ _ _ (by show k ≠ b; omega)).trans (h.block k hk hne)⟩
/-- A store into another block. -/
theorem WRow.other {W : World} {g len cap : Nat} {M : List NodeD} (h : WRow W g len cap M) {b : Nat} (hb : b ≠ g) (ha : ∀ x ∈ M, NodeAway b x) (o : Nat) (u : Value) : WRow (W.setCell ⟨b, o, none⟩ u) g len cap M :=
  ⟨⟨h.row.row.keep (by simp [World.setCell]) (fun b' off he _ o' => World.cell?_setCell_other _ _ _ _ (fun e => by injection he with he; injection he with e1 _; injection e with e2 _; exact hb (e2.trans e1.symm))), fun x hx => (h.row.ok x hx).setCell (ha x hx) u, h.row.hnil⟩, by simpa [World.setCell] using h.lt, fun o' => by rw [World.frozen?_setCell]; exact h.free o', h.away⟩
/-- The node's own list in a row of nodes. -/
def withK (x : NodeD) (a : Option Addr) (n c : Nat) (l : List Int) : NodeD := ⟨⟨x.core.kind, x.core.name, x.core.is, x.core.data, x.core.attrs, x.core.parent, l, x.core.host, x.core.under, x.core.doc⟩, x.aA, x.aN, x.aC, a, n, c⟩
def withP (x : NodeD) (p : Int) : NodeD := ⟨⟨x.core.kind, x.core.name, x.core.is, x.core.data, x.core.attrs, p, x.core.kids, x.core.host, x.core.under, x.core.doc⟩, x.aA, x.aN, x.aC, x.kA, x.kN, x.kC⟩
def withD (x : NodeD) (d : Int) : NodeD := ⟨⟨x.core.kind, x.core.name, x.core.is, x.core.data, x.core.attrs, x.core.parent, x.core.kids, x.core.host, x.core.under, d⟩, x.aA, x.aN, x.aC, x.kA, x.kN, x.kC⟩
theorem WRow.setK {W : World} {g len cap : Nat} {M : List NodeD} (h : WRow W g len cap M) {k : Nat} {x : NodeD} (hk : M[k]? = some x) {a : Option Addr} {n c : Nat} {l : List Int} (hl : IntRow W a n c l) (hw : ∀ b off, a = some ⟨b, off, none⟩ → 0 < n → b ≠ g) : WRow (W.setCell ⟨g, k * 10 + 6, none⟩ (.slice a n c)) g len cap (M.set k (withK x a n c l)) := by
  obtain ⟨_, hok⟩ := h.at_ hk
  have ha := h.away x (List.mem_of_getElem? hk)
  exact h.set hk (by omega) rfl ⟨hok.attrs, hl, hok.name, hok.is, hok.data, hok.kind, hok.parent, hok.host, hok.under, hok.doc⟩ ⟨ha.1, hw⟩
theorem WRow.setP {W : World} {g len cap : Nat} {M : List NodeD} (h : WRow W g len cap M) {k : Nat} {x : NodeD} (hk : M[k]? = some x) {p : Int} (hp : In64 p) : WRow (W.setCell ⟨g, k * 10 + 5, none⟩ (.int .i64 p)) g len cap (M.set k (withP x p)) := by
  obtain ⟨_, hok⟩ := h.at_ hk
  have ha := h.away x (List.mem_of_getElem? hk)
  exact h.set hk (by omega) rfl ⟨hok.attrs, hok.kids, hok.name, hok.is, hok.data, hok.kind, hp, hok.host, hok.under, hok.doc⟩ ha
theorem WRow.setD {W : World} {g len cap : Nat} {M : List NodeD} (h : WRow W g len cap M) {k : Nat} {x : NodeD} (hk : M[k]? = some x) {d : Int} (hd : In64 d) : WRow (W.setCell ⟨g, k * 10 + 9, none⟩ (.int .i64 d)) g len cap (M.set k (withD x d)) := by
  obtain ⟨_, hok⟩ := h.at_ hk
  have ha := h.away x (List.mem_of_getElem? hk)
  exact h.set hk (by omega) rfl ⟨hok.attrs, hok.kids, hok.name, hok.is, hok.data, hok.kind, hok.parent, hok.host, hok.under, hd⟩ ha
end Go.Proofs.Ytllfkiifkkcinaa
