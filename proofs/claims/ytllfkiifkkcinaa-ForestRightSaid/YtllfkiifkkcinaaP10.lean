/- Texts joined in build order: RegionFacts RowFacts Ref3Ask RefOne RefName RefCustom SmallFrame. -/
import Derived.Test.YtllfkiifkkcinaaP09
import Derived.Test.YtllfkiifkkcinaaP01
import Derived.Test.YtllfkiifkkcinaaP02
import Derived.Test.YtllfkiifkkcinaaP05
import Derived.Test.YtllfkiifkkcinaaChecked
import Derived.WalkLawsBesides
import Derived.Lib.Hide
import Derived.Lib.IndexBytes
import Derived.BigQuiet
import Derived.Deep.QuietTactic
import Derived.Below
import Derived.WalkSmall
/- A region that draws its order, whose operations only make new memory: each operation's result is known by a fact that later memory leaves true; one proof for each operation serves every order. -/
namespace Go.Proofs.Ytllfkiifkkcinaa
open Go.RowKit
/-- What is known of one operation's result. -/
structure Fact where
  is : Value → World → Prop
  stab : ∀ u w w', is u w → Below w.heap.size w w' → is u w'
def isV (x : Value) : Fact := ⟨fun u _ => u = x, fun _ _ _ h _ => h⟩
/-- The checks of the text. -/
def factsOK (l : List Oper) (n : Nat) : Bool :=
  (List.range l.length).all fun i => match l[i]? with
    | none => false
    | some o => (o.after.all fun e => decide (e.on < i)) && (match o.dst with
      | none => false
      | some d => decide (d < n) && ((List.range l.length).all fun j => j == i || ((l[j]?).bind (·.dst)) != some d))
structure FInv (fs : List Fact) (l : List Oper) (W : World) (a0 : Act) (v : Nat → Value) (listed : Array Bool) (a : Act) (w : World) : Prop where
  defers : a.defers = a0.defers
  tsize : a.tmps.size = a0.tmps.size
  rest : ∀ t, (∀ i, i < l.length → listed.getD i false = true → (l[i]?).bind (·.dst) ≠ some t) → a.tmps[t]? = a0.tmps[t]?
  below : Below W.heap.size W w
  vals : ∀ i, i < l.length → listed.getD i false = true → ∀ d, (l[i]?).bind (·.dst) = some d → a.tmps[d]? = some (v i)
  facts : ∀ i, i < l.length → listed.getD i false = true → ∀ f, fs[i]? = some f → f.is (v i) w
/-- What a step of one operation may ask. -/
structure FIn (fs : List Fact) (l : List Oper) (W : World) (a0 : Act) (o : Oper) (a : Act) (w : World) (v : Nat → Value) : Prop where
  below : Below W.heap.size W w
  rest : ∀ t, (∀ j, j < l.length → (l[j]?).bind (·.dst) ≠ some t) → a.tmps[t]? = a0.tmps[t]?
  vals : ∀ j, j < l.length → edgeOn o j = true → ∀ d, (l[j]?).bind (·.dst) = some d → a.tmps[d]? = some (v j)
  facts : ∀ j, j < l.length → edgeOn o j = true → ∀ f, fs[j]? = some f → f.is (v j) w
def FStep (P : Program) (Q : Exit → Act → World → Prop) (fs : List Fact) (l : List Oper) (W : World) (a0 : Act) (f : Fact) (o : Oper) : Prop :=
  ∀ (a : Act) (w : World) (v : Nat → Value) (K : Act → World → Prop), FIn fs l W a0 o a w v → (∀ u w', f.is u w' → Below w.heap.size w w' → K (a.put o.dst u) w') →
    if Region.wanted o (yielded l.toArray a.tmps) = true then o.wp P a w K Q else K (a.put o.dst undef) w
/-- A step for each operation. -/
def FSteps (P : Program) (Q : Exit → Act → World → Prop) (fs : List Fact) (l : List Oper) (W : World) (a0 : Act) : List Fact → List Oper → Prop
  | f :: fr, o :: r => FStep P Q fs l W a0 f o ∧ FSteps P Q fs l W a0 fr r
  | _, _ => True
theorem FSteps.nil {P : Program} {Q : Exit → Act → World → Prop} {fs : List Fact} {l : List Oper} {W : World} {a0 : Act} : FSteps P Q fs l W a0 [] [] := trivial
theorem FSteps.cons {P : Program} {Q : Exit → Act → World → Prop} {fs : List Fact} {l : List Oper} {W : World} {a0 : Act} {f : Fact} {fr : List Fact} {o : Oper} {r : List Oper} (h : FStep P Q fs l W a0 f o) (hr : FSteps P Q fs l W a0 fr r) : FSteps P Q fs l W a0 (f :: fr) (o :: r) := ⟨h, hr⟩
theorem wanted_none {ops : Array Oper} {tmps : Array Value} {o : Oper} (h : o.guard = none) : Region.wanted o (yielded ops tmps) = true := by simp [Region.wanted, h]
theorem wanted_some {l : List Oper} {o : Oper} {g d : Nat} {want : Bool} {a : Act} (hg : o.guard = some (g, want)) (hd : (l[g]?).bind (·.dst) = some d) (he : a.tmps[d]? = some (.bool want)) : Region.wanted o (yielded l.toArray a.tmps) = true := by
  unfold Region.wanted yielded
  rw [hg]
  dsimp only
  rw [List.getElem?_toArray, hd]
  simp [he]
theorem wanted_not {l : List Oper} {o : Oper} {g d : Nat} {want b : Bool} {a : Act} (hg : o.guard = some (g, want)) (hd : (l[g]?).bind (·.dst) = some d) (he : a.tmps[d]? = some (.bool b)) (hb : b ≠ want) : ¬ Region.wanted o (yielded l.toArray a.tmps) = true := by
  unfold Region.wanted yielded
  rw [hg]
  dsimp only
  rw [List.getElem?_toArray, hd]
  simp [he, hb]
theorem wanted_undef {l : List Oper} {o : Oper} {g d : Nat} {want : Bool} {a : Act} (hg : o.guard = some (g, want)) (hd : (l[g]?).bind (·.dst) = some d) (he : a.tmps[d]? = some undef) : ¬ Region.wanted o (yielded l.toArray a.tmps) = true := by
  unfold Region.wanted yielded
  rw [hg]
  dsimp only
  rw [List.getElem?_toArray, hd]
  simp [he, undef]
/-- A call whose result is known by a fact, in every later world. -/
def CallFact (P : Program) (f : FuncId) (args : Array Value) (W : World) (F : Fact) : Prop := ∀ V, Below W.heap.size W V → Calls P f args V fun e w' => ∃ u, e = .returned u ∧ F.is u w' ∧ Below V.heap.size V w'
theorem FSteps.get {P : Program} {Q : Exit → Act → World → Prop} {fs : List Fact} {l : List Oper} {W : World} {a0 : Act} : ∀ {fr : List Fact} {r : List Oper}, FSteps P Q fs l W a0 fr r → ∀ (i : Nat) f o, fr[i]? = some f → r[i]? = some o → FStep P Q fs l W a0 f o
  | [], _, _, i, f, o, hf, _ => by simp at hf
  | _ :: _, [], _, i, f, o, _, ho => by simp at ho
  | f1 :: fr, o1 :: r, h, 0, f, o, hf, ho => by
    simp at hf ho
    subst hf ho
    exact h.1
  | f1 :: fr, o1 :: r, h, i + 1, f, o, hf, ho => FSteps.get h.2 i f o (by simpa using hf) (by simpa using ho)
theorem factsOK_op {l : List Oper} {n : Nat} (h : factsOK l n = true) {i : Nat} {o : Oper} (ho : l[i]? = some o) : (∀ e ∈ o.after, e.on < i) ∧ ∃ d, o.dst = some d ∧ d < n ∧ ∀ j, j < l.length → j ≠ i → (l[j]?).bind (·.dst) ≠ some d := by
  unfold factsOK at h
  rw [List.all_eq_true] at h
  have h1 := h i (List.mem_range.2 (List.getElem?_eq_some_iff.1 ho).1)
  rw [ho] at h1
  simp only [Bool.and_eq_true, Array.all_eq_true_iff_forall_mem, decide_eq_true_eq] at h1
  refine ⟨h1.1, ?_⟩
  have h2 := h1.2
  cases hd : o.dst with
  | none => rw [hd] at h2; cases h2
  | some d =>
    rw [hd] at h2
    simp only [Bool.and_eq_true, decide_eq_true_eq, List.all_eq_true, List.mem_range, Bool.or_eq_true, beq_iff_eq, bne_iff_ne] at h2
    exact ⟨d, rfl, h2.1, fun j hj hne => (h2.2 j hj).resolve_left hne⟩
theorem wp_region_facts {P : Program} {id : Nat} {Q : Exit → Act → World → Prop} {a0 : Act} {W : World} {l : List Oper} (fs : List Fact) (hm : P.follows .mixedOrders = true)
    (hok : factsOK l a0.tmps.size = true) (hlen : fs.length = l.length) (hop : FSteps P Q fs l W a0 fs l)
    (hQ : ∀ (v : Nat → Value) w', Below W.heap.size W w' → (∀ i, i < l.length → ∀ f, fs[i]? = some f → f.is (v i) w') → Q .normal ⟨(puts a0.tmps.toList ((List.range l.length).map fun i => ((l[i]?).bind (·.dst), v i))).toArray, a0.defers⟩ w') :
    (Code.region id l.toArray true).wp P Q a0 W := by
  refine wp_region_any hm (wpAny_inv (fun listed a w => listed.size = l.length ∧ ∃ v, FInv fs l W a0 v listed a w) ?_ ?_ _ _ _ _ (by simp) (by simp) ⟨by simp, fun _ => undef, rfl, rfl, fun _ _ => rfl, (Below.refl _ _).drew, ?_, ?_⟩)
  · intro listed a w i hi ⟨hz, v, h⟩
    obtain ⟨hil, hun, o, ho, hedge⟩ := ready_iff.1 hi
    have hil : i < l.length := by simpa using hil
    have hi2 := hi
    rw [List.getElem?_toArray] at ho
    obtain ⟨hback, d, hd, hdn, hdist⟩ := factsOK_op hok ho
    obtain ⟨f, hf⟩ : ∃ f, fs[i]? = some f := ⟨_, List.getElem?_eq_getElem (by rw [hlen]; exact hil)⟩
    have hset : ∀ j, (listed.setIfInBounds i true).getD j false = if j = i then true else listed.getD j false := fun j => getD_set (by omega)
    unfold wpOp
    rw [List.getElem?_toArray, ho]
    have hel : ∀ j, edgeOn o j = true → listed.getD j false = true := fun j hj => edge_listed ho hi hj
    have hstep := FSteps.get hop i f o hf ho a w v (fun a' w' => (listed.setIfInBounds i true).size = l.length ∧ ∃ v', FInv fs l W a0 v' (listed.setIfInBounds i true) a' w')
      ⟨h.below, fun t ht => h.rest t (fun j hj _ => ht j hj), fun j hj he => h.vals j hj (hel j he), fun j hj he => h.facts j hj (hel j he)⟩ ?_
    · show if Region.wanted o _ = true then _ else _
      split
      · next hw => rw [if_pos hw] at hstep; exact .inl hstep
      · next hw => rw [if_neg hw] at hstep; exact hstep
    · intro u w' hu hb
      have hda : d < a.tmps.size := by rw [h.tsize]; exact hdn
      refine ⟨by simpa using hz, fun j => if j = i then u else v j, ?_, ?_, ?_, ?_, ?_, ?_⟩
      · rw [hd]; exact h.defers
      · rw [hd, ← h.tsize]
        show (a.tmps.setIfInBounds d u).size = _
        simp
      · intro t ht
        have hdt : d ≠ t := fun e => ht i hil (by rw [hset, if_pos rfl]) (by rw [ho]; show o.dst = _; rw [hd, e])
        rw [hd, put_ne hdt]
        exact h.rest t (fun j hj hl => ht j hj (by rw [hset]; split <;> first | rfl | exact hl))
      · exact h.below.trans (hb.mono h.below.size)
      · intro j hj hl d2 hd2
        by_cases hji : j = i
        · subst hji
          rw [ho] at hd2
          have e : some d = some d2 := hd.symm.trans hd2
          injection e with e
          subst e
          rw [hd, put_self hda, if_pos rfl]
        · rw [hset, if_neg hji] at hl
          have hne : d ≠ d2 := fun e => hdist j hj hji (by rw [e]; exact hd2)
          rw [hd, put_ne hne, if_neg hji]
          exact h.vals j hj hl d2 hd2
      · intro j hj hl g hg
        by_cases hji : j = i
        · subst hji
          obtain rfl : f = g := Option.some.inj (hf.symm.trans hg)
          rw [if_pos rfl]; exact hu
        · rw [hset, if_neg hji] at hl
          rw [if_neg hji]
          exact g.stab _ _ _ (h.facts j hj hl g hg) hb
  · intro listed a w hr ⟨hz, v, h⟩
    have hall : ∀ j, j < l.length → listed.getD j false = true := by
      intro j
      induction j using Nat.strongRecOn with
      | ind j ih =>
        intro hj
        cases hc : listed.getD j false with
        | true => rfl
        | false =>
          obtain ⟨o, ho⟩ : ∃ o, l[j]? = some o := ⟨_, List.getElem?_eq_getElem hj⟩
          have hback := (factsOK_op hok ho).1
          have : j ∈ Region.ready .any l.toArray listed := ready_iff.2 ⟨by simpa using hj, by
            rw [Array.getD_eq_getD_getElem?, Array.getElem?_eq_getElem (by omega), Option.getD_some] at hc ⊢
            exact hc, o, by rw [List.getElem?_toArray]; exact ho, fun e he _ => ih e.on (hback e he) (by have := hback e he; omega)⟩
          rw [hr] at this
          cases this
    have e := puts_eq (A := a.tmps.toList) ((List.range l.length).map fun j => ((l[j]?).bind (·.dst), v j)) a0.tmps.toList (by simp [h.tsize]) (fun q hq d hd => by
      obtain ⟨j, hj, rfl⟩ := List.mem_map.1 hq
      rw [List.mem_range] at hj
      rw [Array.getElem?_toList]
      exact h.vals j hj (hall j hj) d hd) (fun t ht => by
      rw [Array.getElem?_toList, Array.getElem?_toList]
      exact h.rest t (fun j hj _ e => ht _ (List.mem_map.2 ⟨j, List.mem_range.2 hj, rfl⟩) e))
    have hq := hQ v w h.below (fun i hi f hf => h.facts i hi (hall i hi) f hf)
    rw [← e, ← h.defers] at hq
    exact hq
  · intro i _ e; rw [rep_false] at e; cases e
  · intro i _ e; rw [rep_false] at e; cases e
section
variable {P : Program} {Q : Exit → Act → World → Prop} {fs : List Fact} {l : List Oper} {W : World} {a0 : Act} {o : Oper}
theorem FIn.at_ {a : Act} {w : World} {v : Nat → Value} (h : FIn fs l W a0 o a w v) {j d : Nat} {x : Value} (hj : j < l.length) (he : edgeOn o j = true) (hd : (l[j]?).bind (·.dst) = some d) (hf : fs[j]? = some (isV x)) : a.tmps[d]? = some x := by
  rw [h.vals j hj he d hd, show v j = x from h.facts j hj he _ hf]
theorem FIn.with {a : Act} {w : World} {v : Nat → Value} (h : FIn fs l W a0 o a w v) {j d : Nat} {f : Fact} (hj : j < l.length) (he : edgeOn o j = true) (hd : (l[j]?).bind (·.dst) = some d) (hf : fs[j]? = some f) : ∃ u, a.tmps[d]? = some u ∧ f.is u w := ⟨_, h.vals j hj he d hd, h.facts j hj he _ hf⟩
theorem FIn.out {a : Act} {w : World} {v : Nat → Value} (h : FIn fs l W a0 o a w v) {t : Nat} {x : Value} (ht : ((List.range l.length).all fun j => ((l[j]?).bind (·.dst)) != some t) = true) (hx : a0.tmps[t]? = some x) : a.tmps[t]? = some x := by
  refine (h.rest t (fun j hj => ?_)).trans hx
  rw [List.all_eq_true] at ht
  have := ht j (List.mem_range.2 hj)
  exact bne_iff_ne.1 this
end
end Go.Proofs.Ytllfkiifkkcinaa
/- Facts of a region's results: a row of numbers, a forest. -/
namespace Go.Proofs.Ytllfkiifkkcinaa
open Go.RowKit
/-- A row of numbers that reads as l. -/
def rowF (l : List Int) : Fact := ⟨fun u w => ∃ a len cap, u = .slice a len cap ∧ IntRow w a len cap l, fun _ _ _ ⟨a, len, cap, e, h⟩ hb => ⟨a, len, cap, e, h.below hb⟩⟩
/-- A forest that reads as F. -/
def forestF (m : Int) (F : List Core) : Fact := ⟨fun u w => ∃ a len cap L, u = forV a len cap m ∧ NodeRow w a len cap L ∧ coreL L = F, fun _ _ _ ⟨a, len, cap, L, e, h, hc⟩ hb => ⟨a, len, cap, L, e, h.below hb, hc⟩⟩
theorem ints_same {a a' : Option Addr} {len cap len' cap' : Nat} {l : List Int} {w : World} (h : IntRow w a len cap l) (h' : IntRow w a' len' cap' l) :
    Calls Try.prog 29 #[.slice a len cap, .slice a' len' cap'] w fun e w' => ∃ u, e = .returned u ∧ (isV (.bool true)).is u w' ∧ Below w.heap.size w w' := by
  refine (refints_any a a' len cap len' cap' l l w h h').mono ?_
  rintro e w' ⟨rfl, n, rfl⟩
  exact ⟨_, rfl, by rw [decide_eq_true rfl]; rfl, below_drewN (Below.refl _ _) n⟩
/-- A contract, as a fact. -/
theorem fact_of {P : Program} {f : FuncId} {args : Array Value} {w : World} {x : Value} (h : Calls P f args w fun e w' => e = .returned x ∧ Below w.heap.size w w') : Calls P f args w fun e w' => ∃ u, e = .returned u ∧ (isV x).is u w' ∧ Below w.heap.size w w' :=
  h.mono fun _ _ ⟨he, hb⟩ => ⟨x, he, rfl, hb⟩
theorem fact_ord {P : Program} {f : FuncId} {args : Array Value} {w : World} {l : List Int} (h : Calls P f args w (OrdPost w l)) : Calls P f args w fun e w' => ∃ u, e = .returned u ∧ (rowF l).is u w' ∧ Below w.heap.size w w' :=
  h.mono fun _ _ ⟨a, len, cap, he, hr, hb⟩ => ⟨_, he, ⟨a, len, cap, rfl, hr⟩, hb⟩
theorem fact_same {m : Int} {a b : Option Addr} {la ca lb cb : Nat} {L M : List NodeD} {w : World} (hL : NodeRow w a la ca L) (hM : NodeRow w b lb cb M) (he : coreL L = coreL M) :
    Calls Try.prog 20 #[forV a la ca m, forV b lb cb m] w fun e w' => ∃ u, e = .returned u ∧ (isV (.bool true)).is u w' ∧ Below w.heap.size w w' := by
  have := refsameF_any a b la ca lb cb m m L M w hL hM
  rw [he, decide_eq_true rfl, decide_eq_true rfl] at this
  exact fact_of this
end Go.Proofs.Ytllfkiifkkcinaa
/- instarref03's Root, Place, over a forest that is right. -/
namespace Go.Proofs.Ytllfkiifkkcinaa
open Go.RowKit
set_option maxHeartbeats 4000000 in
set_option maxRecDepth 100000 in
theorem refrootR_any (a : Option Addr) (len cap : Nat) (m : Int) (L : List NodeD) (hr : rightF m (coreL L) = true) : ∀ (r n : Nat) (w : World), NodeRow w a len cap L → n < len → rankF (coreL L) n ≤ r →
    Calls Try.prog 28 #[forV a len cap m, .int .i64 n] w fun e w' => e = .returned (.int .i64 (rootF (coreL L) n : Nat)) ∧ Below w.heap.size w w' := by
  intro r
  induction r with
  | zero =>
    intro n w h hn hk
    have HCL : Hid ((coreL L).length = len) := Lib.hid (by rw [coreL_len, h.hlen])
    have hlen := h.len64
    have BX := Lib.hid (Box.start (m := m) h)
    have z0 := BX.out.c0
    obtain ⟨b, off, x, rfl, hb, hx, hat, hok⟩ := BX.out.row.get hn
    have c5 := hat.c5
    have hxc := coreL_get hx
    by_cases hp : x.core.parent = -1
    · have HR : Hid (rootF (coreL L) n = n) := Lib.hid (rootN_none (right_top hxc hp))
      rw [hp] at c5
      clear hat hok hx hxc hp hb h hk
      go_enter Try.func28, Try.ntmps28
      go_wp2
      go_ret
      exact ⟨ret_int (by rw [HR.out]), BX.out.below⟩
    · obtain ⟨p, hpp, hpl, hpar⟩ := right_par hr hxc hp
      have := (tree_of_right hr).rank_up _ n (by rw [HCL.out]; exact hn) hpar
      omega
  | succ r ih =>
    intro n w h hn hk
    have HCL : Hid ((coreL L).length = len) := Lib.hid (by rw [coreL_len, h.hlen])
    have hlen := h.len64
    have BX := Lib.hid (Box.start (m := m) h)
    have z0 := BX.out.c0
    have z1 := BX.out.c1
    obtain ⟨b, off, x, rfl, hb, hx, hat, hok⟩ := BX.out.row.get hn
    have c5 := hat.c5
    have hxc := coreL_get hx
    by_cases hp : x.core.parent = -1
    · have HR : Hid (rootF (coreL L) n = n) := Lib.hid (rootN_none (right_top hxc hp))
      rw [hp] at c5
      clear hat hok hx hxc hp hb h hk ih
      go_enter Try.func28, Try.ntmps28
      go_wp2
      go_ret
      exact ⟨ret_int (by rw [HR.out]), BX.out.below⟩
    · obtain ⟨p, hpp, hpl, hpar⟩ := right_par hr hxc hp
      have T := tree_of_right hr
      have hrk := T.rank_up _ n (by rw [HCL.out]; exact hn) hpar
      have HR : Hid (rootF (coreL L) n = rootF (coreL L) p) := Lib.hid (T.root_held (by rw [HCL.out]; exact hn) (by omega) (holds_par hpar)).symm
      have IH : Hid (∀ W, NodeRow W (some ⟨b, off, none⟩) len cap L → Calls Try.prog 28 #[forV (some ⟨b, off, none⟩) len cap m, .int .i64 p] W fun e w' => e = .returned (.int .i64 (rootF (coreL L) n : Nat)) ∧ Below W.heap.size W w') := Lib.hid (fun W h => by
        rw [HR.out]
        exact ih p W h (by rw [HCL.out] at hpl; exact hpl) (by omega))
      rw [hpp] at c5
      have hne : ((p : Int) == -1) = false := beq_eq_false_iff_ne.2 (by omega)
      have HB := Lib.hid hb
      clear hat hok hx hxc hp hb h hk ih hpar hpl T hrk hpp
      go_enter Try.func28, Try.ntmps28
      go_wp2
      have E0 := Ext.cell z0 BX.out.lt
      have E1 := Ext.cell z1 BX.out.lt
      have E5 := Ext.cell c5 HB.out
      have EI := Lib.hid (fun (x : Ext (w.alloc (forB (some ⟨b, off, none⟩) len cap m))) => IH.out x.v (BX.out.row.below x.below))
      refine wp_region_ext (by kernel_rfl) (by kernel_rfl) ?_
      repeat (go_big_quiet_step (first | (go_at_call 28; exact Ext.call_below (EI.out _))))
      refine wpQuiet_nil ?_
      intro w3 hw'
      obtain ⟨⟨w4, hb4⟩, hw''⟩ := hw'
      dsimp only at hw''
      subst hw''
      have BX := Lib.hid (BX.out.keep hb4)
      clear E0 E1 E5 EI hb4
      go_wp2
      go_ret
      exact ⟨rfl, BX.out.below⟩
theorem refrootF_any (a : Option Addr) (len cap : Nat) (m : Int) (L : List NodeD) (n : Nat) (w : World) (hr : rightF m (coreL L) = true) (h : NodeRow w a len cap L) (hn : n < len) :
    Calls Try.prog 28 #[forV a len cap m, .int .i64 n] w fun e w' => e = .returned (.int .i64 (rootF (coreL L) n : Nat)) ∧ Below w.heap.size w w' :=
  refrootR_any a len cap m L hr _ n w h hn (Nat.le_refl _)
set_option maxHeartbeats 4000000 in
set_option maxRecDepth 100000 in
theorem refplace_any (a : Option Addr) (len cap : Nat) (m : Int) (L : List NodeD) (n : Nat) (w : World) (hr : rightF m (coreL L) = true) (h : NodeRow w a len cap L) (hn : n < len) :
    Calls Try.prog 31 #[forV a len cap m, .int .i64 n] w fun e w' => e = .returned (.int .i64 (placeF (coreL L) n)) ∧ Below w.heap.size w w' := by
  have HCL : Hid ((coreL L).length = len) := Lib.hid (by rw [coreL_len, h.hlen])
  have hlen := h.len64
  have BX := Lib.hid (Box.start (m := m) h)
  have z0 := BX.out.c0
  obtain ⟨b, off, x, rfl, hb, hx, hat, hok⟩ := BX.out.row.get hn
  have c5 := hat.c5
  have hxc := coreL_get hx
  by_cases hp : x.core.parent = -1
  · have HR : Hid (placeF (coreL L) n = -1) := Lib.hid (by unfold placeF; rw [right_top hxc hp])
    rw [hp] at c5
    clear hat hok hx hxc hp hb h
    go_enter Try.func31, Try.ntmps31
    go_wp2
    go_ret
    exact ⟨ret_int HR.out.symm, BX.out.below⟩
  · obtain ⟨p, hpp, hpl, hpar⟩ := right_par hr hxc hp
    rw [HCL.out] at hpl
    rw [hpp] at c5
    obtain ⟨b2, off2, y, hab, hb2, hy, hat2, hok2⟩ := BX.out.row.get hpl
    injection hab with hab
    injection hab with e1 e2
    subst e1 e2
    have c6 := hat2.c6
    have HR : Hid (placeF (coreL L) n = findZ y.core.kids n) := Lib.hid (by unfold placeF; rw [hpar]; dsimp only; rw [coreL_get hy])
    have CX : Hid (∀ x : Ext (w.alloc (forB (some ⟨b, off, none⟩) len cap m)), Calls Try.prog 35 #[.slice y.kA y.kN y.kC, .int .i64 n] x.v fun e w' => e = .returned (.int .i64 (findZ y.core.kids n)) ∧ x.v = w') := Lib.hid (fun x => reffind_any _ _ _ _ _ _ (hok2.kids.below x.below))
    have hne : ((p : Int) == -1) = false := beq_eq_false_iff_ne.2 (by omega)
    have E0 := Ext.cell z0 BX.out.lt
    have E5 := Ext.cell c5 hb
    have E6 := Ext.cell c6 hb
    have HB := Lib.hid hb
    clear hat hok hx hxc hp hb hy hat2 hok2 hb2 hpar hpp h
    go_enter Try.func31, Try.ntmps31
    go_wp2
    refine wp_region_ext (by kernel_rfl) (by kernel_rfl) ?_
    repeat (go_big_quiet_step (first | (go_at_call 35; exact Ext.call_same (CX.out _))))
    refine wpQuiet_nil ?_
    intro w3 hw'
    obtain ⟨⟨w4, hb4⟩, hw''⟩ := hw'
    dsimp only at hw''
    subst hw''
    have BX := Lib.hid (BX.out.keep hb4)
    clear E0 E5 E6 hb4
    go_wp2
    go_ret
    exact ⟨ret_int HR.out.symm, BX.out.below⟩
end Go.Proofs.Ytllfkiifkkcinaa
/- The document's own answer One: is a text one of some words, with blanks between? -/
namespace Go.Proofs.Ytllfkiifkkcinaa
open Go.RowKit
def splitL : List UInt8 → List UInt8 → List (List UInt8)
  | cur, [] => [cur]
  | cur, c :: r => if c == 32 then cur :: splitL [] r else splitL (cur ++ [c]) r
def oneGo (s : List UInt8) : List UInt8 → List UInt8 → Bool
  | cur, [] => cur == s
  | cur, c :: r => if c == 32 then (cur == s) || oneGo s [] r else oneGo s (cur ++ [c]) r
def oneL (s v : List UInt8) : Bool := oneGo s [] v
theorem oneGo_split (s : List UInt8) : ∀ (v cur : List UInt8), oneGo s cur v = (splitL cur v).contains s
  | [], cur => by
    unfold oneGo splitL
    rw [BEq.comm (a := cur), List.contains_cons]
    simp only [List.contains_nil, Bool.or_false]
  | c :: r, cur => by
    unfold oneGo splitL
    by_cases h : (c == 32) = true
    · rw [if_pos h, if_pos h, List.contains_cons, oneGo_split s r []]
      rw [BEq.comm (a := cur)]
    · rw [if_neg h, if_neg h]
      exact oneGo_split s r _
theorem one_split (s v : List UInt8) : oneL s v = (splitL [] v).contains s := oneGo_split s v []

/-- What holds at the head of a round: the part of the words that is left decides. -/
def OneAt (s v : List UInt8) (a i : Nat) : Prop := (a ≤ i ∧ i ≤ v.length ∧ oneGo s ((v.take i).drop a) (v.drop i) = oneL s v) ∨ (i = v.length + 1 ∧ oneL s v = false)
theorem OneAt.start (s v : List UInt8) : OneAt s v 0 0 := .inl ⟨Nat.le_refl _, Nat.zero_le _, by simp [oneL]⟩
theorem OneAt.hit {s v : List UInt8} {a i : Nat} (h : OneAt s v a i) (hi : i ≤ v.length) (hc : i = v.length ∨ v[i]? = some 32) (he : (v.take i).drop a = s) : oneL s v = true := by
  rcases h with ⟨h1, h2, h3⟩ | ⟨h1, _⟩
  · rw [← h3]
    rcases hc with hc | hc
    · have : v.drop i = [] := by rw [hc]; simp
      rw [this]
      unfold oneGo
      rw [he]; simp
    · obtain ⟨hl, hg⟩ := List.getElem?_eq_some_iff.1 hc
      rw [List.drop_eq_getElem_cons hl, hg]
      unfold oneGo
      rw [he]; simp
  · omega
theorem OneAt.last {s v : List UInt8} {a i : Nat} (h : OneAt s v a i) (hi : i = v.length) (he : ¬ (v.take i).drop a = s) (b : Nat) : OneAt s v b (i + 1) := by
  rcases h with ⟨h1, h2, h3⟩ | ⟨h1, _⟩
  · refine .inr ⟨by omega, ?_⟩
    rw [← h3]
    have : v.drop i = [] := by rw [hi]; simp
    rw [this]
    unfold oneGo
    simpa using he
  · omega
theorem OneAt.blank {s v : List UInt8} {a i : Nat} (h : OneAt s v a i) (hc : v[i]? = some 32) (he : ¬ (v.take i).drop a = s) : OneAt s v (i + 1) (i + 1) := by
  obtain ⟨hl, hg⟩ := List.getElem?_eq_some_iff.1 hc
  rcases h with ⟨h1, h2, h3⟩ | ⟨h1, _⟩
  · refine .inl ⟨Nat.le_refl _, by omega, ?_⟩
    rw [← h3, List.drop_eq_getElem_cons hl, hg]
    have : (v.take (i + 1)).drop (i + 1) = [] := by simp
    rw [this]
    conv => rhs; unfold oneGo
    simp [he]
  · omega
theorem OneAt.sign {s v : List UInt8} {a i : Nat} (h : OneAt s v a i) {c : UInt8} (hc : v[i]? = some c) (h32 : ¬ c = 32) : OneAt s v a (i + 1) := by
  obtain ⟨hl, hg⟩ := List.getElem?_eq_some_iff.1 hc
  rcases h with ⟨h1, h2, h3⟩ | ⟨h1, _⟩
  · refine .inl ⟨by omega, by omega, ?_⟩
    rw [← h3, List.drop_eq_getElem_cons hl, hg]
    have : (v.take (i + 1)).drop a = (v.take i).drop a ++ [c] := by
      rw [List.take_succ_eq_append_getElem hl, hg, List.drop_append_of_le_length (by rw [List.length_take]; omega)]
    rw [this]
    conv => rhs; unfold oneGo
    simp [h32]
  · omega
theorem OneAt.none {s v : List UInt8} {a i : Nat} (h : OneAt s v a i) (hi : ¬ i ≤ v.length) : oneL s v = false := by
  rcases h with ⟨h1, h2, h3⟩ | ⟨_, h⟩
  · omega
  · exact h
theorem OneAt.le {s v : List UInt8} {a i : Nat} (h : OneAt s v a i) (hi : i ≤ v.length) : a ≤ i := by
  rcases h with ⟨h1, _, _⟩ | ⟨h1, _⟩
  · exact h1
  · omega
theorem OneAt.bound {s v : List UInt8} {a i : Nat} (h : OneAt s v a i) : i ≤ v.length + 1 := by
  rcases h with ⟨h1, _, _⟩ | ⟨h1, _⟩ <;> omega
theorem cut_list (v : ByteArray) (a i : Nat) : (v.extract a i).toList = (v.toList.take i).drop a := by
  rw [tl, tl, Lib.extract_data]
  first
    | rfl
    | (rw [List.take_drop]; congr 1; omega)
    | simp [List.drop_take]

set_option maxHeartbeats 4000000 in
set_option maxRecDepth 100000 in
theorem one_any (s v : ByteArray) (w : World) (hv : v.size ≤ 1000000) :
    Calls Try.prog 73 #[.string s, .string v] w fun e w' => e = .returned (.bool (oneL s.toList v.toList)) ∧ w = w' := by
  have HV := Lib.hid (tl_len v)
  go_enter Try.func73, Try.ntmps73
  go_wp2
  go_loop [5, 6] (fun a i => ∃ ka ki : Nat, a = .int .i64 ka ∧ i = .int .i64 ki ∧ Hid (OneAt s.toList v.toList ka ki) ∧ ki ≤ v.size + 1) (fun _ i => v.size + 1 - (intOf i).toNat)
  case atStart => exact ⟨0, 0, rfl, rfl, Lib.hid (OneAt.start _ _), by omega⟩
  case round =>
    obtain ⟨ka, ki, rfl, rfl, HA, hki⟩ := hrel
    by_cases hle : ki ≤ v.size
    · have hak : ka ≤ ki := HA.out.le (by rw [HV.out]; exact hle)
      have hcut := cut_list v ka ki
      by_cases hend : ki = v.size
      · have hend1 : ((ki : Int) == (v.size : Int)) = true := beq_iff_eq.2 (by omega)
        have HE := Lib.hid hend
        clear hend
        by_cases heq : (v.toList.take ki).drop ka = s.toList
        · have hb : ((v.toList.take ki).drop ka == s.toList) = true := beq_iff_eq.2 heq
          have HR := Lib.hid (HA.out.hit (by rw [HV.out]; exact hle) (.inl (by rw [HV.out]; exact HE.out)) heq)
          clear heq
          go_wp2
          go_ret
          exact ⟨ret_bool HR.out.symm, rfl⟩
        · have hb : ((v.toList.take ki).drop ka == s.toList) = false := beq_eq_false_iff_ne.2 heq
          have HR := Lib.hid (HA.out.last (by rw [HV.out]; exact HE.out) heq (ki + 1))
          clear heq
          go_wp2
          go_round
          case rel => exact ⟨ki + 1, ki + 1, by go_num, by go_num, HR, by omega⟩
          case measure => simp [intOf]; omega
      · have hlt : ki < v.size := by omega
        have hend1 : ((ki : Int) == (v.size : Int)) = false := beq_eq_false_iff_ne.2 (by omega)
        have hg := tl_get v ki hlt
        by_cases h32 : v[ki] = 32
        · have hc1 : ((v[ki].toNat : Int) == 32) = true := by rw [h32]; rfl
          rw [h32] at hg
          have HG := Lib.hid hg
          clear hg h32 hend
          by_cases heq : (v.toList.take ki).drop ka = s.toList
          · have hb : ((v.toList.take ki).drop ka == s.toList) = true := beq_iff_eq.2 heq
            have HR := Lib.hid (HA.out.hit (by rw [HV.out]; exact hle) (.inr HG.out) heq)
            clear heq
            go_wp2
            go_ret
            exact ⟨ret_bool HR.out.symm, rfl⟩
          · have hb : ((v.toList.take ki).drop ka == s.toList) = false := beq_eq_false_iff_ne.2 heq
            have HR := Lib.hid (HA.out.blank HG.out heq)
            clear heq
            go_wp2
            go_round
            case rel => exact ⟨ki + 1, ki + 1, by go_num, by go_num, HR, by omega⟩
            case measure => simp [intOf]; omega
        · have hc1 : ((v[ki].toNat : Int) == 32) = false := beq_eq_false_iff_ne.2 (fun e => h32 (by
            apply UInt8.toNat_inj.1
            have : (32 : UInt8).toNat = 32 := rfl
            omega))
          have HR := Lib.hid (HA.out.sign hg h32)
          clear hg h32 hend
          go_wp2
          go_round
          case rel => exact ⟨ka, ki + 1, by go_num, by go_num, HR, by omega⟩
          case measure => simp [intOf]; omega
    · have HR := Lib.hid (HA.out.none (by rw [HV.out]; exact hle))
      go_wp2
      go_ret
      exact ⟨ret_bool HR.out.symm, rfl⟩
end Go.Proofs.Ytllfkiifkkcinaa
/- The document's own answers for layer 1 (package instarref01): Right, Small, Known, Custom, Kind. -/
namespace Go.Proofs.Ytllfkiifkkcinaa
open Go.RowKit
def KNOWN_WORDS : List UInt8 := [97, 32, 98, 32, 98, 117, 116, 116, 111, 110, 32, 100, 105, 118, 32, 102, 105, 101, 108, 100, 115, 101, 116, 32, 102, 111, 114, 109, 32, 105, 32, 105, 110, 112, 117, 116, 32, 108, 97, 98, 101, 108, 32, 108, 101, 103, 101, 110, 100, 32, 108, 105, 32, 111, 112, 116, 105, 111, 110, 32, 111, 117, 116, 112, 117, 116, 32, 112, 32, 115, 101, 108, 101, 99, 116, 32, 115, 112, 97, 110, 32, 116, 101, 109, 112, 108, 97, 116, 101, 32, 116, 101, 120, 116, 97, 114, 101, 97, 32, 117, 108]
def RESERVED_WORDS : List UInt8 := [97, 110, 110, 111, 116, 97, 116, 105, 111, 110, 45, 120, 109, 108, 32, 99, 111, 108, 111, 114, 45, 112, 114, 111, 102, 105, 108, 101, 32, 102, 111, 110, 116, 45, 102, 97, 99, 101, 32, 102, 111, 110, 116, 45, 102, 97, 99, 101, 45, 115, 114, 99, 32, 102, 111, 110, 116, 45, 102, 97, 99, 101, 45, 117, 114, 105, 32, 102, 111, 110, 116, 45, 102, 97, 99, 101, 45, 102, 111, 114, 109, 97, 116, 32, 102, 111, 110, 116, 45, 102, 97, 99, 101, 45, 110, 97, 109, 101, 32, 109, 105, 115, 115, 105, 110, 103, 45, 103, 108, 121, 112, 104]
theorem one_known (l : List UInt8) : oneL l KNOWN_WORDS = knownL l := by
  rw [one_split]
  have : splitL [] KNOWN_WORDS = [[97], [98], [98, 117, 116, 116, 111, 110], [100, 105, 118], [102, 105, 101, 108, 100, 115, 101, 116], [102, 111, 114, 109], [105], [105, 110, 112, 117, 116], [108, 97, 98, 101, 108], [108, 101, 103, 101, 110, 100], [108, 105], [111, 112, 116, 105, 111, 110], [111, 117, 116, 112, 117, 116], [112], [115, 101, 108, 101, 99, 116], [115, 112, 97, 110], [116, 101, 109, 112, 108, 97, 116, 101], [116, 101, 120, 116, 97, 114, 101, 97], [117, 108]] := by decide +kernel
  rw [this]
  rfl
theorem one_reserved (l : List UInt8) : oneL l RESERVED_WORDS = reservedL l := by
  rw [one_split]
  have : splitL [] RESERVED_WORDS = [[97, 110, 110, 111, 116, 97, 116, 105, 111, 110, 45, 120, 109, 108], [99, 111, 108, 111, 114, 45, 112, 114, 111, 102, 105, 108, 101], [102, 111, 110, 116, 45, 102, 97, 99, 101], [102, 111, 110, 116, 45, 102, 97, 99, 101, 45, 115, 114, 99], [102, 111, 110, 116, 45, 102, 97, 99, 101, 45, 117, 114, 105], [102, 111, 110, 116, 45, 102, 97, 99, 101, 45, 102, 111, 114, 109, 97, 116], [102, 111, 110, 116, 45, 102, 97, 99, 101, 45, 110, 97, 109, 101], [109, 105, 115, 115, 105, 110, 103, 45, 103, 108, 121, 112, 104]] := by decide +kernel
  rw [this]
  rfl

end Go.Proofs.Ytllfkiifkkcinaa
/- The document's own answers Custom and Kind (package instarref01). -/
namespace Go.Proofs.Ytllfkiifkkcinaa
open Go.RowKit
theorem low_of_right (s : ByteArray) (hr : rightL s.toList = true) (hp : 0 < s.size) (hsm : smallL s.toList = s.toList) : lowI (s[0].toNat : Int) = !((s[0].toNat : Int) == 95) := by
  have hh : headB s[0] = true := by
    by_cases h : headB s[0] = true
    · exact h
    · have := rightL_head _ _ (tl_get s 0 hp) (by simpa using h)
      rw [this] at hr; cases hr
  have hcap : capI (s[0].toNat : Int) = false := by
    have h1 : (smallL s.toList)[0]? = some (smallB s[0]) := by
      unfold smallL
      rw [List.getElem?_map, tl_get s 0 hp]
      rfl
    rw [hsm, tl_get s 0 hp] at h1
    have h2 := cap_small s[0]
    rw [← Option.some.inj h1] at h2
    exact h2
  unfold headB headI alphI at hh
  rw [hcap] at hh
  rw [Bool.eq_iff_iff]
  unfold lowI at *
  simp at hh ⊢
  omega
/-- What holds at the head of a round of the reference's Custom. -/
theorem dash_step (l : List UInt8) (k : Nat) (c : UInt8) (h : l[k]? = some c) (hd : dashL (l.take k) = false) : dashL (l.take (k + 1)) = ((c.toNat : Int) == 45) := by
  obtain ⟨hl, he⟩ := List.getElem?_eq_some_iff.1 h
  unfold dashL at *
  rw [List.take_succ_eq_append_getElem hl, he, Bool.eq_iff_iff]
  have e : (45 : UInt8) = c ↔ (c.toNat : Int) = 45 := by
    constructor
    · rintro rfl; rfl
    · intro h; apply UInt8.toNat_inj.1; have : (45 : UInt8).toNat = 45 := rfl; omega
  simp at hd
  simp [e, hd]
theorem dash_hit (l : List UInt8) (k : Nat) (c : UInt8) (h : l[k]? = some c) (hc : (c.toNat : Int) = 45) : dashL l = true := by
  have : c = 45 := by apply UInt8.toNat_inj.1; have : (45 : UInt8).toNat = 45 := rfl; omega
  subst this
  unfold dashL
  simp
  exact List.mem_of_getElem? h

set_option maxHeartbeats 16000000 in
set_option maxRecDepth 100000 in
theorem refcustom_any (s : ByteArray) (w : World) (hs : s.size ≤ 1000000) :
    Calls Try.prog 72 #[.string s] w fun e w' => e = .returned (.bool (customL s.toList)) ∧ Below w.heap.size w w' := by
  have HB : Below w.heap.size w w := Below.refl _ _
  by_cases hr : rightL s.toList = true
  rotate_left
  · have hr' : rightL s.toList = false := by simpa using hr
    have HC := Lib.hid (customL_no _ hr')
    clear hr
    go_enter Try.func72, Try.ntmps72
    go_wp2_with (go_at_call 79; refine (refright_any _ _ (le_max hs)).mono ?_; rintro e w' ⟨rfl, rfl⟩)
    go_ret
    exact ⟨ret_bool HC.out.symm, HB⟩
  have hp := rightL_pos s hr
  have HC := Lib.hid (customL_eq s hr hp)
  have HL := Lib.hid (tl_len s)
  by_cases hsm : smallL s.toList = s.toList
  rotate_left
  · have b1 : (s.toList == smallL s.toList) = false := beq_eq_false_iff_ne.2 (fun e => hsm e.symm)
    have b2 : (s.toList != smallL s.toList) = true := by unfold bne; rw [b1]; rfl
    have HR : Hid (customL s.toList = false) := Lib.hid (by rw [HC.out, beq_eq_false_iff_ne.2 hsm]; rfl)
    clear hsm
    go_enter Try.func72, Try.ntmps72
    go_wp2_with (first
      | (go_at_call 79; refine (refright_any _ _ (le_max hs)).mono ?_; rintro e w' ⟨rfl, rfl⟩)
      | (go_at_call 80; refine (refsmall_any _ _ hs).mono ?_; rintro e w' ⟨rfl, hb⟩; have HB := HB.trans (hb.mono HB.size); clear hb))
    go_ret
    exact ⟨ret_bool HR.out.symm, by assumption⟩
  have HW := Lib.hid (low_of_right s hr hp hsm)
  have HV : Hid (customL s.toList = (!((s[0].toNat : Int) == 95) && dashL s.toList && !reservedL s.toList)) := Lib.hid (by rw [HC.out, HW.out, hsm]; simp)
  by_cases h95 : (s[0].toNat : Int) = 95
  · have e95 : ((s[0].toNat : Int) == 95) = true := beq_iff_eq.2 h95
    have HR : Hid (customL s.toList = false) := Lib.hid (by rw [HV.out, e95]; rfl)
    clear h95
    go_enter Try.func72, Try.ntmps72
    go_wp2_with (first
      | (go_at_call 79; refine (refright_any _ _ (le_max hs)).mono ?_; rintro e w' ⟨rfl, rfl⟩)
      | (go_at_call 80; refine (refsmall_any _ _ hs).mono ?_; rintro e w' ⟨rfl, hb⟩; have HB := HB.trans (hb.mono HB.size); clear hb))
    go_ret
    exact ⟨ret_bool HR.out.symm, by assumption⟩
  have e95 : ((s[0].toNat : Int) == 95) = false := beq_eq_false_iff_ne.2 h95
  have hone := one_reserved s.toList
  by_cases hres : reservedL s.toList = true
  · rw [hres] at hone
    have HR : Hid (customL s.toList = false) := Lib.hid (by rw [HV.out, hres]; simp)
    clear h95 hres
    go_enter Try.func72, Try.ntmps72
    go_wp2_with (first
      | (go_at_call 79; refine (refright_any _ _ (le_max hs)).mono ?_; rintro e w' ⟨rfl, rfl⟩)
      | (go_at_call 80; refine (refsmall_any _ _ hs).mono ?_; rintro e w' ⟨rfl, hb⟩; have HB := HB.trans (hb.mono HB.size); clear hb)
      | (go_at_call 73; refine (one_any _ ⟨RESERVED_WORDS.toArray⟩ _ (by decide)).mono ?_; rintro e w' ⟨rfl, rfl⟩))
    go_ret
    exact ⟨ret_bool HR.out.symm, by assumption⟩
  have hres' : reservedL s.toList = false := by simpa using hres
  rw [hres'] at hone
  have HR : Hid (customL s.toList = dashL s.toList) := Lib.hid (by rw [HV.out, hres', e95]; simp)
  clear h95 hres hres'
  go_enter Try.func72, Try.ntmps72
  go_wp2_with (first
    | (go_at_call 79; refine (refright_any _ _ (le_max hs)).mono ?_; rintro e w' ⟨rfl, rfl⟩)
    | (go_at_call 80; refine (refsmall_any _ _ hs).mono ?_; rintro e w' ⟨rfl, hb⟩; have HB := HB.trans (hb.mono HB.size); clear hb)
    | (go_at_call 73; refine (one_any _ ⟨RESERVED_WORDS.toArray⟩ _ (by decide)).mono ?_; rintro e w' ⟨rfl, rfl⟩))
  clear hone hsm
  go_loop [3] (fun i => ∃ k : Nat, k ≤ s.size ∧ i = .int .i64 k ∧ Hid (dashL (s.toList.take k) = false)) (fun i => s.size - (intOf i).toNat)
  case atStart => exact ⟨0, by omega, rfl, Lib.hid rfl⟩
  case round =>
    obtain ⟨k, hk, rfl, HA⟩ := hrel
    by_cases hlt : k < s.size
    · have HG := Lib.hid (tl_get s k hlt)
      obtain ⟨n, hn⟩ : ∃ n : Nat, (s[k]'hlt).toNat = n := ⟨_, rfl⟩
      have HN := Lib.hid hn
      by_cases h45 : (n : Int) = 45
      · have e45 : ((n : Int) == 45) = true := beq_iff_eq.2 h45
        have HR2 : Hid (customL s.toList = true) := Lib.hid (by rw [HR.out]; exact dash_hit _ _ _ HG.out (by rw [HN.out]; exact h45))
        clear h45
        go_wp2
        go_ret
        exact ⟨ret_bool HR2.out.symm, by assumption⟩
      · have e45 : ((n : Int) == 45) = false := beq_eq_false_iff_ne.2 h45
        have HS : Hid (dashL (s.toList.take (k + 1)) = false) := Lib.hid ((dash_step _ _ _ HG.out HA.out).trans (by rw [HN.out]; exact e45))
        clear h45
        go_wp2
        go_round
        case rel => exact ⟨k + 1, by omega, by go_num, HS⟩
        case measure => simp [intOf]; omega
    · have HR2 : Hid (customL s.toList = false) := Lib.hid (by
        rw [HR.out]
        have h := HA.out
        rwa [List.take_of_length_le (by rw [HL.out]; omega)] at h)
      go_wp2
      go_ret
      exact ⟨ret_bool HR2.out.symm, by assumption⟩

end Go.Proofs.Ytllfkiifkkcinaa
/- A region of a function with a great frame, walked in a small one: the slots that it names, renamed by a shift. No program. -/
namespace Go.Proofs.Ytllfkiifkkcinaa
open Go.RowKit
/-- The first 'lo' slots stay; what lies behind 'lo + k' moves down by k. -/
def shT (lo k t : Nat) : Nat := if t < lo then t else t - k
def shX (lo k : Nat) : Operand → Operand
  | .tmp t => .tmp (shT lo k t)
  | .const v => .const v
  | .global g => .global g
  | .func f => .func f
def shE (lo k : Nat) : Callee → Callee
  | .value f => .value (shX lo k f)
  | .invoke r m => .invoke (shX lo k r) m
  | .builtin b => .builtin b
def shO (lo k : Nat) : Op → Op
  | .move x => .move (shX lo k x)
  | .assign x => .assign (shX lo k x)
  | .pick c a b => .pick (shX lo k c) (shX lo k a) (shX lo k b)
  | .load t x => .load t (shX lo k x)
  | .binOp op t x y t' => .binOp op t (shX lo k x) (shX lo k y) t'
  | .unOp op t x => .unOp op t (shX lo k x)
  | .fieldAddr t x f => .fieldAddr t (shX lo k x) f
  | .indexAddr t x y => .indexAddr t (shX lo k x) (shX lo k y)
  | .call c => .call { callee := shE lo k c.callee, args := c.args.map (shX lo k), argTypes := c.argTypes }
  | o => o
def sh (lo k : Nat) (o : Oper) : Oper := { o with dst := o.dst.map (shT lo k), op := shO lo k o.op }
/-- A slot that lies in the small frame of n slots. -/
def inT (lo k n t : Nat) : Bool := (Nat.blt t lo && Nat.blt t n) || (Nat.ble (lo + k) t && Nat.blt t (n + k))
def inX (lo k n : Nat) : Operand → Bool
  | .tmp t => inT lo k n t
  | _ => true
def inO (lo k n : Nat) : Op → Bool
  | .move x => inX lo k n x
  | .assign x => inX lo k n x
  | .pick c a b => inX lo k n c && inX lo k n a && inX lo k n b
  | .load _ x => inX lo k n x
  | .binOp _ _ x y _ => inX lo k n x && inX lo k n y
  | .unOp _ _ x => inX lo k n x
  | .fieldAddr _ x _ => inX lo k n x
  | .indexAddr _ x y => inX lo k n x && inX lo k n y
  | .call c => (match c.callee with | .value f => inX lo k n f | .invoke _ _ => false | .builtin _ => true) && c.args.all (inX lo k n)
  | _ => false
def inD (lo k n : Nat) : Option Nat → Bool
  | some d => inT lo k n d
  | none => true
def smallOK (lo k n : Nat) (l : List Oper) : Bool := l.all (fun o => inD lo k n o.dst && inO lo k n o.op)
/-- The great frame, with what the small one holds. -/
def mergeL (lo k n : Nat) (s : Array Value) : Nat → List Value → List Value
  | _, [] => []
  | t, v :: r => (bif inT lo k n t then s.getD (shT lo k t) undef else v) :: mergeL lo k n s (t + 1) r
def merge (lo k n : Nat) (a s : Act) : Act := ⟨(mergeL lo k n s.tmps 0 a.tmps.toList).toArray, a.defers⟩
section
variable {lo k n : Nat}
theorem mergeL_len (s : Array Value) : ∀ (t : Nat) (l : List Value), (mergeL lo k n s t l).length = l.length
  | _, [] => rfl
  | t, v :: r => by unfold mergeL; rw [List.length_cons, List.length_cons, mergeL_len s (t + 1) r]
theorem mergeL_get (s : Array Value) : ∀ (t : Nat) (l : List Value) (i : Nat), (mergeL lo k n s t l)[i]? = (l[i]?).map (fun v => bif inT lo k n (t + i) then s.getD (shT lo k (t + i)) undef else v)
  | _, [], _ => by simp [mergeL]
  | t, v :: r, 0 => by simp [mergeL]
  | t, v :: r, i + 1 => by
    unfold mergeL
    rw [List.getElem?_cons_succ, List.getElem?_cons_succ, mergeL_get s (t + 1) r i, show t + 1 + i = t + (i + 1) by omega]
theorem merge_get (a s : Act) (i : Nat) : (merge lo k n a s).tmps[i]? = (a.tmps[i]?).map (fun v => bif inT lo k n i then s.tmps.getD (shT lo k i) undef else v) := by
  unfold merge
  rw [List.getElem?_toArray, mergeL_get, Nat.zero_add, Array.getElem?_toList]
theorem merge_getD (a s : Act) {i : Nat} (hi : i < a.tmps.size) (ht : inT lo k n i = true) : (merge lo k n a s).tmps.getD i undef = s.tmps.getD (shT lo k i) undef := by
  rw [Array.getD_eq_getD_getElem?, merge_get, Array.getElem?_eq_getElem hi, ht]
  rfl
theorem merge_size (a s : Act) : (merge lo k n a s).tmps.size = a.tmps.size := by
  unfold merge
  rw [List.size_toArray, mergeL_len, Array.length_toList]
theorem shT_lt {t : Nat} (h : inT lo k n t = true) : shT lo k t < n := by
  unfold inT at h
  unfold shT
  simp only [Bool.or_eq_true, Bool.and_eq_true, Nat.blt_eq, Nat.ble_eq] at h
  split <;> omega
theorem shT_inj {t u : Nat} (ht : inT lo k n t = true) (hu : inT lo k n u = true) (h : shT lo k t = shT lo k u) : t = u := by
  unfold inT at ht hu
  unfold shT at h
  simp only [Bool.or_eq_true, Bool.and_eq_true, Nat.blt_eq, Nat.ble_eq] at ht hu
  split at h <;> split at h <;> omega
/-- What the great frame does, the small one does. -/
theorem merge_put (a s : Act) {d : Nat} (hs : s.tmps.size = n) (ht : inT lo k n d = true) (v : Value) (hda : d < a.tmps.size) : (merge lo k n a s).put (some d) v = merge lo k n a (s.put (some (shT lo k d)) v) := by
  have e : ((merge lo k n a s).put (some d) v).tmps = (merge lo k n a (s.put (some (shT lo k d)) v)).tmps := by
    apply Array.ext_getElem?
    intro i
    rw [merge_get]
    show ((merge lo k n a s).tmps.setIfInBounds d v)[i]? = _
    rw [Array.getElem?_setIfInBounds, merge_get, merge_size]
    show _ = (a.tmps[i]?).map (fun w => bif inT lo k n i then (s.tmps.setIfInBounds (shT lo k d) v).getD (shT lo k i) undef else w)
    by_cases hdi : d = i
    · subst hdi
      rw [if_pos rfl, if_pos hda, Array.getElem?_eq_getElem hda, ht]
      have : shT lo k d < s.tmps.size := by rw [hs]; exact shT_lt ht
      simp [Array.getD_eq_getD_getElem?, this]
    · rw [if_neg hdi]
      cases hq : inT lo k n i with
      | false => rfl
      | true =>
        have hne : shT lo k d ≠ shT lo k i := fun h => hdi (shT_inj ht hq h)
        simp [Array.getD_eq_getD_getElem?, hne]
  show Act.mk _ _ = Act.mk _ _
  congr 1
theorem put_none (a : Act) (v : Value) : a.put none v = a := rfl
theorem put_size (a : Act) (d : Option Nat) (v : Value) : (a.put d v).tmps.size = a.tmps.size := by
  cases d with
  | none => rfl
  | some d => simp [Act.put]
theorem sh_eval (a s : Act) (hs : ∀ t, inT lo k n t = true → t < a.tmps.size) {x : Operand} (hx : inX lo k n x = true) : s.eval (shX lo k x) = (merge lo k n a s).eval x := by
  cases x with
  | tmp t => exact (merge_getD a s (hs t hx) hx).symm
  | const v => rfl
  | global g => rfl
  | func f => rfl
theorem sh_exec {e e' : Operand → Value} {o : Oper} (ho : inO lo k n o.op = true) (h : ∀ x, inX lo k n x = true → e' (shX lo k x) = e x) : execOp e' (sh lo k o) = execOp e o := by
  obtain ⟨dst, op, type, pos, after, guard⟩ := o
  cases op <;> simp only [inO, Bool.and_eq_true, Bool.false_eq_true] at ho
  case move x => simp only [sh, shO, execOp, h x ho]
  case assign x => simp only [sh, shO, execOp, h x ho]
  case pick c a b => simp only [sh, shO, execOp, h c ho.1.1, h a ho.1.2, h b ho.2]
  case load t x => simp only [sh, shO, execOp, h x ho]
  case binOp op t x y t' =>
    simp only [sh, shO, execOp, h x ho.1, h y ho.2, eqGuard]
    cases x <;> cases y <;> rfl
  case unOp op t x => simp only [sh, shO, execOp, h x ho]
  case fieldAddr t x f => simp only [sh, shO, execOp, h x ho]
  case indexAddr t x y => simp only [sh, shO, execOp, h x ho.1, h y ho.2]
  case call c =>
    obtain ⟨callee, args, ats⟩ := c
    have ha : (args.map (shX lo k)).map e' = args.map e := by
      rw [Array.map_map]
      apply Array.map_congr_left
      intro x hx
      exact h x (Array.all_eq_true_iff_forall_mem.1 ho.2 x hx)
    have hk : ∀ f : Operand → Bool, (∀ x, f (shX lo k x) = f x) → (args.map (shX lo k)).map f = args.map f := fun f hf => by
      rw [Array.map_map]
      apply Array.map_congr_left
      intro x _
      exact hf x
    cases callee with
    | value f => simp only [sh, shO, shE, execOp, resolve, ha, h f ho.1]
    | invoke r m => exact absurd ho.1 (by simp)
    | builtin b =>
      simp only [sh, shO, shE, execOp, resolve, ha]
      rw [hk _ (fun x => by cases x <;> rfl)]
/-- What a guard asks is the same. -/
theorem sh_wanted (a s : Act) (hs : ∀ t, inT lo k n t = true → t < a.tmps.size) (hn : s.tmps.size = n) {l : List Oper} (hl : smallOK lo k n l = true) (o : Oper) :
    Region.wanted (sh lo k o) (yielded (l.map (sh lo k)).toArray s.tmps) = Region.wanted o (yielded l.toArray (merge lo k n a s).tmps) := by
  have key : ∀ j, yielded (l.map (sh lo k)).toArray s.tmps j = yielded l.toArray (merge lo k n a s).tmps j := fun j => by
    unfold yielded
    rw [List.getElem?_toArray, List.getElem?_toArray, List.getElem?_map]
    cases ho : l[j]? with
    | none => rfl
    | some oj =>
      have h1 := List.all_eq_true.1 hl oj (List.mem_of_getElem? ho)
      rw [Bool.and_eq_true] at h1
      have h2 := h1.1
      show (match ((oj.dst.map (shT lo k)).bind (s.tmps[·]?)) with | some (.bool b) => some b | _ => none) = (match (oj.dst.bind ((merge lo k n a s).tmps[·]?)) with | some (.bool b) => some b | _ => none)
      cases hd : oj.dst with
      | none => rfl
      | some d =>
        rw [hd] at h2
        have h3 : inT lo k n d = true := h2
        have h4 := hs d h3
        show (match s.tmps[shT lo k d]? with | some (.bool b) => some b | _ => none) = (match (merge lo k n a s).tmps[d]? with | some (.bool b) => some b | _ => none)
        rw [merge_get, Array.getElem?_eq_getElem h4, h3, Array.getElem?_eq_getElem (by rw [hn]; exact shT_lt h3)]
        show _ = (match some (s.tmps.getD (shT lo k d) undef) with | some (.bool b) => some b | _ => none)
        rw [Array.getD_eq_getD_getElem?, Array.getElem?_eq_getElem (by rw [hn]; exact shT_lt h3)]
        rfl
  show (match o.guard with | none => true | some (j, want) => yielded (l.map (sh lo k)).toArray s.tmps j == some want) = (match o.guard with | none => true | some (j, want) => yielded l.toArray (merge lo k n a s).tmps j == some want)
  cases o.guard with
  | none => rfl
  | some g =>
    show (yielded (l.map (sh lo k)).toArray s.tmps g.1 == some g.2) = _
    rw [key]
theorem sh_put (a s : Act) (hs : ∀ t, inT lo k n t = true → t < a.tmps.size) (hn : s.tmps.size = n) {d : Option Nat} (hd : inD lo k n d = true) (v : Value) : (merge lo k n a s).put d v = merge lo k n a (s.put (d.map (shT lo k)) v) := by
  cases d with
  | none => rfl
  | some d => exact merge_put a s hn hd v (hs d hd)
/-- The walk of the small frame is one of the great frame. -/
theorem quiet_small {P : Program} {C : World → Prop} {a : Act} (hs : ∀ t, inT lo k n t = true → t < a.tmps.size) {l : List Oper} (hl : smallOK lo k n l = true) {R Q : Act → Prop} (hR : ∀ s, s.tmps.size = n → R s → Q (merge lo k n a s)) :
    ∀ (r : List Oper), smallOK lo k n r = true → ∀ s : Act, s.tmps.size = n → wpQuiet P (l.map (sh lo k)).toArray C R (r.map (sh lo k)) s → wpQuiet P l.toArray C Q r (merge lo k n a s)
  | [], _, s, hn, h => hR s hn h
  | o :: r, hr, s, hn, h => by
    have hr' := hr
    unfold smallOK at hr'
    rw [List.all_cons, Bool.and_eq_true, Bool.and_eq_true] at hr'
    obtain ⟨⟨hd, ho⟩, hrr⟩ := hr'
    rw [List.map_cons] at h
    unfold wpQuiet at h ⊢
    rw [sh_wanted a s hs hn hl o] at h
    split at h
    · rename_i hw
      rw [if_pos hw]
      obtain ⟨v, h1, h2⟩ := h
      refine ⟨v, fun w hC => ?_, ?_⟩
      · have := h1 w hC
        unfold Oper.quietAt at this ⊢
        rwa [sh_exec ho (fun x hx => sh_eval a s hs hx)] at this
      · rw [sh_put a s hs hn hd]
        exact quiet_small hs hl hR r hrr _ (by rw [put_size]; exact hn) h2
    · rename_i hw
      rw [if_neg hw, sh_put a s hs hn hd]
      exact quiet_small hs hl hR r hrr _ (by rw [put_size]; exact hn) h
/-- A quiet walk serves a region that keeps its order, too. -/
theorem wpList_of_quiet {P : Program} {ops : Array Oper} {C : World → Prop} {Q : Exit → Act → World → Prop} : ∀ (l : List Oper) (a : Act) (w : World), C w → wpQuiet P ops C (fun a' => ∀ w', C w' → Q .normal a' w') l a → wpList P ops Q l a w
  | [], _, w, hC, h => h w hC
  | o :: r, a, w, hC, h => by
    unfold wpQuiet at h
    unfold wpList
    split at h
    · rename_i hw
      rw [if_pos hw]
      exact .inl (Oper.wp_of_quiet hC (fun a' w' hC' h' => wpList_of_quiet r a' w' hC' h') h)
    · rename_i hw
      rw [if_neg hw]
      exact wpList_of_quiet r _ w hC h
end
/-- A region walked in a small frame, the merged frame by its slots. -/
theorem wp_region_small {P : Program} {id : Nat} {draw : Bool} {Q : Exit → Act → World → Prop} {a : Act} {w : World} {l : List Oper} (lo k n : Nat) (s : Act) (R : Act → Prop)
    (hd : draw = false ∨ (P.follows .mixedOrders = true ∧ Region.lexB .any l.toArray = true)) (hl : smallOK lo k n l = true) (hs : ∀ t, inT lo k n t = true → t < a.tmps.size) (hn : s.tmps.size = n) (ha : a = merge lo k n a s)
    (hR : ∀ s', s'.tmps.size = n → R s' → ∀ w', (∃ x : Ext w, w' = x.v) → Q .normal (merge lo k n a s') w')
    (h : wpQuiet P (l.map (sh lo k)).toArray (fun w' => ∃ x : Ext w, w' = x.v) R (l.map (sh lo k)) s) : (Code.region id l.toArray draw).wp P Q a w := by
  have h1 : wpQuiet P l.toArray (fun w' => ∃ x : Ext w, w' = x.v) (fun a' => ∀ w', (∃ x : Ext w, w' = x.v) → Q .normal a' w') l a := by
    have := quiet_small (P := P) (C := fun w' => ∃ x : Ext w, w' = x.v) hs hl (Q := fun a' => ∀ w', (∃ x : Ext w, w' = x.v) → Q .normal a' w') hR l hl s hn h
    rwa [← ha] at this
  rcases hd with rfl | ⟨h2, h3⟩
  · exact wp_region_lit (wpList_of_quiet l a w ⟨⟨w, Below.refl _ _⟩, rfl⟩ h1)
  · cases draw with
    | false => exact wp_region_lit (wpList_of_quiet l a w ⟨⟨w, Below.refl _ _⟩, rfl⟩ h1)
    | true => exact wp_region_ext h2 h3 h1
/-- The small frame out of the great one. -/
def smallOf (lo k n : Nat) (a : Act) : Act := ⟨(a.tmps.toList.take lo ++ (a.tmps.toList.drop (lo + k)).take (n - lo)).toArray, []⟩
/-- The great frame, with the small one's slots in their places. -/
def joined (lo k n : Nat) (a s : Act) : Act := ⟨(s.tmps.toList.take lo ++ ((a.tmps.toList.drop lo).take k ++ (s.tmps.toList.drop lo ++ a.tmps.toList.drop (n + k)))).toArray, a.defers⟩
theorem inT_iff {lo k n t : Nat} (hlo : lo ≤ n) : inT lo k n t = true ↔ (t < lo ∨ (lo + k ≤ t ∧ t < n + k)) := by
  unfold inT
  simp only [Bool.or_eq_true, Bool.and_eq_true, Nat.blt_eq, Nat.ble_eq]
  omega
theorem joined_eq {lo k n : Nat} {a s : Act} (hlo : lo ≤ n) (hs : s.tmps.size = n) (ha : n + k ≤ a.tmps.size) : merge lo k n a s = joined lo k n a s := by
  have hsl : s.tmps.toList.length = n := by simpa using hs
  have hal : n + k ≤ a.tmps.toList.length := by simpa using ha
  have e : (merge lo k n a s).tmps = (joined lo k n a s).tmps := by
    apply Array.ext_getElem?
    intro i
    rw [merge_get]
    have hta : (s.tmps.toList.take lo).length = lo := by rw [List.length_take]; omega
    have htb : ((a.tmps.toList.drop lo).take k).length = k := by rw [List.length_take, List.length_drop]; omega
    have htc : (s.tmps.toList.drop lo).length = n - lo := by rw [List.length_drop]; omega
    have ga : a.tmps[i]? = a.tmps.toList[i]? := by simp
    have gj : (joined lo k n a s).tmps[i]? = (s.tmps.toList.take lo ++ ((a.tmps.toList.drop lo).take k ++ (s.tmps.toList.drop lo ++ a.tmps.toList.drop (n + k))))[i]? := by
      unfold joined
      rw [List.getElem?_toArray]
    have gs : ∀ j, s.tmps.getD j undef = (s.tmps.toList[j]?).getD undef := fun j => by simp [Array.getD_eq_getD_getElem?]
    show (a.tmps[i]?).map _ = _
    rw [ga]
    rw [gj]
    by_cases h1 : i < lo
    · rw [List.getElem?_append_left (by rw [hta]; exact h1), List.getElem?_take, if_pos h1, (inT_iff hlo).2 (.inl h1), List.getElem?_eq_getElem (show i < a.tmps.toList.length by omega), List.getElem?_eq_getElem (show i < s.tmps.toList.length by omega)]
      show some (s.tmps.getD (shT lo k i) undef) = _
      rw [gs]
      unfold shT
      rw [if_pos h1, List.getElem?_eq_getElem (show i < s.tmps.toList.length by omega)]
      rfl
    · rw [List.getElem?_append_right (by rw [hta]; omega), hta]
      by_cases h2 : i < lo + k
      · rw [List.getElem?_append_left (by rw [htb]; omega), List.getElem?_take, if_pos (by omega), List.getElem?_drop, show lo + (i - lo) = i by omega]
        have hq : inT lo k n i = false := by
          cases hq : inT lo k n i with
          | false => rfl
          | true => have := (inT_iff hlo).1 hq; omega
        rw [hq]
        simp
      · rw [List.getElem?_append_right (by rw [htb]; omega), htb]
        by_cases h3 : i < n + k
        · rw [List.getElem?_append_left (by rw [htc]; omega), List.getElem?_drop, (inT_iff hlo).2 (.inr ⟨by omega, h3⟩), List.getElem?_eq_getElem (show i < a.tmps.toList.length by omega), show lo + (i - lo - k) = i - k by omega]
          show some (s.tmps.getD (shT lo k i) undef) = _
          rw [gs]
          unfold shT
          rw [if_neg h1, List.getElem?_eq_getElem (show i - k < s.tmps.toList.length by omega)]
          rfl
        · rw [List.getElem?_append_right (by rw [htc]; omega), htc, List.getElem?_drop, show n + k + (i - lo - k - (n - lo)) = i by omega]
          have hq : inT lo k n i = false := by
            cases hq : inT lo k n i with
            | false => rfl
            | true => have := (inT_iff hlo).1 hq; omega
          rw [hq]
          simp
  show Act.mk _ _ = Act.mk _ _
  congr 1
theorem smallOf_size {lo k n : Nat} {a : Act} (hlo : lo ≤ n) (ha : n + k ≤ a.tmps.size) : (smallOf lo k n a).tmps.size = n := by
  have hal : n + k ≤ a.tmps.toList.length := by simpa using ha
  unfold smallOf
  rw [List.size_toArray, List.length_append, List.length_take, List.length_take, List.length_drop]
  omega
theorem joined_small {lo k n : Nat} {a : Act} (hlo : lo ≤ n) (ha : n + k ≤ a.tmps.size) : a = joined lo k n a (smallOf lo k n a) := by
  have hal : n + k ≤ a.tmps.toList.length := by simpa using ha
  have e : a.tmps.toList = (smallOf lo k n a).tmps.toList.take lo ++ ((a.tmps.toList.drop lo).take k ++ ((smallOf lo k n a).tmps.toList.drop lo ++ a.tmps.toList.drop (n + k))) := by
    have h1 : (a.tmps.toList.take lo).length = lo := by rw [List.length_take]; omega
    have h2 : (smallOf lo k n a).tmps.toList = a.tmps.toList.take lo ++ (a.tmps.toList.drop (lo + k)).take (n - lo) := rfl
    have h5 : (a.tmps.toList.take lo ++ (a.tmps.toList.drop (lo + k)).take (n - lo)).take lo = a.tmps.toList.take lo := by
      rw [List.take_append_of_le_length (by rw [h1]; exact Nat.le_refl _), List.take_of_length_le (by rw [h1]; exact Nat.le_refl _)]
    have h6 : (a.tmps.toList.take lo ++ (a.tmps.toList.drop (lo + k)).take (n - lo)).drop lo = (a.tmps.toList.drop (lo + k)).take (n - lo) := by
      rw [List.drop_append_of_le_length (by rw [h1]; exact Nat.le_refl _), List.drop_of_length_le (by rw [h1]; exact Nat.le_refl _), List.nil_append]
    rw [h2, h5, h6]
    have h3 : (a.tmps.toList.drop (lo + k)).take (n - lo) ++ a.tmps.toList.drop (n + k) = a.tmps.toList.drop (lo + k) := by
      have : a.tmps.toList.drop (n + k) = (a.tmps.toList.drop (lo + k)).drop (n - lo) := by rw [List.drop_drop]; congr 1; omega
      rw [this, List.take_append_drop]
    have h4 : (a.tmps.toList.drop lo).take k ++ a.tmps.toList.drop (lo + k) = a.tmps.toList.drop lo := by
      rw [← List.drop_drop, List.take_append_drop]
    rw [h3, h4, List.take_append_drop]
  obtain ⟨⟨l⟩, d⟩ := a
  show Act.mk _ _ = Act.mk _ _
  congr 1
  exact congrArg List.toArray e
/-- A region walked in a small frame. -/
theorem wp_region_in {P : Program} {id : Nat} {draw : Bool} {Q : Exit → Act → World → Prop} {a : Act} {w : World} {l : List Oper} (lo k n : Nat) (R : Act → Prop)
    (hd : draw = false ∨ (P.follows .mixedOrders = true ∧ Region.lexB .any l.toArray = true)) (hl : smallOK lo k n l = true) (hlo : lo ≤ n) (ha : n + k ≤ a.tmps.size)
    (h : wpQuiet P (l.map (sh lo k)).toArray (fun w' => ∃ x : Ext w, w' = x.v) R (l.map (sh lo k)) (smallOf lo k n a))
    (hR : ∀ s', s'.tmps.size = n → R s' → ∀ w', (∃ x : Ext w, w' = x.v) → Q .normal (joined lo k n a s') w') : (Code.region id l.toArray draw).wp P Q a w := by
  refine wp_region_small lo k n (smallOf lo k n a) R hd hl (fun t ht => by have := (inT_iff hlo).1 ht; omega) (smallOf_size hlo ha) ?_ (fun s' hs' hr w' hw' => ?_) h
  · rw [joined_eq hlo (smallOf_size hlo ha) ha]
    exact joined_small hlo ha
  · rw [joined_eq hlo hs' ha]
    exact hR s' hs' hr w' hw'
end Go.Proofs.Ytllfkiifkkcinaa
