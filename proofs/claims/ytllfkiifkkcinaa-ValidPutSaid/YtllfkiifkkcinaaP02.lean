/- Texts joined in build order: ForestMath ForestFns Ext ForestAwake ForestHoldsMath ForestHolds ForestSameF ForestMakesMath ForestNBox NameBytes NameText NameSmall NameFit NameWords NameKinds. -/
import Derived.Test.YtllfkiifkkcinaaP01
import Derived.BigQuiet
import Derived.Deep.QuietTactic
import Derived.Below
import Derived.WalkSmall
import Derived.Test.YtllfkiifkkcinaaChecked
import Derived.WalkKit
import Derived.WalkLawsBesides
import Derived.Lib.Hide
import Derived.Lib.Strings
import Derived.Laws.IdiomStrings
import Derived.WideShapes
import Derived.Lib.Slices
import Derived.Lib.Walk
/- Which forests are right, over data; a forest that is right is trees. Plain mathematics, no program. -/
namespace Go.Proofs.Ytllfkiifkkcinaa
open Go.RowKit
/-- The node of a number, if there is one. -/
def getC (F : List Core) (i : Int) : Option Core := if 0 ≤ i then F[i.toNat]? else none
theorem getC_some {F : List Core} {i : Int} {c : Core} (h : getC F i = some c) : 0 ≤ i ∧ i.toNat < F.length ∧ F[i.toNat]? = some c := by
  unfold getC at h
  by_cases hi : 0 ≤ i
  · rw [if_pos hi] at h
    exact ⟨hi, (List.getElem?_eq_some_iff.1 h).1, h⟩
  · rw [if_neg hi] at h
    cases h
theorem getC_nat {F : List Core} {i : Nat} : getC F (i : Int) = F[i]? := by
  unfold getC
  rw [if_pos (by omega)]
  rfl
def parOk (F : List Core) (i : Nat) (x : Core) : Bool :=
  x.parent == -1 || ((x.kind == 1 || x.kind == 2) && match getC F x.parent with | some p => p.kind != 2 && hasZ p.kids i == 1 | none => false)
def kidOk (F : List Core) (i : Nat) (x : Core) (k : Int) : Bool :=
  hasZ x.kids k == 1 && match getC F k with | some c => (c.kind == 1 || c.kind == 2) && c.parent == (i : Int) && c.doc == x.doc | none => false
def kindK (F : List Core) (k : Int) : Int := match getC F k with | some c => c.kind | none => -1
def elemsK (F : List Core) (x : Core) : Nat := x.kids.countP (fun k => kindK F k == 1)
def docOk (F : List Core) (i : Nat) (x : Core) : Bool :=
  decide (0 ≤ x.kind) && decide (x.kind ≤ 4) && (match getC F x.doc with | some d => d.kind == 0 | none => false) && (x.kind != 0 || x.doc == (i : Int))
def shapeOk (F : List Core) (x : Core) : Bool := !(x.kind == 2 && decide (0 < x.kids.length)) && !(x.kind == 0 && (decide (1 < elemsK F x) || decide (elemsK F x < x.kids.length)))
def hostOk (F : List Core) (i : Nat) (x : Core) : Bool :=
  if x.kind = 4 then (match getC F x.host with | some h => h.kind == 1 && h.under == (i : Int) && h.doc == x.doc | none => false) else x.host == -1
def underOk (F : List Core) (i : Nat) (x : Core) : Bool :=
  x.under == -1 || (x.kind == 1 && match getC F x.under with | some u => u.kind == 4 && u.host == (i : Int) | none => false)
def textOk (x : Core) : Bool :=
  if x.kind = 1 then rightL x.name.toList && (smallL x.name.toList == x.name.toList) && (x.is.toList == [] || customL x.is.toList) && (x.data.toList == []) && rightA x.attrs
  else (x.name.toList == []) && (x.is.toList == []) && decide (x.attrs.length = 0) && (x.data.toList == [] || (x.kind == 2 && decide (x.data.size ≤ 200)))
def nodeOk (F : List Core) (i : Nat) (x : Core) : Bool := docOk F i x && parOk F i x && x.kids.all (kidOk F i x) && shapeOk F x && hostOk F i x && underOk F i x && textOk x
/-- One step up: to the parent, or else to the host. -/
def nextUp (F : List Core) (i : Int) : Int := match getC F i with | some c => if c.parent = -1 then c.host else c.parent | none => -1
def headDoc (F : List Core) : Bool := match F with | c :: _ => c.kind == 0 | [] => false
def rightF (most : Int) (F : List Core) : Bool :=
  decide (1 ≤ most) && decide (most ≤ 400) && decide ((F.length : Int) ≤ most) && headDoc F && F.zipIdx.all (fun p => nodeOk F p.2 p.1) && (List.range F.length).all (fun i => endsZ (nextUp F) (F.length + 1) (i : Int))
theorem rightF_iff (most : Int) (F : List Core) : rightF most F = true ↔ (1 ≤ most ∧ most ≤ 400 ∧ (F.length : Int) ≤ most ∧ headDoc F = true) ∧ (∀ (i : Nat) x, F[i]? = some x → nodeOk F i x = true) ∧ ∀ i : Nat, i < F.length → endsZ (nextUp F) (F.length + 1) (i : Int) = true := by
  unfold rightF
  simp only [Bool.and_eq_true, decide_eq_true_eq, List.all_eq_true]
  constructor
  · rintro ⟨⟨⟨⟨⟨h1, h2⟩, h3⟩, h4⟩, h5⟩, h6⟩
    exact ⟨⟨h1, h2, h3, h4⟩, fun i x hx => h5 (x, i) (List.mk_mem_zipIdx_iff_getElem?.2 hx), fun i hi => h6 i (List.mem_range.2 hi)⟩
  · rintro ⟨⟨h1, h2, h3, h4⟩, h5, h6⟩
    exact ⟨⟨⟨⟨⟨h1, h2⟩, h3⟩, h4⟩, fun p hp => h5 p.2 p.1 (List.mk_mem_zipIdx_iff_getElem?.1 hp)⟩, fun i hi => h6 i (List.mem_range.1 hi)⟩
/-! ### as trees -/
def parF (F : List Core) (i : Nat) : Option Nat := match F[i]? with | some c => if c.parent = -1 then none else some c.parent.toNat | none => none
def kidsF (F : List Core) (i : Nat) : List Nat := match F[i]? with | some c => c.kids.map Int.toNat | none => []
def rankF (F : List Core) (i : Nat) : Nat := rankZ (nextUp F) F.length (i : Int)
theorem hasZ_mem {L : List Int} {n : Int} (h : hasZ L n = 1) : n ∈ L := by
  have : 0 < L.countP (fun z => z == n) := by unfold hasZ at h; omega
  obtain ⟨z, hz, he⟩ := List.countP_pos_iff.1 this
  exact (beq_iff_eq.1 he) ▸ hz
theorem nodup_of_has : ∀ {L : List Int}, (∀ z ∈ L, hasZ L z = 1) → L.Nodup
  | [], _ => List.nodup_nil
  | a :: r, h => by
    have ha : hasZ (a :: r) a = 1 := h a (by simp)
    unfold hasZ at ha
    rw [List.countP_cons] at ha
    simp at ha
    rw [List.nodup_cons]
    refine ⟨fun hm => ?_, nodup_of_has (fun z hz => ?_)⟩
    · have : 0 < r.countP (fun z => z == a) := List.countP_pos_iff.2 ⟨a, hm, by simp⟩
      have h0 : r.countP (fun z => z == a) = 0 := by
        rw [List.countP_eq_zero]
        intro z hz
        have := ha z hz
        simpa using this
      omega
    · have h1 := h z (by simp [hz])
      unfold hasZ at h1 ⊢
      rw [List.countP_cons] at h1
      have : 0 < r.countP (fun y => y == z) := List.countP_pos_iff.2 ⟨z, hz, by simp⟩
      omega
theorem tree_of_right {most : Int} {F : List Core} (h : rightF most F = true) : Tree F.length (parF F) (kidsF F) (rankF F) := by
  obtain ⟨_, h2, h3⟩ := (rightF_iff most F).1 h
  have parts : ∀ (i : Nat) x, F[i]? = some x → parOk F i x = true ∧ (∀ k ∈ x.kids, kidOk F i x k = true) := fun i x hx => by
    have := h2 i x hx
    unfold nodeOk at this
    simp only [Bool.and_eq_true, List.all_eq_true] at this
    exact ⟨this.1.1.1.1.1.2, this.1.1.1.1.2⟩
  have kid : ∀ (i k : Nat), k ∈ kidsF F i → ∃ x c, F[i]? = some x ∧ F[k]? = some c ∧ (k : Int) ∈ x.kids ∧ c.parent = (i : Int) ∧ hasZ x.kids k = 1 := fun i k hk => by
    unfold kidsF at hk
    cases hx : F[i]? with
    | none => rw [hx] at hk; simp at hk
    | some x =>
      rw [hx] at hk
      obtain ⟨z, hz, rfl⟩ := List.mem_map.1 hk
      have g := (parts i x hx).2 z hz
      unfold kidOk at g
      cases hc : getC F z with
      | none => rw [hc] at g; simp at g
      | some c =>
        rw [hc] at g
        simp only [Bool.and_eq_true, beq_iff_eq] at g
        obtain ⟨e1, e2, e3⟩ := getC_some hc
        have hzz : ((z.toNat : Nat) : Int) = z := by omega
        exact ⟨x, c, rfl, e3, by rw [hzz]; exact hz, g.2.1.2, by rw [hzz]; exact g.1⟩
  have parent : ∀ (k i : Nat), parF F k = some i → ∃ c p, F[k]? = some c ∧ c.parent = (i : Int) ∧ F[i]? = some p ∧ (k : Int) ∈ p.kids := fun k i hp => by
    unfold parF at hp
    cases hc : F[k]? with
    | none => rw [hc] at hp; simp at hp
    | some c =>
      rw [hc] at hp
      dsimp only at hp
      by_cases he : c.parent = -1
      · rw [if_pos he] at hp; cases hp
      · rw [if_neg he] at hp
        injection hp with hp
        have g := (parts k c hc).1
        unfold parOk at g
        rw [beq_eq_false_iff_ne.2 he, Bool.false_or, Bool.and_eq_true] at g
        cases hg : getC F c.parent with
        | none => rw [hg] at g; simp at g
        | some p =>
          rw [hg] at g
          simp only [Bool.and_eq_true, beq_iff_eq] at g
          obtain ⟨e1, e2, e3⟩ := getC_some hg
          rw [hp] at e3
          exact ⟨c, p, rfl, by omega, e3, hasZ_mem g.2.2⟩
  refine ⟨fun i k hk => ?_, fun i k hk => ?_, fun i k hk hp => ?_, fun i => ?_, fun i k hk hp => ?_, fun i hi => ?_⟩
  · obtain ⟨x, c, _, hc, _⟩ := kid i k hk
    exact (List.getElem?_eq_some_iff.1 hc).1
  · obtain ⟨x, c, _, hc, _, hp, _⟩ := kid i k hk
    unfold parF
    rw [hc]
    dsimp only
    rw [if_neg (by omega), hp]
    rfl
  · obtain ⟨c, p, _, _, hpi, hm⟩ := parent k i hp
    refine ⟨(List.getElem?_eq_some_iff.1 hpi).1, ?_⟩
    unfold kidsF
    rw [hpi]
    exact List.mem_map.2 ⟨(k : Int), hm, by simp⟩
  · unfold kidsF
    cases hx : F[i]? with
    | none => simp
    | some x =>
      have hn : x.kids.Nodup := nodup_of_has (fun z hz => by
        have g := (parts i x hx).2 z hz
        unfold kidOk at g
        rw [Bool.and_eq_true, beq_iff_eq] at g
        exact g.1)
      have hpos : ∀ z ∈ x.kids, 0 ≤ z := fun z hz => by
        have g := (parts i x hx).2 z hz
        unfold kidOk at g
        cases hc : getC F z with
        | none => rw [hc] at g; simp at g
        | some c => exact (getC_some hc).1
      have key : ∀ l : List Int, l.Nodup → (∀ z ∈ l, 0 ≤ z) → (l.map Int.toNat).Nodup := by
        intro l
        induction l with
        | nil => intro _ _; simp
        | cons a r ih =>
          intro hl hp
          rw [List.nodup_cons] at hl
          rw [List.map_cons, List.nodup_cons]
          refine ⟨fun hm => ?_, ih hl.2 (fun z hz => hp z (by simp [hz]))⟩
          obtain ⟨z, hz, e⟩ := List.mem_map.1 hm
          have h1 := hp a (by simp)
          have h2 := hp z (by simp [hz])
          have : z = a := by omega
          exact hl.1 (this ▸ hz)
      exact key _ hn hpos
  · obtain ⟨c, p, hc, hpar, hpi, _⟩ := parent k i hp
    have hi := (List.getElem?_eq_some_iff.1 hpi).1
    have hnx : nextUp F (k : Int) = (i : Int) := by
      unfold nextUp
      rw [getC_nat, hc]
      dsimp only
      rw [if_neg (by omega), hpar]
    unfold rankF
    have := rankZ_up (nxt := nextUp F) (n := F.length) (i := (k : Int)) (by omega) (h3 k hk) (by rw [hnx]; exact h3 i hi)
    rw [this, hnx]
  · exact rankZ_le (n := F.length) (h3 i hi)
/-! ### what is asked of a forest that is right -/
def rootF (F : List Core) (a : Nat) : Nat := rootN (parF F) (F.length + 1) a
def ordF (F : List Core) (a : Nat) : List Nat := ordN (kidsF F) (F.length + 1) a
def holdsF (F : List Core) (a b : Nat) : Bool := decide (b ∈ ordF F a)
def placeF (F : List Core) (a : Nat) : Int := match parF F a with | some p => findZ (match F[p]? with | some c => c.kids | none => []) (a : Int) | none => -1
def aheadF (F : List Core) (a b : Nat) : Bool := decide (rootF F a = rootF F b) && decide (posN (ordF F (rootF F a)) a < posN (ordF F (rootF F a)) b)
end Go.Proofs.Ytllfkiifkkcinaa
/- What is asked of package forest's functions: their contracts, as one property. -/
namespace Go.Proofs.Ytllfkiifkkcinaa
open Go.RowKit
/-- A node by value (the same as in ForestSame, where that is built, too). -/
abbrev nodVal (x : NodeD) : Value := .agg #[.int .i64 x.core.kind, .string x.core.name, .string x.core.is, .string x.core.data, .slice x.aA x.aN x.aC, .int .i64 x.core.parent, .slice x.kA x.kN x.kC, .int .i64 x.core.host, .int .i64 x.core.under, .int .i64 x.core.doc]
def smallN (x : NodeD) : Prop := x.core.kids.length ≤ 1000 ∧ x.core.attrs.length ≤ 1000 ∧ x.core.name.size ≤ 1000
/-- What a node given to Make keeps to (its children may be any: Make leaves them out). -/
def smallX (x : NodeD) : Prop := x.core.attrs.length ≤ 1000 ∧ x.core.name.size ≤ 1000
def smallF (L : List NodeD) : Prop := L.length ≤ 1000 ∧ ∀ x ∈ L, smallN x
theorem small_of_short {L : List NodeD} (h : shortF L = true) : smallF L := by
  unfold shortF at h
  simp only [Bool.and_eq_true, decide_eq_true_eq, List.all_eq_true] at h
  refine ⟨by omega, fun x hx => ?_⟩
  have := h.2 x hx
  unfold shortN at this
  simp only [Bool.and_eq_true, decide_eq_true_eq] at this
  exact ⟨by omega, by omega, by omega⟩
def docC : Core := ⟨0, ⟨#[]⟩, ⟨#[]⟩, ⟨#[]⟩, [], -1, [], -1, -1, 0⟩
def newOk (most : Int) : Bool := decide (1 ≤ most) && decide (most ≤ 400)
def newL (most : Int) : List Core := if newOk most then [docC] else []
def newM (most : Int) : Int := if newOk most then most else 0
def newE (most : Int) : Int := if newOk most then 0 else 1
/-- The node that Make makes. -/
def bareC (F : List Core) (x : Core) : Core := ⟨x.kind, x.name, x.is, x.data, x.attrs, -1, [], -1, -1, if x.kind = 0 then (F.length : Int) else x.doc⟩
def makeE (m : Int) (F : List Core) (x : Core) : Int :=
  if rightF m F && x.kind != 4 && nodeOk (F ++ [bareC F x]) F.length (bareC F x) then (if m ≤ (F.length : Int) then 8 else 0) else 1
def makeL (m : Int) (F : List Core) (x : Core) : List Core := if makeE m F x = 0 then F ++ [bareC F x] else F
def makeN (m : Int) (F : List Core) (x : Core) : Int := if makeE m F x = 0 then (F.length : Int) else -1
def thereF (m : Int) (F : List Core) (n : Int) : Bool := rightF m F && decide (0 ≤ n) && decide (n < (F.length : Int))
def rootZ (m : Int) (F : List Core) (n : Int) : Int := if thereF m F n then (rootF F n.toNat : Int) else -1
def ordZ (m : Int) (F : List Core) (n : Int) : List Int := if thereF m F n then (ordF F n.toNat).map Int.ofNat else []
def holdsZ (m : Int) (F : List Core) (a b : Int) : Bool := thereF m F a && thereF m F b && holdsF F a.toNat b.toNat
def placeZ (m : Int) (F : List Core) (n : Int) : Int := if thereF m F n then placeF F n.toNat else -1
def aheadZ (m : Int) (F : List Core) (a b : Int) : Bool := thereF m F a && thereF m F b && aheadF F a.toNat b.toNat
/-- A call that hands back a forest, and more. -/
def ForPost (w : World) (F : List Core) (m : Int) (rest : List Value) (e : Ending) (w' : World) : Prop :=
  ∃ a len cap L, e = .returned (.tuple (forV a len cap m :: rest).toArray) ∧ NodeRow w' a len cap L ∧ coreL L = F ∧ Below w.heap.size w w'
def OrdPost (w : World) (l : List Int) (e : Ending) (w' : World) : Prop := ∃ a len cap, e = .returned (.slice a len cap) ∧ IntRow w' a len cap l ∧ Below w.heap.size w w'
structure ForestFns : Prop where
  right : ∀ (a : Option Addr) (len cap : Nat) (m : Int) (L : List NodeD) (w : World), NodeRow w a len cap L → In64 m → smallF L →
    Calls Try.prog 19 #[forV a len cap m] w fun e w' => e = .returned (.bool (rightF m (coreL L))) ∧ Below w.heap.size w w'
  new : ∀ (most : Int) (w : World), In64 most → Calls Try.prog 17 #[.int .i64 most] w (ForPost w (newL most) (newM most) [.int .i64 (newE most)])
  make : ∀ (a : Option Addr) (len cap : Nat) (m : Int) (L : List NodeD) (x : NodeD) (w : World), NodeRow w a len cap L → NodeOk w x → In64 m → smallF L → smallX x →
    Calls Try.prog 18 #[forV a len cap m, nodVal x] w (ForPost w (makeL m (coreL L) x.core) m [.int .i64 (makeN m (coreL L) x.core), .int .i64 (makeE m (coreL L) x.core)])
  root : ∀ (a : Option Addr) (len cap : Nat) (m : Int) (L : List NodeD) (n : Int) (w : World), NodeRow w a len cap L → In64 m → In64 n → smallF L →
    Calls Try.prog 22 #[forV a len cap m, .int .i64 n] w fun e w' => e = .returned (.int .i64 (rootZ m (coreL L) n)) ∧ Below w.heap.size w w'
  order : ∀ (a : Option Addr) (len cap : Nat) (m : Int) (L : List NodeD) (n : Int) (w : World), NodeRow w a len cap L → In64 m → In64 n → smallF L →
    Calls Try.prog 23 #[forV a len cap m, .int .i64 n] w (OrdPost w (ordZ m (coreL L) n))
  holds : ∀ (a : Option Addr) (len cap : Nat) (m : Int) (L : List NodeD) (x y : Int) (w : World), NodeRow w a len cap L → In64 m → In64 x → In64 y → smallF L →
    Calls Try.prog 24 #[forV a len cap m, .int .i64 x, .int .i64 y] w fun e w' => e = .returned (.bool (holdsZ m (coreL L) x y)) ∧ Below w.heap.size w w'
  place : ∀ (a : Option Addr) (len cap : Nat) (m : Int) (L : List NodeD) (n : Int) (w : World), NodeRow w a len cap L → In64 m → In64 n → smallF L →
    Calls Try.prog 25 #[forV a len cap m, .int .i64 n] w fun e w' => e = .returned (.int .i64 (placeZ m (coreL L) n)) ∧ Below w.heap.size w w'
  ahead : ∀ (a : Option Addr) (len cap : Nat) (m : Int) (L : List NodeD) (x y : Int) (w : World), NodeRow w a len cap L → In64 m → In64 x → In64 y → smallF L →
    Calls Try.prog 26 #[forV a len cap m, .int .i64 x, .int .i64 y] w fun e w' => e = .returned (.bool (aheadZ m (coreL L) x y)) ∧ Below w.heap.size w w'
end Go.Proofs.Ytllfkiifkkcinaa
/- A region that draws its order, whose operations read old memory and whose callees may make new memory: one walk of the text's order serves every order. The class of worlds: all that leave what lay below as it was. -/
namespace Go.Proofs.Ytllfkiifkkcinaa
open Go.RowKit
/-- A later world, below which all is as it was. -/
structure Ext (w : World) where
  v : World
  below : Below w.heap.size w v
instance extNonempty (w : World) : Nonempty (Ext w) := ⟨⟨w, Below.refl _ _⟩⟩
theorem Ext.cell {w : World} {p : Addr} {v : Option Value} (h : w.cell? p = v) (hp : p.block < w.heap.size) : ∀ x : Ext w, x.v.cell? p = v := fun x => (x.below.cell hp).trans h
theorem Ext.call_same {P : Program} {f : FuncId} {args : Array Value} {w : World} {x : Ext w} {v : Value}
    (h : Calls P f args x.v fun e w' => e = .returned v ∧ x.v = w') : Calls P f args x.v fun e w'' => e = .returned v ∧ ∃ y : Ext w, w'' = y.v :=
  h.mono fun _ _ ⟨he, hm⟩ => ⟨he, x, hm.symm⟩
theorem Ext.call_below {P : Program} {f : FuncId} {args : Array Value} {w : World} {x : Ext w} {v : Value}
    (h : Calls P f args x.v fun e w' => e = .returned v ∧ Below x.v.heap.size x.v w') : Calls P f args x.v fun e w'' => e = .returned v ∧ ∃ y : Ext w, w'' = y.v :=
  h.mono fun _ w' ⟨he, hm⟩ => ⟨he, ⟨w', x.below.trans (hm.mono x.below.size)⟩, rfl⟩
theorem Ext.call_drew {P : Program} {f : FuncId} {args : Array Value} {w : World} {x : Ext w} {v : Value}
    (h : Calls P f args x.v fun e w' => e = .returned v ∧ ∃ n, w' = x.v.drewN n) : Calls P f args x.v fun e w'' => e = .returned v ∧ ∃ y : Ext w, w'' = y.v :=
  h.mono fun _ w' ⟨he, n, hm⟩ => ⟨he, ⟨w', by rw [hm]; exact below_drewN x.below n⟩, rfl⟩
theorem wp_region_ext {P : Program} {id : Nat} {Q : Exit → Act → World → Prop} {a : Act} {w : World} {l : List Oper} (hm : P.follows .mixedOrders = true) (hB : Region.lexB .any l.toArray = true)
    (h : wpQuiet P l.toArray (fun w' => ∃ x : Ext w, w' = x.v) (fun a' => ∀ w', (∃ x : Ext w, w' = x.v) → Q .normal a' w') l a) : (Code.region id l.toArray true).wp P Q a w :=
  wp_region_quiet (C := fun w' => ∃ x : Ext w, w' = x.v) hm hB ⟨⟨_, (Below.refl _ _).drew⟩, rfl⟩ (by simpa using h)
end Go.Proofs.Ytllfkiifkkcinaa
/- The fixed answers that stage 3's laws begin with are right. -/
namespace Go.Proofs.Ytllfkiifkkcinaa
open Go.RowKit
def pC (b : UInt8) : Core := ⟨1, ⟨#[b]⟩, ⟨#[]⟩, ⟨#[]⟩, [], 0, [], 0, 0, 0⟩
def pD (b : UInt8) : NodeD := ⟨pC b, none, 0, 0, none, 0, 0⟩
def f2 : List Core := [docC, ⟨1, ⟨#[112]⟩, ⟨#[]⟩, ⟨#[]⟩, [], -1, [], -1, -1, 0⟩]
theorem fa1 : newL 5 = [docC] ∧ newM 5 = 5 ∧ newE 5 = 0 := by decide +kernel
theorem fa2 : makeE 5 [docC] (pC 112) = 0 ∧ makeN 5 [docC] (pC 112) = 1 ∧ makeL 5 [docC] (pC 112) = f2 := by decide +kernel
theorem fa3 : makeE 5 f2 (pC 80) = 1 ∧ makeN 5 f2 (pC 80) = -1 ∧ makeL 5 f2 (pC 80) = f2 := by decide +kernel
theorem fa4 : rightF 5 f2 = true ∧ ordZ 5 f2 1 = [1] ∧ rootZ 5 f2 1 = 1 ∧ holdsZ 5 f2 1 1 = true ∧ holdsZ 5 f2 0 1 = false ∧ placeZ 5 f2 1 = -1 ∧ aheadZ 5 f2 0 1 = false := by decide +kernel
theorem pD_ok (w : World) (b : UInt8) : NodeOk w (pD b) := by
  refine ⟨⟨SRow.nil, (fun z hz => by cases hz), fun _ => rfl⟩, ⟨SRow.nil, (fun z hz => by cases hz), fun _ => rfl⟩, ?_, ?_, ?_, ?_, ?_, ?_, ?_, ?_⟩
  · show 1 ≤ maxLen; decide
  · show 0 ≤ maxLen; decide
  · show 0 ≤ maxLen; decide
  · exact ⟨by show (_ : Int) ≤ 1; decide, by show (1 : Int) ≤ _; decide⟩
  all_goals exact ⟨by show (_ : Int) ≤ 0; decide, by show (0 : Int) ≤ _; decide⟩
theorem pD_small (b : UInt8) : smallX (pD b) := ⟨Nat.zero_le _, by show 1 ≤ 1000; decide⟩
theorem small2 {L : List NodeD} (h : coreL L = f2) : smallF L := by
  unfold coreL f2 at h
  have hl : L.length = 2 := by
    have := congrArg List.length h
    simpa using this
  refine ⟨by omega, fun x hx => ?_⟩
  have hm : x.core ∈ L.map (·.core) := List.mem_map.2 ⟨x, hx, rfl⟩
  rw [h] at hm
  simp at hm
  rcases hm with e | e <;> (unfold smallN; rw [e]; exact ⟨by decide, by decide, by decide⟩)
theorem small1 {L : List NodeD} (h : coreL L = [docC]) : smallF L := by
  unfold coreL at h
  have hl : L.length = 1 := by
    have := congrArg List.length h
    simpa using this
  refine ⟨by omega, fun x hx => ?_⟩
  have hm : x.core ∈ L.map (·.core) := List.mem_map.2 ⟨x, hx, rfl⟩
  rw [h] at hm
  simp at hm
  unfold smallN
  rw [hm]
  exact ⟨by decide, by decide, by decide⟩
abbrev pV (b : UInt8) : Value := .agg #[.int .i64 1, .string ⟨#[b]⟩, .string ⟨#[]⟩, .string ⟨#[]⟩, .slice none 0 0, .int .i64 0, .slice none 0 0, .int .i64 0, .int .i64 0, .int .i64 0]
theorem in5 : In64 5 := ⟨by decide, by decide⟩
theorem in1 : In64 1 := ⟨by decide, by decide⟩
theorem in0 : In64 0 := ⟨by decide, by decide⟩
theorem row_free {w : World} {g : Nat} {cs : Array Value} {t : TypeId} (h : w.heap[g]? = some (.cells cs t (0, 0))) (j : Nat) : w.frozen? ⟨g, j, none⟩ = false := by simp [World.frozen?, h]
/-- No text lies in a forest's box. -/
theorem box_notext {w1 w2 : World} {a : Option Addr} {len cap : Nat} {m : Int} {j : Nat} {s : ByteArray} (hb : Below (w1.alloc (forB a len cap m)).heap.size (w1.alloc (forB a len cap m)) w2) : w2.cell? ⟨w1.heap.size, j, none⟩ ≠ some (.string s) := by
  rw [hb.cell (p := ⟨w1.heap.size, j, none⟩) (by simp), cell_of_row (w1.alloc (forB a len cap m)) w1.heap.size j _ 24 (0, 0) (heap_alloc_new w1 _)]
  match j with
  | 0 => simp
  | 1 => simp
  | j + 2 => simp
/-- A forest whose nodes have no children and no attributes keeps, when a box is written in which it doesn't lie. -/
theorem NodeRow.setBox {w : World} {a : Option Addr} {len cap : Nat} {L : List NodeD} {g o : Nat} (h : NodeRow w a len cap L) (hno : ∀ j s, w.cell? ⟨g, j, none⟩ ≠ some (.string s)) (hk : ∀ x ∈ L, x.core.kids = [] ∧ x.core.attrs = []) (u : Value) : NodeRow (w.setCell ⟨g, o, none⟩ u) a len cap L := by
  have hs : w.heap.size ≤ (w.setCell ⟨g, o, none⟩ u).heap.size := by simp [World.setCell]
  refine ⟨h.row.keep hs (fun b off ha hpos o' => ?_), fun x hx => ?_, h.hnil⟩
  · obtain ⟨b', off', x, ha', _, _, hat, _⟩ := h.get hpos
    rw [ha] at ha'
    injection ha' with ha'
    injection ha' with e1 e2
    subst e1
    refine World.cell?_setCell_other _ _ _ _ (fun e => ?_)
    injection e with e _
    have := hat.c1
    rw [← e] at this
    exact hno _ _ this
  · have hx2 := h.ok x hx
    have h1 := hk x hx
    have k0 : x.kN = 0 := by rw [← hx2.kids.hlen, h1.1]; rfl
    have a0 : x.aN = 0 := by rw [← hx2.attrs.hlen, h1.2]; rfl
    exact ⟨⟨hx2.attrs.row.keep hs (fun _ _ _ hp _ => by omega), hx2.attrs.small, hx2.attrs.hnil⟩, ⟨hx2.kids.row.keep hs (fun _ _ _ hp _ => by omega), hx2.kids.inb, hx2.kids.hnil⟩, hx2.name, hx2.is, hx2.data, hx2.kind, hx2.parent, hx2.host, hx2.under, hx2.doc⟩
theorem bare2 {L : List NodeD} (h : coreL L = f2) : ∀ x ∈ L, x.core.kids = [] ∧ x.core.attrs = [] := fun x hx => by
  have hm : x.core ∈ coreL L := List.mem_map.2 ⟨x, hx, rfl⟩
  rw [h] at hm
  unfold f2 docC at hm
  simp at hm
  rcases hm with e | e <;> rw [e] <;> exact ⟨rfl, rfl⟩
theorem notext_set {w : World} {g o : Nat} {u v : Value} (h : ∀ j s, w.cell? ⟨g, j, none⟩ ≠ some (.string s)) (hc : w.cell? ⟨g, o, none⟩ = some v) (hu : ∀ s, u ≠ .string s) : ∀ j s, (w.setCell ⟨g, o, none⟩ u).cell? ⟨g, j, none⟩ ≠ some (.string s) := fun j s e => by
  by_cases hj : o = j
  · subst hj
    rw [World.cell?_setCell_same _ _ _ hc] at e
    injection e with e
    exact hu s e
  · rw [World.cell?_setCell_other _ _ _ _ (fun e2 => by injection e2 with _ e2; exact hj e2)] at e
    exact h j s e
/-- A forest in a box of the call's own, and its rows. -/
structure Box (w W : World) (g : Nat) (a : Option Addr) (len cap : Nat) (m : Int) (L : List NodeD) (F : List Core) : Prop where
  row : NodeRow W a len cap L
  core : coreL L = F
  low : w.heap.size ≤ g
  lt : g < W.heap.size
  c0 : W.cell? ⟨g, 0, none⟩ = some (.slice a len cap)
  c1 : W.cell? ⟨g, 1, none⟩ = some (.int .i64 m)
  below : Below w.heap.size w W
theorem Box.keep {w W W2 : World} {g : Nat} {a : Option Addr} {len cap : Nat} {m : Int} {L : List NodeD} {F : List Core} (h : Box w W g a len cap m L F) (hb : Below W.heap.size W W2) : Box w W2 g a len cap m L F :=
  ⟨h.row.below hb, h.core, h.low, Nat.lt_of_lt_of_le h.lt hb.size, (hb.cell (p := ⟨g, 0, none⟩) h.lt).trans h.c0, (hb.cell (p := ⟨g, 1, none⟩) h.lt).trans h.c1, h.below.trans (hb.mono h.below.size)⟩
set_option maxHeartbeats 8000000 in
set_option maxRecDepth 100000 in
theorem awake3_any (F : ForestFns) (w : World) : Calls Try.prog 14 #[] w fun e w' => e = .returned (.bool true) ∧ Below w.heap.size w w' := by
  have C0 : Hid (∀ W, Calls Try.prog 17 #[.int .i64 5] W (ForPost W [docC] 5 [.int .i64 0])) := Lib.hid (fun W => by
    have := F.new 5 W in5
    rwa [fa1.1, fa1.2.1, fa1.2.2] at this)
  have C1 : Hid (∀ W a len cap L, NodeRow W a len cap L → coreL L = [docC] → Calls Try.prog 18 #[forV a len cap 5, pV 112] W (ForPost W f2 5 [.int .i64 1, .int .i64 0])) := Lib.hid (fun W a len cap L h hc => by
    have := F.make a len cap 5 L (pD 112) W h (pD_ok _ _) in5 (small1 hc) (pD_small _)
    rw [hc, show (pD 112).core = pC 112 from rfl, fa2.1, fa2.2.1, fa2.2.2] at this
    exact this)
  have C2 : Hid (∀ W a len cap L, NodeRow W a len cap L → coreL L = f2 → Calls Try.prog 18 #[forV a len cap 5, pV 80] W (ForPost W f2 5 [.int .i64 (-1), .int .i64 1])) := Lib.hid (fun W a len cap L h hc => by
    have := F.make a len cap 5 L (pD 80) W h (pD_ok _ _) in5 (small2 hc) (pD_small _)
    rw [hc, show (pD 80).core = pC 80 from rfl, fa3.1, fa3.2.1, fa3.2.2] at this
    exact this)
  have C3 : Hid (∀ W a len cap L, NodeRow W a len cap L → coreL L = f2 → Calls Try.prog 23 #[forV a len cap 5, .int .i64 1] W (OrdPost W [1])) := Lib.hid (fun W a len cap L h hc => by
    have := F.order a len cap 5 L 1 W h in5 in1 (small2 hc)
    rwa [hc, fa4.2.1] at this)
  have C4 : Hid (∀ W a len cap L, NodeRow W a len cap L → coreL L = f2 → Calls Try.prog 19 #[forV a len cap 5] W fun e w' => e = .returned (.bool true) ∧ Below W.heap.size W w') := Lib.hid (fun W a len cap L h hc => by
    have := F.right a len cap 5 L W h in5 (small2 hc)
    rwa [hc, fa4.1] at this)
  have C5 : Hid (∀ W a len cap L, NodeRow W a len cap L → coreL L = f2 → Calls Try.prog 22 #[forV a len cap 5, .int .i64 1] W fun e w' => e = .returned (.int .i64 1) ∧ Below W.heap.size W w') := Lib.hid (fun W a len cap L h hc => by
    have := F.root a len cap 5 L 1 W h in5 in1 (small2 hc)
    rwa [hc, fa4.2.2.1] at this)
  have C6 : Hid (∀ W a len cap L, NodeRow W a len cap L → coreL L = f2 → Calls Try.prog 24 #[forV a len cap 5, .int .i64 1, .int .i64 1] W fun e w' => e = .returned (.bool true) ∧ Below W.heap.size W w') := Lib.hid (fun W a len cap L h hc => by
    have := F.holds a len cap 5 L 1 1 W h in5 in1 in1 (small2 hc)
    rwa [hc, fa4.2.2.2.1] at this)
  have C7 : Hid (∀ W a len cap L, NodeRow W a len cap L → coreL L = f2 → Calls Try.prog 24 #[forV a len cap 5, .int .i64 0, .int .i64 1] W fun e w' => e = .returned (.bool false) ∧ Below W.heap.size W w') := Lib.hid (fun W a len cap L h hc => by
    have := F.holds a len cap 5 L 0 1 W h in5 in0 in1 (small2 hc)
    rwa [hc, fa4.2.2.2.2.1] at this)
  have C8 : Hid (∀ W a len cap L, NodeRow W a len cap L → coreL L = f2 → Calls Try.prog 25 #[forV a len cap 5, .int .i64 1] W fun e w' => e = .returned (.int .i64 (-1)) ∧ Below W.heap.size W w') := Lib.hid (fun W a len cap L h hc => by
    have := F.place a len cap 5 L 1 W h in5 in1 (small2 hc)
    rwa [hc, fa4.2.2.2.2.2.1] at this)
  have C9 : Hid (∀ W a len cap L, NodeRow W a len cap L → coreL L = f2 → Calls Try.prog 26 #[forV a len cap 5, .int .i64 0, .int .i64 1] W fun e w' => e = .returned (.bool false) ∧ Below W.heap.size W w') := Lib.hid (fun W a len cap L h hc => by
    have := F.ahead a len cap 5 L 0 1 W h in5 in0 in1 (small2 hc)
    rwa [hc, fa4.2.2.2.2.2.2] at this)
  clear F
  go_enter Try.func14, Try.ntmps14
  go_wp2_with (first
    | (go_at_call 17; refine (C0.out _).mono ?_; rintro e w1 ⟨a1, len1, cap1, L1, rfl, hr1, hc1, hb1⟩; have HR1 := Lib.hid hr1; have HC1 := Lib.hid hc1; have HB1 := Lib.hid hb1; clear hr1 hc1 hb1)
    | (go_at_call 18; ((with_reducible refine (C1.out _ _ _ _ _ (HR1.out.below (below_box _ _)) HC1.out).mono ?_); rintro e w2 ⟨a2, len2, cap2, L2, rfl, hr2, hc2, hb2⟩)
       have HR2 := Lib.hid hr2
       have HC2 := Lib.hid hc2
       have HB2 := Lib.hid ((HB1.out.alloc HB1.out.size (forB a1 len1 cap1 5)).trans (hb2.mono (by have := HB1.out.size; simp; omega)))
       have hz2 : w1.heap.size < w2.heap.size := by have := hb2.size; simp at this; omega
       have x0 : w2.cell? ⟨w1.heap.size, 0, none⟩ = some (.slice a1 len1 cap1) := (hb2.cell (p := ⟨w1.heap.size, 0, none⟩) (by simp)).trans (cell_of_row (w1.alloc (forB a1 len1 cap1 5)) w1.heap.size 0 _ 24 (0, 0) (heap_alloc_new w1 _))
       have x1 : w2.cell? ⟨w1.heap.size, 1, none⟩ = some (.int .i64 5) := (hb2.cell (p := ⟨w1.heap.size, 1, none⟩) (by simp)).trans (cell_of_row (w1.alloc (forB a1 len1 cap1 5)) w1.heap.size 1 _ 24 (0, 0) (heap_alloc_new w1 _))
       have xf : ∀ o, w2.frozen? ⟨w1.heap.size, o, none⟩ = false := fun o => by
         rw [hb2.frozen (p := ⟨w1.heap.size, o, none⟩) (by simp)]
         exact row_free (heap_alloc_new w1 _) o
       have xf0 := xf 0
       have xf1 := xf 1
       have NT := Lib.hid (fun j s => box_notext (j := j) (s := s) hb2)
       clear hr2 hc2 hb2 xf)
    | (go_at_call 18; ((with_reducible refine (C2.out _ _ _ _ _ ((HR2.out.setBox NT.out (bare2 HC2.out) _).setBox (notext_set NT.out x0 (fun s e => by cases e)) (bare2 HC2.out) _) HC2.out).mono ?_); rintro e w3 ⟨a3, len3, cap3, L3, rfl, hr3, hc3, hb3⟩)
       have HRW := (HR2.out.setBox NT.out (bare2 HC2.out) (.slice a2 len2 cap2) (o := 0)).setBox (notext_set NT.out x0 (fun s e => by cases e)) (bare2 HC2.out) (.int .i64 5) (o := 1)
       have HR3 := Lib.hid (HRW.below hb3)
       have HB3 := Lib.hid (((HB2.out.setCell (p := ⟨w1.heap.size, 0, none⟩) HB1.out.size (.slice a2 len2 cap2)).setCell (p := ⟨w1.heap.size, 1, none⟩) HB1.out.size (.int .i64 5)).trans (hb3.mono (by have := HB2.out.size; simp [World.setCell]; omega)))
       have hz3 : w1.heap.size < w3.heap.size := by have := hb3.size; simp [World.setCell] at this; omega
       have y0 : w3.cell? ⟨w1.heap.size, 0, none⟩ = some (.slice a2 len2 cap2) := (hb3.cell (p := ⟨w1.heap.size, 0, none⟩) (by simp [World.setCell]; omega)).trans ((World.cell?_setCell_other _ _ _ _ (fun e => by injection e with _ e; omega)).trans (World.cell?_setCell_same _ _ _ x0))
       have y1 : w3.cell? ⟨w1.heap.size, 1, none⟩ = some (.int .i64 5) := (hb3.cell (p := ⟨w1.heap.size, 1, none⟩) (by simp [World.setCell]; omega)).trans (World.cell?_setCell_same _ _ _ ((World.cell?_setCell_other _ _ _ _ (fun e => by injection e with _ e; omega)).trans x1))
       have HBX := Lib.hid (Box.mk (w := w) (W := w3) (g := w1.heap.size) (F := f2) HR3.out HC2.out HB1.out.size hz3 y0 y1 HB3.out)
       clear hr3 hc3 hb3 HRW)
    | (go_at_call 23; ((with_reducible refine (C3.out _ _ _ _ _ (HR3.out.below (below_box _ _)) HC2.out).mono ?_); rintro e w4 ⟨a4, len4, cap4, rfl, hr4, hb4⟩)
       have HX4 := Lib.hid ((HBX.out.keep (below_box _ (forB a3 len3 cap3 5))).keep hb4)
       have z0 := HX4.out.c0
       have z1 := HX4.out.c1
       obtain rfl : 1 = len4 := hr4.hlen
       obtain ⟨bo, oo, z, rfl, hbo, hz, hco, _⟩ := hr4.get (k := 0) (by decide)
       obtain rfl : 1 = z := by simpa using hz
       clear hr4 hb4 hz)
    | (go_at_call 19; ((with_reducible refine (C4.out _ _ _ _ _ HX4.out.row HX4.out.core).mono ?_); rintro e w5 ⟨rfl, hb5⟩)
       have HX5 := Lib.hid (HX4.out.keep hb5)
       have z0 := HX5.out.c0
       have z1 := HX5.out.c1
       have hco5 : w5.cell? ⟨bo, oo, none⟩ = some (.int .i64 1) := (hb5.cell (p := ⟨bo, oo, none⟩) hbo).trans hco
       clear hco
       clear hb5)
    | (go_at_call 22; ((with_reducible refine (C5.out _ _ _ _ _ HX5.out.row HX5.out.core).mono ?_); rintro e w6 ⟨rfl, hb6⟩)
       have HX6 := Lib.hid (HX5.out.keep hb6)
       have z0 := HX6.out.c0
       have z1 := HX6.out.c1
       clear hb6)
    | (go_at_call 24; ((with_reducible refine (C6.out _ _ _ _ _ HX6.out.row HX6.out.core).mono ?_); rintro e w7 ⟨rfl, hb7⟩)
       have HX7 := Lib.hid (HX6.out.keep hb7)
       have z0 := HX7.out.c0
       have z1 := HX7.out.c1
       clear hb7)
    | (go_at_call 24; ((with_reducible refine (C7.out _ _ _ _ _ HX7.out.row HX7.out.core).mono ?_); rintro e w8 ⟨rfl, hb8⟩)
       have HX8 := Lib.hid (HX7.out.keep hb8)
       have z0 := HX8.out.c0
       have z1 := HX8.out.c1
       clear hb8)
    | (go_at_call 25; ((with_reducible refine (C8.out _ _ _ _ _ HX8.out.row HX8.out.core).mono ?_); rintro e w9 ⟨rfl, hb9⟩)
       have HX9 := Lib.hid (HX8.out.keep hb9)
       have z0 := HX9.out.c0
       have z1 := HX9.out.c1
       clear hb9)
    | (go_at_call 26; ((with_reducible refine (C9.out _ _ _ _ _ HX9.out.row HX9.out.core).mono ?_); rintro e w10 ⟨rfl, hb10⟩)
       have HX10 := Lib.hid (HX9.out.keep hb10)
       clear hb10))
  go_ret
  exact ⟨rfl, HX10.out.below⟩
end Go.Proofs.Ytllfkiifkkcinaa
/- What the law ForestHolds asks, over data: facts of forests that are right. Plain mathematics, no program. -/
namespace Go.Proofs.Ytllfkiifkkcinaa
open Go.RowKit
theorem thereF_of {m : Int} {F : List Core} (h : rightF m F = true) {n : Nat} (hn : n < F.length) : thereF m F (n : Int) = true := by
  unfold thereF
  rw [h, decide_eq_true (by omega), decide_eq_true (by omega)]
  rfl
theorem holdsZ_iff {m : Int} {F : List Core} (h : rightF m F = true) {a b : Nat} (ha : a < F.length) (hb : b < F.length) : holdsZ m F (a : Int) (b : Int) = true ↔ holdsT (parF F) a b := by
  unfold holdsZ
  rw [thereF_of h ha, thereF_of h hb, Bool.true_and, Bool.true_and]
  unfold holdsF ordF
  rw [decide_eq_true_iff]
  exact (tree_of_right h).mem_ord _ _ ha (by omega) _ hb
theorem rootZ_eq {m : Int} {F : List Core} (h : rightF m F = true) {a : Nat} (ha : a < F.length) : rootZ m F (a : Int) = (rootF F a : Nat) := by
  unfold rootZ
  rw [thereF_of h ha]
  rfl
theorem rootF_lt {m : Int} {F : List Core} (h : rightF m F = true) {a : Nat} (ha : a < F.length) : rootF F a < F.length := (tree_of_right h).root_lt ha
theorem right_len {m : Int} {F : List Core} (h : rightF m F = true) : 0 < F.length := by
  have := ((rightF_iff m F).1 h).1.2.2.2
  cases F with
  | nil => unfold headDoc at this; cases this
  | cons _ _ => simp
theorem right_most {m : Int} {F : List Core} (h : rightF m F = true) : 1 ≤ m ∧ m ≤ 400 ∧ (F.length : Int) ≤ m := by
  have := ((rightF_iff m F).1 h).1
  exact ⟨this.1, this.2.1, this.2.2.1⟩
/-- A child stands among its parent's children. -/
theorem find_at {L : List Int} {n : Int} (h : n ∈ L) : ∃ k : Nat, findZ L n = (k : Int) ∧ L[k]? = some n := by
  have hl : findN L n < L.length := List.findIdx_lt_length_of_exists ⟨n, h, by simp⟩
  refine ⟨findN L n, ?_, ?_⟩
  · unfold findZ
    rw [if_pos hl]
  · have := List.findIdx_getElem (w := hl)
    rw [List.getElem?_eq_getElem hl]
    congr 1
    exact beq_iff_eq.1 this
/-- What is asked of three nodes. -/
structure HoldsFacts (m : Int) (F : List Core) (x y z : Nat) (c : Core) : Prop where
  self : holdsZ m F x x = true
  trans : holdsZ m F x y = true → holdsZ m F y z = true → holdsZ m F x z = true
  anti : x ≠ y → holdsZ m F x y = true → holdsZ m F y x = false
  root : holdsZ m F x y = true → rootZ m F x = rootZ m F y
  top : rootZ m F (rootZ m F x) = rootZ m F x
  held : holdsZ m F (rootZ m F x) x = true
  alone : c.parent = -1 → placeZ m F x = -1 ∧ rootZ m F x = x
  child : c.parent ≠ -1 → ∃ (p : Nat) (pc : Core) (k : Nat), c.parent = p ∧ F[p]? = some pc ∧ placeZ m F x = k ∧ pc.kids[k]? = some (x : Int) ∧ holdsZ m F p x = true
theorem holds_facts {m : Int} {F : List Core} (h : rightF m F = true) {x y z : Nat} {c : Core} (hx : x < F.length) (hy : y < F.length) (hz : z < F.length) (hc : F[x]? = some c) : HoldsFacts m F x y z c := by
  have T := tree_of_right h
  have hr := rootF_lt h hx
  refine ⟨?_, fun h1 h2 => ?_, fun hne h1 => ?_, fun h1 => ?_, ?_, ?_, fun hp => ?_, fun hp => ?_⟩
  · exact (holdsZ_iff h hx hx).2 (holds_refl x)
  · exact (holdsZ_iff h hx hz).2 (holds_trans ((holdsZ_iff h hx hy).1 h1) ((holdsZ_iff h hy hz).1 h2))
  · cases h2 : holdsZ m F y x with
    | false => rfl
    | true => exact absurd (T.holds_anti hx hy ((holdsZ_iff h hx hy).1 h1) ((holdsZ_iff h hy hx).1 h2)) hne
  · rw [rootZ_eq h hx, rootZ_eq h hy]
    unfold rootF
    rw [T.root_held hy (Nat.le_refl _) ((holdsZ_iff h hx hy).1 h1)]
  · rw [rootZ_eq h hx, rootZ_eq h hr]
    unfold rootF
    rw [T.root_root hx (Nat.le_refl _)]
  · rw [rootZ_eq h hx]
    exact (holdsZ_iff h hr hx).2 (rootN_holds _ _)
  · have hn : parF F x = none := by unfold parF; rw [hc]; dsimp only; rw [if_pos hp]
    refine ⟨?_, ?_⟩
    · unfold placeZ placeF
      rw [thereF_of h hx, if_pos rfl, Int.toNat_natCast, hn]
    · rw [rootZ_eq h hx]
      unfold rootF
      rw [rootN_none hn]
  · have hs : parF F x = some c.parent.toNat := by unfold parF; rw [hc]; dsimp only; rw [if_neg hp]
    obtain ⟨hlt, hk⟩ := T.par_kid _ _ hx hs
    obtain ⟨pc, hpc⟩ : ∃ pc, F[c.parent.toNat]? = some pc := ⟨_, List.getElem?_eq_getElem hlt⟩
    have hpos : 0 ≤ c.parent := by
      have g := ((rightF_iff m F).1 h).2.1 x c hc
      unfold nodeOk at g
      simp only [Bool.and_eq_true] at g
      have g := g.1.1.1.1.1.2
      unfold parOk at g
      rw [beq_eq_false_iff_ne.2 hp, Bool.false_or, Bool.and_eq_true] at g
      cases hg : getC F c.parent with
      | none => rw [hg] at g; simp at g
      | some p => exact (getC_some hg).1
    have hm : (x : Int) ∈ pc.kids := by
      unfold kidsF at hk
      rw [hpc] at hk
      obtain ⟨w, hw, e⟩ := List.mem_map.1 hk
      have g := ((rightF_iff m F).1 h).2.1 _ pc hpc
      unfold nodeOk at g
      simp only [Bool.and_eq_true, List.all_eq_true] at g
      have g := g.1.1.1.1.2 w hw
      unfold kidOk at g
      cases hg : getC F w with
      | none => rw [hg] at g; simp at g
      | some p =>
        have := (getC_some hg).1
        have e2 : w = (x : Int) := by omega
        rwa [← e2]
    obtain ⟨k, hk1, hk2⟩ := find_at hm
    refine ⟨c.parent.toNat, pc, k, by omega, hpc, ?_, hk2, (holdsZ_iff h hlt hx).2 (holds_par hs)⟩
    unfold placeZ placeF
    rw [thereF_of h hx, if_pos rfl]
    simp only [Int.toNat_natCast, hs, hpc]
    exact hk1
end Go.Proofs.Ytllfkiifkkcinaa
/- The walk of the law ForestHolds, over the contracts of package forest. -/
namespace Go.Proofs.Ytllfkiifkkcinaa
open Go.RowKit
theorem Box.start {w : World} {a : Option Addr} {len cap : Nat} {m : Int} {L : List NodeD} (h : NodeRow w a len cap L) : Box w (w.alloc (forB a len cap m)) w.heap.size a len cap m L (coreL L) :=
  ⟨h.below (below_box _ _), rfl, Nat.le_refl _, by simp, cell_of_row (w.alloc (forB a len cap m)) w.heap.size 0 _ 24 (0, 0) (heap_alloc_new w _), cell_of_row (w.alloc (forB a len cap m)) w.heap.size 1 _ 24 (0, 0) (heap_alloc_new w _), below_box _ _⟩
set_option maxHeartbeats 16000000 in
set_option maxRecDepth 100000 in
theorem forestHolds_walk (F : ForestFns) (a0 : Option Addr) (len0 cap0 : Nat) (m : Int) (L0 : List NodeD) (x y z : Int) (w : World)
    (h0 : NodeRow w a0 len0 cap0 L0) (hm : In64 m) (hx : 0 ≤ x ∧ x ≤ 255) (hy : 0 ≤ y ∧ y ≤ 255) (hz : 0 ≤ z ∧ z ≤ 255) :
    Calls Try.prog 6 #[forV a0 len0 cap0 m, .int .u8 x, .int .u8 y, .int .u8 z] w fun e w' => e = .returned (.bool true) ∧ Below w.heap.size w w' := by
  have AW := Lib.hid (fun W => awake3_any F W)
  have HF := Lib.hid F
  have BX := Lib.hid (Box.start (m := m) h0)
  have hl0 := h0.len64
  have HL := Lib.hid h0.hlen
  have HM := Lib.hid hm
  clear h0 F hm
  cases c0 : shortF L0 with
  | false =>
    have C0 := Lib.hid c0
    go_enter Try.func6, Try.ntmps6
    go_wp2_with (first
                    | (go_at_call 14; (with_reducible refine (AW.out _).mono ?_); rintro e w1 ⟨rfl, hb⟩; have BX := Lib.hid (BX.out.keep hb); have z0 := BX.out.c0; have z1 := BX.out.c1; clear hb)
                    | (go_at_call 15; (with_reducible refine (refshortF_any _ _ _ _ _ _ BX.out.row).mono ?_); rintro e w1 ⟨rfl, hb⟩; have BX := Lib.hid (BX.out.keep hb); have z0 := BX.out.c0; have z1 := BX.out.c1; clear hb)
                    | (go_at_call 19; (with_reducible refine (HR.out _ BX.out.row).mono ?_); rintro e w1 ⟨rfl, hb⟩; have BX := Lib.hid (BX.out.keep hb); have z0 := BX.out.c0; have z1 := BX.out.c1; clear hb))
    go_ret
    exact ⟨rfl, BX.out.below⟩
  | true =>
    have SM := Lib.hid (small_of_short c0)
    cases c1 : rightF m (coreL L0) with
    | false =>
      have HR : Hid (∀ W, NodeRow W a0 len0 cap0 L0 → Calls Try.prog 19 #[forV a0 len0 cap0 m] W fun e w' => e = .returned (.bool false) ∧ Below W.heap.size W w') := Lib.hid (fun W h => by
        have := HF.out.right a0 len0 cap0 m L0 W h HM.out SM.out
        rwa [c1] at this)
      clear c1
      go_enter Try.func6, Try.ntmps6
      go_wp2_with (first
                      | (go_at_call 14; (with_reducible refine (AW.out _).mono ?_); rintro e w1 ⟨rfl, hb⟩; have BX := Lib.hid (BX.out.keep hb); have z0 := BX.out.c0; have z1 := BX.out.c1; clear hb)
                      | (go_at_call 15; (with_reducible refine (refshortF_any _ _ _ _ _ _ BX.out.row).mono ?_); rintro e w1 ⟨rfl, hb⟩; have BX := Lib.hid (BX.out.keep hb); have z0 := BX.out.c0; have z1 := BX.out.c1; clear hb)
                      | (go_at_call 19; (with_reducible refine (HR.out _ BX.out.row).mono ?_); rintro e w1 ⟨rfl, hb⟩; have BX := Lib.hid (BX.out.keep hb); have z0 := BX.out.c0; have z1 := BX.out.c1; clear hb))
      go_ret
      exact ⟨rfl, BX.out.below⟩
    | true =>
      have HR : Hid (∀ W, NodeRow W a0 len0 cap0 L0 → Calls Try.prog 19 #[forV a0 len0 cap0 m] W fun e w' => e = .returned (.bool true) ∧ Below W.heap.size W w') := Lib.hid (fun W h => by
        have := HF.out.right a0 len0 cap0 m L0 W h HM.out SM.out
        rwa [c1] at this)
      have C1 := Lib.hid c1
      have hlc : (coreL L0).length = len0 := by
        unfold coreL
        rw [List.length_map, HL.out]
      have hlp : 0 < len0 := by
        have := right_len c1
        rwa [hlc] at this
      clear c1
      obtain ⟨X, hX⟩ : ∃ X : Nat, x % (len0 : Int) = X := ⟨(x % (len0 : Int)).toNat, by have := Int.emod_nonneg x (show (len0 : Int) ≠ 0 by omega); omega⟩
      obtain ⟨Y, hY⟩ : ∃ Y : Nat, y % (len0 : Int) = Y := ⟨(y % (len0 : Int)).toNat, by have := Int.emod_nonneg y (show (len0 : Int) ≠ 0 by omega); omega⟩
      obtain ⟨Z, hZ⟩ : ∃ Z : Nat, z % (len0 : Int) = Z := ⟨(z % (len0 : Int)).toNat, by have := Int.emod_nonneg z (show (len0 : Int) ≠ 0 by omega); omega⟩
      have hXl : X < len0 := by have := Int.emod_lt_of_pos x (show (0 : Int) < len0 by omega); omega
      have hYl : Y < len0 := by have := Int.emod_lt_of_pos y (show (0 : Int) < len0 by omega); omega
      have hZl : Z < len0 := by have := Int.emod_lt_of_pos z (show (0 : Int) < len0 by omega); omega
      obtain ⟨nx, hnx⟩ : ∃ nx, L0[X]? = some nx := ⟨_, List.getElem?_eq_getElem (by have := HL.out; omega)⟩
      have hc : (coreL L0)[X]? = some nx.core := by unfold coreL; rw [List.getElem?_map, hnx]; rfl
      have FX := Lib.hid (holds_facts (x := X) (y := Y) (z := Z) C1.out (by omega) (by omega) (by omega) hc)
      have hrl : rootF (coreL L0) X < len0 := by rw [← hlc]; exact rootF_lt C1.out (by omega)
      have hrq : rootZ m (coreL L0) X = (rootF (coreL L0) X : Nat) := rootZ_eq C1.out (by omega)
      obtain ⟨R, hR⟩ : ∃ R, rootF (coreL L0) X = R := ⟨_, rfl⟩
      rw [hR] at hrl hrq
      clear hR
      have in_nat : ∀ k : Nat, k < len0 → In64 (k : Int) := fun k hk => ⟨by omega, by omega⟩
      have GH : Hid (∀ W (u v : Nat) (b : Bool), NodeRow W a0 len0 cap0 L0 → u < len0 → v < len0 → holdsZ m (coreL L0) u v = b → Calls Try.prog 24 #[forV a0 len0 cap0 m, .int .i64 u, .int .i64 v] W fun e w' => e = .returned (.bool b) ∧ Below W.heap.size W w') := Lib.hid (fun W u v b h hu hv hb => by
        rw [← hb]
        exact HF.out.holds a0 len0 cap0 m L0 u v W h HM.out (in_nat u hu) (in_nat v hv) SM.out)
      have GR : Hid (∀ W (u : Nat) (r : Int), NodeRow W a0 len0 cap0 L0 → u < len0 → rootZ m (coreL L0) u = r → Calls Try.prog 22 #[forV a0 len0 cap0 m, .int .i64 u] W fun e w' => e = .returned (.int .i64 r) ∧ Below W.heap.size W w') := Lib.hid (fun W u r h hu hr => by
        rw [← hr]
        exact HF.out.root a0 len0 cap0 m L0 u W h HM.out (in_nat u hu) SM.out)
      have GP : Hid (∀ W (u : Nat) (r : Int), NodeRow W a0 len0 cap0 L0 → u < len0 → placeZ m (coreL L0) u = r → Calls Try.prog 25 #[forV a0 len0 cap0 m, .int .i64 u] W fun e w' => e = .returned (.int .i64 r) ∧ Below W.heap.size W w') := Lib.hid (fun W u r h hu hr => by
        rw [← hr]
        exact HF.out.place a0 len0 cap0 m L0 u W h HM.out (in_nat u hu) SM.out)
      clear SM HF
      have hself := FX.out.self
      have htop := FX.out.top
      have hheld := FX.out.held
      rw [hrq] at htop hheld
      go_enter Try.func6, Try.ntmps6
      go_wp2_with (first
                      | (go_at_call 14; (with_reducible refine (AW.out _).mono ?_); rintro e w1 ⟨rfl, hb⟩; have BX := Lib.hid (BX.out.keep hb); have z0 := BX.out.c0; have z1 := BX.out.c1; clear hb)
                      | (go_at_call 15; (with_reducible refine (refshortF_any _ _ _ _ _ _ BX.out.row).mono ?_); rintro e w1 ⟨rfl, hb⟩; have BX := Lib.hid (BX.out.keep hb); have z0 := BX.out.c0; have z1 := BX.out.c1; clear hb)
                      | (go_at_call 19; (with_reducible refine (HR.out _ BX.out.row).mono ?_); rintro e w1 ⟨rfl, hb⟩; have BX := Lib.hid (BX.out.keep hb); have z0 := BX.out.c0; have z1 := BX.out.c1; clear hb))
      have E0 := Ext.cell z0 BX.out.lt
      have E1 := Ext.cell z1 BX.out.lt
      refine wp_region_ext (by kernel_rfl) (by kernel_rfl) ?_
      repeat (go_big_quiet_step (fail))
      refine wpQuiet_nil ?_
      intro w' hw'
      obtain ⟨⟨w2, hb2⟩, hw''⟩ := hw'
      dsimp only at hw''
      subst hw''
      clear E0 E1
      rw [hX, hY, hZ]
      clear hX hY hZ
      have BX := Lib.hid (BX.out.keep hb2)
      have z0 := BX.out.c0
      have z1 := BX.out.c1
      clear hb2
      clear hc in_nat hlc
      have CASES : (¬ (X : Int) = Y ∧ holdsZ m (coreL L0) X Y = false ∧ True ∧ True ∧ True ∧ True) ∨ (X = Y ∧ holdsZ m (coreL L0) X Y = true ∧ rootZ m (coreL L0) Y = R ∧ True ∧ holdsZ m (coreL L0) Y Z = false ∧ True)
          ∨ (X = Y ∧ holdsZ m (coreL L0) X Y = true ∧ rootZ m (coreL L0) Y = R ∧ True ∧ holdsZ m (coreL L0) Y Z = true ∧ holdsZ m (coreL L0) X Z = true)
          ∨ (¬ (X : Int) = Y ∧ holdsZ m (coreL L0) X Y = true ∧ rootZ m (coreL L0) Y = R ∧ holdsZ m (coreL L0) Y X = false ∧ holdsZ m (coreL L0) Y Z = false ∧ True)
          ∨ (¬ (X : Int) = Y ∧ holdsZ m (coreL L0) X Y = true ∧ rootZ m (coreL L0) Y = R ∧ holdsZ m (coreL L0) Y X = false ∧ holdsZ m (coreL L0) Y Z = true ∧ holdsZ m (coreL L0) X Z = true) := by
        by_cases e2 : (X : Int) = Y
        · have e1 : holdsZ m (coreL L0) X Y = true := by rw [← e2]; exact hself
          have e3 : rootZ m (coreL L0) Y = R := by rw [← e2]; exact hrq
          cases e4 : holdsZ m (coreL L0) Y Z with
          | false => exact .inr (.inl ⟨Int.ofNat.inj e2, e1, e3, trivial, rfl, trivial⟩)
          | true => exact .inr (.inr (.inl ⟨Int.ofNat.inj e2, e1, e3, trivial, rfl, FX.out.trans e1 e4⟩))
        · cases e1 : holdsZ m (coreL L0) X Y with
          | false => exact .inl ⟨e2, rfl, trivial, trivial, trivial, trivial⟩
          | true =>
            have e3 : rootZ m (coreL L0) Y = R := by rw [← FX.out.root e1]; exact hrq
            have e5 := FX.out.anti (fun e => e2 (by rw [e])) e1
            cases e4 : holdsZ m (coreL L0) Y Z with
            | false => exact .inr (.inr (.inr (.inl ⟨e2, rfl, e3, e5, rfl, trivial⟩)))
            | true => exact .inr (.inr (.inr (.inr ⟨e2, rfl, e3, e5, rfl, FX.out.trans e1 e4⟩)))
      rcases CASES with ⟨e2, e1, e3, e5, e4, e6⟩ | ⟨rfl, e1, e3, e5, e4, e6⟩ | ⟨rfl, e1, e3, e5, e4, e6⟩ | ⟨e2, e1, e3, e5, e4, e6⟩ | ⟨e2, e1, e3, e5, e4, e6⟩
      all_goals
        go_wp2_with (first
                        | (go_at_call 24; (refine (GH.out _ _ _ _ BX.out.row (by assumption) (by assumption) (by assumption)).mono ?_); rintro e w1 ⟨rfl, hb⟩; have BX := Lib.hid (BX.out.keep hb); have z0 := BX.out.c0; have z1 := BX.out.c1; clear hb)
                        | (go_at_call 22; (refine (GR.out _ _ _ BX.out.row (by assumption) (by assumption)).mono ?_); rintro e w1 ⟨rfl, hb⟩; have BX := Lib.hid (BX.out.keep hb); have z0 := BX.out.c0; have z1 := BX.out.c1; clear hb)
                        | (go_at_call 25; (refine (GP.out _ _ _ BX.out.row (by assumption) (by assumption)).mono ?_); rintro e w1 ⟨rfl, hb⟩; have BX := Lib.hid (BX.out.keep hb); have z0 := BX.out.c0; have z1 := BX.out.c1; clear hb))
        have E0 := Ext.cell z0 BX.out.lt
        have E1 := Ext.cell z1 BX.out.lt
        have EH := Lib.hid (fun (x : Ext w1) u v b hu hv hb => GH.out x.v u v b (BX.out.row.below x.below) hu hv hb)
        have ER := Lib.hid (fun (x : Ext w1) u r hu hr => GR.out x.v u r (BX.out.row.below x.below) hu hr)
        refine wp_region_ext (by kernel_rfl) (by kernel_rfl) ?_
        repeat (go_big_quiet_step (first
          | (go_at_call 24; exact Ext.call_below (EH.out _ _ _ _ (by assumption) (by assumption) (by assumption)))
          | (go_at_call 22; exact Ext.call_below (ER.out _ _ _ (by assumption) (by assumption)))))
        refine wpQuiet_nil ?_
        intro w' hw'
        obtain ⟨⟨w2, hb2⟩, hw''⟩ := hw'
        dsimp only at hw''
        subst hw''
        clear E0 E1 EH ER
        have BX := Lib.hid (BX.out.keep hb2)
        have z0 := BX.out.c0
        have z1 := BX.out.c1
        clear hb2
        go_wp2_with (first
                        | (go_at_call 24; (refine (GH.out _ _ _ _ BX.out.row (by assumption) (by assumption) (by assumption)).mono ?_); rintro e w1 ⟨rfl, hb⟩; have BX := Lib.hid (BX.out.keep hb); have z0 := BX.out.c0; have z1 := BX.out.c1; clear hb)
                        | (go_at_call 22; (refine (GR.out _ _ _ BX.out.row (by assumption) (by assumption)).mono ?_); rintro e w1 ⟨rfl, hb⟩; have BX := Lib.hid (BX.out.keep hb); have z0 := BX.out.c0; have z1 := BX.out.c1; clear hb)
                        | (go_at_call 25; (refine (GP.out _ _ _ BX.out.row (by assumption) (by assumption)).mono ?_); rintro e w1 ⟨rfl, hb⟩; have BX := Lib.hid (BX.out.keep hb); have z0 := BX.out.c0; have z1 := BX.out.c1; clear hb))
        obtain ⟨b, off, nx', hab, hblt, hgx, hat, -⟩ := BX.out.row.get hXl
        obtain rfl : nx = nx' := Option.some.inj (hnx.symm.trans hgx)
        subst hab
        by_cases hp : nx.core.parent = -1
        · obtain ⟨hpl, hrx⟩ := FX.out.alone hp
          have hc5 := hat.c5
          rw [hp] at hc5
          clear hgx hat
          have E0 := Ext.cell z0 BX.out.lt
          have E1 := Ext.cell z1 BX.out.lt
          have E5 := Ext.cell hc5 hblt
          have EP := Lib.hid (fun (x : Ext w') u r hu hr => GP.out x.v u r (BX.out.row.below x.below) hu hr)
          refine wp_region_ext (by kernel_rfl) (by kernel_rfl) ?_
          repeat (go_big_quiet_step ((go_at_call 25; exact Ext.call_below (EP.out _ _ _ (by assumption) (by assumption)))))
          refine wpQuiet_nil ?_
          intro w' hw'
          obtain ⟨⟨w3, hb3⟩, hw''⟩ := hw'
          dsimp only at hw''
          subst hw''
          clear E0 E1 E5 EP
          have BX := Lib.hid (BX.out.keep hb3)
          have z0 := BX.out.c0
          have z1 := BX.out.c1
          clear hb3
          go_wp2_with (first
                          | (go_at_call 24; (refine (GH.out _ _ _ _ BX.out.row (by assumption) (by assumption) (by assumption)).mono ?_); rintro e w1 ⟨rfl, hb⟩; have BX := Lib.hid (BX.out.keep hb); have z0 := BX.out.c0; have z1 := BX.out.c1; clear hb)
                          | (go_at_call 22; (refine (GR.out _ _ _ BX.out.row (by assumption) (by assumption)).mono ?_); rintro e w1 ⟨rfl, hb⟩; have BX := Lib.hid (BX.out.keep hb); have z0 := BX.out.c0; have z1 := BX.out.c1; clear hb)
                          | (go_at_call 25; (refine (GP.out _ _ _ BX.out.row (by assumption) (by assumption)).mono ?_); rintro e w1 ⟨rfl, hb⟩; have BX := Lib.hid (BX.out.keep hb); have z0 := BX.out.c0; have z1 := BX.out.c1; clear hb))
          go_ret
          exact ⟨rfl, BX.out.below⟩
        · obtain ⟨P, pc, k, hpar, hP, hplc, hkk, hhp⟩ := FX.out.child hp
          have hc5 := hat.c5
          rw [hpar] at hc5
          have hPl : P < len0 := by
            have h1 := (List.getElem?_eq_some_iff.1 hP).1
            unfold coreL at h1
            rwa [List.length_map, HL.out] at h1
          clear hgx hat hpar hp
          have hpn : ¬ ((P : Int) = -1) := by omega
          have E0 := Ext.cell z0 BX.out.lt
          have E1 := Ext.cell z1 BX.out.lt
          have E5 := Ext.cell hc5 hblt
          have EP := Lib.hid (fun (x : Ext w') u r hu hr => GP.out x.v u r (BX.out.row.below x.below) hu hr)
          refine wp_region_ext (by kernel_rfl) (by kernel_rfl) ?_
          repeat (go_big_quiet_step ((go_at_call 25; exact Ext.call_below (EP.out _ _ _ (by assumption) (by assumption)))))
          refine wpQuiet_nil ?_
          intro w' hw'
          obtain ⟨⟨w3, hb3⟩, hw''⟩ := hw'
          dsimp only at hw''
          subst hw''
          clear E0 E1 E5 EP hc5
          have BX := Lib.hid (BX.out.keep hb3)
          have z0 := BX.out.c0
          have z1 := BX.out.c1
          clear hb3
          obtain ⟨b', off', np, hab', hblt', hgp, hatp, hokp⟩ := BX.out.row.get hPl
          cases hab'
          obtain rfl : np.core = pc := by
            have h1 : (coreL L0)[P]? = some np.core := by unfold coreL; rw [List.getElem?_map, hgp]; rfl
            exact Option.some.inj (h1.symm.trans hP)
          have hkl : k < np.kN := by
            have h1 := (List.getElem?_eq_some_iff.1 hkk).1
            rwa [hokp.kids.hlen] at h1
          have hkn := hokp.kids.len64
          have hc6 := hatp.c6
          obtain ⟨bk, ok, zz, hka, hbk, hzz, hck, -⟩ := hokp.kids.get hkl
          obtain rfl : zz = (X : Int) := Option.some.inj (hzz.symm.trans hkk)
          rw [hka] at hc6
          clear hatp hokp hzz hkk
          go_wp2_with (first
                          | (go_at_call 24; (refine (GH.out _ _ _ _ BX.out.row (by assumption) (by assumption) (by assumption)).mono ?_); rintro e w1 ⟨rfl, hb⟩; have BX := Lib.hid (BX.out.keep hb); have z0 := BX.out.c0; have z1 := BX.out.c1; clear hb)
                          | (go_at_call 22; (refine (GR.out _ _ _ BX.out.row (by assumption) (by assumption)).mono ?_); rintro e w1 ⟨rfl, hb⟩; have BX := Lib.hid (BX.out.keep hb); have z0 := BX.out.c0; have z1 := BX.out.c1; clear hb)
                          | (go_at_call 25; (refine (GP.out _ _ _ BX.out.row (by assumption) (by assumption)).mono ?_); rintro e w1 ⟨rfl, hb⟩; have BX := Lib.hid (BX.out.keep hb); have z0 := BX.out.c0; have z1 := BX.out.c1; clear hb))
          go_ret
          exact ⟨rfl, BX.out.below⟩
end Go.Proofs.Ytllfkiifkkcinaa
/- instarref03's Same, over forests. -/
namespace Go.Proofs.Ytllfkiifkkcinaa
open Go.RowKit
/-- The second argument's box. -/
theorem Box.next {w : World} {B : Obj} {a : Option Addr} {len cap : Nat} {m : Int} {L : List NodeD} (h : NodeRow w a len cap L) : Box w ((w.alloc B).alloc (forB a len cap m)) (w.heap.size + 1) a len cap m L (coreL L) := by
  have hs : (w.alloc B).heap.size = w.heap.size + 1 := by simp
  have h1 := Box.start (w := w.alloc B) (m := m) (h.below (below_box w B))
  refine ⟨h1.row, rfl, by omega, by simp, ?_, ?_, (below_box w B).alloc (by simp) _⟩
  · have := h1.c0
    rwa [hs] at this
  · have := h1.c1
    rwa [hs] at this
set_option maxHeartbeats 8000000 in
set_option maxRecDepth 100000 in
theorem refsameF_any (a b : Option Addr) (la ca lb cb : Nat) (m n : Int) (L M : List NodeD) (w : World) (hL : NodeRow w a la ca L) (hM : NodeRow w b lb cb M) :
    Calls Try.prog 20 #[forV a la ca m, forV b lb cb n] w fun e w' => e = .returned (.bool (decide (m = n) && decide (coreL L = coreL M))) ∧ Below w.heap.size w w' := by
  have BA := Lib.hid ((Box.start (m := m) hL).keep (below_box _ (forB b lb cb n)))
  have BB := Lib.hid (Box.next (B := forB a la ca m) (m := n) hM)
  have hla := hL.len64
  have hlb := hM.len64
  have HLL := Lib.hid hL.hlen
  have HML := Lib.hid hM.hlen
  clear hL hM
  have z0 := BA.out.c0
  have z1 := BA.out.c1
  have y0 := BB.out.c0
  have y1 := BB.out.c1
  by_cases hm : m = n
  rotate_left
  · rw [decide_eq_false hm]
    have e1 : (m != n) = true := bne_iff_ne.2 hm
    have e2 : (m == n) = false := beq_eq_false_iff_ne.2 hm
    go_enter Try.func20, Try.ntmps20
    go_wp2
    go_ret
    exact ⟨rfl, BA.out.below⟩
  subst hm
  have R0 : ∀ X : Bool, (decide (m = m) && X) = X := fun X => by rw [decide_eq_true rfl, Bool.true_and]
  rw [R0]
  clear R0
  have e1 : (m != m) = false := by simp
  by_cases hn : (la : Int) = lb
  rotate_left
  · have HR : Hid (decide (coreL L = coreL M) = false) := Lib.hid (decide_eq_false (fun e => hn (by
      have := congrArg List.length e
      unfold coreL at this
      rw [List.length_map, List.length_map, HLL.out, HML.out] at this
      rw [this])))
    have e2 : ((la : Int) != lb) = true := bne_iff_ne.2 hn
    have e3 : ((la : Int) == lb) = false := beq_eq_false_iff_ne.2 hn
    go_enter Try.func20, Try.ntmps20
    go_wp2
    go_ret
    exact ⟨ret_bool HR.out.symm, BA.out.below⟩
  obtain rfl : la = lb := Int.ofNat.inj hn
  clear hn
  have e2 : ((la : Int) != la) = false := by simp
  have GO : Hid (∀ W x y, NodeOk W x → NodeOk W y → Calls Try.prog 36 #[nodV x, nodV y] W fun e w' => e = .returned (.bool (decide (x.core = y.core))) ∧ Below W.heap.size W w') := Lib.hid (fun W x y h1 h2 => refone_any x y W h1 h2)
  go_enter Try.func20, Try.ntmps20
  go_wp2
  go_loopw [5] (fun i wr => ∃ k : Nat, k ≤ la ∧ i = .int .i64 k ∧ Hid (Box w wr w.heap.size a la ca m L (coreL L)) ∧ Hid (Box w wr (w.heap.size + 1) b la cb m M (coreL M)) ∧ Hid ((coreL L).take k = (coreL M).take k)) (fun i _ => la - (intOf i).toNat)
  case atStart => exact ⟨0, Nat.zero_le _, rfl, BA, BB, Lib.hid rfl⟩
  case round =>
    clear BA BB z0 z1 y0 y1
    obtain ⟨k, hk, rfl, BA, BB, HT⟩ := hrel
    have z0 := BA.out.c0
    have z1 := BA.out.c1
    have y0 := BB.out.c0
    have y1 := BB.out.c1
    by_cases hlt : k < la
    · obtain ⟨ba, oa, nx, rfl, hba, hgx, hatx, hokx⟩ := BA.out.row.get hlt
      obtain ⟨bb, ob, ny, rfl, hbb, hgy, haty, hoky⟩ := BB.out.row.get hlt
      have GX := Lib.hid hgx
      have GY := Lib.hid hgy
      have OX := Lib.hid hokx
      have OY := Lib.hid hoky
      obtain ⟨x0, x1, x2, x3, x4, x5, x6, x7, x8, x9⟩ := hatx
      obtain ⟨v0, v1, v2, v3, v4, v5, v6, v7, v8, v9⟩ := haty
      clear hgx hgy hokx hoky
      have E0 := Ext.cell z0 BA.out.lt
      have E1 := Ext.cell y0 BB.out.lt
      have EX0 := Ext.cell x0 hba
      have EY0 := Ext.cell v0 hbb
      have EX1 := Ext.cell x1 hba
      have EY1 := Ext.cell v1 hbb
      have EX2 := Ext.cell x2 hba
      have EY2 := Ext.cell v2 hbb
      have EX3 := Ext.cell x3 hba
      have EY3 := Ext.cell v3 hbb
      have EX4 := Ext.cell x4 hba
      have EY4 := Ext.cell v4 hbb
      have EX5 := Ext.cell x5 hba
      have EY5 := Ext.cell v5 hbb
      have EX6 := Ext.cell x6 hba
      have EY6 := Ext.cell v6 hbb
      have EX7 := Ext.cell x7 hba
      have EY7 := Ext.cell v7 hbb
      have EX8 := Ext.cell x8 hba
      have EY8 := Ext.cell v8 hbb
      have EX9 := Ext.cell x9 hba
      have EY9 := Ext.cell v9 hbb
      clear x0 x1 x2 x3 x4 x5 x6 x7 x8 x9 v0 v1 v2 v3 v4 v5 v6 v7 v8 v9
      have NX : Hid ((coreL L)[k]? = some nx.core) := Lib.hid (by unfold coreL; rw [List.getElem?_map, GX.out]; rfl)
      have NY : Hid ((coreL M)[k]? = some ny.core) := Lib.hid (by unfold coreL; rw [List.getElem?_map, GY.out]; rfl)
      cases hc : decide (nx.core = ny.core) with
      | false =>
        have EO : Hid (∀ x : Ext wr, Calls Try.prog 36 #[nodV nx, nodV ny] x.v fun e w' => e = .returned (.bool false) ∧ Below x.v.heap.size x.v w') := Lib.hid (fun x => by
          have := GO.out x.v nx ny (OX.out.below x.below) (OY.out.below x.below)
          rwa [hc] at this)
        have HR : Hid (decide (coreL L = coreL M) = false) := Lib.hid (decide_eq_false (fun e => by
          have h1 := NX.out
          rw [e, NY.out] at h1
          injection h1 with h1
          exact of_decide_eq_false hc h1.symm))
        clear hc
        go_wp2
        refine wp_region_ext (by kernel_rfl) (by kernel_rfl) ?_
        repeat (go_big_quiet_step ((go_at_call 36; exact Ext.call_below (EO.out _))))
        refine wpQuiet_nil ?_
        intro w' hw'
        obtain ⟨⟨w2, hb2⟩, hw''⟩ := hw'
        dsimp only at hw''
        subst hw''
        have BA := Lib.hid (BA.out.keep hb2)
        clear E0 E1
        go_wp2
        go_ret
        exact ⟨ret_bool HR.out.symm, BA.out.below⟩
      | true =>
        have EO : Hid (∀ x : Ext wr, Calls Try.prog 36 #[nodV nx, nodV ny] x.v fun e w' => e = .returned (.bool true) ∧ Below x.v.heap.size x.v w') := Lib.hid (fun x => by
          have := GO.out x.v nx ny (OX.out.below x.below) (OY.out.below x.below)
          rwa [hc] at this)
        have HT2 : Hid ((coreL L).take (k + 1) = (coreL M).take (k + 1)) := Lib.hid (by
          rw [List.take_add_one, List.take_add_one, HT.out, NX.out, NY.out, of_decide_eq_true hc])
        clear hc
        go_wp2
        refine wp_region_ext (by kernel_rfl) (by kernel_rfl) ?_
        repeat (go_big_quiet_step ((go_at_call 36; exact Ext.call_below (EO.out _))))
        refine wpQuiet_nil ?_
        intro w' hw'
        obtain ⟨⟨w2, hb2⟩, hw''⟩ := hw'
        dsimp only at hw''
        subst hw''
        have BA := Lib.hid (BA.out.keep hb2)
        have BB := Lib.hid (BB.out.keep hb2)
        clear E0 E1
        go_wp2
        go_roundw
        case rel => exact ⟨k + 1, hlt, by go_num, BA, BB, HT2⟩
        case measure => simp [intOf]; omega
    · have HR : Hid (decide (coreL L = coreL M) = true) := Lib.hid (decide_eq_true (by
        have h1 : (coreL L).length ≤ k := by unfold coreL; rw [List.length_map, HLL.out]; omega
        have h2 : (coreL M).length ≤ k := by unfold coreL; rw [List.length_map, HML.out]; omega
        have h3 := HT.out
        rwa [List.take_of_length_le h1, List.take_of_length_le h2] at h3))
      go_wp2
      go_ret
      exact ⟨ret_bool HR.out.symm, BA.out.below⟩
end Go.Proofs.Ytllfkiifkkcinaa
/- A forest that is right with a bare node more is right. Plain mathematics, no program. -/
namespace Go.Proofs.Ytllfkiifkkcinaa
open Go.RowKit
theorem endsZ_none (nxt : Int → Int) (s : Nat) : endsZ nxt s (-1) = true := by
  cases s with
  | zero => rfl
  | succ s => unfold endsZ; rfl
theorem endsZ_more {nxt : Int → Int} : ∀ (s : Nat) (i : Int), endsZ nxt s i = true → endsZ nxt (s + 1) i = true
  | 0, i, h => by
    have e : i = -1 := by unfold endsZ at h; exact beq_iff_eq.1 h
    rw [e]
    exact endsZ_none _ _
  | s + 1, i, h => by
    by_cases e : i = -1
    · rw [e]
      exact endsZ_none _ _
    · rw [endsZ_step e] at h ⊢
      exact endsZ_more s _ h
theorem getC_app {F : List Core} {c d : Core} {i : Int} (h : getC F i = some d) : getC (F ++ [c]) i = some d := by
  obtain ⟨h1, h2, h3⟩ := getC_some h
  unfold getC
  rw [if_pos h1, List.getElem?_append_left h2, h3]
theorem nodeOk_app {F : List Core} {c : Core} {i : Nat} {y : Core} (h : nodeOk F i y = true) : nodeOk (F ++ [c]) i y = true := by
  unfold nodeOk at h ⊢
  simp only [Bool.and_eq_true, List.all_eq_true] at h ⊢
  obtain ⟨⟨⟨⟨⟨⟨h1, h2⟩, h3⟩, h4⟩, h5⟩, h6⟩, h7⟩ := h
  have kid : ∀ k ∈ y.kids, kindK (F ++ [c]) k = kindK F k := fun k hk => by
    have g := h3 k hk
    unfold kidOk at g
    unfold kindK
    cases hg : getC F k with
    | none => rw [hg] at g; simp at g
    | some d => rw [getC_app hg]
  have elems : elemsK (F ++ [c]) y = elemsK F y := by
    unfold elemsK
    refine List.countP_congr fun k hk => ?_
    rw [kid k hk]
  refine ⟨⟨⟨⟨⟨⟨?_, ?_⟩, ?_⟩, ?_⟩, ?_⟩, ?_⟩, h7⟩
  · unfold docOk at h1 ⊢
    cases hg : getC F y.doc with
    | none => rw [hg] at h1; simp at h1
    | some d => rw [hg] at h1; rw [getC_app hg]; exact h1
  · unfold parOk at h2 ⊢
    cases hg : getC F y.parent with
    | none => rw [hg, Bool.and_false, Bool.or_false] at h2; rw [h2, Bool.true_or]
    | some d => rw [hg] at h2; rw [getC_app hg]; exact h2
  · intro k hk
    have g := h3 k hk
    unfold kidOk at g ⊢
    cases hg : getC F k with
    | none => rw [hg] at g; simp at g
    | some d => rw [hg] at g; rw [getC_app hg]; exact g
  · unfold shapeOk at h4 ⊢
    rw [elems]
    exact h4
  · unfold hostOk at h5 ⊢
    by_cases hk : y.kind = 4
    · rw [if_pos hk] at h5 ⊢
      cases hg : getC F y.host with
      | none => rw [hg] at h5; cases h5
      | some d => rw [hg] at h5; rw [getC_app hg]; exact h5
    · rw [if_neg hk] at h5 ⊢
      exact h5
  · unfold underOk at h6 ⊢
    cases hg : getC F y.under with
    | none => rw [hg, Bool.and_false, Bool.or_false] at h6; rw [h6, Bool.true_or]
    | some d => rw [hg] at h6; rw [getC_app hg]; exact h6
theorem nextUp_app {F : List Core} {c : Core} (hp : c.parent = -1) (hh : c.host = -1) : nextUp (F ++ [c]) = nextUp F := by
  funext i
  unfold nextUp
  cases hg : getC F i with
  | some d => rw [getC_app hg]
  | none =>
    cases hq : getC (F ++ [c]) i with
    | none => rfl
    | some d =>
      obtain ⟨h1, h2, h3⟩ := getC_some hq
      have hn : F.length ≤ i.toNat := by
        unfold getC at hg
        rw [if_pos h1] at hg
        exact List.getElem?_eq_none_iff.1 hg
      rw [List.length_append] at h2
      have he : i.toNat = F.length := by simp at h2; omega
      rw [he, List.getElem?_append_right (Nat.le_refl _), Nat.sub_self] at h3
      have : c = d := by simpa using h3
      subst this
      dsimp only
      rw [if_pos hp, hh]
theorem right_app {m : Int} {F : List Core} {c : Core} (h : rightF m F = true) (hm : (F.length : Int) < m) (hp : c.parent = -1) (hh : c.host = -1) (hc : nodeOk (F ++ [c]) F.length c = true) : rightF m (F ++ [c]) = true := by
  obtain ⟨⟨h1, h2, h3, h4⟩, h5, h6⟩ := (rightF_iff m F).1 h
  refine (rightF_iff m _).2 ⟨⟨h1, h2, ?_, ?_⟩, fun i x hx => ?_, fun i hi => ?_⟩
  · rw [List.length_append]
    simp
    omega
  · cases F with
    | nil => unfold headDoc at h4; cases h4
    | cons _ _ => exact h4
  · by_cases hi : i < F.length
    · rw [List.getElem?_append_left hi] at hx
      exact nodeOk_app (h5 i x hx)
    · have hl := (List.getElem?_eq_some_iff.1 hx).1
      rw [List.length_append] at hl
      have he : i = F.length := by simp at hl; omega
      subst he
      rw [List.getElem?_append_right (Nat.le_refl _), Nat.sub_self] at hx
      have : c = x := by simpa using hx
      subst this
      exact hc
  · rw [nextUp_app hp hh, List.length_append]
    show endsZ (nextUp F) (F.length + 1 + 1) (i : Int) = true
    by_cases hl : i < F.length
    · exact endsZ_more _ _ (h6 i hl)
    · rw [endsZ_step (by omega)]
      have : nextUp F (i : Int) = -1 := by
        unfold nextUp
        rw [getC_nat, List.getElem?_eq_none_iff.2 (by omega)]
      rw [this]
      exact endsZ_none _ _
/-- What Make's answers are, where the forest is right. -/
theorem make_right {m : Int} {F : List Core} {x : Core} (h : rightF m F = true) (he : makeE m F x = 0) : rightF m (makeL m F x) = true ∧ makeL m F x = F ++ [bareC F x] ∧ makeN m F x = F.length := by
  have e2 : makeL m F x = F ++ [bareC F x] := by unfold makeL; rw [if_pos he]
  have e3 : makeN m F x = F.length := by unfold makeN; rw [if_pos he]
  refine ⟨?_, e2, e3⟩
  rw [e2]
  unfold makeE at he
  by_cases hc : (rightF m F && x.kind != 4 && nodeOk (F ++ [bareC F x]) F.length (bareC F x)) = true
  · rw [if_pos hc] at he
    by_cases hm : m ≤ (F.length : Int)
    · rw [if_pos hm] at he; cases he
    · simp only [Bool.and_eq_true] at hc
      exact right_app h (by omega) rfl rfl hc.2
  · rw [if_neg hc] at he; cases he
theorem make_not {m : Int} {F : List Core} {x : Core} (he : ¬ makeE m F x = 0) : makeL m F x = F ∧ makeN m F x = -1 := by
  unfold makeL makeN
  rw [if_neg he, if_neg he]
  exact ⟨rfl, rfl⟩
end Go.Proofs.Ytllfkiifkkcinaa
/- A node in a box of the call's own. -/
namespace Go.Proofs.Ytllfkiifkkcinaa
open Go.RowKit
/-- A node in a box of the call's own. -/
structure NBox (w W : World) (g : Nat) (x : NodeD) : Prop where
  lt : g < W.heap.size
  c0 : W.cell? ⟨g, 0, none⟩ = some (.int .i64 x.core.kind)
  c1 : W.cell? ⟨g, 1, none⟩ = some (.string x.core.name)
  c2 : W.cell? ⟨g, 2, none⟩ = some (.string x.core.is)
  c3 : W.cell? ⟨g, 3, none⟩ = some (.string x.core.data)
  c4 : W.cell? ⟨g, 4, none⟩ = some (.slice x.aA x.aN x.aC)
  c5 : W.cell? ⟨g, 5, none⟩ = some (.int .i64 x.core.parent)
  c6 : W.cell? ⟨g, 6, none⟩ = some (.slice x.kA x.kN x.kC)
  c7 : W.cell? ⟨g, 7, none⟩ = some (.int .i64 x.core.host)
  c8 : W.cell? ⟨g, 8, none⟩ = some (.int .i64 x.core.under)
  c9 : W.cell? ⟨g, 9, none⟩ = some (.int .i64 x.core.doc)
  ok : NodeOk W x
theorem NBox.keep {w W W2 : World} {g : Nat} {x : NodeD} (h : NBox w W g x) (hb : Below W.heap.size W W2) : NBox w W2 g x := by
  have e : ∀ o, W2.cell? ⟨g, o, none⟩ = W.cell? ⟨g, o, none⟩ := fun o => hb.cell (p := ⟨g, o, none⟩) h.lt
  exact ⟨Nat.lt_of_lt_of_le h.lt hb.size, (e _).trans h.c0, (e _).trans h.c1, (e _).trans h.c2, (e _).trans h.c3, (e _).trans h.c4, (e _).trans h.c5, (e _).trans h.c6, (e _).trans h.c7, (e _).trans h.c8, (e _).trans h.c9, h.ok.below hb⟩
abbrev nodB (x : NodeD) : Obj := .cells #[.int .i64 x.core.kind, .string x.core.name, .string x.core.is, .string x.core.data, .slice x.aA x.aN x.aC, .int .i64 x.core.parent, .slice x.kA x.kN x.kC, .int .i64 x.core.host, .int .i64 x.core.under, .int .i64 x.core.doc] 28
theorem NBox.next {w : World} {B : Obj} {x : NodeD} (h : NodeOk w x) : NBox w ((w.alloc B).alloc (nodB x)) (w.heap.size + 1) x := by
  have hs : (w.alloc B).heap.size = w.heap.size + 1 := by simp
  have c : ∀ (j : Nat), ((w.alloc B).alloc (nodB x)).cell? ⟨w.heap.size + 1, j, none⟩ = (#[.int .i64 x.core.kind, .string x.core.name, .string x.core.is, .string x.core.data, .slice x.aA x.aN x.aC, .int .i64 x.core.parent, .slice x.kA x.kN x.kC, .int .i64 x.core.host, .int .i64 x.core.under, .int .i64 x.core.doc] : Array Value)[j]? := fun j => by
    have := cell_of_row ((w.alloc B).alloc (nodB x)) (w.alloc B).heap.size j _ 28 (0, 0) (heap_alloc_new _ _)
    rwa [hs] at this
  exact ⟨by simp, c 0, c 1, c 2, c 3, c 4, c 5, c 6, c 7, c 8, c 9, h.below ((below_box w B).alloc (by simp) _)⟩
end Go.Proofs.Ytllfkiifkkcinaa
/- The byte tests of package name, as the Go text has them, answer what NamePure says. -/
namespace Go.Proofs.Ytllfkiifkkcinaa
open Go.RowKit
theorem isSmall_any (n : Int) (w : World) : Calls Try.prog 99 #[.int .u8 n] w fun e w' => e = .returned (.bool (lowI n)) ∧ w = w' := by
  go_enter Try.func99, Try.ntmps99
  go_wp2
  all_goals (go_ret; exact ⟨ret_bool (by unfold lowI; rw [Bool.eq_iff_iff]; simp <;> omega), rfl⟩)
theorem isCapital_any (n : Int) (w : World) : Calls Try.prog 105 #[.int .u8 n] w fun e w' => e = .returned (.bool (capI n)) ∧ w = w' := by
  go_enter Try.func105, Try.ntmps105
  go_wp2
  all_goals (go_ret; exact ⟨ret_bool (by unfold capI; rw [Bool.eq_iff_iff]; simp <;> omega), rfl⟩)
theorem isSign_any (n : Int) (w : World) : Calls Try.prog 104 #[.int .u8 n] w fun e w' => e = .returned (.bool (signI n)) ∧ w = w' := by
  go_enter Try.func104, Try.ntmps104
  go_wp2
  all_goals (go_ret; exact ⟨ret_bool (by unfold signI alphI lowI capI digI; rw [Bool.eq_iff_iff]; simp <;> omega), rfl⟩)
theorem mayBegin_any (n : Int) (w : World) : Calls Try.prog 103 #[.int .u8 n] w fun e w' => e = .returned (.bool (headI n)) ∧ w = w' := by
  go_enter Try.func103, Try.ntmps103
  go_wp2
  all_goals (go_ret; exact ⟨ret_bool (by unfold headI alphI lowI capI; rw [Bool.eq_iff_iff]; simp <;> omega), rfl⟩)
end Go.Proofs.Ytllfkiifkkcinaa
/- Right answers what NamePure says, for every string that fits into memory. -/
namespace Go.Proofs.Ytllfkiifkkcinaa
open Go.RowKit
set_option maxHeartbeats 1000000 in
theorem right_any (s : ByteArray) (w : World) (hs : s.size ≤ maxLen) :
    Calls Try.prog 97 #[.string s] w fun e w' => e = .returned (.bool (rightL s.toList)) ∧ w = w' := by
  unfold maxLen at hs
  have hlen := tl_len s
  by_cases h0 : s.size < 1
  · have H := Lib.hid (rightL_ends s.toList (by omega))
    clear hlen
    go_enter Try.func97, Try.ntmps97
    go_wp2
    go_ret
    exact ⟨ret_bool H.out.symm, rfl⟩
  by_cases h1 : 40 < s.size
  · have H := Lib.hid (rightL_ends s.toList (by omega))
    clear hlen
    go_enter Try.func97, Try.ntmps97
    go_wp2
    go_ret
    exact ⟨ret_bool H.out.symm, rfl⟩
  have hp : 0 < s.size := by omega
  have hg0 := tl_get s 0 hp
  by_cases hh : headB (s[0]'hp) = true
  · have HL := Lib.hid hlen
    have HG := Lib.hid hg0
    have hh' : headI ((s[0]'hp).toNat : Int) = true := hh
    have HH := Lib.hid hh
    have HS := Lib.hid (sign_of_head _ hh)
    clear hlen hg0 hh
    go_enter Try.func97, Try.ntmps97
    go_wp2_with (go_at_call 103; refine (mayBegin_any _ _).mono ?_; rintro e w' ⟨rfl, rfl⟩)
    go_loop [3] (fun i => ∃ k : Nat, 1 ≤ k ∧ k ≤ s.size ∧ i = .int .i64 k ∧ Hid ((s.toList.take k).all signB = true)) (fun i => s.size - (intOf i).toNat)
    case atStart =>
      refine ⟨1, by omega, by omega, rfl, ?_⟩
      have := all_take_succ s.toList 0 _ HG.out rfl
      exact Lib.hid (this.trans HS.out)
    case round =>
      obtain ⟨k, hk1, hk2, rfl, HA⟩ := hrel
      by_cases hlt : k < s.size
      · have HK := Lib.hid (tl_get s k hlt)
        go_wp2_with (go_at_call 104; refine (isSign_any _ _).mono ?_; rintro e w' ⟨rfl, rfl⟩)
        · have hb : signI (s[k].toNat : Int) = false := by first | assumption | (simpa using ‹(!signI (s[k].toNat : Int)) = true›)
          go_ret
          exact ⟨ret_bool (rightL_stop _ k _ HK.out hb).symm, rfl⟩
        · have hb : signI (s[k].toNat : Int) = true := by first | assumption | (simpa using ‹(!signI (s[k].toNat : Int)) = false›)
          go_round
          case rel => exact ⟨k + 1, by omega, by omega, by go_num, Lib.hid ((all_take_succ _ k _ HK.out HA.out).trans hb)⟩
          case measure => simp [intOf]; omega
      · go_wp2
        go_ret
        refine ⟨ret_bool ?_, rfl⟩
        have e : k = s.toList.length := by rw [HL.out]; omega
        have h2 := HA.out
        rw [e] at h2
        exact (rightL_full s.toList _ (by rw [HL.out]; omega) (by rw [HL.out]; omega) HG.out HH.out h2).symm
  · have hh2 : headB (s[0]'hp) = false := by simpa using hh
    have hh' : headI ((s[0]'hp).toNat : Int) = false := hh2
    have HR := Lib.hid (rightL_head _ _ hg0 hh2)
    clear hlen hg0 hh hh2
    go_enter Try.func97, Try.ntmps97
    go_wp2_with (go_at_call 103; refine (mayBegin_any _ _).mono ?_; rintro e w' ⟨rfl, rfl⟩)
    go_ret
    exact ⟨ret_bool HR.out.symm, rfl⟩
end Go.Proofs.Ytllfkiifkkcinaa
/- Small answers the list of bytes with A to Z made small, and turns nothing that was there. -/
namespace Go.Proofs.Ytllfkiifkkcinaa
open Go.RowKit
theorem bytes_made (s : ByteArray) (w : World) : ∃ (cap : Nat) (C : Array Value) (mk : Nat × Nat),
    (convert 9 87 (.string s)).run Try.prog w = .ok (.slice (some ⟨w.heap.size, 0, none⟩) s.size cap) (w.drew.alloc (.cells C 5 mk)) ∧
    (∀ j (h : j < s.size), (w.alloc (.cells C 5 mk)).cell? ⟨w.heap.size, j, none⟩ = some (.int .u8 (s[j].toNat : Int))) ∧
    ∀ j, j < s.size → (w.alloc (.cells C 5 mk)).frozen? ⟨w.heap.size, j, none⟩ = false := by
  refine ⟨_, _, _, run_bytes_of_string w 9 87 5 s Try.underlying9 Try.underlying87 Try.underlying5, ?_, ?_⟩
  · intro j h
    rw [World.cell?_alloc_mark]
    exact bytesRow_at s _ j h
  · intro j h
    rw [World.frozen?_alloc_mark]
    have : s.size ≤ (bytesRow s (grownCap w s.size 0 5)).size := by
      simp [bytesRow]
    simp
    omega

structure SmallRow (s : ByteArray) (w wr : World) (k : Nat) : Prop where
  cells : ∀ j (h : j < s.size), wr.cell? ⟨w.heap.size, j, none⟩ = some (.int .u8 ((if j < k then smallB s[j] else s[j]).toNat : Int))
  free : ∀ j, j < s.size → wr.frozen? ⟨w.heap.size, j, none⟩ = false
  below : Below w.heap.size w wr

theorem SmallRow.keep {s : ByteArray} {w wr : World} {k : Nat} (h : SmallRow s w wr k) (hk : k < s.size) (hc : capI (s[k].toNat : Int) = false) : SmallRow s w wr (k + 1) := by
  refine ⟨fun j hj => ?_, h.free, h.below⟩
  rw [h.cells j hj]
  by_cases e : j = k
  · subst e
    rw [if_neg (by omega), if_pos (by omega)]
    unfold smallB
    rw [hc]
    rfl
  · by_cases e2 : j < k
    · rw [if_pos e2, if_pos (by omega)]
    · rw [if_neg e2, if_neg (by omega)]

theorem SmallRow.store {s : ByteArray} {w wr : World} {k : Nat} (h : SmallRow s w wr k) (hk : k < s.size) :
    SmallRow s w (wr.setCell ⟨w.heap.size, k, none⟩ (.int .u8 ((smallB s[k]).toNat : Int))) (k + 1) := by
  refine ⟨fun j hj => ?_, fun j hj => ?_, h.below.setCell (Nat.le_refl _) _⟩
  · by_cases e : j = k
    · subst e
      rw [World.cell?_setCell_same _ _ _ (h.cells j hj), if_pos (by omega)]
    · rw [World.cell?_setCell_other _ _ _ _ (by intro h; injection h; omega), h.cells j hj]
      by_cases e2 : j < k
      · rw [if_pos e2, if_pos (by omega)]
      · rw [if_neg e2, if_neg (by omega)]
  · rw [World.frozen?_setCell]
    exact h.free j hj

theorem smallL_len (l : List UInt8) : (smallL l).length = l.length := by simp [smallL]
theorem smallB_cap (c : UInt8) (h : capI (c.toNat : Int) = true) : ((smallB c).toNat : Int) = (c.toNat : Int) + 32 := by
  have hb := of_decide_eq_true h
  unfold smallB
  rw [h]
  simp [UInt8.toNat_add]
  omega

theorem SmallRow.back {s : ByteArray} {w wr : World} {k : Nat} (h : SmallRow s w wr k) (hk : k = s.size) (cap : Nat) :
    (convert 87 9 (.slice (some ⟨w.heap.size, 0, none⟩) s.size cap)).run Try.prog wr = .ok (.string (ofL (smallL s.toList))) wr := by
  have hl : (smallL s.toList).length = s.size := by rw [smallL_len, tl_len]
  have := run_convert_bytes_back (P := Try.prog) wr 87 9 5 ⟨w.heap.size, 0, none⟩ cap (smallL s.toList) Try.underlying87 Try.underlying5 Try.underlying9 (fun j hj => by
    have hj' : j < s.size := by omega
    have hg := tl_get s j hj'
    have e : (smallL s.toList)[j] = smallB s[j] := by
      have h1 : (smallL s.toList)[j]? = some (smallB s[j]) := by
        unfold smallL
        rw [List.getElem?_map, hg]
        rfl
      exact (List.getElem?_eq_some_iff.1 h1).2
    have hc := h.cells j hj'
    rw [if_pos (by omega)] at hc
    rw [e]
    have ha : (⟨w.heap.size, 0, none⟩ : Addr).add j = ⟨w.heap.size, j, none⟩ := by rw [Go.WideShapes.add_plain, Nat.zero_add]
    rw [ha]
    exact hc)
  rw [hl] at this
  exact this

set_option maxHeartbeats 2000000 in
set_option maxRecDepth 100000 in
theorem small_any (s : ByteArray) (w : World) (hs : s.size ≤ maxLen) :
    Calls Try.prog 98 #[.string s] w fun e w' => e = .returned (.string (ofL (smallL s.toList))) ∧ Below w.heap.size w w' := by
  unfold maxLen at hs
  obtain ⟨cap, C, mk, hconv, hcell, hfree⟩ := bytes_made s w
  have H1 := Lib.hid hcell
  have H2 := Lib.hid hfree
  clear hcell hfree
  go_enter Try.func98, Try.ntmps98
  go_wp2
  clear hconv
  go_loopw [10] (fun i wr => ∃ k : Nat, k ≤ s.size ∧ i = .int .i64 k ∧ Hid (SmallRow s w wr k)) (fun i _ => s.size - (intOf i).toNat)
  case atStart =>
    refine ⟨0, Nat.zero_le _, rfl, Lib.hid ⟨fun j h => ?_, fun j h => ?_, ((Below.refl _ _).alloc (Nat.le_refl _) _).drew⟩⟩
    · rw [if_neg (by omega)]
      exact H1.out j h
    · exact H2.out j h
  case round =>
    obtain ⟨k, hk, rfl, HR⟩ := hrel
    by_cases hlt : k < s.size
    · have hcell : wr.cell? ⟨w.heap.size, k, none⟩ = some (.int .u8 (s[k].toNat : Int)) := by
        have := HR.out.cells k hlt
        rwa [if_neg (by omega)] at this
      have hfree := HR.out.free k hlt
      by_cases hc : capI (s[k].toNat : Int) = true
      · have hb := of_decide_eq_true hc
        have hb1 : (65 : Int) ≤ (s[k].toNat : Int) := hb.1
        have hb2 : (s[k].toNat : Int) ≤ 90 := hb.2
        have HE := Lib.hid (smallB_cap _ hc)
        clear hb
        go_wp2_with (go_at_call 105; refine (isCapital_any _ _).mono ?_; rintro e w' ⟨rfl, rfl⟩)
        go_roundw
        case rel =>
          refine ⟨k + 1, by omega, by go_num, ?_⟩
          have := HR.out.store hlt
          rw [HE.out] at this
          have e : (s[k].toNat : Int) - 65 + 97 = (s[k].toNat : Int) + 32 := by omega
          first | exact Lib.hid this | (rw [e]; exact Lib.hid this)
        case measure => simp [intOf]; omega
      · have hc' : capI (s[k].toNat : Int) = false := by simpa using hc
        clear hc
        go_wp2_with (go_at_call 105; refine (isCapital_any _ _).mono ?_; rintro e w' ⟨rfl, rfl⟩)
        go_roundw
        case rel => exact ⟨k + 1, by omega, by go_num, Lib.hid (HR.out.keep hlt hc')⟩
        case measure => simp [intOf]; omega
    · have hback := HR.out.back (by omega) cap
      go_wp2
      go_ret
      exact ⟨rfl, HR.out.below⟩
end Go.Proofs.Ytllfkiifkkcinaa
/- Fit answers what NamePure says. -/
namespace Go.Proofs.Ytllfkiifkkcinaa
open Go.RowKit
def fitL (l : List UInt8) : List UInt8 := if rightL l then smallL l else []
def fitE (l : List UInt8) : Int := if rightL l then 0 else 4
set_option maxHeartbeats 2000000 in
theorem fit_any (s : ByteArray) (w : World) (hs : s.size ≤ maxLen) :
    Calls Try.prog 96 #[.string s] w fun e w' => e = .returned (.tuple #[.string (ofL (fitL s.toList)), .int .i64 (fitE s.toList)]) ∧ Below w.heap.size w w' := by
  have HB : Below w.heap.size w w := Below.refl _ _
  by_cases hr : rightL s.toList = true
  · have e1 := Lib.hid (show fitL s.toList = smallL s.toList by unfold fitL; rw [if_pos hr])
    have e2 := Lib.hid (show fitE s.toList = 0 by unfold fitE; rw [if_pos hr])
    go_enter Try.func96, Try.ntmps96
    go_wp2_with (first
      | (go_at_call 97; refine (right_any _ _ hs).mono ?_; rintro e w' ⟨rfl, rfl⟩)
      | (go_at_call 98; refine (small_any _ _ hs).mono ?_; rintro e w' ⟨rfl, hb⟩; have HB := HB.trans (hb.mono HB.size); clear hb))
    go_ret2
    exact ⟨by rw [e1.out, e2.out]; rfl, by assumption⟩
  · have hr' : rightL s.toList = false := by simpa using hr
    have e1 := Lib.hid (show fitL s.toList = [] by unfold fitL; rw [if_neg hr])
    have e2 := Lib.hid (show fitE s.toList = 4 by unfold fitE; rw [if_neg hr])
    clear hr
    go_enter Try.func96, Try.ntmps96
    go_wp2_with (first
      | (go_at_call 97; refine (right_any _ _ hs).mono ?_; rintro e w' ⟨rfl, rfl⟩))
    go_ret2
    exact ⟨by rw [e1.out, e2.out]; rfl, by assumption⟩
end Go.Proofs.Ytllfkiifkkcinaa
/- Known, isReserved and strings.Contains at "-" answer what NamePure says. -/
namespace Go.Proofs.Ytllfkiifkkcinaa
open Go.RowKit
set_option maxHeartbeats 1000000 in
set_option maxRecDepth 100000 in
theorem indexByte_any (s : ByteArray) (c : Int) (w : World) :
    Calls Try.prog 111 #[.string s, .int .u8 c] w fun e w' => e = .returned (.int .i64 (Lib.indexByte s.data.toList c.toNat.toUInt8)) ∧ w' = w := by
  go_enter Try.func111, Try.ntmps111
  go_wp2
  rw [run_callFunc_extern Try.func115 (by kernel_rfl) (by kernel_rfl) (by kernel_rfl) (e := Extern.BytealgIndexByte.indexByte) (by kernel_rfl), Lib.run_indexByteString]
  simp only [Result.andThen]
  rw [Oper.upon_value]
  go_wp2
  go_ret
  exact ⟨rfl, rfl⟩

theorem has_indexByte (c : UInt8) : ∀ l : List UInt8, l.contains c = decide (0 ≤ Lib.indexByte l c)
  | [] => by simp [Lib.indexByte]
  | b :: l => by
    have ih := has_indexByte c l
    have hg := Lib.indexByte_ge l c
    unfold Lib.indexByte
    rw [List.contains_cons, ih]
    by_cases h : b = c
    · subst h; simp
    · have h1 : (c == b) = false := by simp; exact fun e => h e.symm
      have h2 : (b == c) = false := by simp [h]
      rw [h1, h2]
      by_cases h3 : Lib.indexByte l c = -1
      · simp [h3]
      · have h4 : (Lib.indexByte l c == -1) = false := by simp [h3]
        simp only [h4, Bool.false_or, Bool.false_eq_true, if_false]
        rw [decide_eq_decide]
        omega

set_option maxHeartbeats 2000000 in
set_option maxRecDepth 100000 in
theorem dash_any (s : ByteArray) (w : World) :
    Calls Try.prog 100 #[.string s, .string ⟨#[45]⟩] w fun e w' => e = .returned (.bool (dashL s.toList)) ∧ w = w' := by
  go_enter Try.func100, Try.ntmps100
  go_wp2_with (first | (go_at_call 111; refine (indexByte_any _ _ _).mono ?_; rintro e w' ⟨rfl, rfl⟩) | go_in)
  · have h : ([45] == s.toList) = true := by assumption
    go_ret
    refine ⟨ret_bool ?_, rfl⟩
    have e : s.toList = [45] := (beq_iff_eq.1 h).symm
    rw [e]; rfl
  · go_ret
    refine ⟨ret_bool ?_, rfl⟩
    unfold dashL
    rw [has_indexByte, tl]
    rfl

set_option maxHeartbeats 1000000 in
theorem reserved_any (s : ByteArray) (w : World) :
    Calls Try.prog 101 #[.string s] w fun e w' => e = .returned (.bool (reservedL s.toList)) ∧ w = w' := by
  go_enter Try.func101, Try.ntmps101
  go_wp2
  all_goals (go_ret; exact ⟨ret_bool (by unfold reservedL; simp_all), rfl⟩)

end Go.Proofs.Ytllfkiifkkcinaa
/- Custom and Kind answer what NamePure says. -/
namespace Go.Proofs.Ytllfkiifkkcinaa
open Go.RowKit
theorem headD_get (s : ByteArray) (h : 0 < s.size) : s.toList.headD 0 = s[0] := by
  have := tl_get s 0 h
  cases e : s.toList with
  | nil => rw [e] at this; simp at this
  | cons b r => rw [e] at this; simpa using this
theorem rightL_pos (s : ByteArray) (h : rightL s.toList = true) : 0 < s.size := by
  by_cases h0 : 0 < s.size
  · exact h0
  · rw [rightL_ends _ (by rw [tl_len]; omega)] at h
    cases h
theorem customL_no (l : List UInt8) (h : rightL l = false) : customL l = false := by unfold customL; rw [h]; rfl
theorem customL_eq (s : ByteArray) (h : rightL s.toList = true) (hp : 0 < s.size) :
    customL s.toList = ((smallL s.toList == s.toList) && lowI (s[0].toNat : Int) && dashL s.toList && !reservedL s.toList) := by
  unfold customL
  rw [h, headD_get s hp, Bool.true_and]

set_option maxHeartbeats 2000000 in
theorem custom_any (s : ByteArray) (w : World) (hs : s.size ≤ maxLen) :
    Calls Try.prog 94 #[.string s] w fun e w' => e = .returned (.bool (customL s.toList)) ∧ Below w.heap.size w w' := by
  have HB : Below w.heap.size w w := Below.refl _ _
  by_cases hr : rightL s.toList = true
  · have hp := rightL_pos s hr
    have HC := Lib.hid (customL_eq s hr hp)
    go_enter Try.func94, Try.ntmps94
    go_wp2_with (first
      | (go_at_call 97; refine (right_any _ _ hs).mono ?_; rintro e w' ⟨rfl, rfl⟩)
      | (go_at_call 98; refine (small_any _ _ hs).mono ?_; rintro e w' ⟨rfl, hb⟩; have HB := HB.trans (hb.mono HB.size); clear hb)
      | (go_at_call 99; refine (isSmall_any _ _).mono ?_; rintro e w' ⟨rfl, rfl⟩)
      | (go_at_call 100; refine (dash_any _ _).mono ?_; rintro e w' ⟨rfl, rfl⟩)
      | (go_at_call 101; refine (reserved_any _ _).mono ?_; rintro e w' ⟨rfl, rfl⟩))
    all_goals (go_ret; exact ⟨ret_bool (by rw [HC.out]; simp [*]), by assumption⟩)
  · have hr' : rightL s.toList = false := by simpa using hr
    have HC := Lib.hid (customL_no _ hr')
    clear hr
    go_enter Try.func94, Try.ntmps94
    go_wp2_with (go_at_call 97; refine (right_any _ _ hs).mono ?_; rintro e w' ⟨rfl, rfl⟩)
    go_ret
    exact ⟨ret_bool HC.out.symm, HB⟩

end Go.Proofs.Ytllfkiifkkcinaa
