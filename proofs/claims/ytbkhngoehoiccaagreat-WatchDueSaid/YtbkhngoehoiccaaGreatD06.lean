/- Texts joined in build order: ForestMath ForestFns ForestSame ForestAwake ForestHoldsMath ForestHolds ForestSameF ForestNBox NameKinds AttrRem AttrMath StepRows DeskMath DeskMath2 Ref9Named AttrOpen. -/
import Derived.Test.YtbkhngoehoiccaaGreatD05
import Derived.Test.YtbkhngoehoiccaaGreatD03
import Derived.Test.YtbkhngoehoiccaaGreatD04
import Derived.Test.YtbkhngoehoiccaaGreatChecked
import Derived.WalkLawsBesides
import Derived.WalkSmall
import Derived.Lib.Hide
import Derived.Deep.QuietTactic
import Derived.BigQuiet
import Derived.Deep.SlicePairs
import Derived.ProofKit
namespace Go.Proofs.YtbkhngoehoiccaaGreat
open Go.RowKit
def getC (F : List Core) (i : Int) : Option Core := if 0 ≤ i then F[i.toNat]? else none
theorem getC_some {F : List Core} {i : Int} {c : Core} (h : getC F i = some c) : 0 ≤ i ∧ i.toNat < F.length ∧ F[i.toNat]? = some c := by
  unfold getC at h
  by_cases hi : 0 ≤ i
  · rw [if_pos hi] at h
    exact ⟨hi, (List.getElem?_eq_some_iff.1 h).1, h⟩
  · rw [if_neg hi] at h
    cases h
theorem getC_nat {F : List Core} {i : Nat} : getC F (i : Int) = F[i]? := by
  unfold getC
  rw [if_pos (by omega)]
  rfl
def parOk (F : List Core) (i : Nat) (x : Core) : Bool :=
  x.parent == -1 || ((x.kind == 1 || x.kind == 2) && match getC F x.parent with | some p => p.kind != 2 && hasZ p.kids i == 1 | none => false)
def kidOk (F : List Core) (i : Nat) (x : Core) (k : Int) : Bool :=
  hasZ x.kids k == 1 && match getC F k with | some c => (c.kind == 1 || c.kind == 2) && c.parent == (i : Int) && c.doc == x.doc | none => false
def kindK (F : List Core) (k : Int) : Int := match getC F k with | some c => c.kind | none => -1
def elemsK (F : List Core) (x : Core) : Nat := x.kids.countP (fun k => kindK F k == 1)
def docOk (F : List Core) (i : Nat) (x : Core) : Bool :=
  decide (0 ≤ x.kind) && decide (x.kind ≤ 4) && (match getC F x.doc with | some d => d.kind == 0 | none => false) && (x.kind != 0 || x.doc == (i : Int))
def shapeOk (F : List Core) (x : Core) : Bool := !(x.kind == 2 && decide (0 < x.kids.length)) && !(x.kind == 0 && (decide (1 < elemsK F x) || decide (elemsK F x < x.kids.length)))
def hostOk (F : List Core) (i : Nat) (x : Core) : Bool :=
  if x.kind = 4 then (match getC F x.host with | some h => h.kind == 1 && h.under == (i : Int) && h.doc == x.doc | none => false) else x.host == -1
def underOk (F : List Core) (i : Nat) (x : Core) : Bool :=
  x.under == -1 || (x.kind == 1 && match getC F x.under with | some u => u.kind == 4 && u.host == (i : Int) | none => false)
def textOk (x : Core) : Bool :=
  if x.kind = 1 then rightL x.name.toList && (smallL x.name.toList == x.name.toList) && (x.is.toList == [] || customL x.is.toList) && (x.data.toList == []) && rightA x.attrs
  else (x.name.toList == []) && (x.is.toList == []) && decide (x.attrs.length = 0) && (x.data.toList == [] || (x.kind == 2 && decide (x.data.size ≤ 200)))
def nodeOk (F : List Core) (i : Nat) (x : Core) : Bool := docOk F i x && parOk F i x && x.kids.all (kidOk F i x) && shapeOk F x && hostOk F i x && underOk F i x && textOk x
def nextUp (F : List Core) (i : Int) : Int := match getC F i with | some c => if c.parent = -1 then c.host else c.parent | none => -1
def headDoc (F : List Core) : Bool := match F with | c :: _ => c.kind == 0 | [] => false
def rightF (most : Int) (F : List Core) : Bool :=
  decide (1 ≤ most) && decide (most ≤ 400) && decide ((F.length : Int) ≤ most) && headDoc F && F.zipIdx.all (fun p => nodeOk F p.2 p.1) && (List.range F.length).all (fun i => endsZ (nextUp F) (F.length + 1) (i : Int))
theorem rightF_iff (most : Int) (F : List Core) : rightF most F = true ↔ (1 ≤ most ∧ most ≤ 400 ∧ (F.length : Int) ≤ most ∧ headDoc F = true) ∧ (∀ (i : Nat) x, F[i]? = some x → nodeOk F i x = true) ∧ ∀ i : Nat, i < F.length → endsZ (nextUp F) (F.length + 1) (i : Int) = true := by
  unfold rightF
  simp only [Bool.and_eq_true, decide_eq_true_eq, List.all_eq_true]
  constructor
  · rintro ⟨⟨⟨⟨⟨h1, h2⟩, h3⟩, h4⟩, h5⟩, h6⟩
    exact ⟨⟨h1, h2, h3, h4⟩, fun i x hx => h5 (x, i) (List.mk_mem_zipIdx_iff_getElem?.2 hx), fun i hi => h6 i (List.mem_range.2 hi)⟩
  · rintro ⟨⟨h1, h2, h3, h4⟩, h5, h6⟩
    exact ⟨⟨⟨⟨⟨h1, h2⟩, h3⟩, h4⟩, fun p hp => h5 p.2 p.1 (List.mk_mem_zipIdx_iff_getElem?.1 hp)⟩, fun i hi => h6 i (List.mem_range.1 hi)⟩
def parF (F : List Core) (i : Nat) : Option Nat := match F[i]? with | some c => if c.parent = -1 then none else some c.parent.toNat | none => none
def kidsF (F : List Core) (i : Nat) : List Nat := match F[i]? with | some c => c.kids.map Int.toNat | none => []
def rankF (F : List Core) (i : Nat) : Nat := rankZ (nextUp F) F.length (i : Int)
theorem hasZ_mem {L : List Int} {n : Int} (h : hasZ L n = 1) : n ∈ L := by
  have : 0 < L.countP (fun z => z == n) := by unfold hasZ at h; omega
  obtain ⟨z, hz, he⟩ := List.countP_pos_iff.1 this
  exact (beq_iff_eq.1 he) ▸ hz
theorem nodup_of_has : ∀ {L : List Int}, (∀ z ∈ L, hasZ L z = 1) → L.Nodup
  | [], _ => List.nodup_nil
  | a :: r, h => by
    have ha : hasZ (a :: r) a = 1 := h a (by simp)
    unfold hasZ at ha
    rw [List.countP_cons] at ha
    simp at ha
    rw [List.nodup_cons]
    refine ⟨fun hm => ?_, nodup_of_has (fun z hz => ?_)⟩
    · have : 0 < r.countP (fun z => z == a) := List.countP_pos_iff.2 ⟨a, hm, by simp⟩
      have h0 : r.countP (fun z => z == a) = 0 := by
        rw [List.countP_eq_zero]
        intro z hz
        have := ha z hz
        simpa using this
      omega
    · have h1 := h z (by simp [hz])
      unfold hasZ at h1 ⊢
      rw [List.countP_cons] at h1
      have : 0 < r.countP (fun y => y == z) := List.countP_pos_iff.2 ⟨z, hz, by simp⟩
      omega
theorem tree_of_right {most : Int} {F : List Core} (h : rightF most F = true) : Tree F.length (parF F) (kidsF F) (rankF F) := by
  obtain ⟨_, h2, h3⟩ := (rightF_iff most F).1 h
  have parts : ∀ (i : Nat) x, F[i]? = some x → parOk F i x = true ∧ (∀ k ∈ x.kids, kidOk F i x k = true) := fun i x hx => by
    have := h2 i x hx
    unfold nodeOk at this
    simp only [Bool.and_eq_true, List.all_eq_true] at this
    exact ⟨this.1.1.1.1.1.2, this.1.1.1.1.2⟩
  have kid : ∀ (i k : Nat), k ∈ kidsF F i → ∃ x c, F[i]? = some x ∧ F[k]? = some c ∧ (k : Int) ∈ x.kids ∧ c.parent = (i : Int) ∧ hasZ x.kids k = 1 := fun i k hk => by
    unfold kidsF at hk
    cases hx : F[i]? with
    | none => rw [hx] at hk; simp at hk
    | some x =>
      rw [hx] at hk
      obtain ⟨z, hz, rfl⟩ := List.mem_map.1 hk
      have g := (parts i x hx).2 z hz
      unfold kidOk at g
      cases hc : getC F z with
      | none => rw [hc] at g; simp at g
      | some c =>
        rw [hc] at g
        simp only [Bool.and_eq_true, beq_iff_eq] at g
        obtain ⟨e1, e2, e3⟩ := getC_some hc
        have hzz : ((z.toNat : Nat) : Int) = z := by omega
        exact ⟨x, c, rfl, e3, by rw [hzz]; exact hz, g.2.1.2, by rw [hzz]; exact g.1⟩
  have parent : ∀ (k i : Nat), parF F k = some i → ∃ c p, F[k]? = some c ∧ c.parent = (i : Int) ∧ F[i]? = some p ∧ (k : Int) ∈ p.kids := fun k i hp => by
    unfold parF at hp
    cases hc : F[k]? with
    | none => rw [hc] at hp; simp at hp
    | some c =>
      rw [hc] at hp
      dsimp only at hp
      by_cases he : c.parent = -1
      · rw [if_pos he] at hp; cases hp
      · rw [if_neg he] at hp
        injection hp with hp
        have g := (parts k c hc).1
        unfold parOk at g
        rw [beq_eq_false_iff_ne.2 he, Bool.false_or, Bool.and_eq_true] at g
        cases hg : getC F c.parent with
        | none => rw [hg] at g; simp at g
        | some p =>
          rw [hg] at g
          simp only [Bool.and_eq_true, beq_iff_eq] at g
          obtain ⟨e1, e2, e3⟩ := getC_some hg
          rw [hp] at e3
          exact ⟨c, p, rfl, by omega, e3, hasZ_mem g.2.2⟩
  refine ⟨fun i k hk => ?_, fun i k hk => ?_, fun i k hk hp => ?_, fun i => ?_, fun i k hk hp => ?_, fun i hi => ?_⟩
  · obtain ⟨x, c, _, hc, _⟩ := kid i k hk
    exact (List.getElem?_eq_some_iff.1 hc).1
  · obtain ⟨x, c, _, hc, _, hp, _⟩ := kid i k hk
    unfold parF
    rw [hc]
    dsimp only
    rw [if_neg (by omega), hp]
    rfl
  · obtain ⟨c, p, _, _, hpi, hm⟩ := parent k i hp
    refine ⟨(List.getElem?_eq_some_iff.1 hpi).1, ?_⟩
    unfold kidsF
    rw [hpi]
    exact List.mem_map.2 ⟨(k : Int), hm, by simp⟩
  · unfold kidsF
    cases hx : F[i]? with
    | none => simp
    | some x =>
      have hn : x.kids.Nodup := nodup_of_has (fun z hz => by
        have g := (parts i x hx).2 z hz
        unfold kidOk at g
        rw [Bool.and_eq_true, beq_iff_eq] at g
        exact g.1)
      have hpos : ∀ z ∈ x.kids, 0 ≤ z := fun z hz => by
        have g := (parts i x hx).2 z hz
        unfold kidOk at g
        cases hc : getC F z with
        | none => rw [hc] at g; simp at g
        | some c => exact (getC_some hc).1
      have key : ∀ l : List Int, l.Nodup → (∀ z ∈ l, 0 ≤ z) → (l.map Int.toNat).Nodup := by
        intro l
        induction l with
        | nil => intro _ _; simp
        | cons a r ih =>
          intro hl hp
          rw [List.nodup_cons] at hl
          rw [List.map_cons, List.nodup_cons]
          refine ⟨fun hm => ?_, ih hl.2 (fun z hz => hp z (by simp [hz]))⟩
          obtain ⟨z, hz, e⟩ := List.mem_map.1 hm
          have h1 := hp a (by simp)
          have h2 := hp z (by simp [hz])
          have : z = a := by omega
          exact hl.1 (this ▸ hz)
      exact key _ hn hpos
  · obtain ⟨c, p, hc, hpar, hpi, _⟩ := parent k i hp
    have hi := (List.getElem?_eq_some_iff.1 hpi).1
    have hnx : nextUp F (k : Int) = (i : Int) := by
      unfold nextUp
      rw [getC_nat, hc]
      dsimp only
      rw [if_neg (by omega), hpar]
    unfold rankF
    have := rankZ_up (nxt := nextUp F) (n := F.length) (i := (k : Int)) (by omega) (h3 k hk) (by rw [hnx]; exact h3 i hi)
    rw [this, hnx]
  · exact rankZ_le (n := F.length) (h3 i hi)
def rootF (F : List Core) (a : Nat) : Nat := rootN (parF F) (F.length + 1) a
def ordF (F : List Core) (a : Nat) : List Nat := ordN (kidsF F) (F.length + 1) a
def placeF (F : List Core) (a : Nat) : Int := match parF F a with | some p => findZ (match F[p]? with | some c => c.kids | none => []) (a : Int) | none => -1
end Go.Proofs.YtbkhngoehoiccaaGreat
namespace Go.Proofs.YtbkhngoehoiccaaGreat
open Go.RowKit
abbrev nodVal (x : NodeD) : Value := .agg #[.int .i64 x.core.kind, .string x.core.name, .string x.core.is, .string x.core.data, .slice x.aA x.aN x.aC, .int .i64 x.core.parent, .slice x.kA x.kN x.kC, .int .i64 x.core.host, .int .i64 x.core.under, .int .i64 x.core.doc]
def smallN (x : NodeD) : Prop := x.core.kids.length ≤ 1000 ∧ x.core.attrs.length ≤ 1000 ∧ x.core.name.size ≤ 1000
def smallX (x : NodeD) : Prop := x.core.attrs.length ≤ 1000 ∧ x.core.name.size ≤ 1000
def smallF (L : List NodeD) : Prop := L.length ≤ 1000 ∧ ∀ x ∈ L, smallN x
theorem small_of_short {L : List NodeD} (h : shortF L = true) : smallF L := by
  unfold shortF at h
  simp only [Bool.and_eq_true, decide_eq_true_eq, List.all_eq_true] at h
  refine ⟨by omega, fun x hx => ?_⟩
  have := h.2 x hx
  unfold shortN at this
  simp only [Bool.and_eq_true, decide_eq_true_eq] at this
  exact ⟨by omega, by omega, by omega⟩
def docC : Core := ⟨0, ⟨#[]⟩, ⟨#[]⟩, ⟨#[]⟩, [], -1, [], -1, -1, 0⟩
def newOk (most : Int) : Bool := decide (1 ≤ most) && decide (most ≤ 400)
def newL (most : Int) : List Core := if newOk most then [docC] else []
def newM (most : Int) : Int := if newOk most then most else 0
def newE (most : Int) : Int := if newOk most then 0 else 1
def thereF (m : Int) (F : List Core) (n : Int) : Bool := rightF m F && decide (0 ≤ n) && decide (n < (F.length : Int))
def rootZ (m : Int) (F : List Core) (n : Int) : Int := if thereF m F n then (rootF F n.toNat : Int) else -1
def placeZ (m : Int) (F : List Core) (n : Int) : Int := if thereF m F n then placeF F n.toNat else -1
def ForPost (w : World) (F : List Core) (m : Int) (rest : List Value) (e : Ending) (w' : World) : Prop :=
  ∃ a len cap L, e = .returned (.tuple (forV a len cap m :: rest).toArray) ∧ NodeRow w' a len cap L ∧ coreL L = F ∧ Below w.heap.size w w'
def OrdPost (w : World) (l : List Int) (e : Ending) (w' : World) : Prop := ∃ a len cap, e = .returned (.slice a len cap) ∧ IntRow w' a len cap l ∧ Below w.heap.size w w'
end Go.Proofs.YtbkhngoehoiccaaGreat
namespace Go.Proofs.YtbkhngoehoiccaaGreat
open Go.RowKit
end Go.Proofs.YtbkhngoehoiccaaGreat
namespace Go.Proofs.YtbkhngoehoiccaaGreat
open Go.RowKit
def f2 : List Core := [docC, ⟨1, ⟨#[112]⟩, ⟨#[]⟩, ⟨#[]⟩, [], -1, [], -1, -1, 0⟩]
theorem in0 : In64 0 := ⟨by decide, by decide⟩
theorem row_free {w : World} {g : Nat} {cs : Array Value} {t : TypeId} (h : w.heap[g]? = some (.cells cs t (0, 0))) (j : Nat) : w.frozen? ⟨g, j, none⟩ = false := by simp [World.frozen?, h]
structure Box (w W : World) (g : Nat) (a : Option Addr) (len cap : Nat) (m : Int) (L : List NodeD) (F : List Core) : Prop where
  row : NodeRow W a len cap L
  core : coreL L = F
  low : w.heap.size ≤ g
  lt : g < W.heap.size
  c0 : W.cell? ⟨g, 0, none⟩ = some (.slice a len cap)
  c1 : W.cell? ⟨g, 1, none⟩ = some (.int .i64 m)
  below : Below w.heap.size w W
theorem Box.keep {w W W2 : World} {g : Nat} {a : Option Addr} {len cap : Nat} {m : Int} {L : List NodeD} {F : List Core} (h : Box w W g a len cap m L F) (hb : Below W.heap.size W W2) : Box w W2 g a len cap m L F :=
  ⟨h.row.below hb, h.core, h.low, Nat.lt_of_lt_of_le h.lt hb.size, (hb.cell (p := ⟨g, 0, none⟩) h.lt).trans h.c0, (hb.cell (p := ⟨g, 1, none⟩) h.lt).trans h.c1, h.below.trans (hb.mono h.below.size)⟩
end Go.Proofs.YtbkhngoehoiccaaGreat
namespace Go.Proofs.YtbkhngoehoiccaaGreat
open Go.RowKit
theorem thereF_of {m : Int} {F : List Core} (h : rightF m F = true) {n : Nat} (hn : n < F.length) : thereF m F (n : Int) = true := by
  unfold thereF
  rw [h, decide_eq_true (by omega), decide_eq_true (by omega)]
  rfl
theorem rootZ_eq {m : Int} {F : List Core} (h : rightF m F = true) {a : Nat} (ha : a < F.length) : rootZ m F (a : Int) = (rootF F a : Nat) := by
  unfold rootZ
  rw [thereF_of h ha]
  rfl
theorem find_at {L : List Int} {n : Int} (h : n ∈ L) : ∃ k : Nat, findZ L n = (k : Int) ∧ L[k]? = some n := by
  have hl : findN L n < L.length := List.findIdx_lt_length_of_exists ⟨n, h, by simp⟩
  refine ⟨findN L n, ?_, ?_⟩
  · unfold findZ
    rw [if_pos hl]
  · have := List.findIdx_getElem (w := hl)
    rw [List.getElem?_eq_getElem hl]
    congr 1
    exact beq_iff_eq.1 this
end Go.Proofs.YtbkhngoehoiccaaGreat
namespace Go.Proofs.YtbkhngoehoiccaaGreat
open Go.RowKit
theorem Box.start {w : World} {a : Option Addr} {len cap : Nat} {m : Int} {L : List NodeD} (h : NodeRow w a len cap L) : Box w (w.alloc (forB a len cap m)) w.heap.size a len cap m L (coreL L) :=
  ⟨h.below (below_box _ _), rfl, Nat.le_refl _, by simp, cell_of_row (w.alloc (forB a len cap m)) w.heap.size 0 _ 24 (0, 0) (heap_alloc_new w _), cell_of_row (w.alloc (forB a len cap m)) w.heap.size 1 _ 24 (0, 0) (heap_alloc_new w _), below_box _ _⟩
end Go.Proofs.YtbkhngoehoiccaaGreat
namespace Go.Proofs.YtbkhngoehoiccaaGreat
open Go.RowKit
theorem Box.next {w : World} {B : Obj} {a : Option Addr} {len cap : Nat} {m : Int} {L : List NodeD} (h : NodeRow w a len cap L) : Box w ((w.alloc B).alloc (forB a len cap m)) (w.heap.size + 1) a len cap m L (coreL L) := by
  have hs : (w.alloc B).heap.size = w.heap.size + 1 := by simp
  have h1 := Box.start (w := w.alloc B) (m := m) (h.below (below_box w B))
  refine ⟨h1.row, rfl, by omega, by simp, ?_, ?_, (below_box w B).alloc (by simp) _⟩
  · have := h1.c0
    rwa [hs] at this
  · have := h1.c1
    rwa [hs] at this
end Go.Proofs.YtbkhngoehoiccaaGreat
namespace Go.Proofs.YtbkhngoehoiccaaGreat
open Go.RowKit
structure NBox (w W : World) (g : Nat) (x : NodeD) : Prop where
  lt : g < W.heap.size
  c0 : W.cell? ⟨g, 0, none⟩ = some (.int .i64 x.core.kind)
  c1 : W.cell? ⟨g, 1, none⟩ = some (.string x.core.name)
  c2 : W.cell? ⟨g, 2, none⟩ = some (.string x.core.is)
  c3 : W.cell? ⟨g, 3, none⟩ = some (.string x.core.data)
  c4 : W.cell? ⟨g, 4, none⟩ = some (.slice x.aA x.aN x.aC)
  c5 : W.cell? ⟨g, 5, none⟩ = some (.int .i64 x.core.parent)
  c6 : W.cell? ⟨g, 6, none⟩ = some (.slice x.kA x.kN x.kC)
  c7 : W.cell? ⟨g, 7, none⟩ = some (.int .i64 x.core.host)
  c8 : W.cell? ⟨g, 8, none⟩ = some (.int .i64 x.core.under)
  c9 : W.cell? ⟨g, 9, none⟩ = some (.int .i64 x.core.doc)
  ok : NodeOk W x
theorem NBox.keep {w W W2 : World} {g : Nat} {x : NodeD} (h : NBox w W g x) (hb : Below W.heap.size W W2) : NBox w W2 g x := by
  have e : ∀ o, W2.cell? ⟨g, o, none⟩ = W.cell? ⟨g, o, none⟩ := fun o => hb.cell (p := ⟨g, o, none⟩) h.lt
  exact ⟨Nat.lt_of_lt_of_le h.lt hb.size, (e _).trans h.c0, (e _).trans h.c1, (e _).trans h.c2, (e _).trans h.c3, (e _).trans h.c4, (e _).trans h.c5, (e _).trans h.c6, (e _).trans h.c7, (e _).trans h.c8, (e _).trans h.c9, h.ok.below hb⟩
abbrev nodB (x : NodeD) : Obj := .cells #[.int .i64 x.core.kind, .string x.core.name, .string x.core.is, .string x.core.data, .slice x.aA x.aN x.aC, .int .i64 x.core.parent, .slice x.kA x.kN x.kC, .int .i64 x.core.host, .int .i64 x.core.under, .int .i64 x.core.doc] 58
theorem NBox.next {w : World} {B : Obj} {x : NodeD} (h : NodeOk w x) : NBox w ((w.alloc B).alloc (nodB x)) (w.heap.size + 1) x := by
  have hs : (w.alloc B).heap.size = w.heap.size + 1 := by simp
  have c : ∀ (j : Nat), ((w.alloc B).alloc (nodB x)).cell? ⟨w.heap.size + 1, j, none⟩ = (#[.int .i64 x.core.kind, .string x.core.name, .string x.core.is, .string x.core.data, .slice x.aA x.aN x.aC, .int .i64 x.core.parent, .slice x.kA x.kN x.kC, .int .i64 x.core.host, .int .i64 x.core.under, .int .i64 x.core.doc] : Array Value)[j]? := fun j => by
    have := cell_of_row ((w.alloc B).alloc (nodB x)) (w.alloc B).heap.size j _ 58 (0, 0) (heap_alloc_new _ _)
    rwa [hs] at this
  exact ⟨by simp, c 0, c 1, c 2, c 3, c 4, c 5, c 6, c 7, c 8, c 9, h.below ((below_box w B).alloc (by simp) _)⟩
end Go.Proofs.YtbkhngoehoiccaaGreat
namespace Go.Proofs.YtbkhngoehoiccaaGreat
open Go.RowKit
theorem headD_get (s : ByteArray) (h : 0 < s.size) : s.toList.headD 0 = s[0] := by
  have := tl_get s 0 h
  cases e : s.toList with
  | nil => rw [e] at this; simp at this
  | cons b r => rw [e] at this; simpa using this
theorem rightL_pos (s : ByteArray) (h : rightL s.toList = true) : 0 < s.size := by
  by_cases h0 : 0 < s.size
  · exact h0
  · rw [rightL_ends _ (by rw [tl_len]; omega)] at h
    cases h
theorem customL_no (l : List UInt8) (h : rightL l = false) : customL l = false := by unfold customL; rw [h]; rfl
theorem customL_eq (s : ByteArray) (h : rightL s.toList = true) (hp : 0 < s.size) :
    customL s.toList = ((smallL s.toList == s.toList) && lowI (s[0].toNat : Int) && dashL s.toList && !reservedL s.toList) := by
  unfold customL
  rw [h, headD_get s hp, Bool.true_and]
set_option maxHeartbeats 2000000 in
theorem custom_any (s : ByteArray) (w : World) (hs : s.size ≤ maxLen) :
    Calls Tryz.prog 92 #[.string s] w fun e w' => e = .returned (.bool (customL s.toList)) ∧ Below w.heap.size w w' := by
  have HB : Below w.heap.size w w := Below.refl _ _
  by_cases hr : rightL s.toList = true
  · have hp := rightL_pos s hr
    have HC := Lib.hid (customL_eq s hr hp)
    go_enter Tryz.func92, Tryz.ntmps92
    go_wp2_with (first
      | (go_at_call 109; refine (right_any _ _ hs).mono ?_; rintro e w' ⟨rfl, rfl⟩)
      | (go_at_call 110; refine (small_any _ _ hs).mono ?_; rintro e w' ⟨rfl, hb⟩; have HB := HB.trans (hb.mono HB.size); clear hb)
      | (go_at_call 111; refine (isSmall_any _ _).mono ?_; rintro e w' ⟨rfl, rfl⟩)
      | (go_at_call 112; refine (dash_any _ _).mono ?_; rintro e w' ⟨rfl, rfl⟩)
      | (go_at_call 113; refine (reserved_any _ _).mono ?_; rintro e w' ⟨rfl, rfl⟩))
    all_goals (go_ret; exact ⟨ret_bool (by rw [HC.out]; simp [*]), by assumption⟩)
  · have hr' : rightL s.toList = false := by simpa using hr
    have HC := Lib.hid (customL_no _ hr')
    clear hr
    go_enter Tryz.func92, Tryz.ntmps92
    go_wp2_with (go_at_call 109; refine (right_any _ _ hs).mono ?_; rintro e w' ⟨rfl, rfl⟩)
    go_ret
    exact ⟨ret_bool HC.out.symm, HB⟩
end Go.Proofs.YtbkhngoehoiccaaGreat
namespace Go.Proofs.YtbkhngoehoiccaaGreat
open Go.RowKit
def RemPost (w : World) (M : AL) (z : Bool) (e : Ending) (w' : World) : Prop := ∃ a len cap, e = .returned (.tuple #[.slice a len cap, .bool z]) ∧ AttrRow w' a len cap M ∧ Below w.heap.size w w'
theorem RemPost.mk {w w' : World} {M : AL} {z : Bool} {e : Ending} {a : Option Addr} {len cap : Nat} (he : e = .returned (.tuple #[.slice a len cap, .bool z])) (h : AttrRow w' a len cap M) (hb : Below w.heap.size w w') : RemPost w M z e w' := ⟨a, len, cap, he, h, hb⟩
def TogPost (w : World) (M : AL) (t : Bool) (z : Int) (e : Ending) (w' : World) : Prop := ∃ a len cap, e = .returned (.tuple #[.slice a len cap, .bool t, .int .i64 z]) ∧ AttrRow w' a len cap M ∧ Below w.heap.size w w'
theorem TogPost.mk {w w' : World} {M : AL} {t : Bool} {z : Int} {e : Ending} {a : Option Addr} {len cap : Nat} (he : e = .returned (.tuple #[.slice a len cap, .bool t, .int .i64 z])) (h : AttrRow w' a len cap M) (hb : Below w.heap.size w w') : TogPost w M t z e w' := ⟨a, len, cap, he, h, hb⟩
end Go.Proofs.YtbkhngoehoiccaaGreat
namespace Go.Proofs.YtbkhngoehoiccaaGreat
end Go.Proofs.YtbkhngoehoiccaaGreat
namespace Go.Proofs.YtbkhngoehoiccaaGreat
open Go.RowKit
end Go.Proofs.YtbkhngoehoiccaaGreat
namespace Go.Proofs.YtbkhngoehoiccaaGreat
open Go.RowKit
theorem firstZ_append {α : Type} {p : α → Bool} {L : List α} {x : α} : firstZ p (L ++ [x]) = if 0 ≤ firstZ p L then firstZ p L else if p x = true then (L.length : Int) else -1 := by
  rcases firstZ_cases p L with ⟨h1, h2⟩ | ⟨k, y, h1, h2, h3, h4⟩
  · rw [h1, if_neg (by decide)]
    cases hp : p x with
    | false =>
      rw [if_neg (by decide)]
      refine firstZ_no fun y hy => ?_
      rcases List.mem_append.1 hy with h | h
      · exact h2 y h
      · rw [List.mem_singleton.1 h, hp]
    | true =>
      rw [if_pos rfl]
      refine firstZ_is (x := x) (by simp) hp fun j y hj hy => ?_
      rw [List.getElem?_append_left hj] at hy
      exact h2 y (List.mem_of_getElem? hy)
  · obtain ⟨hl, _⟩ := List.getElem?_eq_some_iff.1 h2
    rw [h1, if_pos (by omega)]
    refine firstZ_is (x := y) (by rw [List.getElem?_append_left hl]; exact h2) h3 fun j z hj hz => ?_
    rw [List.getElem?_append_left (by omega)] at hz
    exact h4 j z hj hz
section
variable {D : DeskD} {l s : List UInt8} {i j : Nat} {x y : DefD}
end
theorem asc_iff : ∀ {M : List WaitD} {last : Int}, (∀ (k : Nat) x, M[k]? = some x → (match k with | 0 => last | k + 1 => lastT M (k + 1)) < x.ticket) ↔ (∀ x ∈ M, last < x.ticket) ∧ M.Pairwise (fun x y => x.ticket < y.ticket)
  | [], last => by simp
  | y :: r, last => by
    have ih := @asc_iff r y.ticket
    rw [List.pairwise_cons]
    constructor
    · intro h
      have h0 := h 0 y rfl
      obtain ⟨h1, h2⟩ := ih.1 (fun k x hx => by
        have := h (k + 1) x (by simpa using hx)
        cases k with
        | zero => simpa [lastT] using this
        | succ k => simpa [lastT] using this)
      refine ⟨fun x hx => ?_, h1, h2⟩
      rcases List.mem_cons.1 hx with rfl | hx
      · exact h0
      · have := h1 x hx
        simp at h0
        omega
    · rintro ⟨h0, h1, h2⟩ k x hx
      cases k with
      | zero => simp at hx; subst hx; exact h0 _ (by simp)
      | succ k =>
        have := ih.2 ⟨h1, h2⟩ k x (by simpa using hx)
        cases k with
        | zero => simpa [lastT] using this
        | succ k => simpa [lastT] using this
theorem asc_all {M : List WaitD} : (∀ (k : Nat) x, M[k]? = some x → lastT M k < x.ticket) ↔ (∀ x ∈ M, -1 < x.ticket) ∧ M.Pairwise (fun x y => x.ticket < y.ticket) := by
  rw [← asc_iff]
  constructor
  · intro h k x hx
    have := h k x hx
    cases k <;> exact this
  · intro h k x hx
    have := h k x hx
    cases k <;> exact this
theorem RightK.asc {D : DeskD} (h : RightK D) : (∀ x ∈ D.waits, -1 < x.ticket) ∧ D.waits.Pairwise (fun x y => x.ticket < y.ticket) := asc_all.1 fun k x hx => (h.t k x hx).2.2.1
theorem RightK.wait {D : DeskD} (h : RightK D) {x : WaitD} (hx : x ∈ D.waits) : customL x.name.toList = true ∧ namedZ D.defs x.name.toList = -1 ∧ -1 < x.ticket ∧ x.ticket < D.next := by
  obtain ⟨k, hk⟩ := List.getElem?_of_mem hx
  have h1 := h.t k x hk
  exact ⟨h1.1, h1.2.1, h.asc.1 x hx, h1.2.2.2⟩
theorem RightK.of {D : DeskD} (n0 : 0 ≤ D.next) (n1 : D.next ≤ 100000) (d : ∀ (k : Nat) (x : DefD), D.defs[k]? = some x → customL x.name.toList = true ∧ (x.loc.toList = x.name.toList ∨ knownL x.loc.toList = true) ∧ 0 ≤ x.cls ∧ x.cls ≤ 11 ∧ namedZ D.defs x.name.toList = (k : Int) ∧ classedZ D.defs x.cls = (k : Int)) (t : ∀ x ∈ D.waits, customL x.name.toList = true ∧ namedZ D.defs x.name.toList = -1 ∧ -1 < x.ticket ∧ x.ticket < D.next) (hp : D.waits.Pairwise (fun x y => x.ticket < y.ticket)) : RightK D :=
  ⟨n0, n1, d, fun k x hx => by
    have hm := List.mem_of_getElem? hx
    obtain ⟨h1, h2, _, h4⟩ := t x hm
    exact ⟨h1, h2, asc_all.2 ⟨fun y hy => (t y hy).2.2.1, hp⟩ k x hx, h4⟩⟩
structure MayOk (D : DeskD) (classes : Int) (s base : List UInt8) (c : Int) : Prop where
  r : RightK D
  c0 : 0 ≤ c
  c1 : c < classes
  c2 : c ≤ 11
  cus : customL s = true
  nm : namedZ D.defs s = -1
  cl : classedZ D.defs c = -1
  bs : base = [] ∨ knownL base = true
  idle : D.busy = false
theorem may_ok9 {D : DeskD} {classes : Int} {s base : List UInt8} {c : Int} : mayE D classes s base c = 0 ↔ MayOk D classes s base c := by
  unfold mayE
  have hn := (firstZ_lt (isName s) D.defs).1
  have hc := (firstZ_lt (isCls c) D.defs).1
  constructor
  · intro h
    split at h
    · omega
    rename_i h1
    split at h
    · omega
    rename_i h2
    split at h
    · omega
    rename_i h3
    split at h
    · omega
    rename_i h4
    split at h
    · omega
    rename_i h5
    refine ⟨rightK_iff.1 (by cases hr : rightK D with | true => rfl | false => exact absurd (.inl hr) h1), by omega, by omega, by omega, by cases hr : customL s with | true => rfl | false => exact absurd hr h2, ?_, ?_, ?_, by cases hr : D.busy with | false => rfl | true => exact absurd hr h5⟩
    · unfold namedZ at *; omega
    · unfold classedZ at *; omega
    · by_cases hb : base = []
      · exact .inl hb
      · refine .inr ?_
        cases hr : knownL base with
        | true => rfl
        | false => exact absurd ⟨hb, hr⟩ h4
  · rintro ⟨r, c0, c1, c2, cus, nm, cl, bs, idle⟩
    have hr := rightK_iff.2 r
    have g1 : ¬ (rightK D = false ∨ c < 0 ∨ classes ≤ c ∨ 11 < c) := by
      rw [hr]
      rintro (h | h | h | h)
      · cases h
      · omega
      · omega
      · omega
    have g2 : ¬ (base ≠ [] ∧ knownL base = false) := by
      rintro ⟨h1, h2⟩
      rcases bs with h | h
      · exact h1 h
      · rw [h] at h2; cases h2
    rw [if_neg g1, if_neg (by rw [cus]; decide), if_neg (by rw [nm, cl]; omega), if_neg g2, if_neg (by rw [idle]; decide)]
section
variable {D : DeskD} {classes : Int} {s base : ByteArray} {c : Int}
theorem newDef_loc : (newDef s base c).loc.toList = if base.toList = [] then s.toList else base.toList := by
  unfold newDef
  dsimp only
  split <;> rfl
theorem named_add {n : List UInt8} : namedZ (addK D s base c).defs n = if 0 ≤ namedZ D.defs n then namedZ D.defs n else if s.toList = n then (D.defs.length : Int) else -1 := by
  unfold namedZ addK
  dsimp only
  rw [firstZ_append]
  unfold isName newDef
  simp only [beq_iff_eq]
theorem classed_add {n : Int} : classedZ (addK D s base c).defs n = if 0 ≤ classedZ D.defs n then classedZ D.defs n else if c = n then (D.defs.length : Int) else -1 := by
  unfold classedZ addK
  dsimp only
  rw [firstZ_append]
  unfold isCls newDef
  simp only [beq_iff_eq]
theorem MayOk.right (h : MayOk D classes s.toList base.toList c) : RightK (addK D s base c) := by
  refine RightK.of h.r.n0 h.r.n1 (fun k x hx => ?_) (fun x hx => ?_) ?_
  · by_cases hk : k < D.defs.length
    · unfold addK at hx
      dsimp only at hx
      rw [List.getElem?_append_left hk] at hx
      obtain ⟨h1, h2, h3, h4, h5, h6⟩ := h.r.d k x hx
      refine ⟨h1, h2, h3, h4, ?_, ?_⟩
      · rw [named_add, h5, if_pos (by omega)]
      · rw [classed_add, h6, if_pos (by omega)]
    · have hl : k = D.defs.length := by
        obtain ⟨hl, _⟩ := List.getElem?_eq_some_iff.1 hx
        unfold addK at hl
        simp at hl
        omega
      subst hl
      have hx' : x = newDef s base c := by
        unfold addK at hx
        simp at hx
        exact hx.symm
      subst hx'
      refine ⟨h.cus, ?_, h.c0, h.c2, ?_, ?_⟩
      · rw [newDef_loc]
        show (if base.toList = [] then s.toList else base.toList) = s.toList ∨ _
        by_cases hb : base.toList = []
        · exact .inl (if_pos hb)
        · rw [if_neg hb]
          exact .inr (h.bs.resolve_left hb)
      · rw [named_add]
        show (if 0 ≤ namedZ D.defs s.toList then _ else if s.toList = s.toList then _ else _) = _
        rw [h.nm, if_neg (by decide), if_pos rfl]
      · rw [classed_add]
        show (if 0 ≤ classedZ D.defs c then _ else if c = c then _ else _) = _
        rw [h.cl, if_neg (by decide), if_pos rfl]
  · unfold addK restT at hx
    dsimp only at hx
    obtain ⟨h1, h2⟩ := List.mem_filter.1 hx
    obtain ⟨h3, h4, h5, h6⟩ := h.r.wait h1
    refine ⟨h3, ?_, h5, h6⟩
    rw [named_add, h4, if_neg (by decide), if_neg (by intro e; rw [e] at h2; simp at h2)]
  · exact h.r.asc.2.filter _
theorem MayOk.other (h : MayOk D classes s.toList base.toList c) {o b : List UInt8} (ho : customL o = true) : mayE (addK D s base c) classes o b c = 10 := by
  unfold mayE
  rw [if_neg (by
    rw [rightK_iff.2 h.right]
    have := h.c0; have := h.c1; have := h.c2
    rintro (h | h | h | h)
    · cases h
    · omega
    · omega
    · omega), if_neg (by rw [ho]; decide), if_pos (.inr (by rw [classed_add, h.cl, if_neg (by decide), if_pos rfl]; omega))]
end
end Go.Proofs.YtbkhngoehoiccaaGreat
namespace Go.Proofs.YtbkhngoehoiccaaGreat
open Go.RowKit
section
variable {D : DeskD} {s t base other : ByteArray} {a b : Int}
theorem told_other {L : List WaitD} {s t : List UInt8} (h : s ≠ t) : toldZ (restT L t) s = toldZ L s := by
  unfold toldZ restT
  rw [List.filter_filter]
  congr 1
  refine List.filter_congr fun x _ => ?_
  by_cases hx : x.name.toList = s
  · have : (x.name.toList == t) = false := beq_eq_false_iff_ne.2 (fun e => h (by rw [← hx, e]))
    rw [this, beq_iff_eq.2 hx]
    rfl
  · rw [beq_eq_false_iff_ne.2 hx]
    rfl
theorem told_same {L : List WaitD} {s : List UInt8} : toldZ (restT L s) s = [] := by
  unfold toldZ restT
  rw [List.filter_filter]
  rw [List.map_eq_nil_iff, List.filter_eq_nil_iff]
  intro x _
  cases h : x.name.toList == s <;> simp
end
section
variable {D : DeskD} {s : ByteArray}
end
def nmK (k : Nat) : List UInt8 := [120, 45, 97 + UInt8.ofNat k]
theorem nmK_one {j k : Nat} (hj : j < 6) (hk : k < 6) (h : nmK j = nmK k) : j = k := by
  have : ∀ j : Fin 6, ∀ k : Fin 6, nmK j = nmK k → j = k := by decide
  have := this ⟨j, hj⟩ ⟨k, hk⟩ h
  exact congrArg Fin.val this
theorem nmK_custom {k : Nat} (hk : k < 6) : customL (nmK k) = true := by
  have : ∀ k : Fin 6, customL (nmK k) = true := by decide
  exact this ⟨k, hk⟩
structure Tells (D : DeskD) (W : Nat → List Int) (df us : Nat → Bool) : Prop where
  r : RightK D
  idle : D.busy = false
  want : ∀ k, k < 6 → W k = toldZ D.waits (nmK k)
  dfd : ∀ k, k < 6 → df k = decide (0 ≤ namedZ D.defs (nmK k))
  usd : ∀ c : Nat, c < 12 → us c = decide (0 ≤ classedZ D.defs (c : Int))
  all : ∀ x ∈ D.waits, ∃ k, k < 6 ∧ x.name.toList = nmK k
theorem Tells.start : Tells ⟨[], [], 0, false⟩ (fun _ => []) (fun _ => false) (fun _ => false) := by
  refine ⟨rightK_iff.1 (by decide), rfl, fun k _ => rfl, fun k _ => ?_, fun c _ => ?_, fun x hx => by cases hx⟩
  · exact (decide_eq_false (by show ¬ 0 ≤ firstZ _ []; unfold firstZ; simp)).symm
  · exact (decide_eq_false (by show ¬ 0 ≤ firstZ _ []; unfold firstZ; simp)).symm
section
variable {D : DeskD} {W : Nat → List Int} {df us : Nat → Bool} {k : Nat} {s : ByteArray}
theorem Tells.may (h : Tells D W df us) {c : Nat} (hk : k < 6) (hs : s.toList = nmK k) (hc : c < 12) : mayE D 12 s.toList [] (c : Int) = if df k = true ∨ us c = true then 10 else 0 := by
  unfold mayE
  rw [if_neg (by
    rw [rightK_iff.2 h.r]
    rintro (h | h | h | h)
    · cases h
    · omega
    · omega
    · omega), if_neg (by rw [hs, nmK_custom hk]; decide)]
  have h1 : (0 ≤ namedZ D.defs s.toList) = (df k = true) := by rw [hs, h.dfd k hk, decide_eq_true_eq]
  have h2 : (0 ≤ classedZ D.defs (c : Int)) = (us c = true) := by rw [h.usd c hc, decide_eq_true_eq]
  simp only [h1, h2]
  split
  · rfl
  · rw [if_neg (by rintro ⟨h, _⟩; exact h rfl), if_neg (by rw [h.idle]; decide)]
theorem Tells.add (h : Tells D W df us) {c : Nat} (hk : k < 6) (hs : s.toList = nmK k) (hc : c < 12) (hd : df k = false) (hu : us c = false) {e : ByteArray} (he : e.toList = []) : Tells (addK D s e (c : Int)) (fun j => if j = k then [] else W j) (fun j => if j = k then true else df j) (fun j => if j = c then true else us j) := by
  have hm : MayOk D 12 s.toList e.toList (c : Int) := may_ok9.1 (by rw [he, h.may hk hs hc, if_neg (by rw [hd, hu]; decide)])
  refine ⟨hm.right, rfl, fun j hj => ?_, fun j hj => ?_, fun j hj => ?_, fun x hx => ?_⟩
  · show _ = toldZ (restT D.waits s.toList) (nmK j)
    by_cases hjk : j = k
    · subst hjk
      rw [if_pos rfl, hs, told_same]
    · rw [if_neg hjk, hs, told_other (fun e => hjk (nmK_one hj hk e)), h.want j hj]
  · rw [named_add]
    by_cases hjk : j = k
    · subst hjk
      rw [if_pos rfl]
      refine (decide_eq_true ?_).symm
      split
      · rename_i h0; exact h0
      · omega
    · rw [if_neg hjk, h.dfd j hj]
      by_cases h0 : 0 ≤ namedZ D.defs (nmK j)
      · rw [if_pos h0]
      · rw [if_neg h0, if_neg (fun e => hjk (nmK_one hj hk (by rw [← e, hs]))), decide_eq_false h0]
        rfl
  · rw [classed_add]
    by_cases hjk : j = c
    · subst hjk
      rw [if_pos rfl]
      refine (decide_eq_true ?_).symm
      split
      · rename_i h0; exact h0
      · omega
    · rw [if_neg hjk, h.usd j hj]
      by_cases h0 : 0 ≤ classedZ D.defs (j : Int)
      · rw [if_pos h0]
      · rw [if_neg h0, if_neg (by omega), decide_eq_false h0]
        rfl
  · exact h.all x (List.mem_filter.1 hx).1
end
end Go.Proofs.YtbkhngoehoiccaaGreat
namespace Go.Proofs.YtbkhngoehoiccaaGreat
open Go.RowKit
abbrev deskB (da : Option Addr) (dl dc : Nat) (wa : Option Addr) (wl wc : Nat) (nx : Int) (bz : Bool) : Obj := .cells #[.slice da dl dc, .slice wa wl wc, .int .i64 nx, .bool bz] 29
theorem below_desk (w : World) (B : Obj) : Below w.heap.size w (w.alloc B) := (Below.refl _ _).alloc (Nat.le_refl _) B
end Go.Proofs.YtbkhngoehoiccaaGreat
namespace Go.Proofs.YtbkhngoehoiccaaGreat
open Go.RowKit Go.Deep Go.ChangeShapes Go.WideShapes
theorem block_lt {W : World} {p : Addr} {v : Value} (h : W.cell? p = some v) : p.block < W.heap.size := by
  rcases Nat.lt_or_ge p.block W.heap.size with h1 | h1
  · exact h1
  · unfold World.cell? at h
    rw [Array.getElem?_eq_none h1] at h
    simp at h
theorem open_attrs {H : Type} {enc : TypeId × Value → H} {W : World} {a : Option Addr} {len cap : Nat} {d : DataW H} {p : List MemPlace}
    (h : DataW.Trod enc Tryz.prog W 0 (fun _ => true) true 55 (.slice a len cap) d p) : ∃ L, AttrRow W a len cap L := by
  obtain ⟨fuel, hf⟩ := h
  rcases open_slice_pairs Tryz.underlying55 Tryz.underlying70 (by kernel_rfl) rfl rfl (by kernel_rfl) (by kernel_rfl) hf with ⟨hcs, _⟩ | ⟨ad, l, c, m, n, V0, V1, D0, D1, P0, P1, hcs, _, hl, hm, hmm, _, hi⟩
  · simp [Value.cells] at hcs
    obtain ⟨rfl, rfl, rfl⟩ := hcs
    exact ⟨[], SRow.nil, by simp, fun _ => rfl⟩
  · simp [Value.cells] at hcs
    obtain ⟨rfl, rfl, rfl⟩ := hcs
    have hml : len ≤ m := by rw [hmm]; simpa using hl
    have each : ∀ i, i < len → ∃ x : ByteArray × ByteArray, W.cell? (ad.add (i * 2)) = some (.string x.1) ∧ W.cell? (ad.add (i * 2 + 1)) = some (.string x.2) ∧ x.1.size ≤ maxLen ∧ x.2.size ≤ maxLen := by
      intro i hil
      obtain ⟨h1, h2, h3, h4⟩ := hi i (by omega)
      obtain ⟨s, hs, _, hs3⟩ := DataW.trod_string Tryz.underlying9 h3
      obtain ⟨t, ht, _, ht3⟩ := DataW.trod_string Tryz.underlying9 h4
      simp at hs ht
      exact ⟨(s, t), by rw [h1, hs], by rw [h2, ht], hs3, ht3⟩
    obtain ⟨q, hq⟩ := choose_lt each
    refine ⟨(List.range len).map q, ⟨by simp, hl, hm, fun x _ => encA_len x, ?_⟩, ?_, fun h => by cases h⟩
    · rcases Nat.eq_zero_or_pos len with h0 | h0
      · exact .inl h0
      · obtain ⟨b, off, spot⟩ := ad
        have hc := (hq 0 h0).1
        have hspot : spot = none := by simpa [Addr.add] using World.cell?_spot hc
        subst hspot
        refine .inr ⟨b, off, rfl, ?_, ?_⟩
        · have := block_lt hc
          rwa [add_plain] at this
        · intro i x j v hx hv
          obtain ⟨hil, hgx⟩ := List.getElem?_eq_some_iff.1 hx
          have hil' : i < len := by simpa using hil
          simp at hgx
          obtain ⟨h1, h2, _⟩ := hq i hil'
          rw [add_plain] at h1 h2
          rw [hgx] at h1 h2
          obtain ⟨hjl, hgv⟩ := List.getElem?_eq_some_iff.1 hv
          match j, hjl with
          | 0, _ => simp [encA] at hgv; subst hgv; exact h1
          | 1, _ => simp [encA] at hgv; subst hgv; simpa [Nat.add_assoc] using h2
    · intro x hx
      obtain ⟨i, hi1, rfl⟩ := List.mem_map.1 hx
      have := hq i (List.mem_range.1 hi1)
      exact ⟨this.2.2.1, this.2.2.2⟩
end Go.Proofs.YtbkhngoehoiccaaGreat
