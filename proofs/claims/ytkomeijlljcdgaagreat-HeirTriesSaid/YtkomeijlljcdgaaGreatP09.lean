/- Texts joined in build order: ForestMath ForestShort ForestFns ForestHoldsMath AttrRight. -/
import Derived.Test.YtkomeijlljcdgaaGreatP05
import Derived.Test.YtkomeijlljcdgaaGreatP04
import Derived.Test.YtkomeijlljcdgaaGreatP03
import Derived.Test.YtkomeijlljcdgaaGreatP06
/- Which forests are right, over data; a forest that is right is trees. Plain mathematics, no program. -/
namespace Go.Proofs.YtkomeijlljcdgaaGreat
open Go.RowKit
/-- The node of a number, if there is one. -/
def getC (F : List Core) (i : Int) : Option Core := if 0 ≤ i then F[i.toNat]? else none
theorem getC_some {F : List Core} {i : Int} {c : Core} (h : getC F i = some c) : 0 ≤ i ∧ i.toNat < F.length ∧ F[i.toNat]? = some c := by
  unfold getC at h
  by_cases hi : 0 ≤ i
  · rw [if_pos hi] at h
    exact ⟨hi, (List.getElem?_eq_some_iff.1 h).1, h⟩
  · rw [if_neg hi] at h
    cases h
theorem getC_nat {F : List Core} {i : Nat} : getC F (i : Int) = F[i]? := by
  unfold getC
  rw [if_pos (by omega)]
  rfl
def parOk (F : List Core) (i : Nat) (x : Core) : Bool :=
  x.parent == -1 || ((x.kind == 1 || x.kind == 2) && match getC F x.parent with | some p => p.kind != 2 && hasZ p.kids i == 1 | none => false)
def kidOk (F : List Core) (i : Nat) (x : Core) (k : Int) : Bool :=
  hasZ x.kids k == 1 && match getC F k with | some c => (c.kind == 1 || c.kind == 2) && c.parent == (i : Int) && c.doc == x.doc | none => false
def kindK (F : List Core) (k : Int) : Int := match getC F k with | some c => c.kind | none => -1
def elemsK (F : List Core) (x : Core) : Nat := x.kids.countP (fun k => kindK F k == 1)
def docOk (F : List Core) (i : Nat) (x : Core) : Bool :=
  decide (0 ≤ x.kind) && decide (x.kind ≤ 4) && (match getC F x.doc with | some d => d.kind == 0 | none => false) && (x.kind != 0 || x.doc == (i : Int))
def shapeOk (F : List Core) (x : Core) : Bool := !(x.kind == 2 && decide (0 < x.kids.length)) && !(x.kind == 0 && (decide (1 < elemsK F x) || decide (elemsK F x < x.kids.length)))
def hostOk (F : List Core) (i : Nat) (x : Core) : Bool :=
  if x.kind = 4 then (match getC F x.host with | some h => h.kind == 1 && h.under == (i : Int) && h.doc == x.doc | none => false) else x.host == -1
def underOk (F : List Core) (i : Nat) (x : Core) : Bool :=
  x.under == -1 || (x.kind == 1 && match getC F x.under with | some u => u.kind == 4 && u.host == (i : Int) | none => false)
def textOk (x : Core) : Bool :=
  if x.kind = 1 then rightL x.name.toList && (smallL x.name.toList == x.name.toList) && (x.is.toList == [] || customL x.is.toList) && (x.data.toList == []) && rightA x.attrs
  else (x.name.toList == []) && (x.is.toList == []) && decide (x.attrs.length = 0) && (x.data.toList == [] || (x.kind == 2 && decide (x.data.size ≤ 200)))
def nodeOk (F : List Core) (i : Nat) (x : Core) : Bool := docOk F i x && parOk F i x && x.kids.all (kidOk F i x) && shapeOk F x && hostOk F i x && underOk F i x && textOk x
/-- One step up: to the parent, or else to the host. -/
def nextUp (F : List Core) (i : Int) : Int := match getC F i with | some c => if c.parent = -1 then c.host else c.parent | none => -1
def headDoc (F : List Core) : Bool := match F with | c :: _ => c.kind == 0 | [] => false
def rightF (most : Int) (F : List Core) : Bool :=
  decide (1 ≤ most) && decide (most ≤ 400) && decide ((F.length : Int) ≤ most) && headDoc F && F.zipIdx.all (fun p => nodeOk F p.2 p.1) && (List.range F.length).all (fun i => endsZ (nextUp F) (F.length + 1) (i : Int))
theorem rightF_iff (most : Int) (F : List Core) : rightF most F = true ↔ (1 ≤ most ∧ most ≤ 400 ∧ (F.length : Int) ≤ most ∧ headDoc F = true) ∧ (∀ (i : Nat) x, F[i]? = some x → nodeOk F i x = true) ∧ ∀ i : Nat, i < F.length → endsZ (nextUp F) (F.length + 1) (i : Int) = true := by
  unfold rightF
  simp only [Bool.and_eq_true, decide_eq_true_eq, List.all_eq_true]
  constructor
  · rintro ⟨⟨⟨⟨⟨h1, h2⟩, h3⟩, h4⟩, h5⟩, h6⟩
    exact ⟨⟨h1, h2, h3, h4⟩, fun i x hx => h5 (x, i) (List.mk_mem_zipIdx_iff_getElem?.2 hx), fun i hi => h6 i (List.mem_range.2 hi)⟩
  · rintro ⟨⟨h1, h2, h3, h4⟩, h5, h6⟩
    exact ⟨⟨⟨⟨⟨h1, h2⟩, h3⟩, h4⟩, fun p hp => h5 p.2 p.1 (List.mk_mem_zipIdx_iff_getElem?.1 hp)⟩, fun i hi => h6 i (List.mem_range.1 hi)⟩
/-! ### as trees -/
def parF (F : List Core) (i : Nat) : Option Nat := match F[i]? with | some c => if c.parent = -1 then none else some c.parent.toNat | none => none
def kidsF (F : List Core) (i : Nat) : List Nat := match F[i]? with | some c => c.kids.map Int.toNat | none => []
def rankF (F : List Core) (i : Nat) : Nat := rankZ (nextUp F) F.length (i : Int)
theorem hasZ_mem {L : List Int} {n : Int} (h : hasZ L n = 1) : n ∈ L := by
  have : 0 < L.countP (fun z => z == n) := by unfold hasZ at h; omega
  obtain ⟨z, hz, he⟩ := List.countP_pos_iff.1 this
  exact (beq_iff_eq.1 he) ▸ hz
theorem nodup_of_has : ∀ {L : List Int}, (∀ z ∈ L, hasZ L z = 1) → L.Nodup
  | [], _ => List.nodup_nil
  | a :: r, h => by
    have ha : hasZ (a :: r) a = 1 := h a (by simp)
    unfold hasZ at ha
    rw [List.countP_cons] at ha
    simp at ha
    rw [List.nodup_cons]
    refine ⟨fun hm => ?_, nodup_of_has (fun z hz => ?_)⟩
    · have : 0 < r.countP (fun z => z == a) := List.countP_pos_iff.2 ⟨a, hm, by simp⟩
      have h0 : r.countP (fun z => z == a) = 0 := by
        rw [List.countP_eq_zero]
        intro z hz
        have := ha z hz
        simpa using this
      omega
    · have h1 := h z (by simp [hz])
      unfold hasZ at h1 ⊢
      rw [List.countP_cons] at h1
      have : 0 < r.countP (fun y => y == z) := List.countP_pos_iff.2 ⟨z, hz, by simp⟩
      omega
theorem tree_of_right {most : Int} {F : List Core} (h : rightF most F = true) : Tree F.length (parF F) (kidsF F) (rankF F) := by
  obtain ⟨_, h2, h3⟩ := (rightF_iff most F).1 h
  have parts : ∀ (i : Nat) x, F[i]? = some x → parOk F i x = true ∧ (∀ k ∈ x.kids, kidOk F i x k = true) := fun i x hx => by
    have := h2 i x hx
    unfold nodeOk at this
    simp only [Bool.and_eq_true, List.all_eq_true] at this
    exact ⟨this.1.1.1.1.1.2, this.1.1.1.1.2⟩
  have kid : ∀ (i k : Nat), k ∈ kidsF F i → ∃ x c, F[i]? = some x ∧ F[k]? = some c ∧ (k : Int) ∈ x.kids ∧ c.parent = (i : Int) ∧ hasZ x.kids k = 1 := fun i k hk => by
    unfold kidsF at hk
    cases hx : F[i]? with
    | none => rw [hx] at hk; simp at hk
    | some x =>
      rw [hx] at hk
      obtain ⟨z, hz, rfl⟩ := List.mem_map.1 hk
      have g := (parts i x hx).2 z hz
      unfold kidOk at g
      cases hc : getC F z with
      | none => rw [hc] at g; simp at g
      | some c =>
        rw [hc] at g
        simp only [Bool.and_eq_true, beq_iff_eq] at g
        obtain ⟨e1, e2, e3⟩ := getC_some hc
        have hzz : ((z.toNat : Nat) : Int) = z := by omega
        exact ⟨x, c, rfl, e3, by rw [hzz]; exact hz, g.2.1.2, by rw [hzz]; exact g.1⟩
  have parent : ∀ (k i : Nat), parF F k = some i → ∃ c p, F[k]? = some c ∧ c.parent = (i : Int) ∧ F[i]? = some p ∧ (k : Int) ∈ p.kids := fun k i hp => by
    unfold parF at hp
    cases hc : F[k]? with
    | none => rw [hc] at hp; simp at hp
    | some c =>
      rw [hc] at hp
      dsimp only at hp
      by_cases he : c.parent = -1
      · rw [if_pos he] at hp; cases hp
      · rw [if_neg he] at hp
        injection hp with hp
        have g := (parts k c hc).1
        unfold parOk at g
        rw [beq_eq_false_iff_ne.2 he, Bool.false_or, Bool.and_eq_true] at g
        cases hg : getC F c.parent with
        | none => rw [hg] at g; simp at g
        | some p =>
          rw [hg] at g
          simp only [Bool.and_eq_true, beq_iff_eq] at g
          obtain ⟨e1, e2, e3⟩ := getC_some hg
          rw [hp] at e3
          exact ⟨c, p, rfl, by omega, e3, hasZ_mem g.2.2⟩
  refine ⟨fun i k hk => ?_, fun i k hk => ?_, fun i k hk hp => ?_, fun i => ?_, fun i k hk hp => ?_, fun i hi => ?_⟩
  · obtain ⟨x, c, _, hc, _⟩ := kid i k hk
    exact (List.getElem?_eq_some_iff.1 hc).1
  · obtain ⟨x, c, _, hc, _, hp, _⟩ := kid i k hk
    unfold parF
    rw [hc]
    dsimp only
    rw [if_neg (by omega), hp]
    rfl
  · obtain ⟨c, p, _, _, hpi, hm⟩ := parent k i hp
    refine ⟨(List.getElem?_eq_some_iff.1 hpi).1, ?_⟩
    unfold kidsF
    rw [hpi]
    exact List.mem_map.2 ⟨(k : Int), hm, by simp⟩
  · unfold kidsF
    cases hx : F[i]? with
    | none => simp
    | some x =>
      have hn : x.kids.Nodup := nodup_of_has (fun z hz => by
        have g := (parts i x hx).2 z hz
        unfold kidOk at g
        rw [Bool.and_eq_true, beq_iff_eq] at g
        exact g.1)
      have hpos : ∀ z ∈ x.kids, 0 ≤ z := fun z hz => by
        have g := (parts i x hx).2 z hz
        unfold kidOk at g
        cases hc : getC F z with
        | none => rw [hc] at g; simp at g
        | some c => exact (getC_some hc).1
      have key : ∀ l : List Int, l.Nodup → (∀ z ∈ l, 0 ≤ z) → (l.map Int.toNat).Nodup := by
        intro l
        induction l with
        | nil => intro _ _; simp
        | cons a r ih =>
          intro hl hp
          rw [List.nodup_cons] at hl
          rw [List.map_cons, List.nodup_cons]
          refine ⟨fun hm => ?_, ih hl.2 (fun z hz => hp z (by simp [hz]))⟩
          obtain ⟨z, hz, e⟩ := List.mem_map.1 hm
          have h1 := hp a (by simp)
          have h2 := hp z (by simp [hz])
          have : z = a := by omega
          exact hl.1 (this ▸ hz)
      exact key _ hn hpos
  · obtain ⟨c, p, hc, hpar, hpi, _⟩ := parent k i hp
    have hi := (List.getElem?_eq_some_iff.1 hpi).1
    have hnx : nextUp F (k : Int) = (i : Int) := by
      unfold nextUp
      rw [getC_nat, hc]
      dsimp only
      rw [if_neg (by omega), hpar]
    unfold rankF
    have := rankZ_up (nxt := nextUp F) (n := F.length) (i := (k : Int)) (by omega) (h3 k hk) (by rw [hnx]; exact h3 i hi)
    rw [this, hnx]
  · exact rankZ_le (n := F.length) (h3 i hi)
/-! ### what is asked of a forest that is right -/
def rootF (F : List Core) (a : Nat) : Nat := rootN (parF F) (F.length + 1) a
def ordF (F : List Core) (a : Nat) : List Nat := ordN (kidsF F) (F.length + 1) a
def holdsF (F : List Core) (a b : Nat) : Bool := decide (b ∈ ordF F a)
def placeF (F : List Core) (a : Nat) : Int := match parF F a with | some p => findZ (match F[p]? with | some c => c.kids | none => []) (a : Int) | none => -1
def aheadF (F : List Core) (a b : Nat) : Bool := decide (rootF F a = rootF F b) && decide (posN (ordF F (rootF F a)) a < posN (ordF F (rootF F a)) b)
end Go.Proofs.YtkomeijlljcdgaaGreat
/- instarref03's Short. -/
namespace Go.Proofs.YtkomeijlljcdgaaGreat
open Go.RowKit
/-- The value of a forest. -/
abbrev forV (a : Option Addr) (len cap : Nat) (m : Int) : Value := .agg #[.slice a len cap, .int .i64 m]
/-- The block in which a forest by value is boxed. -/
abbrev forB (a : Option Addr) (len cap : Nat) (m : Int) : Obj := .cells #[.slice a len cap, .int .i64 m] 24
def shortN (x : NodeD) : Bool := decide (x.core.kids.length ≤ 60) && decide (x.core.attrs.length ≤ 60) && decide (x.core.name.size ≤ 300)
def shortF (L : List NodeD) : Bool := decide (L.length ≤ 60) && L.all shortN
theorem below_box (w : World) (B : Obj) : Below w.heap.size w (w.alloc B) := (Below.refl _ _).alloc (Nat.le_refl _) B
set_option maxHeartbeats 4000000 in
set_option maxRecDepth 100000 in
theorem refshortF_any (a : Option Addr) (len cap : Nat) (m : Int) (L : List NodeD) (w : World) (h0 : NodeRow w a len cap L) :
    Calls Tryz.prog 8 #[forV a len cap m] w fun e w' => e = .returned (.bool (shortF L)) ∧ Below w.heap.size w w' := by
  have hl := h0.len64
  have HLN := Lib.hid h0.hlen
  have h := h0.below (below_box w (forB a len cap m))
  clear h0
  by_cases h60 : 60 < len
  · have HR : Hid (shortF L = false) := Lib.hid (by unfold shortF; rw [decide_eq_false (by rw [HLN.out]; omega)]; rfl)
    go_enter Tryz.func8, Tryz.ntmps8
    go_wp2
    go_ret
    exact ⟨ret_bool HR.out.symm, below_box _ _⟩
  go_enter Tryz.func8, Tryz.ntmps8
  go_wp2
  go_loop [3] (fun i => ∃ k : Nat, k ≤ len ∧ i = .int .i64 k ∧ Hid (∀ (j : Nat) x, j < k → L[j]? = some x → shortN x = true)) (fun i => len - (intOf i).toNat)
  case atStart => exact ⟨0, Nat.zero_le _, rfl, Lib.hid (fun j x hj _ => absurd hj (by omega))⟩
  case round =>
    obtain ⟨k, hk, rfl, HA⟩ := hrel
    by_cases hlt : k < len
    · obtain ⟨b, off, x, rfl, hb, hx, hc, hok⟩ := h.get hlt
      have hb2 : b < w.heap.size + 1 := by simpa using hb
      have c1 := hc.c1
      have c4 := hc.c4
      have c6 := hc.c6
      have HK := Lib.hid hok.kids.hlen
      have HAN := Lib.hid hok.attrs.hlen
      have hk6 := hok.kids.len64
      have ha6 := hok.attrs.len64
      have hn6 : x.core.name.size ≤ 9223372036854775807 := by have := hok.name; unfold maxLen at this; omega
      have HX := Lib.hid hx
      have stop : shortN x = false → shortF L = false := fun hs => by
        unfold shortF
        have : L.all shortN = false := by rw [List.all_eq_false]; exact ⟨x, List.mem_of_getElem? HX.out, by simp [hs]⟩
        rw [this, Bool.and_false]
      have STOP := Lib.hid stop
      clear hc hok hx stop
      by_cases q1 : (60 : Int) < (x.kN : Int)
      · have HR : Hid (shortF L = false) := Lib.hid (STOP.out (by unfold shortN; rw [decide_eq_false (by rw [HK.out]; omega)]; rfl))
        go_wp2
        go_ret
        exact ⟨ret_bool HR.out.symm, below_box _ _⟩
      by_cases q2 : (60 : Int) < (x.aN : Int)
      · have HR : Hid (shortF L = false) := Lib.hid (STOP.out (by unfold shortN; rw [decide_eq_false (show ¬ x.core.attrs.length ≤ 60 by rw [HAN.out]; omega)]; simp))
        go_wp2
        go_ret
        exact ⟨ret_bool HR.out.symm, below_box _ _⟩
      by_cases q3 : (300 : Int) < (x.core.name.size : Int)
      · have HR : Hid (shortF L = false) := Lib.hid (STOP.out (by unfold shortN; rw [decide_eq_false (show ¬ x.core.name.size ≤ 300 by omega)]; simp))
        go_wp2
        go_ret
        exact ⟨ret_bool HR.out.symm, below_box _ _⟩
      have HS : Hid (shortN x = true) := Lib.hid (by
        unfold shortN
        rw [decide_eq_true (show x.core.kids.length ≤ 60 by rw [HK.out]; omega), decide_eq_true (show x.core.attrs.length ≤ 60 by rw [HAN.out]; omega), decide_eq_true (show x.core.name.size ≤ 300 by omega)]
        rfl)
      go_wp2
      go_round
      case rel =>
        refine ⟨k + 1, by omega, by go_num, Lib.hid (fun j y hj hy => ?_)⟩
        by_cases e : j = k
        · subst e
          rw [HX.out] at hy
          rw [← Option.some.inj hy]
          exact HS.out
        · exact HA.out j y (by omega) hy
      case measure => simp [intOf]; omega
    · have HR : Hid (shortF L = true) := Lib.hid (by
        unfold shortF
        have : L.all shortN = true := by
          rw [List.all_eq_true]
          intro x hx
          obtain ⟨j, hj, he⟩ := List.mem_iff_getElem.1 hx
          exact HA.out j x (by rw [HLN.out] at hj; omega) (by rw [List.getElem?_eq_getElem hj, he])
        rw [this, decide_eq_true (by rw [HLN.out]; omega)]
        rfl)
      go_wp2
      go_ret
      exact ⟨ret_bool HR.out.symm, below_box _ _⟩
end Go.Proofs.YtkomeijlljcdgaaGreat
/- What is asked of package forest's functions: their contracts, as one property. -/
namespace Go.Proofs.YtkomeijlljcdgaaGreat
open Go.RowKit
/-- A node by value (the same as in ForestSame, where that is built, too). -/
abbrev nodVal (x : NodeD) : Value := .agg #[.int .i64 x.core.kind, .string x.core.name, .string x.core.is, .string x.core.data, .slice x.aA x.aN x.aC, .int .i64 x.core.parent, .slice x.kA x.kN x.kC, .int .i64 x.core.host, .int .i64 x.core.under, .int .i64 x.core.doc]
def smallN (x : NodeD) : Prop := x.core.kids.length ≤ 1000 ∧ x.core.attrs.length ≤ 1000 ∧ x.core.name.size ≤ 1000
/-- What a node given to Make keeps to (its children may be any: Make leaves them out). -/
def smallX (x : NodeD) : Prop := x.core.attrs.length ≤ 1000 ∧ x.core.name.size ≤ 1000
def smallF (L : List NodeD) : Prop := L.length ≤ 1000 ∧ ∀ x ∈ L, smallN x
theorem small_of_short {L : List NodeD} (h : shortF L = true) : smallF L := by
  unfold shortF at h
  simp only [Bool.and_eq_true, decide_eq_true_eq, List.all_eq_true] at h
  refine ⟨by omega, fun x hx => ?_⟩
  have := h.2 x hx
  unfold shortN at this
  simp only [Bool.and_eq_true, decide_eq_true_eq] at this
  exact ⟨by omega, by omega, by omega⟩
def docC : Core := ⟨0, ⟨#[]⟩, ⟨#[]⟩, ⟨#[]⟩, [], -1, [], -1, -1, 0⟩
def newOk (most : Int) : Bool := decide (1 ≤ most) && decide (most ≤ 400)
def newL (most : Int) : List Core := if newOk most then [docC] else []
def newM (most : Int) : Int := if newOk most then most else 0
def newE (most : Int) : Int := if newOk most then 0 else 1
/-- The node that Make makes. -/
def bareC (F : List Core) (x : Core) : Core := ⟨x.kind, x.name, x.is, x.data, x.attrs, -1, [], -1, -1, if x.kind = 0 then (F.length : Int) else x.doc⟩
def makeE (m : Int) (F : List Core) (x : Core) : Int :=
  if rightF m F && x.kind != 4 && nodeOk (F ++ [bareC F x]) F.length (bareC F x) then (if m ≤ (F.length : Int) then 8 else 0) else 1
def makeL (m : Int) (F : List Core) (x : Core) : List Core := if makeE m F x = 0 then F ++ [bareC F x] else F
def makeN (m : Int) (F : List Core) (x : Core) : Int := if makeE m F x = 0 then (F.length : Int) else -1
def thereF (m : Int) (F : List Core) (n : Int) : Bool := rightF m F && decide (0 ≤ n) && decide (n < (F.length : Int))
def rootZ (m : Int) (F : List Core) (n : Int) : Int := if thereF m F n then (rootF F n.toNat : Int) else -1
def ordZ (m : Int) (F : List Core) (n : Int) : List Int := if thereF m F n then (ordF F n.toNat).map Int.ofNat else []
def holdsZ (m : Int) (F : List Core) (a b : Int) : Bool := thereF m F a && thereF m F b && holdsF F a.toNat b.toNat
def placeZ (m : Int) (F : List Core) (n : Int) : Int := if thereF m F n then placeF F n.toNat else -1
def aheadZ (m : Int) (F : List Core) (a b : Int) : Bool := thereF m F a && thereF m F b && aheadF F a.toNat b.toNat
/-- A call that hands back a forest, and more. -/
def ForPost (w : World) (F : List Core) (m : Int) (rest : List Value) (e : Ending) (w' : World) : Prop :=
  ∃ a len cap L, e = .returned (.tuple (forV a len cap m :: rest).toArray) ∧ NodeRow w' a len cap L ∧ coreL L = F ∧ Below w.heap.size w w'
def OrdPost (w : World) (l : List Int) (e : Ending) (w' : World) : Prop := ∃ a len cap, e = .returned (.slice a len cap) ∧ IntRow w' a len cap l ∧ Below w.heap.size w w'
end Go.Proofs.YtkomeijlljcdgaaGreat
/- What the law ForestHolds asks, over data: facts of forests that are right. Plain mathematics, no program. -/
namespace Go.Proofs.YtkomeijlljcdgaaGreat
open Go.RowKit
theorem thereF_of {m : Int} {F : List Core} (h : rightF m F = true) {n : Nat} (hn : n < F.length) : thereF m F (n : Int) = true := by
  unfold thereF
  rw [h, decide_eq_true (by omega), decide_eq_true (by omega)]
  rfl
theorem holdsZ_iff {m : Int} {F : List Core} (h : rightF m F = true) {a b : Nat} (ha : a < F.length) (hb : b < F.length) : holdsZ m F (a : Int) (b : Int) = true ↔ holdsT (parF F) a b := by
  unfold holdsZ
  rw [thereF_of h ha, thereF_of h hb, Bool.true_and, Bool.true_and]
  unfold holdsF ordF
  rw [decide_eq_true_iff]
  exact (tree_of_right h).mem_ord _ _ ha (by omega) _ hb
theorem rootZ_eq {m : Int} {F : List Core} (h : rightF m F = true) {a : Nat} (ha : a < F.length) : rootZ m F (a : Int) = (rootF F a : Nat) := by
  unfold rootZ
  rw [thereF_of h ha]
  rfl
theorem rootF_lt {m : Int} {F : List Core} (h : rightF m F = true) {a : Nat} (ha : a < F.length) : rootF F a < F.length := (tree_of_right h).root_lt ha
theorem right_len {m : Int} {F : List Core} (h : rightF m F = true) : 0 < F.length := by
  have := ((rightF_iff m F).1 h).1.2.2.2
  cases F with
  | nil => unfold headDoc at this; cases this
  | cons _ _ => simp
theorem right_most {m : Int} {F : List Core} (h : rightF m F = true) : 1 ≤ m ∧ m ≤ 400 ∧ (F.length : Int) ≤ m := by
  have := ((rightF_iff m F).1 h).1
  exact ⟨this.1, this.2.1, this.2.2.1⟩
/-- A child stands among its parent's children. -/
theorem find_at {L : List Int} {n : Int} (h : n ∈ L) : ∃ k : Nat, findZ L n = (k : Int) ∧ L[k]? = some n := by
  have hl : findN L n < L.length := List.findIdx_lt_length_of_exists ⟨n, h, by simp⟩
  refine ⟨findN L n, ?_, ?_⟩
  · unfold findZ
    rw [if_pos hl]
  · have := List.findIdx_getElem (w := hl)
    rw [List.getElem?_eq_getElem hl]
    congr 1
    exact beq_iff_eq.1 this
/-- What is asked of three nodes. -/
structure HoldsFacts (m : Int) (F : List Core) (x y z : Nat) (c : Core) : Prop where
  self : holdsZ m F x x = true
  trans : holdsZ m F x y = true → holdsZ m F y z = true → holdsZ m F x z = true
  anti : x ≠ y → holdsZ m F x y = true → holdsZ m F y x = false
  root : holdsZ m F x y = true → rootZ m F x = rootZ m F y
  top : rootZ m F (rootZ m F x) = rootZ m F x
  held : holdsZ m F (rootZ m F x) x = true
  alone : c.parent = -1 → placeZ m F x = -1 ∧ rootZ m F x = x
  child : c.parent ≠ -1 → ∃ (p : Nat) (pc : Core) (k : Nat), c.parent = p ∧ F[p]? = some pc ∧ placeZ m F x = k ∧ pc.kids[k]? = some (x : Int) ∧ holdsZ m F p x = true
theorem holds_facts {m : Int} {F : List Core} (h : rightF m F = true) {x y z : Nat} {c : Core} (hx : x < F.length) (hy : y < F.length) (hz : z < F.length) (hc : F[x]? = some c) : HoldsFacts m F x y z c := by
  have T := tree_of_right h
  have hr := rootF_lt h hx
  refine ⟨?_, fun h1 h2 => ?_, fun hne h1 => ?_, fun h1 => ?_, ?_, ?_, fun hp => ?_, fun hp => ?_⟩
  · exact (holdsZ_iff h hx hx).2 (holds_refl x)
  · exact (holdsZ_iff h hx hz).2 (holds_trans ((holdsZ_iff h hx hy).1 h1) ((holdsZ_iff h hy hz).1 h2))
  · cases h2 : holdsZ m F y x with
    | false => rfl
    | true => exact absurd (T.holds_anti hx hy ((holdsZ_iff h hx hy).1 h1) ((holdsZ_iff h hy hx).1 h2)) hne
  · rw [rootZ_eq h hx, rootZ_eq h hy]
    unfold rootF
    rw [T.root_held hy (Nat.le_refl _) ((holdsZ_iff h hx hy).1 h1)]
  · rw [rootZ_eq h hx, rootZ_eq h hr]
    unfold rootF
    rw [T.root_root hx (Nat.le_refl _)]
  · rw [rootZ_eq h hx]
    exact (holdsZ_iff h hr hx).2 (rootN_holds _ _)
  · have hn : parF F x = none := by unfold parF; rw [hc]; dsimp only; rw [if_pos hp]
    refine ⟨?_, ?_⟩
    · unfold placeZ placeF
      rw [thereF_of h hx, if_pos rfl, Int.toNat_natCast, hn]
    · rw [rootZ_eq h hx]
      unfold rootF
      rw [rootN_none hn]
  · have hs : parF F x = some c.parent.toNat := by unfold parF; rw [hc]; dsimp only; rw [if_neg hp]
    obtain ⟨hlt, hk⟩ := T.par_kid _ _ hx hs
    obtain ⟨pc, hpc⟩ : ∃ pc, F[c.parent.toNat]? = some pc := ⟨_, List.getElem?_eq_getElem hlt⟩
    have hpos : 0 ≤ c.parent := by
      have g := ((rightF_iff m F).1 h).2.1 x c hc
      unfold nodeOk at g
      simp only [Bool.and_eq_true] at g
      have g := g.1.1.1.1.1.2
      unfold parOk at g
      rw [beq_eq_false_iff_ne.2 hp, Bool.false_or, Bool.and_eq_true] at g
      cases hg : getC F c.parent with
      | none => rw [hg] at g; simp at g
      | some p => exact (getC_some hg).1
    have hm : (x : Int) ∈ pc.kids := by
      unfold kidsF at hk
      rw [hpc] at hk
      obtain ⟨w, hw, e⟩ := List.mem_map.1 hk
      have g := ((rightF_iff m F).1 h).2.1 _ pc hpc
      unfold nodeOk at g
      simp only [Bool.and_eq_true, List.all_eq_true] at g
      have g := g.1.1.1.1.2 w hw
      unfold kidOk at g
      cases hg : getC F w with
      | none => rw [hg] at g; simp at g
      | some p =>
        have := (getC_some hg).1
        have e2 : w = (x : Int) := by omega
        rwa [← e2]
    obtain ⟨k, hk1, hk2⟩ := find_at hm
    refine ⟨c.parent.toNat, pc, k, by omega, hpc, ?_, hk2, (holdsZ_iff h hlt hx).2 (holds_par hs)⟩
    unfold placeZ placeF
    rw [thereF_of h hx, if_pos rfl]
    simp only [Int.toNat_natCast, hs, hpc]
    exact hk1
end Go.Proofs.YtkomeijlljcdgaaGreat
/- instarref02's Right. -/
namespace Go.Proofs.YtkomeijlljcdgaaGreat
open Go.RowKit
theorem keepS {w W w1 : World} {b o1 o2 : Nat} {v1 v2 : Value} (hlt : b < w.heap.size) (h : W.cell? ⟨b, o1, none⟩ = some v1 ∧ W.cell? ⟨b, o2, none⟩ = some v2 ∧ Below w.heap.size w W) (hb : Below W.heap.size W w1) :
    w1.cell? ⟨b, o1, none⟩ = some v1 ∧ w1.cell? ⟨b, o2, none⟩ = some v2 ∧ Below w.heap.size w w1 := by
  have hl : b < W.heap.size := Nat.lt_of_lt_of_le hlt h.2.2.size
  refine ⟨?_, ?_, h.2.2.trans (hb.mono h.2.2.size)⟩
  · rw [hb.cell (p := ⟨b, o1, none⟩) hl]; exact h.1
  · rw [hb.cell (p := ⟨b, o2, none⟩) hl]; exact h.2.1

set_option maxHeartbeats 16000000 in
set_option maxRecDepth 100000 in
theorem refrightA_any (a : Option Addr) (len cap : Nat) (L : AL) (w : World) (h : AttrRow w a len cap L) :
    Calls Tryz.prog 69 #[.slice a len cap] w fun e w' => e = .returned (.bool (rightA L)) ∧ Below w.heap.size w w' := by
  have hl := h.len64
  by_cases h40 : 40 < len
  · have HR := Lib.hid (rightA_long (L := L) (by rw [h.hlen]; exact h40))
    go_enter Tryz.func69, Tryz.ntmps69
    go_wp2
    go_ret
    exact ⟨ret_bool HR.out.symm, Below.refl _ _⟩
  go_enter Tryz.func69, Tryz.ntmps69
  go_wp2
  go_loopw [3] (fun i wr => ∃ k : Nat, k ≤ len ∧ i = .int .i64 k ∧ Below w.heap.size w wr ∧ Hid (∀ (j : Nat) x, j < k → L[j]? = some x → okAt L j x = true)) (fun i _ => len - (intOf i).toNat)
  case atStart => exact ⟨0, Nat.zero_le _, rfl, Below.refl _ _, Lib.hid (fun j x hj _ => absurd hj (by omega))⟩
  case round =>
    obtain ⟨k, hk, rfl, HB, HA⟩ := hrel
    by_cases hlt : k < len
    · have h2 := h.below HB
      obtain ⟨b, off, xn, xv, rfl, hblt, hx, hc1, hc2, hn1, hn2⟩ := h2.get hlt
      have hbw : b < w.heap.size := by
        obtain ⟨b', off', _, _, ha, hb', _⟩ := h.get hlt
        injection ha with ha; injection ha with ha; rw [ha]; exact hb'
      have HX := Lib.hid hx
      have HN1 := Lib.hid hn1
      have HN2 := Lib.hid hn2
      clear hx hn1 hn2
      have E1 := Ext.cell hc1 hblt
      have E2 := Ext.cell hc2 hblt
      obtain ⟨z, hz⟩ : ∃ z, atL L xn.toList = z := ⟨_, rfl⟩
      have HZ := Lib.hid hz
      have C3 : Hid (∀ x : Ext wr, Calls Tryz.prog 98 #[.slice (some ⟨b, off, none⟩) len cap, .string xn] x.v fun e w' => e = .returned (.int .i64 z) ∧ x.v = w') := Lib.hid (fun x => by
        have := refat_any (some ⟨b, off, none⟩) len cap L xn x.v (h2.below x.below)
        rwa [hz] at this)
      clear hz
      by_cases hr : rightL xn.toList = true
      rotate_left
      · have hr : rightL xn.toList = false := by simpa using hr
        have HR := Lib.hid (rightA_stop HX.out (show okAt L k (xn, xv) = false by unfold okAt; rw [hr]; rfl))
        have C1 : Hid (∀ W, Calls Tryz.prog 66 #[.string xn] W fun e w' => e = .returned (.bool false) ∧ W = w') := Lib.hid (fun W => by
          have := refright_any xn W HN1.out
          rwa [hr] at this)
        have C2 : Hid True := trivial
        clear hr
        go_wp2
        refine wp_region_ext (by kernel_rfl) (by kernel_rfl) ?_
        repeat (go_big_quiet_step (first
          | (go_at_call 66; exact Ext.call_same (C1.out _))
          | (go_at_call 98; exact Ext.call_same (C3.out _))))
        refine wpQuiet_nil ?_
        intro w' hw'
        obtain ⟨⟨w1, hb1⟩, hw''⟩ := hw'
        dsimp only at hw''
        subst hw''
        go_wp2
        go_ret
        exact ⟨ret_bool HR.out.symm, HB.trans (hb1.mono HB.size)⟩
      have C1 : Hid (∀ W, Calls Tryz.prog 66 #[.string xn] W fun e w' => e = .returned (.bool true) ∧ W = w') := Lib.hid (fun W => by
        have := refright_any xn W HN1.out
        rwa [hr] at this)
      have C2 : Hid (∀ W, Calls Tryz.prog 67 #[.string xn] W fun e w' => e = .returned (.string (ofL (smallL xn.toList))) ∧ Below W.heap.size W w') := Lib.hid (fun W => by
        have h40' : xn.toList.length ≤ 40 := rightL_len hr
        rw [tl_len] at h40'
        exact refsmall_any xn W (by omega))
      have HRT := Lib.hid hr
      clear hr
      by_cases hsm : smallL xn.toList = xn.toList
      rotate_left
      · have s1 : (smallL xn.toList == xn.toList) = false := beq_eq_false_iff_ne.2 hsm
        have HR := Lib.hid (rightA_stop HX.out (show okAt L k (xn, xv) = false by unfold okAt; rw [s1]; simp))
        clear hsm
        go_wp2
        refine wp_region_ext (by kernel_rfl) (by kernel_rfl) ?_
        repeat (go_big_quiet_step (first
          | (go_at_call 66; exact Ext.call_same (C1.out _))
          | (go_at_call 67; exact Ext.call_below (C2.out _))
          | (go_at_call 98; exact Ext.call_same (C3.out _))))
        refine wpQuiet_nil ?_
        intro w' hw'
        obtain ⟨⟨w1, hb1⟩, hw''⟩ := hw'
        dsimp only at hw''
        subst hw''
        go_wp2
        go_ret
        exact ⟨ret_bool HR.out.symm, HB.trans (hb1.mono HB.size)⟩
      have s1 : (smallL xn.toList == xn.toList) = true := beq_iff_eq.2 hsm
      clear hsm
      by_cases hv : (200 : Int) < (xv.size : Int)
      · have HR := Lib.hid (rightA_stop HX.out (show okAt L k (xn, xv) = false by
          unfold okAt
          rw [decide_eq_false (show ¬ xv.size ≤ 200 by omega)]
          simp))
        have v1 : decide ((200 : Int) < (xv.size : Int)) = true := decide_eq_true hv
        clear hv
        go_wp2
        refine wp_region_ext (by kernel_rfl) (by kernel_rfl) ?_
        repeat (go_big_quiet_step (first
          | (go_at_call 66; exact Ext.call_same (C1.out _))
          | (go_at_call 67; exact Ext.call_below (C2.out _))
          | (go_at_call 98; exact Ext.call_same (C3.out _))))
        refine wpQuiet_nil ?_
        intro w' hw'
        obtain ⟨⟨w1, hb1⟩, hw''⟩ := hw'
        dsimp only at hw''
        subst hw''
        go_wp2
        go_ret
        exact ⟨ret_bool HR.out.symm, HB.trans (hb1.mono HB.size)⟩
      have v1 : decide ((200 : Int) < (xv.size : Int)) = false := decide_eq_false hv
      have HV := Lib.hid (show xv.size ≤ 200 by omega)
      clear hv
      by_cases hzk : z = (k : Int)
      · have z1 : (z == (k : Int)) = true := beq_iff_eq.2 hzk
        have z2 : (z != (k : Int)) = false := by unfold bne; rw [z1]; rfl
        have HO : Hid (okAt L k (xn, xv) = true) := Lib.hid (by
          unfold okAt
          have hk2 : atN L xn.toList = k := atL_nat (HZ.out.trans hzk)
          rw [HRT.out, s1, decide_eq_true HV.out, decide_eq_true hk2]
          rfl)
        clear hzk
        go_wp2
        refine wp_region_ext (by kernel_rfl) (by kernel_rfl) ?_
        repeat (go_big_quiet_step (first
          | (go_at_call 66; exact Ext.call_same (C1.out _))
          | (go_at_call 67; exact Ext.call_below (C2.out _))
          | (go_at_call 98; exact Ext.call_same (C3.out _))))
        refine wpQuiet_nil ?_
        intro w' hw'
        obtain ⟨⟨w1, hb1⟩, hw''⟩ := hw'
        dsimp only at hw''
        subst hw''
        go_wp2
        go_roundw
        case rel =>
          refine ⟨k + 1, by omega, by go_num, HB.trans (hb1.mono HB.size), Lib.hid (fun j x hj hx => ?_)⟩
          by_cases e : j = k
          · subst e
            rw [HX.out] at hx
            rw [← Option.some.inj hx]
            exact HO.out
          · exact HA.out j x (by omega) hx
        case measure => simp [intOf]; omega
      · have z1 : (z == (k : Int)) = false := beq_eq_false_iff_ne.2 hzk
        have z2 : (z != (k : Int)) = true := by unfold bne; rw [z1]; rfl
        have HR := Lib.hid (rightA_stop HX.out (show okAt L k (xn, xv) = false by
          unfold okAt
          have hk2 : ¬ atN L xn.toList = k := fun e => hzk (HZ.out.symm.trans (atL_of_nat e (by rw [h2.hlen]; exact hlt)))
          rw [decide_eq_false hk2]
          simp))
        clear hzk
        go_wp2
        refine wp_region_ext (by kernel_rfl) (by kernel_rfl) ?_
        repeat (go_big_quiet_step (first
          | (go_at_call 66; exact Ext.call_same (C1.out _))
          | (go_at_call 67; exact Ext.call_below (C2.out _))
          | (go_at_call 98; exact Ext.call_same (C3.out _))))
        refine wpQuiet_nil ?_
        intro w' hw'
        obtain ⟨⟨w1, hb1⟩, hw''⟩ := hw'
        dsimp only at hw''
        subst hw''
        go_wp2
        go_ret
        exact ⟨ret_bool HR.out.symm, HB.trans (hb1.mono HB.size)⟩
    · have HR := Lib.hid ((rightA_iff L).2 ⟨by rw [h.hlen]; omega, fun j x hx => HA.out j x (by
        obtain ⟨hl1, _⟩ := List.getElem?_eq_some_iff.1 hx
        have := h.hlen
        omega) hx⟩)
      go_wp2
      go_ret
      exact ⟨ret_bool HR.out.symm, HB⟩
end Go.Proofs.YtkomeijlljcdgaaGreat
