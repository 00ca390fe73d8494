/- Texts joined in build order: DeskBox DeskFns AttrRefSame ForestSame ForestAwake ForestHolds ForestSameF ForestNBox ForestFit1 ForestFit2 OwnCells AttrOps AttrRef2 AttrSet. -/
import Derived.Test.YtkomeijlljcdgaaGreatP10
import Derived.Test.YtkomeijlljcdgaaGreatP03
import Derived.Test.YtkomeijlljcdgaaGreatChecked
import Derived.WalkLawsBesides
import Derived.WalkSmall
import Derived.Lib.Hide
import Derived.Deep.QuietTactic
import Derived.BigQuiet
import Derived.Test.YtkomeijlljcdgaaGreatP09
import Derived.Test.YtkomeijlljcdgaaGreatP05
import Derived.Test.YtkomeijlljcdgaaGreatP07
import Derived.Test.YtkomeijlljcdgaaGreatP08
import Derived.Below
import Derived.Laws.Rows
import Derived.Deep.OwnRows
import Derived.OwnWalk
import Derived.Laws.OwnMore
/- A desk by value, in its box. -/
namespace Go.Proofs.YtkomeijlljcdgaaGreat
open Go.RowKit
theorem stayK {w : World} {p : Addr} {v : Value} (h : w.cell? p = some v) (hp : p.block < w.heap.size) : ∀ W, Below w.heap.size w W → W.cell? p = some v := fun _ hb => (hb.cell hp).trans h
/-- A desk in the box g, at a world W behind w. -/
structure DBox (w W : World) (g : Nat) (da : Option Addr) (dl dc : Nat) (wa : Option Addr) (wl wc : Nat) (nx : Int) (bz : Bool) (L : List DefD) (M : List WaitD) : Prop where
  d : DefRow W da dl dc L
  t : WaitRow W wa wl wc M
  low : w.heap.size ≤ g
  lt : g < W.heap.size
  c0 : W.cell? ⟨g, 0, none⟩ = some (.slice da dl dc)
  c1 : W.cell? ⟨g, 1, none⟩ = some (.slice wa wl wc)
  c2 : W.cell? ⟨g, 2, none⟩ = some (.int .i64 nx)
  c3 : W.cell? ⟨g, 3, none⟩ = some (.bool bz)
  below : Below w.heap.size w W
section
variable {w W V : World} {g : Nat} {da wa : Option Addr} {dl dc wl wc : Nat} {nx : Int} {bz : Bool} {L : List DefD} {M : List WaitD}
theorem DBox.keep (h : DBox w W g da dl dc wa wl wc nx bz L M) (hb : Below W.heap.size W V) : DBox w V g da dl dc wa wl wc nx bz L M :=
  ⟨h.d.below hb, h.t.below hb, h.low, Nat.lt_of_lt_of_le h.lt hb.size, (hb.cell (p := ⟨g, 0, none⟩) h.lt).trans h.c0, (hb.cell (p := ⟨g, 1, none⟩) h.lt).trans h.c1, (hb.cell (p := ⟨g, 2, none⟩) h.lt).trans h.c2, (hb.cell (p := ⟨g, 3, none⟩) h.lt).trans h.c3, h.below.trans (hb.mono h.below.size)⟩
theorem DBox.start (hd : DefRow w da dl dc L) (ht : WaitRow w wa wl wc M) : DBox w (w.alloc (deskB da dl dc wa wl wc nx bz)) w.heap.size da dl dc wa wl wc nx bz L M :=
  ⟨hd.below (below_desk _ _), ht.below (below_desk _ _), Nat.le_refl _, by simp, cell_of_row (w.alloc (deskB da dl dc wa wl wc nx bz)) w.heap.size 0 _ 28 (0, 0) (heap_alloc_new w _), cell_of_row (w.alloc (deskB da dl dc wa wl wc nx bz)) w.heap.size 1 _ 28 (0, 0) (heap_alloc_new w _), cell_of_row (w.alloc (deskB da dl dc wa wl wc nx bz)) w.heap.size 2 _ 28 (0, 0) (heap_alloc_new w _), cell_of_row (w.alloc (deskB da dl dc wa wl wc nx bz)) w.heap.size 3 _ 28 (0, 0) (heap_alloc_new w _), below_desk _ _⟩
end
/-- A definition in its box. -/
structure XBox (W : World) (g : Nat) (n l : ByteArray) (c : Int) : Prop where
  lt : g < W.heap.size
  c0 : W.cell? ⟨g, 0, none⟩ = some (.string n)
  c1 : W.cell? ⟨g, 1, none⟩ = some (.string l)
  c2 : W.cell? ⟨g, 2, none⟩ = some (.int .i64 c)
theorem XBox.keep {W V : World} {g : Nat} {n l : ByteArray} {c : Int} (h : XBox W g n l c) (hb : Below W.heap.size W V) : XBox V g n l c :=
  ⟨Nat.lt_of_lt_of_le h.lt hb.size, (hb.cell (p := ⟨g, 0, none⟩) h.lt).trans h.c0, (hb.cell (p := ⟨g, 1, none⟩) h.lt).trans h.c1, (hb.cell (p := ⟨g, 2, none⟩) h.lt).trans h.c2⟩
theorem XBox.new (W : World) (n l : ByteArray) (c : Int) : XBox (W.alloc (.cells #[.string n, .string l, .int .i64 c] 30)) W.heap.size n l c :=
  ⟨by simp, cell_of_row _ W.heap.size 0 _ 30 (0, 0) (heap_alloc_new W _), cell_of_row _ W.heap.size 1 _ 30 (0, 0) (heap_alloc_new W _), cell_of_row _ W.heap.size 2 _ 30 (0, 0) (heap_alloc_new W _)⟩
/-- Somebody who waits, in its box. -/
structure TBox9 (W : World) (g : Nat) (n : ByteArray) (k : Int) : Prop where
  lt : g < W.heap.size
  c0 : W.cell? ⟨g, 0, none⟩ = some (.string n)
  c1 : W.cell? ⟨g, 1, none⟩ = some (.int .i64 k)
theorem TBox9.keep {W V : World} {g : Nat} {n : ByteArray} {k : Int} (h : TBox9 W g n k) (hb : Below W.heap.size W V) : TBox9 V g n k :=
  ⟨Nat.lt_of_lt_of_le h.lt hb.size, (hb.cell (p := ⟨g, 0, none⟩) h.lt).trans h.c0, (hb.cell (p := ⟨g, 1, none⟩) h.lt).trans h.c1⟩
theorem TBox9.new (W : World) (n : ByteArray) (k : Int) : TBox9 (W.alloc (.cells #[.string n, .int .i64 k] 64)) W.heap.size n k :=
  ⟨by simp, cell_of_row _ W.heap.size 0 _ 64 (0, 0) (heap_alloc_new W _), cell_of_row _ W.heap.size 1 _ 64 (0, 0) (heap_alloc_new W _)⟩
/-- Texts of a desk that isn't too much. -/
def smallL9 (L : List DefD) : Prop := ∀ x ∈ L, x.name.size ≤ 1000000 ∧ x.loc.size ≤ 1000000
def smallT9 (M : List WaitD) : Prop := ∀ x ∈ M, x.name.size ≤ 1000000
end Go.Proofs.YtkomeijlljcdgaaGreat
/- What is asked of package desk's functions: their contracts, as one property. -/
namespace Go.Proofs.YtkomeijlljcdgaaGreat
open Go.RowKit
/-- What a slice points to is new. -/
def NewAt (W : World) (a : Option Addr) : Prop := ∀ b off, a = some ⟨b, off, none⟩ → W.heap.size ≤ b
/-- What Add hands back. -/
def AddPost9 (W : World) (R : DeskD × Int × List Int × Int) (e : Ending) (W' : World) : Prop :=
  ∃ da dl dc wa wl wc ta tl tc, e = .returned (.tuple #[deskV da dl dc wa wl wc R.1.next R.1.busy, .int .i64 R.2.1, .slice ta tl tc, .int .i64 R.2.2.2]) ∧ DefRow W' da dl dc R.1.defs ∧ WaitRow W' wa wl wc R.1.waits ∧ IntRow W' ta tl tc R.2.2.1 ∧ Below W.heap.size W W' ∧ NewAt W da ∧ NewAt W wa ∧ NewAt W ta
/-- What Await hands back. -/
def AwaitPost (W : World) (R : DeskD × Int × Int × Int) (e : Ending) (W' : World) : Prop :=
  ∃ da dl dc wa wl wc, e = .returned (.tuple #[deskV da dl dc wa wl wc R.1.next R.1.busy, .int .i64 R.2.1, .int .i64 R.2.2.1, .int .i64 R.2.2.2]) ∧ DefRow W' da dl dc R.1.defs ∧ WaitRow W' wa wl wc R.1.waits ∧ Below W.heap.size W W' ∧ NewAt W da ∧ NewAt W wa
def ifRight (D : DeskD) (z : Int) : Int := if rightK D = true then z else -1
end Go.Proofs.YtkomeijlljcdgaaGreat
/- instarref02's Same. -/
namespace Go.Proofs.YtkomeijlljcdgaaGreat
open Go.RowKit
def sameL (L M : AL) : Bool := decide (L = M)
end Go.Proofs.YtkomeijlljcdgaaGreat
/- instarref03's One and Same. -/
namespace Go.Proofs.YtkomeijlljcdgaaGreat
open Go.RowKit
abbrev nodV (x : NodeD) : Value := .agg #[.int .i64 x.core.kind, .string x.core.name, .string x.core.is, .string x.core.data, .slice x.aA x.aN x.aC, .int .i64 x.core.parent, .slice x.kA x.kN x.kC, .int .i64 x.core.host, .int .i64 x.core.under, .int .i64 x.core.doc]
theorem ba_ne {a b : ByteArray} (h : (a.toList == b.toList) = true) : a = b := toList_inj (beq_iff_eq.1 h)
end Go.Proofs.YtkomeijlljcdgaaGreat
/- The fixed answers that stage 3's laws begin with are right. -/
namespace Go.Proofs.YtkomeijlljcdgaaGreat
open Go.RowKit
def pC (b : UInt8) : Core := ⟨1, ⟨#[b]⟩, ⟨#[]⟩, ⟨#[]⟩, [], 0, [], 0, 0, 0⟩
def pD (b : UInt8) : NodeD := ⟨pC b, none, 0, 0, none, 0, 0⟩
def f2 : List Core := [docC, ⟨1, ⟨#[112]⟩, ⟨#[]⟩, ⟨#[]⟩, [], -1, [], -1, -1, 0⟩]
theorem fa1 : newL 5 = [docC] ∧ newM 5 = 5 ∧ newE 5 = 0 := by decide +kernel
theorem fa2 : makeE 5 [docC] (pC 112) = 0 ∧ makeN 5 [docC] (pC 112) = 1 ∧ makeL 5 [docC] (pC 112) = f2 := by decide +kernel
theorem fa3 : makeE 5 f2 (pC 80) = 1 ∧ makeN 5 f2 (pC 80) = -1 ∧ makeL 5 f2 (pC 80) = f2 := by decide +kernel
theorem fa4 : rightF 5 f2 = true ∧ ordZ 5 f2 1 = [1] ∧ rootZ 5 f2 1 = 1 ∧ holdsZ 5 f2 1 1 = true ∧ holdsZ 5 f2 0 1 = false ∧ placeZ 5 f2 1 = -1 ∧ aheadZ 5 f2 0 1 = false := by decide +kernel
theorem pD_ok (w : World) (b : UInt8) : NodeOk w (pD b) := by
  refine ⟨⟨SRow.nil, (fun z hz => by cases hz), fun _ => rfl⟩, ⟨SRow.nil, (fun z hz => by cases hz), fun _ => rfl⟩, ?_, ?_, ?_, ?_, ?_, ?_, ?_, ?_⟩
  · show 1 ≤ maxLen; decide
  · show 0 ≤ maxLen; decide
  · show 0 ≤ maxLen; decide
  · exact ⟨by show (_ : Int) ≤ 1; decide, by show (1 : Int) ≤ _; decide⟩
  all_goals exact ⟨by show (_ : Int) ≤ 0; decide, by show (0 : Int) ≤ _; decide⟩
theorem pD_small (b : UInt8) : smallX (pD b) := ⟨Nat.zero_le _, by show 1 ≤ 1000; decide⟩
theorem small2 {L : List NodeD} (h : coreL L = f2) : smallF L := by
  unfold coreL f2 at h
  have hl : L.length = 2 := by
    have := congrArg List.length h
    simpa using this
  refine ⟨by omega, fun x hx => ?_⟩
  have hm : x.core ∈ L.map (·.core) := List.mem_map.2 ⟨x, hx, rfl⟩
  rw [h] at hm
  simp at hm
  rcases hm with e | e <;> (unfold smallN; rw [e]; exact ⟨by decide, by decide, by decide⟩)
theorem small1 {L : List NodeD} (h : coreL L = [docC]) : smallF L := by
  unfold coreL at h
  have hl : L.length = 1 := by
    have := congrArg List.length h
    simpa using this
  refine ⟨by omega, fun x hx => ?_⟩
  have hm : x.core ∈ L.map (·.core) := List.mem_map.2 ⟨x, hx, rfl⟩
  rw [h] at hm
  simp at hm
  unfold smallN
  rw [hm]
  exact ⟨by decide, by decide, by decide⟩
abbrev pV (b : UInt8) : Value := .agg #[.int .i64 1, .string ⟨#[b]⟩, .string ⟨#[]⟩, .string ⟨#[]⟩, .slice none 0 0, .int .i64 0, .slice none 0 0, .int .i64 0, .int .i64 0, .int .i64 0]
theorem in5 : In64 5 := ⟨by decide, by decide⟩
theorem in1 : In64 1 := ⟨by decide, by decide⟩
theorem in0 : In64 0 := ⟨by decide, by decide⟩
theorem row_free {w : World} {g : Nat} {cs : Array Value} {t : TypeId} (h : w.heap[g]? = some (.cells cs t (0, 0))) (j : Nat) : w.frozen? ⟨g, j, none⟩ = false := by simp [World.frozen?, h]
/-- No text lies in a forest's box. -/
theorem box_notext {w1 w2 : World} {a : Option Addr} {len cap : Nat} {m : Int} {j : Nat} {s : ByteArray} (hb : Below (w1.alloc (forB a len cap m)).heap.size (w1.alloc (forB a len cap m)) w2) : w2.cell? ⟨w1.heap.size, j, none⟩ ≠ some (.string s) := by
  rw [hb.cell (p := ⟨w1.heap.size, j, none⟩) (by simp), cell_of_row (w1.alloc (forB a len cap m)) w1.heap.size j _ 24 (0, 0) (heap_alloc_new w1 _)]
  match j with
  | 0 => simp
  | 1 => simp
  | j + 2 => simp
/-- A forest whose nodes have no children and no attributes keeps, when a box is written in which it doesn't lie. -/
theorem NodeRow.setBox {w : World} {a : Option Addr} {len cap : Nat} {L : List NodeD} {g o : Nat} (h : NodeRow w a len cap L) (hno : ∀ j s, w.cell? ⟨g, j, none⟩ ≠ some (.string s)) (hk : ∀ x ∈ L, x.core.kids = [] ∧ x.core.attrs = []) (u : Value) : NodeRow (w.setCell ⟨g, o, none⟩ u) a len cap L := by
  have hs : w.heap.size ≤ (w.setCell ⟨g, o, none⟩ u).heap.size := by simp [World.setCell]
  refine ⟨h.row.keep hs (fun b off ha hpos o' => ?_), fun x hx => ?_, h.hnil⟩
  · obtain ⟨b', off', x, ha', _, _, hat, _⟩ := h.get hpos
    rw [ha] at ha'
    injection ha' with ha'
    injection ha' with e1 e2
    subst e1
    refine World.cell?_setCell_other _ _ _ _ (fun e => ?_)
    injection e with e _
    have := hat.c1
    rw [← e] at this
    exact hno _ _ this
  · have hx2 := h.ok x hx
    have h1 := hk x hx
    have k0 : x.kN = 0 := by rw [← hx2.kids.hlen, h1.1]; rfl
    have a0 : x.aN = 0 := by rw [← hx2.attrs.hlen, h1.2]; rfl
    exact ⟨⟨hx2.attrs.row.keep hs (fun _ _ _ hp _ => by omega), hx2.attrs.small, hx2.attrs.hnil⟩, ⟨hx2.kids.row.keep hs (fun _ _ _ hp _ => by omega), hx2.kids.inb, hx2.kids.hnil⟩, hx2.name, hx2.is, hx2.data, hx2.kind, hx2.parent, hx2.host, hx2.under, hx2.doc⟩
theorem bare2 {L : List NodeD} (h : coreL L = f2) : ∀ x ∈ L, x.core.kids = [] ∧ x.core.attrs = [] := fun x hx => by
  have hm : x.core ∈ coreL L := List.mem_map.2 ⟨x, hx, rfl⟩
  rw [h] at hm
  unfold f2 docC at hm
  simp at hm
  rcases hm with e | e <;> rw [e] <;> exact ⟨rfl, rfl⟩
theorem notext_set {w : World} {g o : Nat} {u v : Value} (h : ∀ j s, w.cell? ⟨g, j, none⟩ ≠ some (.string s)) (hc : w.cell? ⟨g, o, none⟩ = some v) (hu : ∀ s, u ≠ .string s) : ∀ j s, (w.setCell ⟨g, o, none⟩ u).cell? ⟨g, j, none⟩ ≠ some (.string s) := fun j s e => by
  by_cases hj : o = j
  · subst hj
    rw [World.cell?_setCell_same _ _ _ hc] at e
    injection e with e
    exact hu s e
  · rw [World.cell?_setCell_other _ _ _ _ (fun e2 => by injection e2 with _ e2; exact hj e2)] at e
    exact h j s e
/-- A forest in a box of the call's own, and its rows. -/
structure Box (w W : World) (g : Nat) (a : Option Addr) (len cap : Nat) (m : Int) (L : List NodeD) (F : List Core) : Prop where
  row : NodeRow W a len cap L
  core : coreL L = F
  low : w.heap.size ≤ g
  lt : g < W.heap.size
  c0 : W.cell? ⟨g, 0, none⟩ = some (.slice a len cap)
  c1 : W.cell? ⟨g, 1, none⟩ = some (.int .i64 m)
  below : Below w.heap.size w W
theorem Box.keep {w W W2 : World} {g : Nat} {a : Option Addr} {len cap : Nat} {m : Int} {L : List NodeD} {F : List Core} (h : Box w W g a len cap m L F) (hb : Below W.heap.size W W2) : Box w W2 g a len cap m L F :=
  ⟨h.row.below hb, h.core, h.low, Nat.lt_of_lt_of_le h.lt hb.size, (hb.cell (p := ⟨g, 0, none⟩) h.lt).trans h.c0, (hb.cell (p := ⟨g, 1, none⟩) h.lt).trans h.c1, h.below.trans (hb.mono h.below.size)⟩
end Go.Proofs.YtkomeijlljcdgaaGreat
/- The walk of the law ForestHolds, over the contracts of package forest. -/
namespace Go.Proofs.YtkomeijlljcdgaaGreat
open Go.RowKit
theorem Box.start {w : World} {a : Option Addr} {len cap : Nat} {m : Int} {L : List NodeD} (h : NodeRow w a len cap L) : Box w (w.alloc (forB a len cap m)) w.heap.size a len cap m L (coreL L) :=
  ⟨h.below (below_box _ _), rfl, Nat.le_refl _, by simp, cell_of_row (w.alloc (forB a len cap m)) w.heap.size 0 _ 24 (0, 0) (heap_alloc_new w _), cell_of_row (w.alloc (forB a len cap m)) w.heap.size 1 _ 24 (0, 0) (heap_alloc_new w _), below_box _ _⟩
end Go.Proofs.YtkomeijlljcdgaaGreat
/- instarref03's Same, over forests. -/
namespace Go.Proofs.YtkomeijlljcdgaaGreat
open Go.RowKit
/-- The second argument's box. -/
theorem Box.next {w : World} {B : Obj} {a : Option Addr} {len cap : Nat} {m : Int} {L : List NodeD} (h : NodeRow w a len cap L) : Box w ((w.alloc B).alloc (forB a len cap m)) (w.heap.size + 1) a len cap m L (coreL L) := by
  have hs : (w.alloc B).heap.size = w.heap.size + 1 := by simp
  have h1 := Box.start (w := w.alloc B) (m := m) (h.below (below_box w B))
  refine ⟨h1.row, rfl, by omega, by simp, ?_, ?_, (below_box w B).alloc (by simp) _⟩
  · have := h1.c0
    rwa [hs] at this
  · have := h1.c1
    rwa [hs] at this
end Go.Proofs.YtkomeijlljcdgaaGreat
/- A node in a box of the call's own. -/
namespace Go.Proofs.YtkomeijlljcdgaaGreat
open Go.RowKit
/-- A node in a box of the call's own. -/
structure NBox (w W : World) (g : Nat) (x : NodeD) : Prop where
  lt : g < W.heap.size
  c0 : W.cell? ⟨g, 0, none⟩ = some (.int .i64 x.core.kind)
  c1 : W.cell? ⟨g, 1, none⟩ = some (.string x.core.name)
  c2 : W.cell? ⟨g, 2, none⟩ = some (.string x.core.is)
  c3 : W.cell? ⟨g, 3, none⟩ = some (.string x.core.data)
  c4 : W.cell? ⟨g, 4, none⟩ = some (.slice x.aA x.aN x.aC)
  c5 : W.cell? ⟨g, 5, none⟩ = some (.int .i64 x.core.parent)
  c6 : W.cell? ⟨g, 6, none⟩ = some (.slice x.kA x.kN x.kC)
  c7 : W.cell? ⟨g, 7, none⟩ = some (.int .i64 x.core.host)
  c8 : W.cell? ⟨g, 8, none⟩ = some (.int .i64 x.core.under)
  c9 : W.cell? ⟨g, 9, none⟩ = some (.int .i64 x.core.doc)
  ok : NodeOk W x
theorem NBox.keep {w W W2 : World} {g : Nat} {x : NodeD} (h : NBox w W g x) (hb : Below W.heap.size W W2) : NBox w W2 g x := by
  have e : ∀ o, W2.cell? ⟨g, o, none⟩ = W.cell? ⟨g, o, none⟩ := fun o => hb.cell (p := ⟨g, o, none⟩) h.lt
  exact ⟨Nat.lt_of_lt_of_le h.lt hb.size, (e _).trans h.c0, (e _).trans h.c1, (e _).trans h.c2, (e _).trans h.c3, (e _).trans h.c4, (e _).trans h.c5, (e _).trans h.c6, (e _).trans h.c7, (e _).trans h.c8, (e _).trans h.c9, h.ok.below hb⟩
abbrev nodB (x : NodeD) : Obj := .cells #[.int .i64 x.core.kind, .string x.core.name, .string x.core.is, .string x.core.data, .slice x.aA x.aN x.aC, .int .i64 x.core.parent, .slice x.kA x.kN x.kC, .int .i64 x.core.host, .int .i64 x.core.under, .int .i64 x.core.doc] 47
theorem NBox.next {w : World} {B : Obj} {x : NodeD} (h : NodeOk w x) : NBox w ((w.alloc B).alloc (nodB x)) (w.heap.size + 1) x := by
  have hs : (w.alloc B).heap.size = w.heap.size + 1 := by simp
  have c : ∀ (j : Nat), ((w.alloc B).alloc (nodB x)).cell? ⟨w.heap.size + 1, j, none⟩ = (#[.int .i64 x.core.kind, .string x.core.name, .string x.core.is, .string x.core.data, .slice x.aA x.aN x.aC, .int .i64 x.core.parent, .slice x.kA x.kN x.kC, .int .i64 x.core.host, .int .i64 x.core.under, .int .i64 x.core.doc] : Array Value)[j]? := fun j => by
    have := cell_of_row ((w.alloc B).alloc (nodB x)) (w.alloc B).heap.size j _ 47 (0, 0) (heap_alloc_new _ _)
    rwa [hs] at this
  exact ⟨by simp, c 0, c 1, c 2, c 3, c 4, c 5, c 6, c 7, c 8, c 9, h.below ((below_box w B).alloc (by simp) _)⟩
end Go.Proofs.YtkomeijlljcdgaaGreat
/- Package forest's is, docFits, isElemName, fieldsFit, up: one node's own rules. -/
namespace Go.Proofs.YtkomeijlljcdgaaGreat
open Go.RowKit
/-- Is n the number of a node of the kind k? -/
def isKd (F : List Core) (n k : Int) : Bool := match getC F n with | some c => c.kind == k | none => false
theorem getC_len {F : List Core} {n : Int} (h0 : 0 ≤ n) (h1 : n < F.length) : ∃ c, getC F n = some c ∧ F[n.toNat]? = some c := by
  have hl : n.toNat < F.length := by omega
  refine ⟨F[n.toNat], ?_, List.getElem?_eq_getElem hl⟩
  unfold getC
  rw [if_pos h0, List.getElem?_eq_getElem hl]
theorem getC_not {F : List Core} {n : Int} (h : n < 0 ∨ (F.length : Int) ≤ n) : getC F n = none := by
  unfold getC
  by_cases h0 : 0 ≤ n
  · rw [if_pos h0]
    exact List.getElem?_eq_none_iff.2 (by omega)
  · rw [if_neg h0]
theorem coreL_len (L : List NodeD) : (coreL L).length = L.length := by unfold coreL; rw [List.length_map]
theorem coreL_get {L : List NodeD} {k : Nat} {x : NodeD} (h : L[k]? = some x) : (coreL L)[k]? = some x.core := by unfold coreL; rw [List.getElem?_map, h]; rfl
set_option maxHeartbeats 2000000 in
theorem is_any (a : Option Addr) (len cap : Nat) (L : List NodeD) (n k : Int) (w : World) (h : NodeRow w a len cap L) (hn : In64 n) :
    Calls Tryz.prog 42 #[.slice a len cap, .int .i64 n, .int .i64 k] w fun e w' => e = .returned (.bool (isKd (coreL L) n k)) ∧ w = w' := by
  have hl := h.len64
  have HL := Lib.hid h.hlen
  by_cases h0 : 0 ≤ n
  rotate_left
  · have HR : Hid (isKd (coreL L) n k = false) := Lib.hid (by unfold isKd; rw [getC_not (.inl (by omega))])
    clear h
    go_enter Tryz.func42, Tryz.ntmps42
    go_wp2
    go_ret
    exact ⟨ret_bool HR.out.symm, rfl⟩
  by_cases h1 : n < len
  rotate_left
  · have HR : Hid (isKd (coreL L) n k = false) := Lib.hid (by unfold isKd; rw [getC_not (.inr (by rw [coreL_len, HL.out]; omega))])
    clear h
    go_enter Tryz.func42, Tryz.ntmps42
    go_wp2
    go_ret
    exact ⟨ret_bool HR.out.symm, rfl⟩
  obtain ⟨m, rfl⟩ : ∃ m : Nat, n = m := ⟨n.toNat, by omega⟩
  obtain ⟨b, off, x, rfl, hb, hx, hc, hok⟩ := h.get (show m < len by omega)
  have HR : Hid (isKd (coreL L) (m : Int) k = (x.core.kind == k)) := Lib.hid (by unfold isKd; rw [getC_nat, coreL_get hx])
  have c0 := hc.c0
  clear h hc hok hx
  go_enter Tryz.func42, Tryz.ntmps42
  go_wp2
  go_ret
  exact ⟨ret_bool HR.out.symm, rfl⟩
def docB (F : List Core) (i : Int) (x : Core) : Bool := isKd F x.doc 0 && (x.kind != 0 || x.doc == i)
set_option maxHeartbeats 2000000 in
theorem docFits_any (a : Option Addr) (len cap : Nat) (L : List NodeD) (n : Nat) (x : NodeD) (w : World) (h : NodeRow w a len cap L) (hx : L[n]? = some x) :
    Calls Tryz.prog 74 #[.slice a len cap, .int .i64 n] w fun e w' => e = .returned (.bool (docB (coreL L) n x.core)) ∧ w = w' := by
  have hl := h.len64
  have hnl : n < len := by rw [← h.hlen]; exact (List.getElem?_eq_some_iff.1 hx).1
  obtain ⟨b, off, x', rfl, hb, hx', hc, hok⟩ := h.get hnl
  obtain rfl : x = x' := Option.some.inj (hx.symm.trans hx')
  have c0 := hc.c0
  have c9 := hc.c9
  have C1 := Lib.hid (is_any (some ⟨b, off, none⟩) len cap L x.core.doc 0 w h hok.doc)
  have HX := Lib.hid hx
  clear h hc hx hx' hok
  by_cases q1 : isKd (coreL L) x.core.doc 0 = true
  rotate_left
  · have q1 : isKd (coreL L) x.core.doc 0 = false := by simpa using q1
    have HR : Hid (docB (coreL L) n x.core = false) := Lib.hid (by unfold docB; rw [q1]; rfl)
    rw [q1] at C1
    clear q1
    go_enter Tryz.func74, Tryz.ntmps74
    go_wp2_with (go_at_call 42; refine C1.out.mono ?_; rintro e w' ⟨rfl, rfl⟩)
    go_ret
    exact ⟨ret_bool HR.out.symm, rfl⟩
  have HR : Hid (docB (coreL L) n x.core = (x.core.kind != 0 || x.core.doc == (n : Int))) := Lib.hid (by unfold docB; rw [q1]; rfl)
  rw [q1] at C1
  clear q1
  by_cases q2 : x.core.kind = 0
  · have e1 : (x.core.kind != 0) = false := by rw [q2]; rfl
    have HR : Hid (docB (coreL L) n x.core = (x.core.doc == (n : Int))) := Lib.hid (by rw [HR.out, e1]; rfl)
    clear q2
    go_enter Tryz.func74, Tryz.ntmps74
    go_wp2_with (go_at_call 42; refine C1.out.mono ?_; rintro e w' ⟨rfl, rfl⟩)
    go_ret
    exact ⟨ret_bool HR.out.symm, rfl⟩
  · have e1 : (x.core.kind != 0) = true := bne_iff_ne.2 q2
    have HR : Hid (docB (coreL L) n x.core = true) := Lib.hid (by rw [HR.out, e1]; rfl)
    clear q2
    go_enter Tryz.func74, Tryz.ntmps74
    go_wp2_with (go_at_call 42; refine C1.out.mono ?_; rintro e w' ⟨rfl, rfl⟩)
    go_ret
    exact ⟨ret_bool HR.out.symm, rfl⟩
end Go.Proofs.YtkomeijlljcdgaaGreat
/- Package forest's kidsFit. -/
namespace Go.Proofs.YtkomeijlljcdgaaGreat
open Go.RowKit
def kidB (F : List Core) (i d k : Int) : Bool := (isKd F k 1 || isKd F k 2) && match getC F k with | some c => c.parent == i && c.doc == d | none => false
def elemsB (F : List Core) (l : List Int) : Nat := l.countP (fun z => isKd F z 1)
def textsB (F : List Core) (l : List Int) : Nat := l.countP (fun z => isKd F z 2)
def shapeB (F : List Core) (x : Core) : Bool := if x.kind = 0 then decide (elemsB F x.kids ≤ 1) && decide (textsB F x.kids = 0) else if x.kind = 2 then decide (elemsB F x.kids + textsB F x.kids = 0) else true
def kidsB (F : List Core) (i : Int) (x : Core) : Bool := x.kids.all (kidB F i x.doc) && shapeB F x
theorem isKd_get {L : List NodeD} {z k : Int} (h : isKd (coreL L) z k = true) : ∃ (j : Nat) (y : NodeD), z = j ∧ L[j]? = some y ∧ y.core.kind = k := by
  unfold isKd at h
  cases hg : getC (coreL L) z with
  | none => rw [hg] at h; cases h
  | some c =>
    rw [hg] at h
    obtain ⟨h1, h2, h3⟩ := getC_some hg
    have h4 := beq_iff_eq.1 h
    unfold coreL at h3
    rw [List.getElem?_map] at h3
    cases hy : L[z.toNat]? with
    | none => rw [hy] at h3; cases h3
    | some y =>
      rw [hy] at h3
      injection h3 with h3
      exact ⟨z.toNat, y, by omega, hy, by rw [← h4, ← h3]⟩
theorem elemsB_step {F : List Core} {l : List Int} {k : Nat} {z : Int} (h : l[k]? = some z) : elemsB F (l.take (k + 1)) = elemsB F (l.take k) + (if isKd F z 1 then 1 else 0) := by
  obtain ⟨hl, hg⟩ := List.getElem?_eq_some_iff.1 h
  unfold elemsB
  rw [List.take_succ_eq_append_getElem hl, hg, List.countP_append]
  simp [List.countP_cons]
theorem textsB_step {F : List Core} {l : List Int} {k : Nat} {z : Int} (h : l[k]? = some z) : textsB F (l.take (k + 1)) = textsB F (l.take k) + (if isKd F z 2 then 1 else 0) := by
  obtain ⟨hl, hg⟩ := List.getElem?_eq_some_iff.1 h
  unfold textsB
  rw [List.take_succ_eq_append_getElem hl, hg, List.countP_append]
  simp [List.countP_cons]
theorem elemsB_le (F : List Core) (l : List Int) (k : Nat) : elemsB F (l.take k) ≤ k := Nat.le_trans List.countP_le_length (List.length_take_le _ _)
theorem textsB_le (F : List Core) (l : List Int) (k : Nat) : textsB F (l.take k) ≤ k := Nat.le_trans List.countP_le_length (List.length_take_le _ _)
theorem isKd_apart {F : List Core} {z j k : Int} (h : isKd F z j = true) (hn : j ≠ k) : isKd F z k = false := by
  unfold isKd at h ⊢
  cases hg : getC F z with
  | none => rfl
  | some c =>
    rw [hg] at h
    have := beq_iff_eq.1 h
    exact beq_eq_false_iff_ne.2 (by rw [this]; exact hn)
theorem both_le (F : List Core) (k : Nat) : ∀ l : List Int, elemsB F (l.take k) + textsB F (l.take k) ≤ k := fun l => by
  have key : ∀ l : List Int, elemsB F l + textsB F l ≤ l.length := by
    intro l
    induction l with
    | nil => exact Nat.le_refl _
    | cons a r ih =>
      have h1 : elemsB F (a :: r) = elemsB F r + (if isKd F a 1 then 1 else 0) := by unfold elemsB; rw [List.countP_cons]
      have h2 : textsB F (a :: r) = textsB F r + (if isKd F a 2 then 1 else 0) := by unfold textsB; rw [List.countP_cons]
      rw [h1, h2, List.length_cons]
      cases q1 : isKd F a 1 with
      | true =>
        rw [isKd_apart q1 (show (1 : Int) ≠ 2 by decide)]
        simp
        omega
      | false =>
        cases isKd F a 2 <;> simp <;> omega
  exact Nat.le_trans (key _) (List.length_take_le _ _)
set_option maxHeartbeats 8000000 in
set_option maxRecDepth 100000 in
theorem kidsFit_any (a : Option Addr) (len cap : Nat) (L : List NodeD) (n : Nat) (x : NodeD) (w : World) (h : NodeRow w a len cap L) (hx : L[n]? = some x) :
    Calls Tryz.prog 75 #[.slice a len cap, .int .i64 n] w fun e w' => e = .returned (.bool (kidsB (coreL L) n x.core)) ∧ Below w.heap.size w w' := by
  have hl := h.len64
  have hnl : n < len := by rw [← h.hlen]; exact (List.getElem?_eq_some_iff.1 hx).1
  have HL := Lib.hid h.hlen
  obtain ⟨b, off, x', rfl, hb, hx', hc, hok⟩ := h.get hnl
  obtain rfl : x = x' := Option.some.inj (hx.symm.trans hx')
  have c0 := hc.c0
  have c6 := hc.c6
  have c9 := hc.c9
  have hk0 := hok.kids
  obtain ⟨kA, hkA⟩ : ∃ q, x.kA = q := ⟨_, rfl⟩
  rw [hkA] at c6 hk0
  have HK := Lib.hid hk0
  have hkl := hok.kids.len64
  have HKL := Lib.hid hok.kids.hlen
  have CI : Hid (∀ m z k, In64 z → Calls Tryz.prog 42 #[.slice (some ⟨b, off, none⟩) len cap, .int .i64 z, .int .i64 k] (w.drewN m) fun e w' => e = .returned (.bool (isKd (coreL L) z k)) ∧ w.drewN m = w') :=
    Lib.hid (fun m z k hz => is_any _ len cap L z k _ (h.drewN m) hz)
  have HX := Lib.hid hx
  clear hc hx hx' hok hb hk0 hkA
  go_enter Tryz.func75, Tryz.ntmps75
  go_wp2
  go_loopw [5, 6, 15] (fun e t i wr => ∃ k m : Nat, k ≤ x.kN ∧ i = .int .i64 k ∧ e = .int .i64 (elemsB (coreL L) (x.core.kids.take k) : Nat) ∧ t = .int .i64 (textsB (coreL L) (x.core.kids.take k) : Nat) ∧ wr = w.drewN m ∧ Hid (∀ j z, j < k → x.core.kids[j]? = some z → kidB (coreL L) n x.core.doc z = true)) (fun _ _ i _ => x.kN - (intOf i).toNat)
  case atStart => exact ⟨0, 0, Nat.zero_le _, rfl, rfl, rfl, rfl, Lib.hid (fun j z hj _ => absurd hj (by omega))⟩
  case round =>
    obtain ⟨k, m, hk, rfl, rfl, rfl, rfl, HA⟩ := hrel
    have hle := both_le (coreL L) k x.core.kids
    obtain ⟨el, hel⟩ : ∃ el, elemsB (coreL L) (x.core.kids.take k) = el := ⟨_, rfl⟩
    obtain ⟨tx, htx⟩ : ∃ tx, textsB (coreL L) (x.core.kids.take k) = tx := ⟨_, rfl⟩
    rw [hel, htx] at hle ⊢
    by_cases hlt : k < x.kN
    · obtain ⟨bk, ok, z, rfl, hbk, hz, hcz, hin⟩ := HK.out.get hlt
      have HES := elemsB_step (F := coreL L) hz
      have HTS := textsB_step (F := coreL L) hz
      rw [hel] at HES
      rw [htx] at HTS
      have STOP : Hid (kidB (coreL L) n x.core.doc z = false → kidsB (coreL L) n x.core = false) := Lib.hid (fun hs => by
        unfold kidsB
        have : x.core.kids.all (kidB (coreL L) n x.core.doc) = false := by rw [List.all_eq_false]; exact ⟨z, List.mem_of_getElem? hz, by simp [hs]⟩
        rw [this, Bool.false_and])
      have MORE : Hid (kidB (coreL L) n x.core.doc z = true → ∀ j y, j < k + 1 → x.core.kids[j]? = some y → kidB (coreL L) n x.core.doc y = true) := Lib.hid (fun hs j y hj hy => by
        by_cases e : j = k
        · subst e
          rw [hz] at hy
          rw [← Option.some.inj hy]
          exact hs
        · exact HA.out j y (by omega) hy)
      clear hz hel htx
      have CI1 := Lib.hid (fun m => CI.out m z 1 hin)
      have CI2 := Lib.hid (fun m => CI.out m z 2 hin)
      cases q1 : isKd (coreL L) z 1 with
      | true =>
        have q2 := isKd_apart q1 (show (1 : Int) ≠ 2 by decide)
        have HE : Hid (elemsB (coreL L) (x.core.kids.take (k + 1)) = el + 1) := Lib.hid (by rw [HES, q1]; rfl)
        have HT : Hid (textsB (coreL L) (x.core.kids.take (k + 1)) = tx) := Lib.hid (by rw [HTS, q2]; rfl)
        rw [q1] at CI1
        rw [q2] at CI2
        clear HES HTS
        (
          obtain ⟨j, y, rfl, hy, hyk⟩ := isKd_get (by assumption)
          have hjl : j < len := by rw [← HL.out]; exact (List.getElem?_eq_some_iff.1 hy).1
          obtain ⟨b2, off2, y', hab, hb2, hy', hcy, hoky⟩ := h.get hjl
          obtain rfl : y = y' := Option.some.inj (hy.symm.trans hy')
          injection hab with hab
          injection hab with e1 e2
          subst e1 e2
          have d5 := hcy.c5
          have d9 := hcy.c9
          have HB : Hid (kidB (coreL L) n x.core.doc (j : Int) = (y.core.parent == (n : Int) && y.core.doc == x.core.doc)) := Lib.hid (by
            unfold kidB
            rw [getC_nat, coreL_get hy]
            simp [*])
          clear hy hyk hcy hoky hy' h hb2
          by_cases p1 : y.core.parent = (n : Int)
          rotate_left
          · have e1 : (y.core.parent != (n : Int)) = true := bne_iff_ne.2 p1
            have e2 : (y.core.parent == (n : Int)) = false := beq_eq_false_iff_ne.2 p1
            have HR : Hid (kidsB (coreL L) n x.core = false) := Lib.hid (STOP.out (by rw [HB.out, e2]; rfl))
            clear p1
            (go_wp2_with (first
                | (go_at_call 42; ((with_reducible refine (CI1.out _).mono ?_); rintro e w' ⟨rfl, rfl⟩))
                | (go_at_call 42; ((with_reducible refine (CI2.out _).mono ?_); rintro e w' ⟨rfl, rfl⟩))))
            go_quiet (fail)
            go_wp2
            go_ret
            exact ⟨ret_bool HR.out.symm, below_drewN (below_drewN (Below.refl _ _) _) _⟩
          by_cases p2 : y.core.doc = x.core.doc
          rotate_left
          · have e1 : (y.core.parent != (n : Int)) = false := by rw [p1]; simp
            have e2 : (y.core.doc != x.core.doc) = true := bne_iff_ne.2 p2
            have e3 : (y.core.doc == x.core.doc) = false := beq_eq_false_iff_ne.2 p2
            have HR : Hid (kidsB (coreL L) n x.core = false) := Lib.hid (STOP.out (by rw [HB.out, e3, Bool.and_false]))
            rw [p1] at d5
            have e4 : ((n : Int) != (n : Int)) = false := by simp
            clear p1 p2
            (go_wp2_with (first
                | (go_at_call 42; ((with_reducible refine (CI1.out _).mono ?_); rintro e w' ⟨rfl, rfl⟩))
                | (go_at_call 42; ((with_reducible refine (CI2.out _).mono ?_); rintro e w' ⟨rfl, rfl⟩))))
            go_quiet (fail)
            go_wp2
            go_ret
            exact ⟨ret_bool HR.out.symm, below_drewN (below_drewN (Below.refl _ _) _) _⟩
          have HB : Hid (kidB (coreL L) n x.core.doc (j : Int) = true) := Lib.hid (by rw [HB.out, p1, p2]; simp)
          rw [p1] at d5
          rw [p2] at d9
          have e4 : ((n : Int) != (n : Int)) = false := by simp
          have e5 : (x.core.doc != x.core.doc) = false := by simp
          clear p1 p2
          (go_wp2_with (first
              | (go_at_call 42; ((with_reducible refine (CI1.out _).mono ?_); rintro e w' ⟨rfl, rfl⟩))
              | (go_at_call 42; ((with_reducible refine (CI2.out _).mono ?_); rintro e w' ⟨rfl, rfl⟩))))
          go_quiet (fail)
          go_wp2
          go_roundw
          case rel => exact ⟨k + 1, _, by omega, by go_num, by first | (rw [HE.out]; done) | (rw [HE.out]; go_num), by first | (rw [HT.out]; done) | (rw [HT.out]; go_num), by first | rfl | exact World.drewN_drewN _ _ _, Lib.hid (MORE.out HB.out)⟩
          case measure => simp [intOf]; omega)
      | false =>
        rw [q1] at CI1
        cases q2 : isKd (coreL L) z 2 with
        | true =>
          have HE : Hid (elemsB (coreL L) (x.core.kids.take (k + 1)) = el) := Lib.hid (by rw [HES, q1]; rfl)
          have HT : Hid (textsB (coreL L) (x.core.kids.take (k + 1)) = tx + 1) := Lib.hid (by rw [HTS, q2]; rfl)
          rw [q2] at CI2
          clear HES HTS
          (
            obtain ⟨j, y, rfl, hy, hyk⟩ := isKd_get (by assumption)
            have hjl : j < len := by rw [← HL.out]; exact (List.getElem?_eq_some_iff.1 hy).1
            obtain ⟨b2, off2, y', hab, hb2, hy', hcy, hoky⟩ := h.get hjl
            obtain rfl : y = y' := Option.some.inj (hy.symm.trans hy')
            injection hab with hab
            injection hab with e1 e2
            subst e1 e2
            have d5 := hcy.c5
            have d9 := hcy.c9
            have HB : Hid (kidB (coreL L) n x.core.doc (j : Int) = (y.core.parent == (n : Int) && y.core.doc == x.core.doc)) := Lib.hid (by
              unfold kidB
              rw [getC_nat, coreL_get hy]
              simp [*])
            clear hy hyk hcy hoky hy' h hb2
            by_cases p1 : y.core.parent = (n : Int)
            rotate_left
            · have e1 : (y.core.parent != (n : Int)) = true := bne_iff_ne.2 p1
              have e2 : (y.core.parent == (n : Int)) = false := beq_eq_false_iff_ne.2 p1
              have HR : Hid (kidsB (coreL L) n x.core = false) := Lib.hid (STOP.out (by rw [HB.out, e2]; rfl))
              clear p1
              (go_wp2_with (first
                  | (go_at_call 42; ((with_reducible refine (CI1.out _).mono ?_); rintro e w' ⟨rfl, rfl⟩))
                  | (go_at_call 42; ((with_reducible refine (CI2.out _).mono ?_); rintro e w' ⟨rfl, rfl⟩))))
              go_quiet (fail)
              go_wp2
              go_ret
              exact ⟨ret_bool HR.out.symm, below_drewN (below_drewN (Below.refl _ _) _) _⟩
            by_cases p2 : y.core.doc = x.core.doc
            rotate_left
            · have e1 : (y.core.parent != (n : Int)) = false := by rw [p1]; simp
              have e2 : (y.core.doc != x.core.doc) = true := bne_iff_ne.2 p2
              have e3 : (y.core.doc == x.core.doc) = false := beq_eq_false_iff_ne.2 p2
              have HR : Hid (kidsB (coreL L) n x.core = false) := Lib.hid (STOP.out (by rw [HB.out, e3, Bool.and_false]))
              rw [p1] at d5
              have e4 : ((n : Int) != (n : Int)) = false := by simp
              clear p1 p2
              (go_wp2_with (first
                  | (go_at_call 42; ((with_reducible refine (CI1.out _).mono ?_); rintro e w' ⟨rfl, rfl⟩))
                  | (go_at_call 42; ((with_reducible refine (CI2.out _).mono ?_); rintro e w' ⟨rfl, rfl⟩))))
              go_quiet (fail)
              go_wp2
              go_ret
              exact ⟨ret_bool HR.out.symm, below_drewN (below_drewN (Below.refl _ _) _) _⟩
            have HB : Hid (kidB (coreL L) n x.core.doc (j : Int) = true) := Lib.hid (by rw [HB.out, p1, p2]; simp)
            rw [p1] at d5
            rw [p2] at d9
            have e4 : ((n : Int) != (n : Int)) = false := by simp
            have e5 : (x.core.doc != x.core.doc) = false := by simp
            clear p1 p2
            (go_wp2_with (first
                | (go_at_call 42; ((with_reducible refine (CI1.out _).mono ?_); rintro e w' ⟨rfl, rfl⟩))
                | (go_at_call 42; ((with_reducible refine (CI2.out _).mono ?_); rintro e w' ⟨rfl, rfl⟩))))
            go_quiet (fail)
            go_wp2
            go_roundw
            case rel => exact ⟨k + 1, _, by omega, by go_num, by first | (rw [HE.out]; done) | (rw [HE.out]; go_num), by first | (rw [HT.out]; done) | (rw [HT.out]; go_num), by first | rfl | exact World.drewN_drewN _ _ _, Lib.hid (MORE.out HB.out)⟩
            case measure => simp [intOf]; omega)
        | false =>
          have HR : Hid (kidsB (coreL L) n x.core = false) := Lib.hid (STOP.out (by unfold kidB; rw [q1, q2]; rfl))
          rw [q2] at CI2
          clear HES HTS q1 q2
          (go_wp2_with (first
              | (go_at_call 42; ((with_reducible refine (CI1.out _).mono ?_); rintro e w' ⟨rfl, rfl⟩))
              | (go_at_call 42; ((with_reducible refine (CI2.out _).mono ?_); rintro e w' ⟨rfl, rfl⟩))))
          go_ret
          exact ⟨ret_bool HR.out.symm, below_drewN (Below.refl _ _) _⟩
    · have hkk : k = x.kN := by omega
      subst hkk
      have e1 : x.core.kids.take x.kN = x.core.kids := List.take_of_length_le (by rw [HKL.out]; omega)
      have HALL : Hid (kidsB (coreL L) n x.core = shapeB (coreL L) x.core) := Lib.hid (by
        unfold kidsB
        have : x.core.kids.all (kidB (coreL L) n x.core.doc) = true := by
          rw [List.all_eq_true]
          intro z hz
          obtain ⟨j, hj, he⟩ := List.mem_iff_getElem.1 hz
          exact HA.out j z (by rw [HKL.out] at hj; omega) (by rw [List.getElem?_eq_getElem hj, he])
        rw [this, Bool.true_and])
      rw [e1] at hel htx
      by_cases k0 : x.core.kind = 0
      · have HR : Hid (kidsB (coreL L) n x.core = (decide ((el : Int) ≤ 1) && ((tx : Int) == 0))) := Lib.hid (by rw [HALL.out]; unfold shapeB; rw [if_pos k0, hel, htx, Bool.eq_iff_iff]; simp; omega)
        rw [k0] at c0
        clear hel htx e1 k0 CI HA HALL
        by_cases t0 : (el : Int) ≤ 1
        · rw [decide_eq_true t0, Bool.true_and] at HR
          go_wp2
          go_ret
          exact ⟨ret_bool HR.out.symm, below_drewN (Below.refl _ _) _⟩
        · rw [decide_eq_false t0, Bool.false_and] at HR
          go_wp2
          go_ret
          exact ⟨ret_bool HR.out.symm, below_drewN (Below.refl _ _) _⟩
      by_cases k2 : x.core.kind = 2
      · have HR : Hid (kidsB (coreL L) n x.core = ((el : Int) + tx == 0)) := Lib.hid (by rw [HALL.out]; unfold shapeB; rw [if_neg k0, if_pos k2, hel, htx, Bool.eq_iff_iff]; simp; omega)
        rw [k2] at c0
        clear hel htx e1 k0 k2 CI HA HALL
        go_wp2
        go_ret
        exact ⟨ret_bool HR.out.symm, below_drewN (Below.refl _ _) _⟩
      have HR : Hid (kidsB (coreL L) n x.core = true) := Lib.hid (by rw [HALL.out]; unfold shapeB; rw [if_neg k0, if_neg k2])
      have f0 : (x.core.kind == 0) = false := beq_eq_false_iff_ne.2 k0
      have f2 : (x.core.kind == 2) = false := beq_eq_false_iff_ne.2 k2
      clear hel htx e1 k0 k2 CI HA HALL
      go_wp2
      go_ret
      exact ⟨ret_bool HR.out.symm, below_drewN (Below.refl _ _) _⟩
end Go.Proofs.YtkomeijlljcdgaaGreat
/- A row of one-cell elements in a block of the call's own: made, read, written. No program. -/
namespace Go.Proofs.YtkomeijlljcdgaaGreat
open Go.RowKit
structure ORow {α : Type} (enc : α → Value) (w : World) (g : Nat) (L : List α) : Prop where
  lt : g < w.heap.size
  cell : ∀ i x, L[i]? = some x → w.cell? ⟨g, i, none⟩ = some (enc x)
  free : ∀ i, w.frozen? ⟨g, i, none⟩ = false
section
variable {α : Type} {enc : α → Value} {w w' : World} {g : Nat} {L : List α}
theorem ORow.keep (h : ORow enc w g L) (hb : Below w.heap.size w w') : ORow enc w' g L :=
  ⟨Nat.lt_of_lt_of_le h.lt hb.size, fun i x hx => (hb.cell (p := ⟨g, i, none⟩) h.lt).trans (h.cell i x hx), fun i => (hb.frozen (p := ⟨g, i, none⟩) h.lt).trans (h.free i)⟩
theorem ORow.drewN (h : ORow enc w g L) (n : Nat) : ORow enc (w.drewN n) g L := ⟨h.lt, h.cell, h.free⟩
theorem ORow.set (h : ORow enc w g L) {k : Nat} (hk : k < L.length) (x : α) : ORow enc (w.setCell ⟨g, k, none⟩ (enc x)) g (L.set k x) := by
  refine ⟨by simpa [World.setCell] using h.lt, fun i y hy => ?_, fun i => by rw [World.frozen?_setCell]; exact h.free i⟩
  by_cases e : k = i
  · subst e
    rw [List.getElem?_set_self hk] at hy
    injection hy with hy
    subst hy
    exact World.cell?_setCell_same _ _ _ (h.cell k _ (List.getElem?_eq_getElem hk))
  · rw [List.getElem?_set_ne e] at hy
    rw [World.cell?_setCell_other _ _ _ _ (fun e' => by injection e' with _ e'; exact e e')]
    exact h.cell i y hy
/-- A store into another block. -/
theorem ORow.other (h : ORow enc w g L) {p : Addr} (hp : p.block ≠ g) (u : Value) : ORow enc (w.setCell p u) g L :=
  ⟨by simpa [World.setCell] using h.lt, fun i x hx => (World.cell?_setCell_other _ _ _ _ (fun e => hp (by rw [e]))).trans (h.cell i x hx), fun i => by rw [World.frozen?_setCell]; exact h.free i⟩
theorem ORow.made (w : World) (e : TypeId) (x : α) (n : Nat) : ORow enc (w.alloc (.cells (madeCells #[enc x] n) e)) w.heap.size (List.replicate n x) := by
  refine ⟨by simp, fun i y hy => ?_, fun i => (World.rowIs_made w (enc x) n e).frozen i⟩
  obtain ⟨hl, hg⟩ := List.getElem?_eq_some_iff.1 hy
  rw [List.getElem_replicate] at hg
  subst hg
  rw [List.length_replicate] at hl
  exact (World.rowIs_made w (enc x) n e).cell hl
end
end Go.Proofs.YtkomeijlljcdgaaGreat
/- What is got of a list of attributes, and what is set, removed, toggled: said over lists. -/
namespace Go.Proofs.YtkomeijlljcdgaaGreat
open Go.RowKit
/-- The place of the name's small form. -/
def placeA (L : AL) (n : List UInt8) : Nat := atN L (smallL n)
def hasA (L : AL) (n : List UInt8) : Bool := rightA L && rightL n && decide (placeA L n < L.length)
def valA (L : AL) (n : List UInt8) : ByteArray := if hasA L n then (L[placeA L n]?.getD default).2 else ofL []
def longA (L : AL) (n : List UInt8) (v : ByteArray) : Bool := decide (200 < v.size) || (decide (L.length ≤ placeA L n) && decide (40 ≤ L.length))
def setL (L : AL) (n : List UInt8) (v : ByteArray) : AL := if placeA L n < L.length then L.set (placeA L n) (ofL (smallL n), v) else L ++ [(ofL (smallL n), v)]
def setE (L : AL) (n : List UInt8) (v : ByteArray) : Int := if rightA L then (if rightL n then (if longA L n v then 3 else 0) else 4) else 1
def setA (L : AL) (n : List UInt8) (v : ByteArray) : AL := if setE L n v = 0 then setL L n v else L
def remA (L : AL) (n : List UInt8) : AL := if hasA L n then L.filter (fun x => !keyIs (smallL n) x) else L
theorem place_key {L : AL} {n : List UInt8} (h : placeA L n < L.length) : ∃ x, L[placeA L n]? = some x ∧ x.1 = ofL (smallL n) := by
  have h2 : keyIs (smallL n) (L[placeA L n]'h) = true := List.findIdx_getElem (w := h)
  refine ⟨_, List.getElem?_eq_getElem h, toList_inj ?_⟩
  rw [toList_ofL]
  exact beq_iff_eq.1 h2
theorem atL_place {L : AL} {n : List UInt8} (h : placeA L n < L.length) : atL L (smallL n) = (placeA L n : Int) := by
  unfold placeA at *
  unfold atL
  rw [if_pos h]
theorem atL_noplace {L : AL} {n : List UInt8} (h : ¬ placeA L n < L.length) : atL L (smallL n) = -1 := by
  unfold placeA at h
  unfold atL
  rw [if_neg h]
end Go.Proofs.YtkomeijlljcdgaaGreat
/- instarref02's Get and Set. -/
namespace Go.Proofs.YtkomeijlljcdgaaGreat
open Go.RowKit
theorem small40 {n : ByteArray} (h : rightL n.toList = true) : n.size ≤ 1000000 := by
  have := rightL_len h
  rw [tl_len] at this
  omega
end Go.Proofs.YtkomeijlljcdgaaGreat
/- instarref02's Set: it hands back what setA says, in new memory or in the list's own, and an error's number. -/
namespace Go.Proofs.YtkomeijlljcdgaaGreat
open Go.RowKit
/-- A call that hands back a list of attributes and a number. -/
def SetPost (w : World) (M : AL) (z : Int) (e : Ending) (w' : World) : Prop := ∃ a len cap, e = .returned (.tuple #[.slice a len cap, .int .i64 z]) ∧ AttrRow w' a len cap M ∧ Below w.heap.size w w'
theorem SetPost.mk {w w' : World} {M : AL} {z : Int} {e : Ending} {a : Option Addr} {len cap : Nat} (he : e = .returned (.tuple #[.slice a len cap, .int .i64 z])) (h : AttrRow w' a len cap M) (hb : Below w.heap.size w w') : SetPost w M z e w' := ⟨a, len, cap, he, h, hb⟩
theorem attr_info : (Tryz.prog.info? 109).map (fun i => (i.zero, i.size, i.bytes)) = some (some (.agg #[.string ⟨#[]⟩, .string ⟨#[]⟩]), 2, 32) := by kernel_rfl
/-- A row that the call owns, as a list of attributes. -/
theorem AttrRow.of_own {w : World} {base : Nat} {v : Value} {n : Nat} {M : AL} (hl : M.length = n) (h : w.ownsRow base 109 2 v n (M.flatMap encA)) (hs : ∀ x ∈ M, x.1.size ≤ maxLen ∧ x.2.size ≤ maxLen) :
    ∃ a cap, v = .slice a n cap ∧ AttrRow w a n cap M := by
  rcases h.2 with ⟨rfl, h0⟩ | ⟨g, cap, cur, rfl, _⟩
  · subst h0
    have hL : M = [] := List.eq_nil_of_length_eq_zero hl
    subst hL
    exact ⟨none, 0, rfl, SRow.nil, hs, fun _ => rfl⟩
  · obtain ⟨a, cap', he, hr, _⟩ := SRow.of_own (fun x _ => encA_len x) hl h
    injection he with h1 h2 h3
    subst h1; subst h3
    exact ⟨_, _, rfl, hr, hs, fun h => by cases h⟩
theorem set_flat {M : AL} {p : Nat} {x y : ByteArray × ByteArray} (hx : M[p]? = some x) (hn : y.1 = x.1) : (M.set p y).flatMap encA = (M.flatMap encA).set (p * 2 + 1) (.string y.2) := by
  induction M generalizing p with
  | nil => simp at hx
  | cons z r ih =>
    cases p with
    | zero =>
      simp at hx; subst hx
      simp [encA, hn]
    | succ p =>
      have := ih (p := p) (by simpa using hx)
      have e : (p + 1) * 2 + 1 = p * 2 + 1 + 1 + 1 := by omega
      rw [List.set_cons_succ, List.flatMap_cons, List.flatMap_cons, this, e]
      simp [encA]

end Go.Proofs.YtkomeijlljcdgaaGreat
