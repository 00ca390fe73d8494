/- Texts joined in build order: DeskBox Ext. -/
import Derived.Test.YtioeagadhnnajaaA07
import Derived.BigQuiet
import Derived.Deep.QuietTactic
import Derived.Below
import Derived.WalkSmall
/- A desk by value, in its box. -/
namespace Go.Proofs.Ytioeagadhnnajaa
open Go.RowKit
theorem stayK {w : World} {p : Addr} {v : Value} (h : w.cell? p = some v) (hp : p.block < w.heap.size) : ∀ W, Below w.heap.size w W → W.cell? p = some v := fun _ hb => (hb.cell hp).trans h
/-- A desk in the box g, at a world W behind w. -/
structure DBox (w W : World) (g : Nat) (da : Option Addr) (dl dc : Nat) (wa : Option Addr) (wl wc : Nat) (nx : Int) (bz : Bool) (L : List DefD) (M : List WaitD) : Prop where
  d : DefRow W da dl dc L
  t : WaitRow W wa wl wc M
  low : w.heap.size ≤ g
  lt : g < W.heap.size
  c0 : W.cell? ⟨g, 0, none⟩ = some (.slice da dl dc)
  c1 : W.cell? ⟨g, 1, none⟩ = some (.slice wa wl wc)
  c2 : W.cell? ⟨g, 2, none⟩ = some (.int .i64 nx)
  c3 : W.cell? ⟨g, 3, none⟩ = some (.bool bz)
  below : Below w.heap.size w W
section
variable {w W V : World} {g : Nat} {da wa : Option Addr} {dl dc wl wc : Nat} {nx : Int} {bz : Bool} {L : List DefD} {M : List WaitD}
theorem DBox.keep (h : DBox w W g da dl dc wa wl wc nx bz L M) (hb : Below W.heap.size W V) : DBox w V g da dl dc wa wl wc nx bz L M :=
  ⟨h.d.below hb, h.t.below hb, h.low, Nat.lt_of_lt_of_le h.lt hb.size, (hb.cell (p := ⟨g, 0, none⟩) h.lt).trans h.c0, (hb.cell (p := ⟨g, 1, none⟩) h.lt).trans h.c1, (hb.cell (p := ⟨g, 2, none⟩) h.lt).trans h.c2, (hb.cell (p := ⟨g, 3, none⟩) h.lt).trans h.c3, h.below.trans (hb.mono h.below.size)⟩
theorem DBox.start (hd : DefRow w da dl dc L) (ht : WaitRow w wa wl wc M) : DBox w (w.alloc (deskB da dl dc wa wl wc nx bz)) w.heap.size da dl dc wa wl wc nx bz L M :=
  ⟨hd.below (below_desk _ _), ht.below (below_desk _ _), Nat.le_refl _, by simp, cell_of_row (w.alloc (deskB da dl dc wa wl wc nx bz)) w.heap.size 0 _ 25 (0, 0) (heap_alloc_new w _), cell_of_row (w.alloc (deskB da dl dc wa wl wc nx bz)) w.heap.size 1 _ 25 (0, 0) (heap_alloc_new w _), cell_of_row (w.alloc (deskB da dl dc wa wl wc nx bz)) w.heap.size 2 _ 25 (0, 0) (heap_alloc_new w _), cell_of_row (w.alloc (deskB da dl dc wa wl wc nx bz)) w.heap.size 3 _ 25 (0, 0) (heap_alloc_new w _), below_desk _ _⟩
end
/-- A definition in its box. -/
structure XBox (W : World) (g : Nat) (n l : ByteArray) (c : Int) : Prop where
  lt : g < W.heap.size
  c0 : W.cell? ⟨g, 0, none⟩ = some (.string n)
  c1 : W.cell? ⟨g, 1, none⟩ = some (.string l)
  c2 : W.cell? ⟨g, 2, none⟩ = some (.int .i64 c)
theorem XBox.keep {W V : World} {g : Nat} {n l : ByteArray} {c : Int} (h : XBox W g n l c) (hb : Below W.heap.size W V) : XBox V g n l c :=
  ⟨Nat.lt_of_lt_of_le h.lt hb.size, (hb.cell (p := ⟨g, 0, none⟩) h.lt).trans h.c0, (hb.cell (p := ⟨g, 1, none⟩) h.lt).trans h.c1, (hb.cell (p := ⟨g, 2, none⟩) h.lt).trans h.c2⟩
theorem XBox.new (W : World) (n l : ByteArray) (c : Int) : XBox (W.alloc (.cells #[.string n, .string l, .int .i64 c] 46)) W.heap.size n l c :=
  ⟨by simp, cell_of_row _ W.heap.size 0 _ 46 (0, 0) (heap_alloc_new W _), cell_of_row _ W.heap.size 1 _ 46 (0, 0) (heap_alloc_new W _), cell_of_row _ W.heap.size 2 _ 46 (0, 0) (heap_alloc_new W _)⟩
/-- Somebody who waits, in its box. -/
structure TBox9 (W : World) (g : Nat) (n : ByteArray) (k : Int) : Prop where
  lt : g < W.heap.size
  c0 : W.cell? ⟨g, 0, none⟩ = some (.string n)
  c1 : W.cell? ⟨g, 1, none⟩ = some (.int .i64 k)
theorem TBox9.keep {W V : World} {g : Nat} {n : ByteArray} {k : Int} (h : TBox9 W g n k) (hb : Below W.heap.size W V) : TBox9 V g n k :=
  ⟨Nat.lt_of_lt_of_le h.lt hb.size, (hb.cell (p := ⟨g, 0, none⟩) h.lt).trans h.c0, (hb.cell (p := ⟨g, 1, none⟩) h.lt).trans h.c1⟩
theorem TBox9.new (W : World) (n : ByteArray) (k : Int) : TBox9 (W.alloc (.cells #[.string n, .int .i64 k] 48)) W.heap.size n k :=
  ⟨by simp, cell_of_row _ W.heap.size 0 _ 48 (0, 0) (heap_alloc_new W _), cell_of_row _ W.heap.size 1 _ 48 (0, 0) (heap_alloc_new W _)⟩
/-- Texts of a desk that isn't too much. -/
def smallL9 (L : List DefD) : Prop := ∀ x ∈ L, x.name.size ≤ 1000000 ∧ x.loc.size ≤ 1000000
def smallT9 (M : List WaitD) : Prop := ∀ x ∈ M, x.name.size ≤ 1000000
end Go.Proofs.Ytioeagadhnnajaa
/- A region that draws its order, whose operations read old memory and whose callees may make new memory: one walk of the text's order serves every order. The class of worlds: all that leave what lay below as it was. -/
namespace Go.Proofs.Ytioeagadhnnajaa
open Go.RowKit
/-- A later world, below which all is as it was. -/
structure Ext (w : World) where
  v : World
  below : Below w.heap.size w v
instance extNonempty (w : World) : Nonempty (Ext w) := ⟨⟨w, Below.refl _ _⟩⟩
theorem Ext.cell {w : World} {p : Addr} {v : Option Value} (h : w.cell? p = v) (hp : p.block < w.heap.size) : ∀ x : Ext w, x.v.cell? p = v := fun x => (x.below.cell hp).trans h
theorem Ext.call_same {P : Program} {f : FuncId} {args : Array Value} {w : World} {x : Ext w} {v : Value}
    (h : Calls P f args x.v fun e w' => e = .returned v ∧ x.v = w') : Calls P f args x.v fun e w'' => e = .returned v ∧ ∃ y : Ext w, w'' = y.v :=
  h.mono fun _ _ ⟨he, hm⟩ => ⟨he, x, hm.symm⟩
theorem Ext.call_below {P : Program} {f : FuncId} {args : Array Value} {w : World} {x : Ext w} {v : Value}
    (h : Calls P f args x.v fun e w' => e = .returned v ∧ Below x.v.heap.size x.v w') : Calls P f args x.v fun e w'' => e = .returned v ∧ ∃ y : Ext w, w'' = y.v :=
  h.mono fun _ w' ⟨he, hm⟩ => ⟨he, ⟨w', x.below.trans (hm.mono x.below.size)⟩, rfl⟩
theorem Ext.call_drew {P : Program} {f : FuncId} {args : Array Value} {w : World} {x : Ext w} {v : Value}
    (h : Calls P f args x.v fun e w' => e = .returned v ∧ ∃ n, w' = x.v.drewN n) : Calls P f args x.v fun e w'' => e = .returned v ∧ ∃ y : Ext w, w'' = y.v :=
  h.mono fun _ w' ⟨he, n, hm⟩ => ⟨he, ⟨w', by rw [hm]; exact below_drewN x.below n⟩, rfl⟩
theorem wp_region_ext {P : Program} {id : Nat} {Q : Exit → Act → World → Prop} {a : Act} {w : World} {l : List Oper} (hm : P.follows .mixedOrders = true) (hB : Region.lexB .any l.toArray = true)
    (h : wpQuiet P l.toArray (fun w' => ∃ x : Ext w, w' = x.v) (fun a' => ∀ w', (∃ x : Ext w, w' = x.v) → Q .normal a' w') l a) : (Code.region id l.toArray true).wp P Q a w :=
  wp_region_quiet (C := fun w' => ∃ x : Ext w, w' = x.v) hm hB ⟨⟨_, (Below.refl _ _).drew⟩, rfl⟩ (by simpa using h)
end Go.Proofs.Ytioeagadhnnajaa
