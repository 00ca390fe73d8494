/- Texts joined in build order: DeskBox ForestSame ForestAwake ForestHoldsMath ForestHolds ForestSameF ForestNBox ForestFit1 AttrOps AttrRef2 AttrSet StepRows StepWp. -/
import Derived.Test.YtkomeijlljcdgaaGreatR08
import Derived.Test.YtkomeijlljcdgaaGreatR07
import Derived.Test.YtkomeijlljcdgaaGreatR04
import Derived.Test.YtkomeijlljcdgaaGreatR05
import Derived.Test.YtkomeijlljcdgaaGreatR06
import Derived.OwnWalk
import Derived.Laws.OwnMore
import Derived.Test.YtkomeijlljcdgaaGreatR01
import Derived.BigRegion
import Derived.Deep.RegionLaw
namespace Go.Proofs.YtkomeijlljcdgaaGreat
open Go.RowKit
structure DBox (w W : World) (g : Nat) (da : Option Addr) (dl dc : Nat) (wa : Option Addr) (wl wc : Nat) (nx : Int) (bz : Bool) (L : List DefD) (M : List WaitD) : Prop where
  d : DefRow W da dl dc L
  t : WaitRow W wa wl wc M
  low : w.heap.size ≤ g
  lt : g < W.heap.size
  c0 : W.cell? ⟨g, 0, none⟩ = some (.slice da dl dc)
  c1 : W.cell? ⟨g, 1, none⟩ = some (.slice wa wl wc)
  c2 : W.cell? ⟨g, 2, none⟩ = some (.int .i64 nx)
  c3 : W.cell? ⟨g, 3, none⟩ = some (.bool bz)
  below : Below w.heap.size w W
section
variable {w W V : World} {g : Nat} {da wa : Option Addr} {dl dc wl wc : Nat} {nx : Int} {bz : Bool} {L : List DefD} {M : List WaitD}
theorem DBox.keep (h : DBox w W g da dl dc wa wl wc nx bz L M) (hb : Below W.heap.size W V) : DBox w V g da dl dc wa wl wc nx bz L M :=
  ⟨h.d.below hb, h.t.below hb, h.low, Nat.lt_of_lt_of_le h.lt hb.size, (hb.cell (p := ⟨g, 0, none⟩) h.lt).trans h.c0, (hb.cell (p := ⟨g, 1, none⟩) h.lt).trans h.c1, (hb.cell (p := ⟨g, 2, none⟩) h.lt).trans h.c2, (hb.cell (p := ⟨g, 3, none⟩) h.lt).trans h.c3, h.below.trans (hb.mono h.below.size)⟩
theorem DBox.start (hd : DefRow w da dl dc L) (ht : WaitRow w wa wl wc M) : DBox w (w.alloc (deskB da dl dc wa wl wc nx bz)) w.heap.size da dl dc wa wl wc nx bz L M :=
  ⟨hd.below (below_desk _ _), ht.below (below_desk _ _), Nat.le_refl _, by simp, cell_of_row (w.alloc (deskB da dl dc wa wl wc nx bz)) w.heap.size 0 _ 28 (0, 0) (heap_alloc_new w _), cell_of_row (w.alloc (deskB da dl dc wa wl wc nx bz)) w.heap.size 1 _ 28 (0, 0) (heap_alloc_new w _), cell_of_row (w.alloc (deskB da dl dc wa wl wc nx bz)) w.heap.size 2 _ 28 (0, 0) (heap_alloc_new w _), cell_of_row (w.alloc (deskB da dl dc wa wl wc nx bz)) w.heap.size 3 _ 28 (0, 0) (heap_alloc_new w _), below_desk _ _⟩
end
structure XBox (W : World) (g : Nat) (n l : ByteArray) (c : Int) : Prop where
  lt : g < W.heap.size
  c0 : W.cell? ⟨g, 0, none⟩ = some (.string n)
  c1 : W.cell? ⟨g, 1, none⟩ = some (.string l)
  c2 : W.cell? ⟨g, 2, none⟩ = some (.int .i64 c)
theorem XBox.keep {W V : World} {g : Nat} {n l : ByteArray} {c : Int} (h : XBox W g n l c) (hb : Below W.heap.size W V) : XBox V g n l c :=
  ⟨Nat.lt_of_lt_of_le h.lt hb.size, (hb.cell (p := ⟨g, 0, none⟩) h.lt).trans h.c0, (hb.cell (p := ⟨g, 1, none⟩) h.lt).trans h.c1, (hb.cell (p := ⟨g, 2, none⟩) h.lt).trans h.c2⟩
theorem XBox.new (W : World) (n l : ByteArray) (c : Int) : XBox (W.alloc (.cells #[.string n, .string l, .int .i64 c] 30)) W.heap.size n l c :=
  ⟨by simp, cell_of_row _ W.heap.size 0 _ 30 (0, 0) (heap_alloc_new W _), cell_of_row _ W.heap.size 1 _ 30 (0, 0) (heap_alloc_new W _), cell_of_row _ W.heap.size 2 _ 30 (0, 0) (heap_alloc_new W _)⟩
structure TBox9 (W : World) (g : Nat) (n : ByteArray) (k : Int) : Prop where
  lt : g < W.heap.size
  c0 : W.cell? ⟨g, 0, none⟩ = some (.string n)
  c1 : W.cell? ⟨g, 1, none⟩ = some (.int .i64 k)
theorem TBox9.keep {W V : World} {g : Nat} {n : ByteArray} {k : Int} (h : TBox9 W g n k) (hb : Below W.heap.size W V) : TBox9 V g n k :=
  ⟨Nat.lt_of_lt_of_le h.lt hb.size, (hb.cell (p := ⟨g, 0, none⟩) h.lt).trans h.c0, (hb.cell (p := ⟨g, 1, none⟩) h.lt).trans h.c1⟩
theorem TBox9.new (W : World) (n : ByteArray) (k : Int) : TBox9 (W.alloc (.cells #[.string n, .int .i64 k] 64)) W.heap.size n k :=
  ⟨by simp, cell_of_row _ W.heap.size 0 _ 64 (0, 0) (heap_alloc_new W _), cell_of_row _ W.heap.size 1 _ 64 (0, 0) (heap_alloc_new W _)⟩
def smallL9 (L : List DefD) : Prop := ∀ x ∈ L, x.name.size ≤ 1000000 ∧ x.loc.size ≤ 1000000
def smallT9 (M : List WaitD) : Prop := ∀ x ∈ M, x.name.size ≤ 1000000
end Go.Proofs.YtkomeijlljcdgaaGreat
namespace Go.Proofs.YtkomeijlljcdgaaGreat
open Go.RowKit
end Go.Proofs.YtkomeijlljcdgaaGreat
namespace Go.Proofs.YtkomeijlljcdgaaGreat
open Go.RowKit
def f2 : List Core := [docC, ⟨1, ⟨#[112]⟩, ⟨#[]⟩, ⟨#[]⟩, [], -1, [], -1, -1, 0⟩]
theorem in0 : In64 0 := ⟨by decide, by decide⟩
theorem row_free {w : World} {g : Nat} {cs : Array Value} {t : TypeId} (h : w.heap[g]? = some (.cells cs t (0, 0))) (j : Nat) : w.frozen? ⟨g, j, none⟩ = false := by simp [World.frozen?, h]
structure Box (w W : World) (g : Nat) (a : Option Addr) (len cap : Nat) (m : Int) (L : List NodeD) (F : List Core) : Prop where
  row : NodeRow W a len cap L
  core : coreL L = F
  low : w.heap.size ≤ g
  lt : g < W.heap.size
  c0 : W.cell? ⟨g, 0, none⟩ = some (.slice a len cap)
  c1 : W.cell? ⟨g, 1, none⟩ = some (.int .i64 m)
  below : Below w.heap.size w W
theorem Box.keep {w W W2 : World} {g : Nat} {a : Option Addr} {len cap : Nat} {m : Int} {L : List NodeD} {F : List Core} (h : Box w W g a len cap m L F) (hb : Below W.heap.size W W2) : Box w W2 g a len cap m L F :=
  ⟨h.row.below hb, h.core, h.low, Nat.lt_of_lt_of_le h.lt hb.size, (hb.cell (p := ⟨g, 0, none⟩) h.lt).trans h.c0, (hb.cell (p := ⟨g, 1, none⟩) h.lt).trans h.c1, h.below.trans (hb.mono h.below.size)⟩
end Go.Proofs.YtkomeijlljcdgaaGreat
namespace Go.Proofs.YtkomeijlljcdgaaGreat
open Go.RowKit
theorem thereF_of {m : Int} {F : List Core} (h : rightF m F = true) {n : Nat} (hn : n < F.length) : thereF m F (n : Int) = true := by
  unfold thereF
  rw [h, decide_eq_true (by omega), decide_eq_true (by omega)]
  rfl
theorem rootZ_eq {m : Int} {F : List Core} (h : rightF m F = true) {a : Nat} (ha : a < F.length) : rootZ m F (a : Int) = (rootF F a : Nat) := by
  unfold rootZ
  rw [thereF_of h ha]
  rfl
theorem right_len {m : Int} {F : List Core} (h : rightF m F = true) : 0 < F.length := by
  have := ((rightF_iff m F).1 h).1.2.2.2
  cases F with
  | nil => unfold headDoc at this; cases this
  | cons _ _ => simp
theorem find_at {L : List Int} {n : Int} (h : n ∈ L) : ∃ k : Nat, findZ L n = (k : Int) ∧ L[k]? = some n := by
  have hl : findN L n < L.length := List.findIdx_lt_length_of_exists ⟨n, h, by simp⟩
  refine ⟨findN L n, ?_, ?_⟩
  · unfold findZ
    rw [if_pos hl]
  · have := List.findIdx_getElem (w := hl)
    rw [List.getElem?_eq_getElem hl]
    congr 1
    exact beq_iff_eq.1 this
end Go.Proofs.YtkomeijlljcdgaaGreat
namespace Go.Proofs.YtkomeijlljcdgaaGreat
open Go.RowKit
theorem Box.start {w : World} {a : Option Addr} {len cap : Nat} {m : Int} {L : List NodeD} (h : NodeRow w a len cap L) : Box w (w.alloc (forB a len cap m)) w.heap.size a len cap m L (coreL L) :=
  ⟨h.below (below_box _ _), rfl, Nat.le_refl _, by simp, cell_of_row (w.alloc (forB a len cap m)) w.heap.size 0 _ 24 (0, 0) (heap_alloc_new w _), cell_of_row (w.alloc (forB a len cap m)) w.heap.size 1 _ 24 (0, 0) (heap_alloc_new w _), below_box _ _⟩
end Go.Proofs.YtkomeijlljcdgaaGreat
namespace Go.Proofs.YtkomeijlljcdgaaGreat
open Go.RowKit
theorem Box.next {w : World} {B : Obj} {a : Option Addr} {len cap : Nat} {m : Int} {L : List NodeD} (h : NodeRow w a len cap L) : Box w ((w.alloc B).alloc (forB a len cap m)) (w.heap.size + 1) a len cap m L (coreL L) := by
  have hs : (w.alloc B).heap.size = w.heap.size + 1 := by simp
  have h1 := Box.start (w := w.alloc B) (m := m) (h.below (below_box w B))
  refine ⟨h1.row, rfl, by omega, by simp, ?_, ?_, (below_box w B).alloc (by simp) _⟩
  · have := h1.c0
    rwa [hs] at this
  · have := h1.c1
    rwa [hs] at this
end Go.Proofs.YtkomeijlljcdgaaGreat
namespace Go.Proofs.YtkomeijlljcdgaaGreat
open Go.RowKit
structure NBox (w W : World) (g : Nat) (x : NodeD) : Prop where
  lt : g < W.heap.size
  c0 : W.cell? ⟨g, 0, none⟩ = some (.int .i64 x.core.kind)
  c1 : W.cell? ⟨g, 1, none⟩ = some (.string x.core.name)
  c2 : W.cell? ⟨g, 2, none⟩ = some (.string x.core.is)
  c3 : W.cell? ⟨g, 3, none⟩ = some (.string x.core.data)
  c4 : W.cell? ⟨g, 4, none⟩ = some (.slice x.aA x.aN x.aC)
  c5 : W.cell? ⟨g, 5, none⟩ = some (.int .i64 x.core.parent)
  c6 : W.cell? ⟨g, 6, none⟩ = some (.slice x.kA x.kN x.kC)
  c7 : W.cell? ⟨g, 7, none⟩ = some (.int .i64 x.core.host)
  c8 : W.cell? ⟨g, 8, none⟩ = some (.int .i64 x.core.under)
  c9 : W.cell? ⟨g, 9, none⟩ = some (.int .i64 x.core.doc)
  ok : NodeOk W x
theorem NBox.keep {w W W2 : World} {g : Nat} {x : NodeD} (h : NBox w W g x) (hb : Below W.heap.size W W2) : NBox w W2 g x := by
  have e : ∀ o, W2.cell? ⟨g, o, none⟩ = W.cell? ⟨g, o, none⟩ := fun o => hb.cell (p := ⟨g, o, none⟩) h.lt
  exact ⟨Nat.lt_of_lt_of_le h.lt hb.size, (e _).trans h.c0, (e _).trans h.c1, (e _).trans h.c2, (e _).trans h.c3, (e _).trans h.c4, (e _).trans h.c5, (e _).trans h.c6, (e _).trans h.c7, (e _).trans h.c8, (e _).trans h.c9, h.ok.below hb⟩
abbrev nodB (x : NodeD) : Obj := .cells #[.int .i64 x.core.kind, .string x.core.name, .string x.core.is, .string x.core.data, .slice x.aA x.aN x.aC, .int .i64 x.core.parent, .slice x.kA x.kN x.kC, .int .i64 x.core.host, .int .i64 x.core.under, .int .i64 x.core.doc] 47
theorem NBox.next {w : World} {B : Obj} {x : NodeD} (h : NodeOk w x) : NBox w ((w.alloc B).alloc (nodB x)) (w.heap.size + 1) x := by
  have hs : (w.alloc B).heap.size = w.heap.size + 1 := by simp
  have c : ∀ (j : Nat), ((w.alloc B).alloc (nodB x)).cell? ⟨w.heap.size + 1, j, none⟩ = (#[.int .i64 x.core.kind, .string x.core.name, .string x.core.is, .string x.core.data, .slice x.aA x.aN x.aC, .int .i64 x.core.parent, .slice x.kA x.kN x.kC, .int .i64 x.core.host, .int .i64 x.core.under, .int .i64 x.core.doc] : Array Value)[j]? := fun j => by
    have := cell_of_row ((w.alloc B).alloc (nodB x)) (w.alloc B).heap.size j _ 47 (0, 0) (heap_alloc_new _ _)
    rwa [hs] at this
  exact ⟨by simp, c 0, c 1, c 2, c 3, c 4, c 5, c 6, c 7, c 8, c 9, h.below ((below_box w B).alloc (by simp) _)⟩
end Go.Proofs.YtkomeijlljcdgaaGreat
namespace Go.Proofs.YtkomeijlljcdgaaGreat
open Go.RowKit
def isKd (F : List Core) (n k : Int) : Bool := match getC F n with | some c => c.kind == k | none => false
theorem getC_not {F : List Core} {n : Int} (h : n < 0 ∨ (F.length : Int) ≤ n) : getC F n = none := by
  unfold getC
  by_cases h0 : 0 ≤ n
  · rw [if_pos h0]
    exact List.getElem?_eq_none_iff.2 (by omega)
  · rw [if_neg h0]
theorem coreL_len (L : List NodeD) : (coreL L).length = L.length := by unfold coreL; rw [List.length_map]
theorem coreL_get {L : List NodeD} {k : Nat} {x : NodeD} (h : L[k]? = some x) : (coreL L)[k]? = some x.core := by unfold coreL; rw [List.getElem?_map, h]; rfl
set_option maxHeartbeats 2000000 in
theorem is_any (a : Option Addr) (len cap : Nat) (L : List NodeD) (n k : Int) (w : World) (h : NodeRow w a len cap L) (hn : In64 n) :
    Calls Tryz.prog 42 #[.slice a len cap, .int .i64 n, .int .i64 k] w fun e w' => e = .returned (.bool (isKd (coreL L) n k)) ∧ w = w' := by
  have hl := h.len64
  have HL := Lib.hid h.hlen
  by_cases h0 : 0 ≤ n
  rotate_left
  · have HR : Hid (isKd (coreL L) n k = false) := Lib.hid (by unfold isKd; rw [getC_not (.inl (by omega))])
    clear h
    go_enter Tryz.func42, Tryz.ntmps42
    go_wp2
    go_ret
    exact ⟨ret_bool HR.out.symm, rfl⟩
  by_cases h1 : n < len
  rotate_left
  · have HR : Hid (isKd (coreL L) n k = false) := Lib.hid (by unfold isKd; rw [getC_not (.inr (by rw [coreL_len, HL.out]; omega))])
    clear h
    go_enter Tryz.func42, Tryz.ntmps42
    go_wp2
    go_ret
    exact ⟨ret_bool HR.out.symm, rfl⟩
  obtain ⟨m, rfl⟩ : ∃ m : Nat, n = m := ⟨n.toNat, by omega⟩
  obtain ⟨b, off, x, rfl, hb, hx, hc, hok⟩ := h.get (show m < len by omega)
  have HR : Hid (isKd (coreL L) (m : Int) k = (x.core.kind == k)) := Lib.hid (by unfold isKd; rw [getC_nat, coreL_get hx])
  have c0 := hc.c0
  clear h hc hok hx
  go_enter Tryz.func42, Tryz.ntmps42
  go_wp2
  go_ret
  exact ⟨ret_bool HR.out.symm, rfl⟩
def docB (F : List Core) (i : Int) (x : Core) : Bool := isKd F x.doc 0 && (x.kind != 0 || x.doc == i)
set_option maxHeartbeats 2000000 in
theorem docFits_any (a : Option Addr) (len cap : Nat) (L : List NodeD) (n : Nat) (x : NodeD) (w : World) (h : NodeRow w a len cap L) (hx : L[n]? = some x) :
    Calls Tryz.prog 74 #[.slice a len cap, .int .i64 n] w fun e w' => e = .returned (.bool (docB (coreL L) n x.core)) ∧ w = w' := by
  have hl := h.len64
  have hnl : n < len := by rw [← h.hlen]; exact (List.getElem?_eq_some_iff.1 hx).1
  obtain ⟨b, off, x', rfl, hb, hx', hc, hok⟩ := h.get hnl
  obtain rfl : x = x' := Option.some.inj (hx.symm.trans hx')
  have c0 := hc.c0
  have c9 := hc.c9
  have C1 := Lib.hid (is_any (some ⟨b, off, none⟩) len cap L x.core.doc 0 w h hok.doc)
  have HX := Lib.hid hx
  clear h hc hx hx' hok
  by_cases q1 : isKd (coreL L) x.core.doc 0 = true
  rotate_left
  · have q1 : isKd (coreL L) x.core.doc 0 = false := by simpa using q1
    have HR : Hid (docB (coreL L) n x.core = false) := Lib.hid (by unfold docB; rw [q1]; rfl)
    rw [q1] at C1
    clear q1
    go_enter Tryz.func74, Tryz.ntmps74
    go_wp2_with (go_at_call 42; refine C1.out.mono ?_; rintro e w' ⟨rfl, rfl⟩)
    go_ret
    exact ⟨ret_bool HR.out.symm, rfl⟩
  have HR : Hid (docB (coreL L) n x.core = (x.core.kind != 0 || x.core.doc == (n : Int))) := Lib.hid (by unfold docB; rw [q1]; rfl)
  rw [q1] at C1
  clear q1
  by_cases q2 : x.core.kind = 0
  · have e1 : (x.core.kind != 0) = false := by rw [q2]; rfl
    have HR : Hid (docB (coreL L) n x.core = (x.core.doc == (n : Int))) := Lib.hid (by rw [HR.out, e1]; rfl)
    clear q2
    go_enter Tryz.func74, Tryz.ntmps74
    go_wp2_with (go_at_call 42; refine C1.out.mono ?_; rintro e w' ⟨rfl, rfl⟩)
    go_ret
    exact ⟨ret_bool HR.out.symm, rfl⟩
  · have e1 : (x.core.kind != 0) = true := bne_iff_ne.2 q2
    have HR : Hid (docB (coreL L) n x.core = true) := Lib.hid (by rw [HR.out, e1]; rfl)
    clear q2
    go_enter Tryz.func74, Tryz.ntmps74
    go_wp2_with (go_at_call 42; refine C1.out.mono ?_; rintro e w' ⟨rfl, rfl⟩)
    go_ret
    exact ⟨ret_bool HR.out.symm, rfl⟩
end Go.Proofs.YtkomeijlljcdgaaGreat
namespace Go.Proofs.YtkomeijlljcdgaaGreat
open Go.RowKit
end Go.Proofs.YtkomeijlljcdgaaGreat
namespace Go.Proofs.YtkomeijlljcdgaaGreat
open Go.RowKit
end Go.Proofs.YtkomeijlljcdgaaGreat
namespace Go.Proofs.YtkomeijlljcdgaaGreat
open Go.RowKit
def SetPost (w : World) (M : AL) (z : Int) (e : Ending) (w' : World) : Prop := ∃ a len cap, e = .returned (.tuple #[.slice a len cap, .int .i64 z]) ∧ AttrRow w' a len cap M ∧ Below w.heap.size w w'
theorem SetPost.mk {w w' : World} {M : AL} {z : Int} {e : Ending} {a : Option Addr} {len cap : Nat} (he : e = .returned (.tuple #[.slice a len cap, .int .i64 z])) (h : AttrRow w' a len cap M) (hb : Below w.heap.size w w') : SetPost w M z e w' := ⟨a, len, cap, he, h, hb⟩
theorem attr_info : (Tryz.prog.info? 109).map (fun i => (i.zero, i.size, i.bytes)) = some (some (.agg #[.string ⟨#[]⟩, .string ⟨#[]⟩]), 2, 32) := by kernel_rfl
theorem AttrRow.of_own {w : World} {base : Nat} {v : Value} {n : Nat} {M : AL} (hl : M.length = n) (h : w.ownsRow base 109 2 v n (M.flatMap encA)) (hs : ∀ x ∈ M, x.1.size ≤ maxLen ∧ x.2.size ≤ maxLen) :
    ∃ a cap, v = .slice a n cap ∧ AttrRow w a n cap M := by
  rcases h.2 with ⟨rfl, h0⟩ | ⟨g, cap, cur, rfl, _⟩
  · subst h0
    have hL : M = [] := List.eq_nil_of_length_eq_zero hl
    subst hL
    exact ⟨none, 0, rfl, SRow.nil, hs, fun _ => rfl⟩
  · obtain ⟨a, cap', he, hr, _⟩ := SRow.of_own (fun x _ => encA_len x) hl h
    injection he with h1 h2 h3
    subst h1; subst h3
    exact ⟨_, _, rfl, hr, hs, fun h => by cases h⟩
end Go.Proofs.YtkomeijlljcdgaaGreat
namespace Go.Proofs.YtkomeijlljcdgaaGreat
open Go.RowKit
theorem step_append_rows {P : Program} {α : Type} {enc : α → List Value} {w : World} {ops : Array Oper} {o : Oper} {a : Act} {K : Act → World → Prop} {Q : Exit → Act → World → Prop} {E : Prop} (hgd : o.guard = none) (s x : Operand) (t : TypeId)
    (ho : o.op = .call { callee := .builtin .append, args := #[s, x], argTypes := #[t, t] })
    (e : TypeId) (i : TypeInfo) (z : Value) (size bytes : Nat) (ht : P.underlying t = some (.slice e)) (hi : P.info? e = some i) (hz : i.zero = some z)
    (hsize : i.size = size) (hby : i.bytes = bytes) (hzs : z.cells.size = size) (hsz : 0 < size) (base : Nat)
    (v : Value) (n : Nat) (L M : List α) (hs : a.eval s = v) (hown : w.ownsRow base e size v n (L.flatMap enc)) (ad : Option Addr) (m c : Nat) (hx : a.eval x = .slice ad m c) (hsrc : SRow enc size w ad m c M) (h1 : ∀ x ∈ M, ∀ u ∈ enc x, u.oneCell' = true)
    (h63 : n + m ≤ maxLen) (hbytes : (n + m) * bytes ≤ 140737488355328) (hbase : base ≤ w.heap.size) (hnil : ad = none → c = 0)
    (h : ∀ v' w', w'.ownsRow base e size v' (n + m) ((L ++ M).flatMap enc) → w.grownBy w' v.ownBlock → (v'.ownBlock = v.ownBlock ∨ v'.ownBlock = some w.heap.size) → K (a.put o.dst v') w') :
    if Region.wanted o (yielded ops a.tmps) = true then Oper.wp P o a w K Q else E := by
  have hw : Region.wanted o (yielded ops a.tmps) = true := by simp [Region.wanted, hgd]
  rw [if_pos hw]
  obtain ⟨v', w', hr, h2, h3, h4⟩ := run_append_rows (P := P) w t o.type e i z size bytes ht hi hz hsize hby hzs hsz base v n L M hown ad m c hsrc h1 h63 hbytes hbase hnil
  unfold Oper.wp execOp
  simp only [ho, resolve, invoke, builtin, Sem.run_bind, Sem.run_pure, Result.andThen_ok, List.map_toArray, List.map_cons, List.map_nil, hs, hx, hr]
  exact h v' w' h2 h3 h4
end Go.Proofs.YtkomeijlljcdgaaGreat
namespace Go.Proofs.YtkomeijlljcdgaaGreat
theorem step_wpS {P : Program} {ops : Array Oper} {o : Oper} {a : Act} {w : World} {K : Act → World → Prop} {Q : Exit → Act → World → Prop} {E : Prop} (hg : o.guard = none) (h : Oper.wp P o a w K Q) : if Region.wanted o (yielded ops a.tmps) = true then Oper.wp P o a w K Q else E := by
  have hw : Region.wanted o (yielded ops a.tmps) = true := by simp [Region.wanted, hg]
  rw [if_pos hw]
  exact h
end Go.Proofs.YtkomeijlljcdgaaGreat
