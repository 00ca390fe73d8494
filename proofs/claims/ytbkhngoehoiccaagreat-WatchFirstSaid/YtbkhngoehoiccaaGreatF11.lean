/- Texts joined in build order: ForestFit4 OwnCells ForestMakesMath AttrFind DeskBox DeskFns DeskPred ForestOpen. -/
import Derived.Test.YtbkhngoehoiccaaGreatF09
import Derived.Below
import Derived.WalkSmall
import Derived.Laws.Rows
import Derived.Deep.OwnRows
import Derived.Test.YtbkhngoehoiccaaGreatF08
import Derived.Test.YtbkhngoehoiccaaGreatF06
import Derived.Test.YtbkhngoehoiccaaGreatF07
import Derived.Test.YtbkhngoehoiccaaGreatF03
import Derived.Deep.CutBlock
import Derived.Shelf.Abstract
import Derived.OpenShut
namespace Go.Proofs.YtbkhngoehoiccaaGreat
open Go.RowKit
def elemNameB (l : List UInt8) : Bool := rightL l && (smallL l == l)
set_option maxHeartbeats 2000000 in
theorem elemName_any (s : ByteArray) (w : World) (hs : s.size ≤ maxLen) :
    Calls Tryz.prog 105 #[.string s] w fun e w' => e = .returned (.bool (elemNameB s.toList)) ∧ Below w.heap.size w w' := by
  have C1 := Lib.hid (fit_any s w hs)
  by_cases hr : rightL s.toList = true
  rotate_left
  · have hr : rightL s.toList = false := by simpa using hr
    have HR : Hid (elemNameB s.toList = false) := Lib.hid (by unfold elemNameB; rw [hr]; rfl)
    have e1 : fitE s.toList = 4 := by unfold fitE; rw [hr]; rfl
    rw [e1] at C1
    clear hr e1
    go_enter Tryz.func105, Tryz.ntmps105
    go_wp2_with (go_at_call 119; refine C1.out.mono ?_; rintro e w' ⟨rfl, hb⟩)
    go_ret
    exact ⟨ret_bool HR.out.symm, by assumption⟩
  have e1 : fitE s.toList = 0 := by unfold fitE; rw [hr]; rfl
  have e2 : fitL s.toList = smallL s.toList := by unfold fitL; rw [hr]; rfl
  rw [e1, e2] at C1
  have HR : Hid (elemNameB s.toList = (smallL s.toList == s.toList)) := Lib.hid (by unfold elemNameB; rw [hr]; rfl)
  clear hr e1 e2
  cases hsm : (smallL s.toList == s.toList) with
  | false =>
    rw [hsm] at HR
    go_enter Tryz.func105, Tryz.ntmps105
    go_wp2_with (go_at_call 119; refine C1.out.mono ?_; rintro e w' ⟨rfl, hb⟩)
    go_ret
    exact ⟨ret_bool HR.out.symm, by assumption⟩
  | true =>
    rw [hsm] at HR
    go_enter Tryz.func105, Tryz.ntmps105
    go_wp2_with (go_at_call 119; refine C1.out.mono ?_; rintro e w' ⟨rfl, hb⟩)
    go_ret
    exact ⟨ret_bool HR.out.symm, by assumption⟩
def fieldsB (x : Core) : Bool :=
  if x.kind = 1 then elemNameB x.name.toList && (x.is.toList == [] || customL x.is.toList) && (x.data.toList == []) && rightA x.attrs
  else if x.kind = 0 ∨ x.kind = 3 ∨ x.kind = 4 then (x.data.toList == []) && (x.name.toList == []) && (x.is.toList == []) && decide (x.attrs.length = 0)
  else if x.kind = 2 then (x.name.toList == []) && (x.is.toList == []) && decide (x.data.size ≤ 200) && decide (x.attrs.length = 0)
  else false
structure NKeep (w W : World) (x : NodeD) : Prop where
  box : NBox w W w.heap.size x
  below : Below w.heap.size w W
theorem NKeep.start {w : World} {x : NodeD} (h : NodeOk w x) : NKeep w (w.alloc (nodB x)) x := by
  have c : ∀ (j : Nat), (w.alloc (nodB x)).cell? ⟨w.heap.size, j, none⟩ = (#[.int .i64 x.core.kind, .string x.core.name, .string x.core.is, .string x.core.data, .slice x.aA x.aN x.aC, .int .i64 x.core.parent, .slice x.kA x.kN x.kC, .int .i64 x.core.host, .int .i64 x.core.under, .int .i64 x.core.doc] : Array Value)[j]? := fun j =>
    cell_of_row (w.alloc (nodB x)) w.heap.size j _ 58 (0, 0) (heap_alloc_new _ _)
  exact ⟨⟨by simp, c 0, c 1, c 2, c 3, c 4, c 5, c 6, c 7, c 8, c 9, h.below (below_box w _)⟩, below_box w _⟩
theorem NKeep.keep {w W W2 : World} {x : NodeD} (h : NKeep w W x) (hb : Below W.heap.size W W2) : NKeep w W2 x := ⟨h.box.keep hb, h.below.trans (hb.mono h.below.size)⟩
set_option maxHeartbeats 8000000 in
set_option maxRecDepth 100000 in
theorem fieldsFit_any (x : NodeD) (w : World) (h : NodeOk w x) :
    Calls Tryz.prog 83 #[nodVal x] w fun e w' => e = .returned (.bool (fieldsB x.core)) ∧ Below w.heap.size w w' := by
  obtain ⟨⟨kind, name, is, data, attrs, parent, kids, host, under, doc⟩, aA, aN, aC, kA, kN, kC⟩ := x
  have HN1 : Hid (name.size ≤ maxLen) := Lib.hid h.name
  have HN2 : Hid (is.size ≤ maxLen) := Lib.hid h.is
  have hal : aN ≤ 9223372036854775807 := h.attrs.len64
  have hdl : data.size ≤ 9223372036854775807 := by have : data.size ≤ maxLen := h.data; unfold maxLen at this; omega
  have HAL : Hid (attrs.length = aN) := Lib.hid h.attrs.hlen
  have HH := Lib.hid h
  clear h
  by_cases k1 : kind = 1
  · subst k1
    have NK := Lib.hid (NKeep.start HH.out)
    clear HH
    have HR : Hid (fieldsB ⟨1, name, is, data, attrs, parent, kids, host, under, doc⟩ = (elemNameB name.toList && (is.toList == [] || customL is.toList) && (data.toList == []) && rightA attrs)) := Lib.hid rfl
    obtain ⟨-, x0, x1, x2, x3, x4, x5, x6, x7, x8, x9, -⟩ := NK.out.box
    go_enter Tryz.func83, Tryz.ntmps83
    go_wp2_with (first
                    | (go_at_call 105; (refine (elemName_any _ _ HN1.out).mono ?_); rintro e w1 ⟨rfl, hb⟩; have NK := Lib.hid (NK.out.keep hb); obtain ⟨-, x0, x1, x2, x3, x4, x5, x6, x7, x8, x9, -⟩ := NK.out.box; clear hb)
                    | (go_at_call 92; (refine (custom_any _ _ HN2.out).mono ?_); rintro e w1 ⟨rfl, hb⟩; have NK := Lib.hid (NK.out.keep hb); obtain ⟨-, x0, x1, x2, x3, x4, x5, x6, x7, x8, x9, -⟩ := NK.out.box; clear hb)
                    | (go_at_call 106; (refine (right_any' _ _ _ _ _ NK.out.box.ok.attrs).mono ?_); rintro e w1 ⟨rfl, hb⟩; have NK := Lib.hid (NK.out.keep hb); obtain ⟨-, x0, x1, x2, x3, x4, x5, x6, x7, x8, x9, -⟩ := NK.out.box; clear hb))
    all_goals (go_ret; exact ⟨ret_bool (by rw [HR.out]; first | (simp [*]; done) | (rw [Bool.eq_iff_iff]; simp [*])), by first | exact NK.out.below | assumption⟩)
  by_cases k2 : kind = 2
  · subst k2
    clear HH
    have HR : Hid (fieldsB ⟨2, name, is, data, attrs, parent, kids, host, under, doc⟩ = ((name.toList == []) && (is.toList == []) && decide (data.size ≤ 200) && decide (aN = 0))) := Lib.hid (by rw [← HAL.out]; rfl)
    clear k1
    go_enter Tryz.func83, Tryz.ntmps83
    go_wp2
    all_goals (go_ret; exact ⟨ret_bool (by rw [HR.out]; first | (simp [*]; done) | (rw [Bool.eq_iff_iff]; simp [*]; done) | (rw [Bool.eq_iff_iff]; simp [*]; omega)), below_box _ _⟩)
  by_cases k3 : kind = 0 ∨ kind = 3 ∨ kind = 4
  · have HR : Hid (fieldsB ⟨kind, name, is, data, attrs, parent, kids, host, under, doc⟩ = ((data.toList == []) && (name.toList == []) && (is.toList == []) && decide (aN = 0))) := Lib.hid (by
      unfold fieldsB
      rw [if_neg k1]
      dsimp only
      rw [if_pos k3, HAL.out])
    clear k1 k2 HH
    by_cases d0 : data.toList = []
    · have hd : (data.size : Int) ≤ 200 := by
        have : data.size = 0 := by rw [← tl_len, d0]; rfl
        omega
      have hd2 : (!data.toList.isEmpty) = false := by rw [d0]; rfl
      have hd3 : data.toList.isEmpty = true := by rw [d0]; rfl
      rcases k3 with k3 | k3 | k3
      all_goals
        subst k3
        go_enter Tryz.func83, Tryz.ntmps83
        go_wp2
        all_goals (go_ret; exact ⟨ret_bool (by rw [HR.out]; first | (simp [*]; done) | (rw [Bool.eq_iff_iff]; simp [*]; done) | (rw [Bool.eq_iff_iff]; simp [*]; omega)), below_box _ _⟩)
    · have hd3 : data.toList.isEmpty = false := by
        cases hh : data.toList with
        | nil => exact absurd hh d0
        | cons _ _ => rfl
      have hd2 : (!data.toList.isEmpty) = true := by rw [hd3]; rfl
      rcases k3 with k3 | k3 | k3
      all_goals
        subst k3
        go_enter Tryz.func83, Tryz.ntmps83
        go_wp2
        all_goals (go_ret; exact ⟨ret_bool (by rw [HR.out]; simp [*]), below_box _ _⟩)
  have HR : Hid (fieldsB ⟨kind, name, is, data, attrs, parent, kids, host, under, doc⟩ = false) := Lib.hid (by unfold fieldsB; dsimp only; rw [if_neg k1, if_neg k3, if_neg k2])
  have f0 : (kind == 0) = false := beq_eq_false_iff_ne.2 (fun e => k3 (.inl e))
  have f1 : (kind == 1) = false := beq_eq_false_iff_ne.2 k1
  have f2 : (kind == 2) = false := beq_eq_false_iff_ne.2 k2
  have f3 : (kind == 3) = false := beq_eq_false_iff_ne.2 (fun e => k3 (.inr (.inl e)))
  have f4 : (kind == 4) = false := beq_eq_false_iff_ne.2 (fun e => k3 (.inr (.inr e)))
  clear k1 k2 k3 HH
  go_enter Tryz.func83, Tryz.ntmps83
  go_wp2
  go_ret
  exact ⟨ret_bool HR.out.symm, below_box _ _⟩
end Go.Proofs.YtbkhngoehoiccaaGreat
namespace Go.Proofs.YtbkhngoehoiccaaGreat
open Go.RowKit
structure ORow {α : Type} (enc : α → Value) (w : World) (g : Nat) (L : List α) : Prop where
  lt : g < w.heap.size
  cell : ∀ i x, L[i]? = some x → w.cell? ⟨g, i, none⟩ = some (enc x)
  free : ∀ i, w.frozen? ⟨g, i, none⟩ = false
section
variable {α : Type} {enc : α → Value} {w w' : World} {g : Nat} {L : List α}
theorem ORow.keep (h : ORow enc w g L) (hb : Below w.heap.size w w') : ORow enc w' g L :=
  ⟨Nat.lt_of_lt_of_le h.lt hb.size, fun i x hx => (hb.cell (p := ⟨g, i, none⟩) h.lt).trans (h.cell i x hx), fun i => (hb.frozen (p := ⟨g, i, none⟩) h.lt).trans (h.free i)⟩
theorem ORow.drewN (h : ORow enc w g L) (n : Nat) : ORow enc (w.drewN n) g L := ⟨h.lt, h.cell, h.free⟩
theorem ORow.set (h : ORow enc w g L) {k : Nat} (hk : k < L.length) (x : α) : ORow enc (w.setCell ⟨g, k, none⟩ (enc x)) g (L.set k x) := by
  refine ⟨by simpa [World.setCell] using h.lt, fun i y hy => ?_, fun i => by rw [World.frozen?_setCell]; exact h.free i⟩
  by_cases e : k = i
  · subst e
    rw [List.getElem?_set_self hk] at hy
    injection hy with hy
    subst hy
    exact World.cell?_setCell_same _ _ _ (h.cell k _ (List.getElem?_eq_getElem hk))
  · rw [List.getElem?_set_ne e] at hy
    rw [World.cell?_setCell_other _ _ _ _ (fun e' => by injection e' with _ e'; exact e e')]
    exact h.cell i y hy
theorem ORow.other (h : ORow enc w g L) {p : Addr} (hp : p.block ≠ g) (u : Value) : ORow enc (w.setCell p u) g L :=
  ⟨by simpa [World.setCell] using h.lt, fun i x hx => (World.cell?_setCell_other _ _ _ _ (fun e => hp (by rw [e]))).trans (h.cell i x hx), fun i => by rw [World.frozen?_setCell]; exact h.free i⟩
theorem ORow.made (w : World) (e : TypeId) (x : α) (n : Nat) : ORow enc (w.alloc (.cells (madeCells #[enc x] n) e)) w.heap.size (List.replicate n x) := by
  refine ⟨by simp, fun i y hy => ?_, fun i => (World.rowIs_made w (enc x) n e).frozen i⟩
  obtain ⟨hl, hg⟩ := List.getElem?_eq_some_iff.1 hy
  rw [List.getElem_replicate] at hg
  subst hg
  rw [List.length_replicate] at hl
  exact (World.rowIs_made w (enc x) n e).cell hl
end
end Go.Proofs.YtbkhngoehoiccaaGreat
namespace Go.Proofs.YtbkhngoehoiccaaGreat
open Go.RowKit
theorem endsZ_none (nxt : Int → Int) (s : Nat) : endsZ nxt s (-1) = true := by
  cases s with
  | zero => rfl
  | succ s => unfold endsZ; rfl
theorem endsZ_more {nxt : Int → Int} : ∀ (s : Nat) (i : Int), endsZ nxt s i = true → endsZ nxt (s + 1) i = true
  | 0, i, h => by
    have e : i = -1 := by unfold endsZ at h; exact beq_iff_eq.1 h
    rw [e]
    exact endsZ_none _ _
  | s + 1, i, h => by
    by_cases e : i = -1
    · rw [e]
      exact endsZ_none _ _
    · rw [endsZ_step e] at h ⊢
      exact endsZ_more s _ h
end Go.Proofs.YtbkhngoehoiccaaGreat
namespace Go.Proofs.YtbkhngoehoiccaaGreat
open Go.RowKit Go.Maps Go.WideMaps
end Go.Proofs.YtbkhngoehoiccaaGreat
namespace Go.Proofs.YtbkhngoehoiccaaGreat
open Go.RowKit
structure DBox (w W : World) (g : Nat) (da : Option Addr) (dl dc : Nat) (wa : Option Addr) (wl wc : Nat) (nx : Int) (bz : Bool) (L : List DefD) (M : List WaitD) : Prop where
  d : DefRow W da dl dc L
  t : WaitRow W wa wl wc M
  low : w.heap.size ≤ g
  lt : g < W.heap.size
  c0 : W.cell? ⟨g, 0, none⟩ = some (.slice da dl dc)
  c1 : W.cell? ⟨g, 1, none⟩ = some (.slice wa wl wc)
  c2 : W.cell? ⟨g, 2, none⟩ = some (.int .i64 nx)
  c3 : W.cell? ⟨g, 3, none⟩ = some (.bool bz)
  below : Below w.heap.size w W
section
variable {w W V : World} {g : Nat} {da wa : Option Addr} {dl dc wl wc : Nat} {nx : Int} {bz : Bool} {L : List DefD} {M : List WaitD}
theorem DBox.keep (h : DBox w W g da dl dc wa wl wc nx bz L M) (hb : Below W.heap.size W V) : DBox w V g da dl dc wa wl wc nx bz L M :=
  ⟨h.d.below hb, h.t.below hb, h.low, Nat.lt_of_lt_of_le h.lt hb.size, (hb.cell (p := ⟨g, 0, none⟩) h.lt).trans h.c0, (hb.cell (p := ⟨g, 1, none⟩) h.lt).trans h.c1, (hb.cell (p := ⟨g, 2, none⟩) h.lt).trans h.c2, (hb.cell (p := ⟨g, 3, none⟩) h.lt).trans h.c3, h.below.trans (hb.mono h.below.size)⟩
theorem DBox.start (hd : DefRow w da dl dc L) (ht : WaitRow w wa wl wc M) : DBox w (w.alloc (deskB da dl dc wa wl wc nx bz)) w.heap.size da dl dc wa wl wc nx bz L M :=
  ⟨hd.below (below_desk _ _), ht.below (below_desk _ _), Nat.le_refl _, by simp, cell_of_row (w.alloc (deskB da dl dc wa wl wc nx bz)) w.heap.size 0 _ 29 (0, 0) (heap_alloc_new w _), cell_of_row (w.alloc (deskB da dl dc wa wl wc nx bz)) w.heap.size 1 _ 29 (0, 0) (heap_alloc_new w _), cell_of_row (w.alloc (deskB da dl dc wa wl wc nx bz)) w.heap.size 2 _ 29 (0, 0) (heap_alloc_new w _), cell_of_row (w.alloc (deskB da dl dc wa wl wc nx bz)) w.heap.size 3 _ 29 (0, 0) (heap_alloc_new w _), below_desk _ _⟩
end
structure XBox (W : World) (g : Nat) (n l : ByteArray) (c : Int) : Prop where
  lt : g < W.heap.size
  c0 : W.cell? ⟨g, 0, none⟩ = some (.string n)
  c1 : W.cell? ⟨g, 1, none⟩ = some (.string l)
  c2 : W.cell? ⟨g, 2, none⟩ = some (.int .i64 c)
theorem XBox.keep {W V : World} {g : Nat} {n l : ByteArray} {c : Int} (h : XBox W g n l c) (hb : Below W.heap.size W V) : XBox V g n l c :=
  ⟨Nat.lt_of_lt_of_le h.lt hb.size, (hb.cell (p := ⟨g, 0, none⟩) h.lt).trans h.c0, (hb.cell (p := ⟨g, 1, none⟩) h.lt).trans h.c1, (hb.cell (p := ⟨g, 2, none⟩) h.lt).trans h.c2⟩
theorem XBox.new (W : World) (n l : ByteArray) (c : Int) : XBox (W.alloc (.cells #[.string n, .string l, .int .i64 c] 78)) W.heap.size n l c :=
  ⟨by simp, cell_of_row _ W.heap.size 0 _ 78 (0, 0) (heap_alloc_new W _), cell_of_row _ W.heap.size 1 _ 78 (0, 0) (heap_alloc_new W _), cell_of_row _ W.heap.size 2 _ 78 (0, 0) (heap_alloc_new W _)⟩
structure TBox9 (W : World) (g : Nat) (n : ByteArray) (k : Int) : Prop where
  lt : g < W.heap.size
  c0 : W.cell? ⟨g, 0, none⟩ = some (.string n)
  c1 : W.cell? ⟨g, 1, none⟩ = some (.int .i64 k)
theorem TBox9.keep {W V : World} {g : Nat} {n : ByteArray} {k : Int} (h : TBox9 W g n k) (hb : Below W.heap.size W V) : TBox9 V g n k :=
  ⟨Nat.lt_of_lt_of_le h.lt hb.size, (hb.cell (p := ⟨g, 0, none⟩) h.lt).trans h.c0, (hb.cell (p := ⟨g, 1, none⟩) h.lt).trans h.c1⟩
theorem TBox9.new (W : World) (n : ByteArray) (k : Int) : TBox9 (W.alloc (.cells #[.string n, .int .i64 k] 84)) W.heap.size n k :=
  ⟨by simp, cell_of_row _ W.heap.size 0 _ 84 (0, 0) (heap_alloc_new W _), cell_of_row _ W.heap.size 1 _ 84 (0, 0) (heap_alloc_new W _)⟩
end Go.Proofs.YtbkhngoehoiccaaGreat
namespace Go.Proofs.YtbkhngoehoiccaaGreat
open Go.RowKit
def ifRight (D : DeskD) (z : Int) : Int := if rightK D = true then z else -1
end Go.Proofs.YtbkhngoehoiccaaGreat
namespace Go.Proofs.YtbkhngoehoiccaaGreat
open Go.RowKit
def PredD (g : Nat) (lb : Array Value) (p : DefD → Bool) (w : World) : Prop :=
  ∀ (W : World) (n o : ByteArray) (c : Int), Below w.heap.size w W → Calls Tryz.prog g (#[.agg #[.string n, .string o, .int .i64 c]] ++ lb) W fun e W' => e = .returned (.bool (p ⟨n, o, c⟩)) ∧ Below W.heap.size W W'
def PredT (g : Nat) (lb : Array Value) (p : WaitD → Bool) (w : World) : Prop :=
  ∀ (W : World) (n : ByteArray) (c : Int), Below w.heap.size w W → Calls Tryz.prog g (#[.agg #[.string n, .int .i64 c]] ++ lb) W fun e W' => e = .returned (.bool (p ⟨n, c⟩)) ∧ Below W.heap.size W W'
theorem PredD.later {g : Nat} {lb : Array Value} {p : DefD → Bool} {w W : World} (h : PredD g lb p w) (hb : Below w.heap.size w W) : PredD g lb p W :=
  fun V n o c hv => h V n o c (hb.trans (hv.mono hb.size))
theorem PredT.later {g : Nat} {lb : Array Value} {p : WaitD → Bool} {w W : World} (h : PredT g lb p w) (hb : Below w.heap.size w W) : PredT g lb p W :=
  fun V n c hv => h V n c (hb.trans (hv.mono hb.size))
set_option maxHeartbeats 4000000 in
set_option maxRecDepth 100000 in
theorem indexD_any (g : Nat) (lb : Array Value) (p : DefD → Bool) (eg : ∀ args w, (callFunc g args).run Tryz.prog w = .ok (.enter g args) w) (a : Option Addr) (len cap : Nat) (L : List DefD) (w : World) (h : DefRow w a len cap L) (hp : PredD g lb p w) :
    Calls Tryz.prog 107 #[.slice a len cap, .func (.func g) #[] lb] w fun e w' => e = .returned (.int .i64 (firstZ p L)) ∧ Below w.heap.size w w' := by
  have hl := h.len64
  have HLN := Lib.hid h.hlen
  have HH := Lib.hid h
  have HP := Lib.hid hp
  clear h hp
  go_enter Tryz.func107, Tryz.ntmps107
  go_wp2
  go_loopw [5, 8] (fun _ i wr => ∃ k : Nat, k ≤ len ∧ i = .int .i64 k ∧ Hid (k ≤ firstN p L) ∧ Hid (Below w.heap.size w wr)) (fun _ i _ => len - (intOf i).toNat)
  case atStart => exact ⟨0, Nat.zero_le _, rfl, Lib.hid (Nat.zero_le _), Lib.hid (Below.refl _ _)⟩
  case round =>
    obtain ⟨k, hk, rfl, HA, HB⟩ := hrel
    by_cases hlt : k < len
    · obtain ⟨b, off, x, rfl, hb, hx, c0, c1, c2, -⟩ := (HH.out.below HB.out).get hlt
      have HX := Lib.hid hx
      clear hx
      obtain ⟨n, o, c⟩ := x
      dsimp only at c0 c1 c2
      have hcall := HP.out wr n o c HB.out
      obtain ⟨q, hq⟩ : ∃ q, p ⟨n, o, c⟩ = q := ⟨_, rfl⟩
      rw [hq] at hcall
      cases q with
      | true =>
        have HR : Hid (firstZ p L = (k : Int)) := Lib.hid (firstZ_here HA.out HX.out hq)
        clear hq
        go_wp2_with (go_at_fn g; refine hcall.mono ?_; rintro e w' ⟨rfl, hb'⟩)
        go_ret
        exact ⟨ret_int HR.out.symm, HB.out.trans (hb'.mono HB.out.size)⟩
      | false =>
        have HR : Hid (k + 1 ≤ firstN p L) := Lib.hid (first_step HA.out HX.out hq)
        clear hq
        go_wp2_with (go_at_fn g; refine hcall.mono ?_; rintro e w' ⟨rfl, hb'⟩)
        go_roundw
        case rel => exact ⟨k + 1, by omega, by go_num, HR, Lib.hid (HB.out.trans (hb'.mono HB.out.size))⟩
        case measure => simp [intOf]; omega
    · have HR : Hid (firstZ p L = -1) := Lib.hid (firstZ_none HA.out (by rw [HLN.out]; omega))
      go_wp2
      go_ret
      exact ⟨ret_int HR.out.symm, HB.out⟩
set_option maxHeartbeats 4000000 in
set_option maxRecDepth 100000 in
theorem containsD_any (g : Nat) (lb : Array Value) (p : DefD → Bool) (eg : ∀ args w, (callFunc g args).run Tryz.prog w = .ok (.enter g args) w) (a : Option Addr) (len cap : Nat) (L : List DefD) (w : World) (h : DefRow w a len cap L) (hp : PredD g lb p w) :
    Calls Tryz.prog 88 #[.slice a len cap, .func (.func g) #[] lb] w fun e w' => e = .returned (.bool (decide (0 ≤ firstZ p L))) ∧ Below w.heap.size w w' := by
  have hcall := indexD_any g lb p eg a len cap L w h hp
  clear h hp
  obtain ⟨q, hq⟩ : ∃ q, firstZ p L = q := ⟨_, rfl⟩
  rw [hq] at hcall ⊢
  clear hq
  go_enter Tryz.func88, Tryz.ntmps88
  go_wp2_with (go_at_call 107; refine hcall.mono ?_; rintro e w' ⟨rfl, hb'⟩)
  all_goals (go_ret; exact ⟨rfl, hb'⟩)
end Go.Proofs.YtbkhngoehoiccaaGreat
namespace Go.Proofs.YtbkhngoehoiccaaGreat
open Go.RowKit Go.Deep Go.ChangeShapes Go.WideShapes
theorem in64_of {z : Int} (h : (Lit.int .i64 z).wf = true) : In64 z := by
  exact bounds_i64 h
theorem open_introw {H : Type} {enc : TypeId × Value → H} {W : World} {a : Option Addr} {len cap : Nat} {d : DataW H} {p : List MemPlace}
    (h : DataW.Trod enc Tryz.prog W 0 (fun _ => true) true 56 (.slice a len cap) d p) : ∃ L, IntRow W a len cap L := by
  obtain ⟨fuel, hf⟩ := h
  rcases open_slice Tryz.underlying56 hf with ⟨hcs, _⟩ | ⟨ad, l, c, m, n, D, Pl, hcs, _, hl, hm, hmm, _, hi⟩
  · simp [Value.cells] at hcs
    obtain ⟨rfl, rfl, rfl⟩ := hcs
    exact ⟨[], SRow.nil, by simp, fun _ => rfl⟩
  · simp [Value.cells] at hcs
    obtain ⟨rfl, rfl, rfl⟩ := hcs
    have hml : len ≤ m := by rw [hmm]; simpa using hl
    have ce : Tryz.prog.cellsOf 3 = 1 := by kernel_rfl
    have each : ∀ i, i < len → ∃ x : Int, W.cell? (ad.add i) = some (.int .i64 x) ∧ In64 x := by
      intro i hil
      obtain ⟨cs', h1, h2⟩ := hi i (by omega)
      rw [ce] at h1
      obtain ⟨_, hlen, hcell⟩ := World.cells?_some h1
      match cs', hlen with
      | [v0], _ =>
        have e0 := hcell 0 (by omega)
        rw [add_add] at e0
        obtain ⟨n0, hn0, _, hw0⟩ := DataW.trod_int Tryz.underlying3 h2
        simp at hn0
        subst hn0
        exact ⟨n0, by simpa using e0, in64_of hw0⟩
    obtain ⟨q, hq⟩ : ∃ q : Nat → Int, ∀ i, i < len → W.cell? (ad.add i) = some (.int .i64 (q i)) ∧ In64 (q i) := by
      refine ⟨fun i => if h : i < len then (each i h).choose else 0, fun i hil => ?_⟩
      simp only [dif_pos hil]
      exact (each i hil).choose_spec
    refine ⟨(List.range len).map q, ⟨by simp, hl, hm, fun x _ => rfl, ?_⟩, ?_, fun h => by cases h⟩
    · rcases Nat.eq_zero_or_pos len with h0 | h0
      · exact .inl h0
      · obtain ⟨b, off, spot⟩ := ad
        have hc := (hq 0 h0).1
        have hspot : spot = none := by simpa [Addr.add] using World.cell?_spot hc
        subst hspot
        refine .inr ⟨b, off, rfl, ?_, ?_⟩
        · have := block_lt hc
          rwa [add_plain] at this
        · intro i x j v hx hv
          obtain ⟨hil, hgx⟩ := List.getElem?_eq_some_iff.1 hx
          have hil' : i < len := by simpa using hil
          simp at hgx
          obtain ⟨h1, _⟩ := hq i hil'
          rw [add_plain] at h1
          rw [hgx] at h1
          obtain ⟨hjl, hgv⟩ := List.getElem?_eq_some_iff.1 hv
          match j, hjl with
          | 0, _ => simp [encZ] at hgv; subst hgv; simpa using h1
    · intro x hx
      obtain ⟨i, hi1, rfl⟩ := List.mem_map.1 hx
      exact (hq i (List.mem_range.1 hi1)).2
theorem slice_cells {H : Type} {enc : TypeId × Value → H} {W : World} {t e : TypeId} {fuel : Nat} {v : Value} {x : DataW H × List MemPlace} (ht : Tryz.prog.underlying t = some (.slice e))
    (h : DataW.trod enc Tryz.prog W 0 (fun _ => true) true fuel t [v] = some x) : ∃ a n c, v = .slice a n c := by
  rcases open_slice ht h with ⟨hcs, _⟩ | ⟨ad, l, c, m, n, D, Pl, hcs, _⟩
  · exact ⟨none, 0, 0, by simpa using hcs⟩
  · exact ⟨some ad, l, c, by simpa using hcs⟩
set_option maxRecDepth 100000 in
theorem open_nodecells {H : Type} {enc : TypeId × Value → H} {W : World} {cs : List Value} {d : DataW H} {p : List MemPlace} {fuel : Nat} (hc : cs.length = 10)
    (h : DataW.trod enc Tryz.prog W 0 (fun _ => true) true fuel 58 cs = some (d, p)) : ∃ x : NodeD, cs = encN x ∧ NodeOk W x := by
  obtain ⟨xs, k, _, _, _, hxl, hff⟩ := DataW.trod_struct Tryz.underlying58 h
  have c3 : Tryz.prog.cellsOf 3 = 1 := by kernel_rfl
  have c9 : Tryz.prog.cellsOf 9 = 1 := by kernel_rfl
  have ca : Tryz.prog.cellsOf 55 = 1 := by kernel_rfl
  have ci : Tryz.prog.cellsOf 56 = 1 := by kernel_rfl
  match cs, hc with
  | [v0, v1, v2, v3, v4, v5, v6, v7, v8, v9], _ =>
    match xs, hxl with
    | [y0, y1, y2, y3, y4, y5, y6, y7, y8, y9], _ =>
      have g0 := hff 0 _ rfl
      have g1 := hff 1 _ rfl
      have g2 := hff 2 _ rfl
      have g3 := hff 3 _ rfl
      have g4 := hff 4 _ rfl
      have g5 := hff 5 _ rfl
      have g6 := hff 6 _ rfl
      have g7 := hff 7 _ rfl
      have g8 := hff 8 _ rfl
      have g9 := hff 9 _ rfl
      simp [c3, c9, ca, ci] at g0 g1 g2 g3 g4 g5 g6 g7 g8 g9
      obtain ⟨n0, hn0, _, hw0⟩ := DataW.trod_int Tryz.underlying3 g0
      obtain ⟨s1, hs1, _, hl1⟩ := DataW.trod_string Tryz.underlying9 g1
      obtain ⟨s2, hs2, _, hl2⟩ := DataW.trod_string Tryz.underlying9 g2
      obtain ⟨s3, hs3, _, hl3⟩ := DataW.trod_string Tryz.underlying9 g3
      obtain ⟨n5, hn5, _, hw5⟩ := DataW.trod_int Tryz.underlying3 g5
      obtain ⟨n7, hn7, _, hw7⟩ := DataW.trod_int Tryz.underlying3 g7
      obtain ⟨n8, hn8, _, hw8⟩ := DataW.trod_int Tryz.underlying3 g8
      obtain ⟨n9, hn9, _, hw9⟩ := DataW.trod_int Tryz.underlying3 g9
      simp at hn0 hs1 hs2 hs3 hn5 hn7 hn8 hn9
      subst hn0 hs1 hs2 hs3 hn5 hn7 hn8 hn9
      obtain ⟨a4, l4, c4, rfl⟩ := slice_cells Tryz.underlying55 g4
      obtain ⟨a6, l6, c6, rfl⟩ := slice_cells Tryz.underlying56 g6
      obtain ⟨A, hA⟩ := open_attrs (enc := enc) (W := W) (a := a4) (len := l4) (cap := c4) (d := y4.1) (p := y4.2) ⟨k, by simpa [Value.cells] using g4⟩
      obtain ⟨K, hK⟩ := open_introw (enc := enc) (W := W) (a := a6) (len := l6) (cap := c6) (d := y6.1) (p := y6.2) ⟨k, by simpa [Value.cells] using g6⟩
      exact ⟨⟨⟨n0, s1, s2, s3, A, n5, K, n7, n8, n9⟩, a4, l4, c4, a6, l6, c6⟩, rfl, hA, hK, hl1, hl2, hl3, in64_of hw0, in64_of hw5, in64_of hw7, in64_of hw8, in64_of hw9⟩
theorem open_noderow {H : Type} {enc : TypeId × Value → H} {W : World} {a : Option Addr} {len cap : Nat} {d : DataW H} {p : List MemPlace}
    (h : DataW.Trod enc Tryz.prog W 0 (fun _ => true) true 22 (.slice a len cap) d p) : ∃ L, NodeRow W a len cap L := by
  obtain ⟨fuel, hf⟩ := h
  rcases open_slice Tryz.underlying22 hf with ⟨hcs, _⟩ | ⟨ad, l, c, m, n, D, Pl, hcs, _, hl, hm, hmm, _, hi⟩
  · simp [Value.cells] at hcs
    obtain ⟨rfl, rfl, rfl⟩ := hcs
    exact ⟨[], SRow.nil, by simp, fun _ => rfl⟩
  · simp [Value.cells] at hcs
    obtain ⟨rfl, rfl, rfl⟩ := hcs
    have hml : len ≤ m := by rw [hmm]; simpa using hl
    have ce : Tryz.prog.cellsOf 58 = 10 := by kernel_rfl
    have each : ∀ i, i < len → ∃ x : NodeD, NodeOk W x ∧ ∀ j v, (encN x)[j]? = some v → W.cell? (ad.add (i * 10 + j)) = some v := by
      intro i hil
      obtain ⟨cs', h1, h2⟩ := hi i (by omega)
      rw [ce] at h1
      obtain ⟨_, hlen, hcell⟩ := World.cells?_some h1
      obtain ⟨x, hx, hok⟩ := open_nodecells hlen h2
      refine ⟨x, hok, fun j v hv => ?_⟩
      have hj : j < 10 := (List.getElem?_eq_some_iff.1 hv).1
      have e0 := hcell j hj
      rw [add_add, hx, hv] at e0
      exact e0
    obtain ⟨q, hq⟩ : ∃ q : Nat → NodeD, ∀ i, i < len → NodeOk W (q i) ∧ ∀ j v, (encN (q i))[j]? = some v → W.cell? (ad.add (i * 10 + j)) = some v := by
      rcases Nat.eq_zero_or_pos len with h0 | h0
      · exact ⟨fun _ => ⟨⟨0, ByteArray.empty, ByteArray.empty, ByteArray.empty, [], 0, [], 0, 0, 0⟩, none, 0, 0, none, 0, 0⟩, fun i hi => by omega⟩
      · refine ⟨fun i => if h : i < len then (each i h).choose else (each 0 h0).choose, fun i hil => ?_⟩
        simp only [dif_pos hil]
        exact (each i hil).choose_spec
    refine ⟨(List.range len).map q, ⟨by simp, hl, hm, fun x _ => rfl, ?_⟩, ?_, fun h => by cases h⟩
    · rcases Nat.eq_zero_or_pos len with h0 | h0
      · exact .inl h0
      · obtain ⟨b, off, spot⟩ := ad
        have hc := (hq 0 h0).2 0 _ rfl
        have hspot : spot = none := by simpa [Addr.add] using World.cell?_spot hc
        subst hspot
        refine .inr ⟨b, off, rfl, ?_, ?_⟩
        · have := block_lt hc
          rwa [add_plain] at this
        · intro i x j v hx hv
          obtain ⟨hil, hgx⟩ := List.getElem?_eq_some_iff.1 hx
          have hil' : i < len := by simpa using hil
          simp at hgx
          have h1 := (hq i hil').2 j v (by rw [hgx]; exact hv)
          rw [add_plain] at h1
          simpa [Nat.add_assoc] using h1
    · intro x hx
      obtain ⟨i, hi1, rfl⟩ := List.mem_map.1 hx
      exact (hq i (List.mem_range.1 hi1)).1
set_option maxRecDepth 100000 in
theorem open_forest {H : Type} {enc : TypeId × Value → H} {W : World} {r : Reach} {b0 : Nat} {v : Value} {d : DataW H} {p : List MemPlace} (hv : Value.okWide Tryz.prog W r b0 24 v)
    (h : DataW.Trod enc Tryz.prog W 0 (fun _ => true) true 24 v d p) : ∃ a len cap m L, v = .agg #[.slice a len cap, .int .i64 m] ∧ NodeRow W a len cap L ∧ In64 m := by
  obtain ⟨cs, rfl, hsz⟩ := okWide_struct Tryz.underlying24 hv
  have hC : Tryz.prog.cellsOf 24 = 2 := by kernel_rfl
  have c3 : Tryz.prog.cellsOf 3 = 1 := by kernel_rfl
  have cn : Tryz.prog.cellsOf 22 = 1 := by kernel_rfl
  obtain ⟨l⟩ := cs
  match l, hsz.trans hC with
  | [v0, v1], _ =>
    obtain ⟨fuel, hf⟩ := h
    obtain ⟨xs, k, _, _, _, hxl, hff⟩ := DataW.trod_struct Tryz.underlying24 hf
    match xs, hxl with
    | [y0, y1], _ =>
      have g0 := hff 0 _ rfl
      have g1 := hff 1 _ rfl
      simp [c3, cn, Value.cells] at g0 g1
      obtain ⟨n1, hn1, _, hw1⟩ := DataW.trod_int Tryz.underlying3 g1
      simp at hn1
      subst hn1
      obtain ⟨a4, l4, c4, rfl⟩ := slice_cells Tryz.underlying22 g0
      obtain ⟨L, hL⟩ := open_noderow (enc := enc) (W := W) (a := a4) (len := l4) (cap := c4) (d := y0.1) (p := y0.2) ⟨k, by simpa [Value.cells] using g0⟩
      exact ⟨a4, l4, c4, n1, L, rfl, hL, in64_of hw1⟩
end Go.Proofs.YtbkhngoehoiccaaGreat
