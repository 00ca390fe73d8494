/- Texts joined in build order: ForestFit4 ForestFit5 OwnCells ForestOnce ForestMakesMath ForestEnds ForestWays ForestRightMath ForestOrderMath ForestRightFn. -/
import Derived.Test.YtiffhlncnpppoaaGreatDoorM02
import Derived.Below
import Derived.WalkSmall
import Derived.Laws.Rows
import Derived.Deep.OwnRows
namespace Go.Proofs.YtiffhlncnpppoaaGreatDoor
open Go.RowKit
def elemNameB (l : List UInt8) : Bool := rightL l && (smallL l == l)
set_option maxHeartbeats 2000000 in
theorem elemName_any (s : ByteArray) (w : World) (hs : s.size ≤ maxLen) :
    Calls Tryz.prog 162 #[.string s] w fun e w' => e = .returned (.bool (elemNameB s.toList)) ∧ Below w.heap.size w w' := by
  have C1 := Lib.hid (fit_any s w hs)
  by_cases hr : rightL s.toList = true
  rotate_left
  · have hr : rightL s.toList = false := by simpa using hr
    have HR : Hid (elemNameB s.toList = false) := Lib.hid (by unfold elemNameB; rw [hr]; rfl)
    have e1 : fitE s.toList = 4 := by unfold fitE; rw [hr]; rfl
    rw [e1] at C1
    clear hr e1
    go_enter Tryz.func162, Tryz.ntmps162
    go_wp2_with (go_at_call 75; refine C1.out.mono ?_; rintro e w' ⟨rfl, hb⟩)
    go_ret
    exact ⟨ret_bool HR.out.symm, by assumption⟩
  have e1 : fitE s.toList = 0 := by unfold fitE; rw [hr]; rfl
  have e2 : fitL s.toList = smallL s.toList := by unfold fitL; rw [hr]; rfl
  rw [e1, e2] at C1
  have HR : Hid (elemNameB s.toList = (smallL s.toList == s.toList)) := Lib.hid (by unfold elemNameB; rw [hr]; rfl)
  clear hr e1 e2
  cases hsm : (smallL s.toList == s.toList) with
  | false =>
    rw [hsm] at HR
    go_enter Tryz.func162, Tryz.ntmps162
    go_wp2_with (go_at_call 75; refine C1.out.mono ?_; rintro e w' ⟨rfl, hb⟩)
    go_ret
    exact ⟨ret_bool HR.out.symm, by assumption⟩
  | true =>
    rw [hsm] at HR
    go_enter Tryz.func162, Tryz.ntmps162
    go_wp2_with (go_at_call 75; refine C1.out.mono ?_; rintro e w' ⟨rfl, hb⟩)
    go_ret
    exact ⟨ret_bool HR.out.symm, by assumption⟩
def fieldsB (x : Core) : Bool :=
  if x.kind = 1 then elemNameB x.name.toList && (x.is.toList == [] || customL x.is.toList) && (x.data.toList == []) && rightA x.attrs
  else if x.kind = 0 ∨ x.kind = 3 ∨ x.kind = 4 then (x.data.toList == []) && (x.name.toList == []) && (x.is.toList == []) && decide (x.attrs.length = 0)
  else if x.kind = 2 then (x.name.toList == []) && (x.is.toList == []) && decide (x.data.size ≤ 200) && decide (x.attrs.length = 0)
  else false
structure NKeep (w W : World) (x : NodeD) : Prop where
  box : NBox w W w.heap.size x
  below : Below w.heap.size w W
theorem NKeep.start {w : World} {x : NodeD} (h : NodeOk w x) : NKeep w (w.alloc (nodB x)) x := by
  have c : ∀ (j : Nat), (w.alloc (nodB x)).cell? ⟨w.heap.size, j, none⟩ = (#[.int .i64 x.core.kind, .string x.core.name, .string x.core.is, .string x.core.data, .slice x.aA x.aN x.aC, .int .i64 x.core.parent, .slice x.kA x.kN x.kC, .int .i64 x.core.host, .int .i64 x.core.under, .int .i64 x.core.doc] : Array Value)[j]? := fun j =>
    cell_of_row (w.alloc (nodB x)) w.heap.size j _ 53 (0, 0) (heap_alloc_new _ _)
  exact ⟨⟨by simp, c 0, c 1, c 2, c 3, c 4, c 5, c 6, c 7, c 8, c 9, h.below (below_box w _)⟩, below_box w _⟩
theorem NKeep.keep {w W W2 : World} {x : NodeD} (h : NKeep w W x) (hb : Below W.heap.size W W2) : NKeep w W2 x := ⟨h.box.keep hb, h.below.trans (hb.mono h.below.size)⟩
set_option maxHeartbeats 8000000 in
set_option maxRecDepth 100000 in
theorem fieldsFit_any (x : NodeD) (w : World) (h : NodeOk w x) :
    Calls Tryz.prog 139 #[nodVal x] w fun e w' => e = .returned (.bool (fieldsB x.core)) ∧ Below w.heap.size w w' := by
  obtain ⟨⟨kind, name, is, data, attrs, parent, kids, host, under, doc⟩, aA, aN, aC, kA, kN, kC⟩ := x
  have HN1 : Hid (name.size ≤ maxLen) := Lib.hid h.name
  have HN2 : Hid (is.size ≤ maxLen) := Lib.hid h.is
  have hal : aN ≤ 9223372036854775807 := h.attrs.len64
  have hdl : data.size ≤ 9223372036854775807 := by have : data.size ≤ maxLen := h.data; unfold maxLen at this; omega
  have HAL : Hid (attrs.length = aN) := Lib.hid h.attrs.hlen
  have HH := Lib.hid h
  clear h
  by_cases k1 : kind = 1
  · subst k1
    have NK := Lib.hid (NKeep.start HH.out)
    clear HH
    have HR : Hid (fieldsB ⟨1, name, is, data, attrs, parent, kids, host, under, doc⟩ = (elemNameB name.toList && (is.toList == [] || customL is.toList) && (data.toList == []) && rightA attrs)) := Lib.hid rfl
    obtain ⟨-, x0, x1, x2, x3, x4, x5, x6, x7, x8, x9, -⟩ := NK.out.box
    go_enter Tryz.func139, Tryz.ntmps139
    go_wp2_with (first
                    | (go_at_call 162; (refine (elemName_any _ _ HN1.out).mono ?_); rintro e w1 ⟨rfl, hb⟩; have NK := Lib.hid (NK.out.keep hb); obtain ⟨-, x0, x1, x2, x3, x4, x5, x6, x7, x8, x9, -⟩ := NK.out.box; clear hb)
                    | (go_at_call 163; (refine (custom_any _ _ HN2.out).mono ?_); rintro e w1 ⟨rfl, hb⟩; have NK := Lib.hid (NK.out.keep hb); obtain ⟨-, x0, x1, x2, x3, x4, x5, x6, x7, x8, x9, -⟩ := NK.out.box; clear hb)
                    | (go_at_call 164; (refine (right_any' _ _ _ _ _ NK.out.box.ok.attrs).mono ?_); rintro e w1 ⟨rfl, hb⟩; have NK := Lib.hid (NK.out.keep hb); obtain ⟨-, x0, x1, x2, x3, x4, x5, x6, x7, x8, x9, -⟩ := NK.out.box; clear hb))
    all_goals (go_ret; exact ⟨ret_bool (by rw [HR.out]; first | (simp [*]; done) | (rw [Bool.eq_iff_iff]; simp [*])), by first | exact NK.out.below | assumption⟩)
  by_cases k2 : kind = 2
  · subst k2
    clear HH
    have HR : Hid (fieldsB ⟨2, name, is, data, attrs, parent, kids, host, under, doc⟩ = ((name.toList == []) && (is.toList == []) && decide (data.size ≤ 200) && decide (aN = 0))) := Lib.hid (by rw [← HAL.out]; rfl)
    clear k1
    go_enter Tryz.func139, Tryz.ntmps139
    go_wp2
    all_goals (go_ret; exact ⟨ret_bool (by rw [HR.out]; first | (simp [*]; done) | (rw [Bool.eq_iff_iff]; simp [*]; done) | (rw [Bool.eq_iff_iff]; simp [*]; omega)), below_box _ _⟩)
  by_cases k3 : kind = 0 ∨ kind = 3 ∨ kind = 4
  · have HR : Hid (fieldsB ⟨kind, name, is, data, attrs, parent, kids, host, under, doc⟩ = ((data.toList == []) && (name.toList == []) && (is.toList == []) && decide (aN = 0))) := Lib.hid (by
      unfold fieldsB
      rw [if_neg k1]
      dsimp only
      rw [if_pos k3, HAL.out])
    clear k1 k2 HH
    by_cases d0 : data.toList = []
    · have hd : (data.size : Int) ≤ 200 := by
        have : data.size = 0 := by rw [← tl_len, d0]; rfl
        omega
      have hd2 : (!data.toList.isEmpty) = false := by rw [d0]; rfl
      have hd3 : data.toList.isEmpty = true := by rw [d0]; rfl
      rcases k3 with k3 | k3 | k3
      all_goals
        subst k3
        go_enter Tryz.func139, Tryz.ntmps139
        go_wp2
        all_goals (go_ret; exact ⟨ret_bool (by rw [HR.out]; first | (simp [*]; done) | (rw [Bool.eq_iff_iff]; simp [*]; done) | (rw [Bool.eq_iff_iff]; simp [*]; omega)), below_box _ _⟩)
    · have hd3 : data.toList.isEmpty = false := by
        cases hh : data.toList with
        | nil => exact absurd hh d0
        | cons _ _ => rfl
      have hd2 : (!data.toList.isEmpty) = true := by rw [hd3]; rfl
      rcases k3 with k3 | k3 | k3
      all_goals
        subst k3
        go_enter Tryz.func139, Tryz.ntmps139
        go_wp2
        all_goals (go_ret; exact ⟨ret_bool (by rw [HR.out]; simp [*]), below_box _ _⟩)
  have HR : Hid (fieldsB ⟨kind, name, is, data, attrs, parent, kids, host, under, doc⟩ = false) := Lib.hid (by unfold fieldsB; dsimp only; rw [if_neg k1, if_neg k3, if_neg k2])
  have f0 : (kind == 0) = false := beq_eq_false_iff_ne.2 (fun e => k3 (.inl e))
  have f1 : (kind == 1) = false := beq_eq_false_iff_ne.2 k1
  have f2 : (kind == 2) = false := beq_eq_false_iff_ne.2 k2
  have f3 : (kind == 3) = false := beq_eq_false_iff_ne.2 (fun e => k3 (.inr (.inl e)))
  have f4 : (kind == 4) = false := beq_eq_false_iff_ne.2 (fun e => k3 (.inr (.inr e)))
  clear k1 k2 k3 HH
  go_enter Tryz.func139, Tryz.ntmps139
  go_wp2
  go_ret
  exact ⟨ret_bool HR.out.symm, below_box _ _⟩
end Go.Proofs.YtiffhlncnpppoaaGreatDoor
namespace Go.Proofs.YtiffhlncnpppoaaGreatDoor
open Go.RowKit
def fitsB (F : List Core) (i : Int) (x : Core) : Bool := fieldsB x && docB F i x && kidsB F i x && shadowB F i x
structure FKeep (w W : World) (a : Option Addr) (len cap : Nat) (L : List NodeD) (x : NodeD) : Prop where
  row : NodeRow W a len cap L
  ok : NodeOk W x
  below : Below w.heap.size w W
theorem FKeep.keep {w W W2 : World} {a : Option Addr} {len cap : Nat} {L : List NodeD} {x : NodeD} (h : FKeep w W a len cap L x) (hb : Below W.heap.size W W2) : FKeep w W2 a len cap L x := ⟨h.row.below hb, h.ok.below hb, h.below.trans (hb.mono h.below.size)⟩
set_option maxHeartbeats 8000000 in
set_option maxRecDepth 100000 in
theorem fits_any (a : Option Addr) (len cap : Nat) (L : List NodeD) (n : Nat) (x : NodeD) (w : World) (h : NodeRow w a len cap L) (hx : L[n]? = some x) :
    Calls Tryz.prog 86 #[.slice a len cap, .int .i64 n] w fun e w' => e = .returned (.bool (fitsB (coreL L) n x.core)) ∧ Below w.heap.size w w' := by
  have hl := h.len64
  have hnl : n < len := by rw [← h.hlen]; exact (List.getElem?_eq_some_iff.1 hx).1
  obtain ⟨b, off, x', rfl, hb, hx', hc, hok⟩ := h.get hnl
  obtain rfl : x = x' := Option.some.inj (hx.symm.trans hx')
  have RW : Hid (FKeep w w (some ⟨b, off, none⟩) len cap L x) := Lib.hid ⟨h, hok, Below.refl _ _⟩
  obtain ⟨c0, c1, c2, c3, c4, c5, c6, c7, c8, c9⟩ := hc
  have C1 : Hid (∀ W, NodeOk W x → Calls Tryz.prog 139 #[nodVal x] W fun e w' => e = .returned (.bool (fieldsB x.core)) ∧ Below W.heap.size W w') := Lib.hid (fun W h => fieldsFit_any x W h)
  have C2 : Hid (∀ W, NodeRow W (some ⟨b, off, none⟩) len cap L → Calls Tryz.prog 140 #[.slice (some ⟨b, off, none⟩) len cap, .int .i64 n] W fun e w' => e = .returned (.bool (docB (coreL L) n x.core)) ∧ W = w') := Lib.hid (fun W h => docFits_any _ len cap L n x W h hx)
  have C3 : Hid (∀ W, NodeRow W (some ⟨b, off, none⟩) len cap L → Calls Tryz.prog 141 #[.slice (some ⟨b, off, none⟩) len cap, .int .i64 n] W fun e w' => e = .returned (.bool (kidsB (coreL L) n x.core)) ∧ Below W.heap.size W w') := Lib.hid (fun W h => kidsFit_any _ len cap L n x W h hx)
  have C4 : Hid (∀ W, NodeRow W (some ⟨b, off, none⟩) len cap L → Calls Tryz.prog 142 #[.slice (some ⟨b, off, none⟩) len cap, .int .i64 n] W fun e w' => e = .returned (.bool (shadowB (coreL L) n x.core)) ∧ Below W.heap.size W w') := Lib.hid (fun W h => shadowFits_any _ len cap L n x W h hx)
  have HR : Hid (fitsB (coreL L) n x.core = (fieldsB x.core && docB (coreL L) n x.core && kidsB (coreL L) n x.core && shadowB (coreL L) n x.core)) := Lib.hid rfl
  clear h hok hx hx' hb
  generalize fitsB (coreL L) n x.core = R at HR ⊢
  generalize fieldsB x.core = b1 at HR C1
  generalize docB (coreL L) n x.core = b2 at HR C2
  generalize kidsB (coreL L) n x.core = b3 at HR C3
  generalize shadowB (coreL L) n x.core = b4 at HR C4
  cases b1
  · go_enter Tryz.func86, Tryz.ntmps86
    go_wp2_with (first
                    | (go_at_call 139; (refine (C1.out _ RW.out.ok).mono ?_); rintro e w1 ⟨rfl, hb⟩; have RW := Lib.hid (RW.out.keep hb); clear hb)
                    | (go_at_call 140; (refine (C2.out _ RW.out.row).mono ?_); rintro e w1 ⟨rfl, rfl⟩)
                    | (go_at_call 141; (refine (C3.out _ RW.out.row).mono ?_); rintro e w1 ⟨rfl, hb⟩; have RW := Lib.hid (RW.out.keep hb); clear hb)
                    | (go_at_call 142; (refine (C4.out _ RW.out.row).mono ?_); rintro e w1 ⟨rfl, hb⟩; have RW := Lib.hid (RW.out.keep hb); clear hb))
    go_ret
    exact ⟨ret_bool HR.out.symm, RW.out.below⟩
  cases b2
  · go_enter Tryz.func86, Tryz.ntmps86
    go_wp2_with (first
                    | (go_at_call 139; (refine (C1.out _ RW.out.ok).mono ?_); rintro e w1 ⟨rfl, hb⟩; have RW := Lib.hid (RW.out.keep hb); clear hb)
                    | (go_at_call 140; (refine (C2.out _ RW.out.row).mono ?_); rintro e w1 ⟨rfl, rfl⟩)
                    | (go_at_call 141; (refine (C3.out _ RW.out.row).mono ?_); rintro e w1 ⟨rfl, hb⟩; have RW := Lib.hid (RW.out.keep hb); clear hb)
                    | (go_at_call 142; (refine (C4.out _ RW.out.row).mono ?_); rintro e w1 ⟨rfl, hb⟩; have RW := Lib.hid (RW.out.keep hb); clear hb))
    go_ret
    exact ⟨ret_bool HR.out.symm, RW.out.below⟩
  cases b3
  · go_enter Tryz.func86, Tryz.ntmps86
    go_wp2_with (first
                    | (go_at_call 139; (refine (C1.out _ RW.out.ok).mono ?_); rintro e w1 ⟨rfl, hb⟩; have RW := Lib.hid (RW.out.keep hb); clear hb)
                    | (go_at_call 140; (refine (C2.out _ RW.out.row).mono ?_); rintro e w1 ⟨rfl, rfl⟩)
                    | (go_at_call 141; (refine (C3.out _ RW.out.row).mono ?_); rintro e w1 ⟨rfl, hb⟩; have RW := Lib.hid (RW.out.keep hb); clear hb)
                    | (go_at_call 142; (refine (C4.out _ RW.out.row).mono ?_); rintro e w1 ⟨rfl, hb⟩; have RW := Lib.hid (RW.out.keep hb); clear hb))
    go_ret
    exact ⟨ret_bool HR.out.symm, RW.out.below⟩
  cases b4
  · go_enter Tryz.func86, Tryz.ntmps86
    go_wp2_with (first
                    | (go_at_call 139; (refine (C1.out _ RW.out.ok).mono ?_); rintro e w1 ⟨rfl, hb⟩; have RW := Lib.hid (RW.out.keep hb); clear hb)
                    | (go_at_call 140; (refine (C2.out _ RW.out.row).mono ?_); rintro e w1 ⟨rfl, rfl⟩)
                    | (go_at_call 141; (refine (C3.out _ RW.out.row).mono ?_); rintro e w1 ⟨rfl, hb⟩; have RW := Lib.hid (RW.out.keep hb); clear hb)
                    | (go_at_call 142; (refine (C4.out _ RW.out.row).mono ?_); rintro e w1 ⟨rfl, hb⟩; have RW := Lib.hid (RW.out.keep hb); clear hb))
    go_ret
    exact ⟨ret_bool HR.out.symm, RW.out.below⟩
  · go_enter Tryz.func86, Tryz.ntmps86
    go_wp2_with (first
                    | (go_at_call 139; (refine (C1.out _ RW.out.ok).mono ?_); rintro e w1 ⟨rfl, hb⟩; have RW := Lib.hid (RW.out.keep hb); clear hb)
                    | (go_at_call 140; (refine (C2.out _ RW.out.row).mono ?_); rintro e w1 ⟨rfl, rfl⟩)
                    | (go_at_call 141; (refine (C3.out _ RW.out.row).mono ?_); rintro e w1 ⟨rfl, hb⟩; have RW := Lib.hid (RW.out.keep hb); clear hb)
                    | (go_at_call 142; (refine (C4.out _ RW.out.row).mono ?_); rintro e w1 ⟨rfl, hb⟩; have RW := Lib.hid (RW.out.keep hb); clear hb))
    go_ret
    exact ⟨ret_bool HR.out.symm, RW.out.below⟩
end Go.Proofs.YtiffhlncnpppoaaGreatDoor
namespace Go.Proofs.YtiffhlncnpppoaaGreatDoor
open Go.RowKit
structure ORow {α : Type} (enc : α → Value) (w : World) (g : Nat) (L : List α) : Prop where
  lt : g < w.heap.size
  cell : ∀ i x, L[i]? = some x → w.cell? ⟨g, i, none⟩ = some (enc x)
  free : ∀ i, w.frozen? ⟨g, i, none⟩ = false
section
variable {α : Type} {enc : α → Value} {w w' : World} {g : Nat} {L : List α}
theorem ORow.keep (h : ORow enc w g L) (hb : Below w.heap.size w w') : ORow enc w' g L :=
  ⟨Nat.lt_of_lt_of_le h.lt hb.size, fun i x hx => (hb.cell (p := ⟨g, i, none⟩) h.lt).trans (h.cell i x hx), fun i => (hb.frozen (p := ⟨g, i, none⟩) h.lt).trans (h.free i)⟩
theorem ORow.drewN (h : ORow enc w g L) (n : Nat) : ORow enc (w.drewN n) g L := ⟨h.lt, h.cell, h.free⟩
theorem ORow.set (h : ORow enc w g L) {k : Nat} (hk : k < L.length) (x : α) : ORow enc (w.setCell ⟨g, k, none⟩ (enc x)) g (L.set k x) := by
  refine ⟨by simpa [World.setCell] using h.lt, fun i y hy => ?_, fun i => by rw [World.frozen?_setCell]; exact h.free i⟩
  by_cases e : k = i
  · subst e
    rw [List.getElem?_set_self hk] at hy
    injection hy with hy
    subst hy
    exact World.cell?_setCell_same _ _ _ (h.cell k _ (List.getElem?_eq_getElem hk))
  · rw [List.getElem?_set_ne e] at hy
    rw [World.cell?_setCell_other _ _ _ _ (fun e' => by injection e' with _ e'; exact e e')]
    exact h.cell i y hy
theorem ORow.other (h : ORow enc w g L) {p : Addr} (hp : p.block ≠ g) (u : Value) : ORow enc (w.setCell p u) g L :=
  ⟨by simpa [World.setCell] using h.lt, fun i x hx => (World.cell?_setCell_other _ _ _ _ (fun e => hp (by rw [e]))).trans (h.cell i x hx), fun i => by rw [World.frozen?_setCell]; exact h.free i⟩
theorem ORow.made (w : World) (e : TypeId) (x : α) (n : Nat) : ORow enc (w.alloc (.cells (madeCells #[enc x] n) e)) w.heap.size (List.replicate n x) := by
  refine ⟨by simp, fun i y hy => ?_, fun i => (World.rowIs_made w (enc x) n e).frozen i⟩
  obtain ⟨hl, hg⟩ := List.getElem?_eq_some_iff.1 hy
  rw [List.getElem_replicate] at hg
  subst hg
  rw [List.length_replicate] at hl
  exact (World.rowIs_made w (enc x) n e).cell hl
end
end Go.Proofs.YtiffhlncnpppoaaGreatDoor
namespace Go.Proofs.YtiffhlncnpppoaaGreatDoor
open Go.RowKit
def allK (F : List Core) : List Int := F.flatMap (·.kids)
def namedAt (F : List Core) (i : Nat) (x : Core) : Bool := decide (hasZ (allK F) i = 1) == (x.parent != -1)
def namedB (F : List Core) : Bool := F.zipIdx.all (fun p => namedAt F p.2 p.1)
def kidsUp (F : List Core) (k : Nat) (l : List Int) (j : Nat) : List Int := allK (F.take k) ++ l.take j
theorem hasZ_app (A B : List Int) (n : Int) : hasZ (A ++ B) n = hasZ A n + hasZ B n := by unfold hasZ; exact List.countP_append
theorem kidsUp_step {F : List Core} {k j : Nat} {l : List Int} {z : Int} (h : l[j]? = some z) (n : Int) : hasZ (kidsUp F k l (j + 1)) n = hasZ (kidsUp F k l j) n + if z == n then 1 else 0 := by
  unfold kidsUp
  rw [hasZ_app, hasZ_app, hasZ_step h]
  omega
theorem kidsUp_next {F : List Core} {k : Nat} {x : Core} (h : F[k]? = some x) {j : Nat} (hj : x.kids.length ≤ j) (l : List Int) : kidsUp F k x.kids j = kidsUp F (k + 1) l 0 := by
  obtain ⟨hl, hg⟩ := List.getElem?_eq_some_iff.1 h
  unfold kidsUp allK
  rw [List.take_of_length_le hj, List.take_succ_eq_append_getElem hl, hg]
  simp
theorem allK_len {F : List Core} {b : Nat} (h : ∀ x ∈ F, x.kids.length ≤ b) : (allK F).length ≤ F.length * b := by
  unfold allK
  induction F with
  | nil => simp
  | cons x r ih =>
    have h1 := h x (by simp)
    have h2 := ih (fun y hy => h y (by simp [hy]))
    rw [List.flatMap_cons, List.length_append, List.length_cons, Nat.add_mul]
    omega
theorem hasZ_len (L : List Int) (n : Int) : hasZ L n ≤ L.length := List.countP_le_length
abbrev encI (z : Int) : Value := .int .i64 z
structure Counts (w W : World) (g len : Nat) (K : List Int) (T : List Int) : Prop where
  below : Below w.heap.size w W
  row : ORow encI W g T
  hl : T.length = len
  at_ : ∀ i : Nat, i < len → T[i]? = some (hasZ K i : Int)
theorem Counts.keep {w W W2 : World} {g len : Nat} {K T : List Int} (h : Counts w W g len K T) (hb : Below W.heap.size W W2) : Counts w W2 g len K T := ⟨h.below.trans (hb.mono h.below.size), h.row.keep hb, h.hl, h.at_⟩
theorem Counts.more {w W : World} {g len : Nat} {K K2 T : List Int} (h : Counts w W g len K T) (hg : w.heap.size ≤ g) {m : Nat} (hm : m < len) {c : Nat} (hc : hasZ K m = c) (hK : ∀ n : Int, hasZ K2 n = hasZ K n + if (m : Int) == n then 1 else 0) :
    Counts w (W.setCell ⟨g, m, none⟩ (.int .i64 ((c : Int) + 1))) g len K2 (T.set m ((c : Int) + 1)) := by
  refine ⟨h.below.setCell (p := ⟨g, m, none⟩) hg _, h.row.set (by rw [h.hl]; exact hm) _, by rw [List.length_set]; exact h.hl, fun i hi => ?_⟩
  by_cases e : m = i
  · subst e
    rw [List.getElem?_set_self (by rw [h.hl]; exact hm), hK, hc]
    simp
  · rw [List.getElem?_set_ne e, h.at_ i hi, hK]
    have : ((m : Int) == (i : Int)) = false := beq_eq_false_iff_ne.2 (by omega)
    rw [this]
    simp
theorem int_info : (Tryz.prog.info? 3).map (fun i => (i.zero, i.size, i.bytes)) = some (some (.int .i64 0), 1, 8) := by kernel_rfl
theorem kidsUp_all (F : List Core) : kidsUp F F.length [] 0 = allK F := by
  unfold kidsUp
  rw [List.take_length, List.take_nil, List.append_nil]
theorem kidsUp_len {F : List Core} (h1 : F.length ≤ 1000) (h2 : ∀ x ∈ F, x.kids.length ≤ 1000) {l : List Int} (hl : l.length ≤ 1000) (k j : Nat) : (kidsUp F k l j).length ≤ 1001000 := by
  unfold kidsUp
  rw [List.length_append]
  have a := allK_len (F := F.take k) (b := 1000) (fun x hx => h2 x (List.mem_of_mem_take hx))
  have b : (F.take k).length ≤ 1000 := Nat.le_trans (List.length_take_le' _ _) h1
  have c : (l.take j).length ≤ 1000 := Nat.le_trans (List.length_take_le' _ _) hl
  have d : (F.take k).length * 1000 ≤ 1000 * 1000 := Nat.mul_le_mul_right _ b
  omega
theorem smallF_core {L : List NodeD} (h : smallF L) : (coreL L).length ≤ 1000 ∧ ∀ c ∈ coreL L, c.kids.length ≤ 1000 := by
  refine ⟨by rw [coreL_len]; exact h.1, fun c hc => ?_⟩
  obtain ⟨x, hx, rfl⟩ := List.mem_map.1 hc
  exact (h.2 x hx).1
set_option maxHeartbeats 8000000 in
set_option maxRecDepth 100000 in
theorem namedOnce_any (a : Option Addr) (len cap : Nat) (L : List NodeD) (w : World) (h : NodeRow w a len cap L) (hk : ∀ x ∈ L, ∀ z ∈ x.core.kids, 0 ≤ z ∧ z < (len : Int)) (hs : smallF L) :
    Calls Tryz.prog 87 #[.slice a len cap] w fun e w' => e = .returned (.bool (namedB (coreL L))) ∧ Below w.heap.size w w' := by
  have HL := Lib.hid h.hlen
  have hlen : len ≤ 1000 := by rw [← h.hlen]; exact hs.1
  have HS := Lib.hid hs
  have HK := Lib.hid hk
  have HH := Lib.hid h
  clear hs hk h
  have hmk := run_make_row' (P := Tryz.prog) 51 3 (.int .i64 0) 8 Tryz.underlying51 int_info rfl .i64 .i64 len (by omega) (by omega)
  have C0 : Hid (Counts w (w.alloc (.cells (madeCells #[.int .i64 0] len) 3)) w.heap.size len (kidsUp (coreL L) 0 [] 0) (List.replicate len 0)) := Lib.hid (by
    refine ⟨below_box _ _, ORow.made w 3 (0 : Int) len, by rw [List.length_replicate], fun i hi => ?_⟩
    rw [List.getElem?_replicate, if_pos hi]
    rfl)
  go_enter Tryz.func87, Tryz.ntmps87
  go_wp2
  clear hmk
  go_loopw [15] (fun i wr => ∃ (k : Nat) (T : List Int), k ≤ len ∧ i = .int .i64 k ∧ Hid (Counts w wr w.heap.size len (kidsUp (coreL L) k [] 0) T)) (fun i _ => len - (intOf i).toNat)
  case atStart => exact ⟨0, _, Nat.zero_le _, rfl, C0⟩
  case round =>
    clear C0
    obtain ⟨k, T, hk, rfl, CT⟩ := hrel
    by_cases hlt : k < len
    · have RW := Lib.hid (HH.out.below CT.out.below)
      obtain ⟨b, off, x, rfl, hb, hx, hc, hok⟩ := RW.out.get hlt
      obtain ⟨c0, c1, c2, c3, c4, c5, c6, c7, c8, c9⟩ := hc
      have hn3 : x.core.data.size ≤ 9223372036854775807 := by have := hok.data; unfold maxLen at this; omega
      obtain ⟨kA, hkA⟩ : ∃ q, x.kA = q := ⟨_, rfl⟩
      have hks := (HH.out.ok x (List.mem_of_getElem? hx)).kids
      rw [hkA] at c6 hks
      have KR := Lib.hid hks
      have hkl := hks.len64
      have HXC : Hid ((coreL L)[k]? = some x.core) := Lib.hid (coreL_get hx)
      have HXM : Hid (∀ z ∈ x.core.kids, 0 ≤ z ∧ z < (len : Int)) := Lib.hid (HK.out x (List.mem_of_getElem? hx))
      have HXL : Hid (x.core.kids.length ≤ 1000) := Lib.hid (HS.out.2 x (List.mem_of_getElem? hx)).1
      have CT1 : Hid (Counts w (wr.alloc (nodB x)) w.heap.size len (kidsUp (coreL L) k x.core.kids 0) T) := Lib.hid (by
        have : kidsUp (coreL L) k x.core.kids 0 = kidsUp (coreL L) k [] 0 := by unfold kidsUp; simp
        rw [this]
        exact CT.out.keep (below_box _ _))
      unfold nodB at CT1
      rw [hkA] at CT1
      clear hks hok hx CT hb
      go_wp2
      clear c0 c1 c2 c3 c4 c5 c6 c7 c8 c9 hn3
      go_loopw [22] (fun i wr => ∃ (j : Nat) (T : List Int), j ≤ x.kN ∧ i = .int .i64 j ∧ Hid (Counts w wr w.heap.size len (kidsUp (coreL L) k x.core.kids j) T)) (fun i _ => x.kN - (intOf i).toNat)
      case atStart => exact ⟨0, T, Nat.zero_le _, rfl, CT1⟩
      case round =>
        clear CT1 T
        obtain ⟨j, T, hj, rfl, CT⟩ := hrel
        by_cases hjt : j < x.kN
        · obtain ⟨b2, off2, z, rfl, hb2, hz, hcz, hin⟩ := (KR.out.below CT.out.below).get hjt
          obtain ⟨hz0, hz1⟩ := HXM.out z (List.mem_of_getElem? hz)
          obtain ⟨m, rfl⟩ : ∃ m : Nat, z = m := ⟨z.toNat, by omega⟩
          have hm : m < len := by omega
          have HST := Lib.hid (kidsUp_step (F := coreL L) (k := k) hz)
          obtain ⟨c, hc⟩ : ∃ c, hasZ (kidsUp (coreL L) k x.core.kids j) m = c := ⟨_, rfl⟩
          have hcl : c ≤ 1001000 := by
            rw [← hc]
            exact Nat.le_trans (hasZ_len _ _) (kidsUp_len (smallF_core HS.out).1 (smallF_core HS.out).2 HXL.out k j)
          have hTc := CT.out.row.cell m _ (by rw [CT.out.at_ m hm, hc])
          have hTf := CT.out.row.free m
          unfold encI at hTc
          have CT2 := Lib.hid (CT.out.more (Nat.le_refl _) hm hc HST.out)
          clear hc hz hin hz0 hz1
          go_wp2
          go_roundw
          case rel => exact ⟨j + 1, _, by omega, by go_num, CT2⟩
          case measure => simp [intOf]; omega
        · have CT2 : Hid (Counts w wr w.heap.size len (kidsUp (coreL L) (k + 1) [] 0) T) := Lib.hid (by
            rw [← kidsUp_next HXC.out (j := j) (by have := KR.out.hlen; omega) []]
            exact CT.out)
          go_wp2
          go_roundw
          case rel => exact ⟨k + 1, _, by omega, by go_num, CT2⟩
          case measure => simp [intOf]; omega
    · have hkk : k = len := by omega
      subst hkk
      have CT2 : Hid (Counts w wr w.heap.size k (allK (coreL L)) T) := Lib.hid (by
        have h1 := CT.out
        have h2 : k = (coreL L).length := by rw [coreL_len, HL.out]
        rw [h2, kidsUp_all, ← h2] at h1
        exact h1)
      clear CT
      go_wp2
      go_loop [36] (fun i => ∃ j : Nat, j ≤ k ∧ i = .int .i64 j ∧ Hid (∀ (n : Nat) x, n < j → (coreL L)[n]? = some x → namedAt (coreL L) n x = true)) (fun i => k - (intOf i).toNat)
      case atStart => exact ⟨0, Nat.zero_le _, rfl, Lib.hid (fun n x hn _ => absurd hn (by omega))⟩
      case round =>
        obtain ⟨j, hj, rfl, HA⟩ := hrel
        by_cases hjt : j < k
        · obtain ⟨b, off, x, rfl, hb, hx, hc, hok⟩ := (HH.out.below CT2.out.below).get hjt
          have c5 := hc.c5
          obtain ⟨c, hcn⟩ : ∃ c, hasZ (allK (coreL L)) j = c := ⟨_, rfl⟩
          have hTc := CT2.out.row.cell j _ (by rw [CT2.out.at_ j hjt, hcn])
          unfold encI at hTc
          have HXC : Hid ((coreL L)[j]? = some x.core) := Lib.hid (coreL_get hx)
          have HN : Hid (namedAt (coreL L) j x.core = (decide ((c : Int) = 1) == (x.core.parent != -1))) := Lib.hid (by
            unfold namedAt
            rw [hcn]
            congr 1
            exact decide_eq_decide.2 (by omega))
          have STOP : Hid (∀ x, (coreL L)[j]? = some x → namedAt (coreL L) j x = false → namedB (coreL L) = false) := Lib.hid (fun x hx hq => by
            unfold namedB
            rw [List.all_eq_false]
            exact ⟨(x, j), List.mk_mem_zipIdx_iff_getElem?.2 hx, by simp [hq]⟩)
          have MORE : Hid (∀ x, (coreL L)[j]? = some x → namedAt (coreL L) j x = true → (∀ (n : Nat) x, n < j → (coreL L)[n]? = some x → namedAt (coreL L) n x = true) → ∀ (n : Nat) x, n < j + 1 → (coreL L)[n]? = some x → namedAt (coreL L) n x = true) := Lib.hid (fun x hx hq ha n y hn hy => by
            by_cases e : n = j
            · subst e
              rw [hx] at hy
              rw [← Option.some.inj hy]
              exact hq
            · exact ha n y (by omega) hy)
          clear hc hok hx hcn hb
          by_cases p1 : (c : Int) = 1 <;> by_cases p2 : x.core.parent = -1
          · have HQ : Hid (namedB (coreL L) = false) := Lib.hid (STOP.out _ HXC.out (by rw [HN.out, decide_eq_true p1, p2]; rfl))
            rw [p1] at hTc
            rw [p2] at c5
            clear p1 p2 HA
            go_wp2
            go_ret
            exact ⟨ret_bool HQ.out.symm, CT2.out.below⟩
          · have r2 : (x.core.parent != -1) = true := bne_iff_ne.2 p2
            have HQ : Hid (namedAt (coreL L) j x.core = true) := Lib.hid (by rw [HN.out, decide_eq_true p1, r2]; rfl)
            rw [p1] at hTc
            clear p1 p2
            go_wp2
            go_round
            case rel => exact ⟨j + 1, by omega, by go_num, Lib.hid (MORE.out _ HXC.out HQ.out HA.out)⟩
            case measure => simp [intOf]; omega
          · have r1 : ((c : Int) == 1) = false := beq_eq_false_iff_ne.2 p1
            have HQ : Hid (namedAt (coreL L) j x.core = true) := Lib.hid (by rw [HN.out, decide_eq_false p1, p2]; rfl)
            rw [p2] at c5
            clear p1 p2
            go_wp2
            go_round
            case rel => exact ⟨j + 1, by omega, by go_num, Lib.hid (MORE.out _ HXC.out HQ.out HA.out)⟩
            case measure => simp [intOf]; omega
          · have r1 : ((c : Int) == 1) = false := beq_eq_false_iff_ne.2 p1
            have r2 : (x.core.parent != -1) = true := bne_iff_ne.2 p2
            have HQ : Hid (namedB (coreL L) = false) := Lib.hid (STOP.out _ HXC.out (by rw [HN.out, decide_eq_false p1, r2]; rfl))
            clear p1 p2 HA
            go_wp2
            go_ret
            exact ⟨ret_bool HQ.out.symm, CT2.out.below⟩
        · have HR : Hid (namedB (coreL L) = true) := Lib.hid (by
            unfold namedB
            rw [List.all_eq_true]
            intro p hp
            have h1 := List.mk_mem_zipIdx_iff_getElem?.1 hp
            exact HA.out p.2 p.1 (by have := (List.getElem?_eq_some_iff.1 h1).1; rw [coreL_len, HL.out] at this; omega) h1)
          go_wp2
          go_ret
          exact ⟨ret_bool HR.out.symm, CT2.out.below⟩
end Go.Proofs.YtiffhlncnpppoaaGreatDoor
namespace Go.Proofs.YtiffhlncnpppoaaGreatDoor
open Go.RowKit
theorem endsZ_none (nxt : Int → Int) (s : Nat) : endsZ nxt s (-1) = true := by
  cases s with
  | zero => rfl
  | succ s => unfold endsZ; rfl
theorem endsZ_more {nxt : Int → Int} : ∀ (s : Nat) (i : Int), endsZ nxt s i = true → endsZ nxt (s + 1) i = true
  | 0, i, h => by
    have e : i = -1 := by unfold endsZ at h; exact beq_iff_eq.1 h
    rw [e]
    exact endsZ_none _ _
  | s + 1, i, h => by
    by_cases e : i = -1
    · rw [e]
      exact endsZ_none _ _
    · rw [endsZ_step e] at h ⊢
      exact endsZ_more s _ h
theorem make_not {m : Int} {F : List Core} {x : Core} (he : ¬ makeE m F x = 0) : makeL m F x = F ∧ makeN m F x = -1 := by
  unfold makeL makeN
  rw [if_neg he, if_neg he]
  exact ⟨rfl, rfl⟩
end Go.Proofs.YtiffhlncnpppoaaGreatDoor
namespace Go.Proofs.YtiffhlncnpppoaaGreatDoor
theorem nodup_lt : ∀ (n : Nat) (l : List Nat), l.Nodup → (∀ x ∈ l, x < n) → l.length ≤ n
  | 0, l, _, h => by
    cases l with
    | nil => exact Nat.le_refl _
    | cons a r => exact absurd (h a (by simp)) (by omega)
  | n + 1, l, hn, h => by
    have h1 := nodup_lt n (l.filter (fun x => decide (x ≠ n))) (hn.filter _) (fun x hx => by
      have := List.mem_filter.1 hx
      have h2 := h x this.1
      have h3 := of_decide_eq_true this.2
      omega)
    have h2 : l.countP (fun x => decide (x ≠ n)) + l.countP (fun x => ! decide (x ≠ n)) = l.length := by
      have := List.length_eq_countP_add_countP (fun x => decide (x ≠ n)) (l := l)
      rw [this]
      congr 1
      refine List.countP_congr fun x _ => ?_
      simp
    have h3 : l.countP (fun x => ! decide (x ≠ n)) ≤ 1 := by
      have h4 : l.countP (fun x => ! decide (x ≠ n)) = l.count n := by
        unfold List.count
        refine List.countP_congr fun x _ => ?_
        simp
      rw [h4]
      exact List.nodup_iff_count.1 hn n
    rw [← List.countP_eq_length_filter] at h1
    omega
section
variable {nxt : Int → Int}
def exZ (nxt : Int → Int) (r : Nat) (i : Int) : Prop := endsZ nxt r i = true ∧ ∀ s, s < r → endsZ nxt s i = false
theorem exZ_of : ∀ (m : Nat) (i : Int), endsZ nxt m i = true → ∃ r, r ≤ m ∧ exZ nxt r i
  | m, i, h => by
    by_cases hs : ∃ s, s < m ∧ endsZ nxt s i = true
    · obtain ⟨s, hs, he⟩ := hs
      obtain ⟨r, hr, hx⟩ := exZ_of s i he
      exact ⟨r, by omega, hx⟩
    · exact ⟨m, Nat.le_refl _, h, fun s hl => by
        cases hq : endsZ nxt s i with
        | false => rfl
        | true => exact absurd ⟨s, hl, hq⟩ hs⟩
termination_by m => m
theorem exZ_one {r s : Nat} {i : Int} (h1 : exZ nxt r i) (h2 : exZ nxt s i) : r = s := by
  rcases Nat.lt_trichotomy r s with h | h | h
  · have := h2.2 r h
    rw [h1.1] at this
    cases this
  · exact h
  · have := h1.2 s h
    rw [h2.1] at this
    cases this
def chainZ (nxt : Int → Int) : Nat → Int → List Int
  | 0, _ => []
  | s + 1, i => i :: chainZ nxt s (nxt i)
theorem exZ_next {r : Nat} {i : Int} (h : exZ nxt (r + 1) i) : i ≠ -1 ∧ exZ nxt r (nxt i) := by
  have h0 := h.2 0 (by omega)
  have hi : i ≠ -1 := fun e => by
    rw [e] at h0
    cases h0
  refine ⟨hi, by rw [← endsZ_step hi]; exact h.1, fun s hs => ?_⟩
  rw [← endsZ_step hi]
  exact h.2 (s + 1) (by omega)
theorem chain_facts {n : Nat} (hr : ∀ i : Int, 0 ≤ i → i < n → nxt i = -1 ∨ (0 ≤ nxt i ∧ nxt i < n)) :
    ∀ (r : Nat) (i : Int), exZ nxt r i → (i = -1 ∨ (0 ≤ i ∧ i < (n : Int))) → (chainZ nxt r i).length = r ∧ (chainZ nxt r i).Nodup ∧ ∀ y ∈ chainZ nxt r i, (0 ≤ y ∧ y < (n : Int)) ∧ ∃ s, 0 < s ∧ s ≤ r ∧ exZ nxt s y
  | 0, i, _, _ => ⟨rfl, List.nodup_nil, fun y hy => by cases hy⟩
  | r + 1, i, h, hi => by
    obtain ⟨hne, hx⟩ := exZ_next h
    have hi2 : 0 ≤ i ∧ i < (n : Int) := by
      rcases hi with h | h
      · exact absurd h hne
      · exact h
    obtain ⟨h1, h2, h3⟩ := chain_facts hr r (nxt i) hx (hr i hi2.1 hi2.2)
    refine ⟨by unfold chainZ; rw [List.length_cons, h1], ?_, fun y hy => ?_⟩
    · unfold chainZ
      rw [List.nodup_cons]
      refine ⟨fun hm => ?_, h2⟩
      obtain ⟨_, s, _, hs2, hs3⟩ := h3 i hm
      have := exZ_one h hs3
      omega
    · unfold chainZ at hy
      rcases List.mem_cons.1 hy with rfl | hy
      · exact ⟨hi2, r + 1, by omega, Nat.le_refl _, h⟩
      · obtain ⟨h4, s, h5, h6, h7⟩ := h3 y hy
        exact ⟨h4, s, h5, by omega, h7⟩
theorem endsZ_le {r n : Nat} (h : r ≤ n) {i : Int} (he : endsZ nxt r i = true) : endsZ nxt n i = true := by
  obtain ⟨d, rfl⟩ : ∃ d, n = r + d := ⟨n - r, by omega⟩
  clear h
  induction d with
  | zero => exact he
  | succ d ih => exact endsZ_more _ _ ih
theorem ends_small {n : Nat} (hr : ∀ i : Int, 0 ≤ i → i < n → nxt i = -1 ∨ (0 ≤ nxt i ∧ nxt i < n)) {m : Nat} {i : Int} (hi : i = -1 ∨ (0 ≤ i ∧ i < (n : Int))) (h : endsZ nxt m i = true) : endsZ nxt n i = true := by
  obtain ⟨r, _, hx⟩ := exZ_of m i h
  obtain ⟨h1, h2, h3⟩ := chain_facts hr r i hx hi
  have h4 : ((chainZ nxt r i).map Int.toNat).Nodup := by
    have key : ∀ l : List Int, l.Nodup → (∀ z ∈ l, 0 ≤ z) → (l.map Int.toNat).Nodup := by
      intro l
      induction l with
      | nil => intro _ _; simp
      | cons a r ih =>
        intro hl hp
        rw [List.nodup_cons] at hl
        rw [List.map_cons, List.nodup_cons]
        refine ⟨fun hm => ?_, ih hl.2 (fun z hz => hp z (by simp [hz]))⟩
        obtain ⟨z, hz, e⟩ := List.mem_map.1 hm
        have h1 := hp a (by simp)
        have h2 := hp z (by simp [hz])
        have : z = a := by omega
        exact hl.1 (this ▸ hz)
    exact key _ h2 (fun z hz => (h3 z hz).1.1)
  have h5 := nodup_lt n _ h4 (fun y hy => by
    obtain ⟨z, hz, rfl⟩ := List.mem_map.1 hy
    have := (h3 z hz).1
    omega)
  rw [List.length_map, h1] at h5
  exact endsZ_le h5 hx.1
end
end Go.Proofs.YtiffhlncnpppoaaGreatDoor
namespace Go.Proofs.YtiffhlncnpppoaaGreatDoor
open Go.RowKit
def upC (x : Core) : Int := if x.parent = -1 then x.host else x.parent
set_option maxHeartbeats 2000000 in
theorem up_any (x : NodeD) (w : World) : Calls Tryz.prog 113 #[nodVal x] w fun e w' => e = .returned (.int .i64 (upC x.core)) ∧ Below w.heap.size w w' := by
  obtain ⟨⟨kind, name, is, data, attrs, parent, kids, host, under, doc⟩, aA, aN, aC, kA, kN, kC⟩ := x
  by_cases hp : parent = -1
  · subst hp
    go_enter Tryz.func113, Tryz.ntmps113
    go_wp2
    go_ret
    exact ⟨rfl, below_box _ _⟩
  · have HR : Hid (upC ⟨kind, name, is, data, attrs, parent, kids, host, under, doc⟩ = parent) := Lib.hid (by unfold upC; dsimp only; rw [if_neg hp])
    go_enter Tryz.func113, Tryz.ntmps113
    go_wp2
    go_ret
    exact ⟨ret_int HR.out.symm, below_box _ _⟩
theorem nextUp_at {F : List Core} {k : Nat} {x : Core} (h : F[k]? = some x) : nextUp F (k : Int) = upC x := by
  unfold nextUp
  rw [getC_nat, h]
  rfl
abbrev encT (b : Bool) : Value := .bool b
structure Known (w W : World) (g len : Nat) (F : List Core) (E : List Bool) : Prop where
  below : Below w.heap.size w W
  row : ORow encT W g E
  hl : E.length = len
  sound : ∀ i : Nat, E[i]? = some true → endsZ (nextUp F) (len + 1) (i : Int) = true
theorem Known.keep {w W W2 : World} {g len : Nat} {F : List Core} {E : List Bool} (h : Known w W g len F E) (hb : Below W.heap.size W W2) : Known w W2 g len F E := ⟨h.below.trans (hb.mono h.below.size), h.row.keep hb, h.hl, h.sound⟩
theorem Known.more {w W : World} {g len : Nat} {F : List Core} {E : List Bool} (h : Known w W g len F E) (hg : w.heap.size ≤ g) {m : Nat} (hm : m < len) (he : endsZ (nextUp F) (len + 1) (m : Int) = true) : Known w (W.setCell ⟨g, m, none⟩ (.bool true)) g len F (E.set m true) := by
  refine ⟨h.below.setCell (p := ⟨g, m, none⟩) hg _, h.row.set (by rw [h.hl]; exact hm) _, by rw [List.length_set]; exact h.hl, fun i hi => ?_⟩
  by_cases e : m = i
  · subst e
    exact he
  · rw [List.getElem?_set_ne e] at hi
    exact h.sound i hi
def waysB (F : List Core) : Bool := (List.range F.length).all (fun i => endsZ (nextUp F) (F.length + 1) (i : Int))
def upIn (F : List Core) (len : Nat) : Prop := ∀ i : Int, 0 ≤ i → i < len → nextUp F i = -1 ∨ (0 ≤ nextUp F i ∧ nextUp F i < len)
theorem bool_info : (Tryz.prog.info? 4).map (fun i => (i.zero, i.size, i.bytes)) = some (some (.bool false), 1, 1) := by kernel_rfl
set_option maxHeartbeats 8000000 in
set_option maxRecDepth 100000 in
theorem waysEnd_any (a : Option Addr) (len cap : Nat) (L : List NodeD) (w : World) (h : NodeRow w a len cap L) (hk : upIn (coreL L) len) (hs : smallF L) :
    Calls Tryz.prog 88 #[.slice a len cap] w fun e w' => e = .returned (.bool (waysB (coreL L))) ∧ Below w.heap.size w w' := by
  have HL := Lib.hid h.hlen
  have HCL : Hid ((coreL L).length = len) := Lib.hid (by rw [coreL_len, HL.out])
  have hlen : len ≤ 1000 := by rw [← h.hlen]; exact hs.1
  have HK := Lib.hid hk
  have HH := Lib.hid h
  clear hs hk h
  have hmk := run_make_row' (P := Tryz.prog) 164 4 (.bool false) 1 Tryz.underlying164 bool_info rfl .i64 .i64 len (by omega) (by omega)
  have C0 : Hid (Known w (w.alloc (.cells (madeCells #[.bool false] len) 4)) w.heap.size len (coreL L) (List.replicate len false)) := Lib.hid (by
    refine ⟨below_box _ _, ORow.made (enc := encT) w 4 false len, by rw [List.length_replicate], fun i hi => ?_⟩
    have := List.mem_of_getElem? hi
    have := List.eq_of_mem_replicate this
    cases this)
  go_enter Tryz.func88, Tryz.ntmps88
  go_wp2
  clear hmk
  go_loopw [13] (fun i wr => ∃ (k : Nat) (E : List Bool), k ≤ len ∧ i = .int .i64 k ∧ Hid (Known w wr w.heap.size len (coreL L) E) ∧ Hid (∀ j : Nat, j < k → E[j]? = some true)) (fun i _ => len - (intOf i).toNat)
  case atStart => exact ⟨0, _, Nat.zero_le _, rfl, C0, Lib.hid (fun j hj => absurd hj (by omega))⟩
  case round =>
    clear C0
    obtain ⟨k, E, hk, rfl, KN, DN⟩ := hrel
    by_cases hlt : k < len
    · go_wp2
      go_loopw [5, 6] (fun s i wr => ∃ (t : Nat) (at_ : Int), t ≤ len ∧ s = .int .i64 t ∧ i = .int .i64 at_ ∧ (at_ = -1 ∨ (0 ≤ at_ ∧ at_ < len)) ∧ Hid (Known w wr w.heap.size len (coreL L) E) ∧ Hid (∀ m, endsZ (nextUp (coreL L)) (m + t) (k : Int) = endsZ (nextUp (coreL L)) m at_)) (fun s _ _ => len - (intOf s).toNat)
      case atStart => exact ⟨0, k, Nat.zero_le _, rfl, rfl, .inr ⟨by omega, by omega⟩, KN, Lib.hid (fun m => rfl)⟩
      case round =>
        clear KN
        obtain ⟨t, at_, ht, rfl, rfl, hat, KN, CH⟩ := hrel
        by_cases hC : ∃ m : Nat, at_ = m ∧ m < len ∧ E[m]? = some false
        · obtain ⟨m, rfl, hm, hE⟩ := hC
          obtain ⟨b, off, x, rfl, hb, hx, hc, hok⟩ := (HH.out.below KN.out.below).get hm
          obtain ⟨c0, c1, c2, c3, c4, c5, c6, c7, c8, c9⟩ := hc
          have hTc := KN.out.row.cell m _ hE
          unfold encT at hTc
          have UP : Hid (∀ W, Calls Tryz.prog 113 #[nodVal x] W fun e w' => e = .returned (.int .i64 (nextUp (coreL L) m)) ∧ Below W.heap.size W w') := Lib.hid (fun W => by
            rw [nextUp_at (coreL_get hx)]
            exact up_any x W)
          have CH2 : Hid (∀ q, endsZ (nextUp (coreL L)) (q + (t + 1)) (k : Int) = endsZ (nextUp (coreL L)) q (nextUp (coreL L) m)) := Lib.hid (fun q => by
            have h1 := CH.out (q + 1)
            rw [endsZ_step (by omega)] at h1
            rw [← h1]
            congr 1
            omega)
          have UIN := Lib.hid (HK.out m (by omega) (by omega))
          clear hx hok hE hb
          by_cases htl : t < len
          · go_wp2_with (go_at_call 113; (refine (UP.out _).mono ?_); rintro e w1 ⟨rfl, hb⟩; have KN := Lib.hid (KN.out.keep hb); clear hb)
            go_roundw
            case rel => exact ⟨t + 1, _, by omega, by go_num, rfl, UIN.out, KN, CH2⟩
            case measure => simp [intOf]; omega
          · have htt : t = len := by omega
            subst htt
            have HR : Hid (waysB (coreL L) = false) := Lib.hid (by
              unfold waysB
              rw [List.all_eq_false]
              refine ⟨k, List.mem_range.2 (by rw [HCL.out]; exact hlt), ?_⟩
              rw [HCL.out]
              intro he
              have h1 := ends_small (n := t) HK.out (.inr ⟨by omega, by omega⟩) he
              have h2 := CH.out 0
              rw [Nat.zero_add, h1] at h2
              have h3 : (m : Int) = -1 := beq_iff_eq.1 h2.symm
              omega)
            go_wp2
            go_ret
            exact ⟨ret_bool HR.out.symm, KN.out.below⟩
        have AB : at_ = -1 ∨ ∃ m : Nat, at_ = m ∧ m < len ∧ E[m]? = some true := by
          rcases hat with h | h
          · exact .inl h
          · refine .inr ⟨at_.toNat, by omega, by omega, ?_⟩
            have hl : at_.toNat < E.length := by rw [KN.out.hl]; omega
            cases hq : E[at_.toNat]'hl with
            | true => rw [List.getElem?_eq_getElem hl, hq]
            | false => exact absurd ⟨at_.toNat, by omega, by omega, by rw [List.getElem?_eq_getElem hl, hq]⟩ hC
        have EN : Hid (endsZ (nextUp (coreL L)) (len + 1) (k : Int) = true) := Lib.hid (by
          rcases AB with e | ⟨m, e, hm, he⟩
          · have h1 := CH.out 0
            rw [e, Nat.zero_add] at h1
            exact endsZ_le (by omega) (h1.trans rfl)
          · have h1 := CH.out (len + 1)
            rw [e, KN.out.sound m he] at h1
            exact endsZ_more _ _ (ends_small (n := len) HK.out (.inr ⟨by omega, by omega⟩) h1))
        clear hC CH hat
        rcases AB with rfl | ⟨m, rfl, hm, hE⟩
        rotate_left
        · have hTc := KN.out.row.cell m _ hE
          unfold encT at hTc
          clear hE
          go_wp2
          clear hTc hm
          (
            go_loopw [7] (fun i wr => ∃ (at_ : Int) (E : List Bool), i = .int .i64 at_ ∧ (at_ = -1 ∨ (0 ≤ at_ ∧ at_ < len)) ∧ Hid (Known w wr w.heap.size len (coreL L) E) ∧ Hid (∀ j : Nat, j < k → E[j]? = some true) ∧ Hid (at_ = (k : Int) ∨ E[k]? = some true) ∧ Hid (endsZ (nextUp (coreL L)) (len + 1) at_ = true)) (fun i _ => rankZ (nextUp (coreL L)) len (intOf i))
            case atStart => exact ⟨k, E, rfl, .inr ⟨by omega, by omega⟩, KN, DN, Lib.hid (.inl rfl), EN⟩
            case round =>
              clear KN DN EN
              obtain ⟨at_, E, rfl, hat, KN, DN, KK, EN⟩ := hrel
              by_cases hC : ∃ m : Nat, at_ = m ∧ m < len ∧ E[m]? = some false
              · obtain ⟨m, rfl, hm, hE⟩ := hC
                have hTc := KN.out.row.cell m _ hE
                have hTf := KN.out.row.free m
                unfold encT at hTc
                have KN2 := Lib.hid (KN.out.more (Nat.le_refl _) hm EN.out)
                obtain ⟨b, off, x, rfl, hb, hx, hc, hok⟩ := (HH.out.below KN2.out.below).get hm
                obtain ⟨c0, c1, c2, c3, c4, c5, c6, c7, c8, c9⟩ := hc
                have UP : Hid (∀ W, Calls Tryz.prog 113 #[nodVal x] W fun e w' => e = .returned (.int .i64 (nextUp (coreL L) m)) ∧ Below W.heap.size W w') := Lib.hid (fun W => by
                  rw [nextUp_at (coreL_get hx)]
                  exact up_any x W)
                have UIN := Lib.hid (HK.out m (by omega) (by omega))
                have EN2 : Hid (endsZ (nextUp (coreL L)) (len + 1) (nextUp (coreL L) m) = true) := Lib.hid (by
                  have := EN.out
                  rw [endsZ_step (by omega)] at this
                  exact endsZ_more _ _ this)
                have ME := Lib.hid (rankZ_up (n := len) (show (m : Int) ≠ -1 by omega) EN.out EN2.out)
                have DN2 : Hid (∀ j : Nat, j < k → (E.set m true)[j]? = some true) := Lib.hid (fun j hj => by
                  by_cases e : m = j
                  · subst e
                    rw [List.getElem?_set_self (by rw [KN.out.hl]; exact hm)]
                  · rw [List.getElem?_set_ne e]
                    exact DN.out j hj)
                have KK2 : Hid (nextUp (coreL L) m = (k : Int) ∨ (E.set m true)[k]? = some true) := Lib.hid (.inr (by
                  by_cases e : m = k
                  · subst e
                    rw [List.getElem?_set_self (by rw [KN.out.hl]; exact hm)]
                  · rw [List.getElem?_set_ne e]
                    rcases KK.out with h | h
                    · omega
                    · exact h))
                clear hx hok hE hb
                go_wp2_with (go_at_call 113; (refine (UP.out _).mono ?_); rintro e w1 ⟨rfl, hb⟩; have KN2 := Lib.hid (KN2.out.keep hb); clear hb)
                go_roundw
                case rel => exact ⟨_, _, rfl, UIN.out, KN2, DN2, KK2, EN2⟩
                case measure => simp [intOf]; rw [ME.out]; omega
              have AB : at_ = -1 ∨ ∃ m : Nat, at_ = m ∧ m < len ∧ E[m]? = some true := by
                rcases hat with h | h
                · exact .inl h
                · refine .inr ⟨at_.toNat, by omega, by omega, ?_⟩
                  have hl : at_.toNat < E.length := by rw [KN.out.hl]; omega
                  cases hq : E[at_.toNat]'hl with
                  | true => rw [List.getElem?_eq_getElem hl, hq]
                  | false => exact absurd ⟨at_.toNat, by omega, by omega, by rw [List.getElem?_eq_getElem hl, hq]⟩ hC
              have DN2 : Hid (∀ j : Nat, j < k + 1 → E[j]? = some true) := Lib.hid (fun j hj => by
                by_cases e : j = k
                · subst e
                  rcases KK.out with h | h
                  · rcases AB with h2 | ⟨m, h2, _, h3⟩
                    · omega
                    · have : m = j := by omega
                      rw [← this]
                      exact h3
                  · exact h
                · exact DN.out j (by omega))
              clear hC hat KK EN DN
              rcases AB with rfl | ⟨m, rfl, hm, hE⟩
              · go_wp2
                go_roundw
                case rel => exact ⟨k + 1, E, by omega, by go_num, KN, DN2⟩
                case measure => simp [intOf]; omega
              · have hTc := KN.out.row.cell m _ hE
                unfold encT at hTc
                clear hE
                go_wp2
                go_roundw
                case rel => exact ⟨k + 1, E, by omega, by go_num, KN, DN2⟩
                case measure => simp [intOf]; omega)
        · go_wp2
          (
            go_loopw [7] (fun i wr => ∃ (at_ : Int) (E : List Bool), i = .int .i64 at_ ∧ (at_ = -1 ∨ (0 ≤ at_ ∧ at_ < len)) ∧ Hid (Known w wr w.heap.size len (coreL L) E) ∧ Hid (∀ j : Nat, j < k → E[j]? = some true) ∧ Hid (at_ = (k : Int) ∨ E[k]? = some true) ∧ Hid (endsZ (nextUp (coreL L)) (len + 1) at_ = true)) (fun i _ => rankZ (nextUp (coreL L)) len (intOf i))
            case atStart => exact ⟨k, E, rfl, .inr ⟨by omega, by omega⟩, KN, DN, Lib.hid (.inl rfl), EN⟩
            case round =>
              clear KN DN EN
              obtain ⟨at_, E, rfl, hat, KN, DN, KK, EN⟩ := hrel
              by_cases hC : ∃ m : Nat, at_ = m ∧ m < len ∧ E[m]? = some false
              · obtain ⟨m, rfl, hm, hE⟩ := hC
                have hTc := KN.out.row.cell m _ hE
                have hTf := KN.out.row.free m
                unfold encT at hTc
                have KN2 := Lib.hid (KN.out.more (Nat.le_refl _) hm EN.out)
                obtain ⟨b, off, x, rfl, hb, hx, hc, hok⟩ := (HH.out.below KN2.out.below).get hm
                obtain ⟨c0, c1, c2, c3, c4, c5, c6, c7, c8, c9⟩ := hc
                have UP : Hid (∀ W, Calls Tryz.prog 113 #[nodVal x] W fun e w' => e = .returned (.int .i64 (nextUp (coreL L) m)) ∧ Below W.heap.size W w') := Lib.hid (fun W => by
                  rw [nextUp_at (coreL_get hx)]
                  exact up_any x W)
                have UIN := Lib.hid (HK.out m (by omega) (by omega))
                have EN2 : Hid (endsZ (nextUp (coreL L)) (len + 1) (nextUp (coreL L) m) = true) := Lib.hid (by
                  have := EN.out
                  rw [endsZ_step (by omega)] at this
                  exact endsZ_more _ _ this)
                have ME := Lib.hid (rankZ_up (n := len) (show (m : Int) ≠ -1 by omega) EN.out EN2.out)
                have DN2 : Hid (∀ j : Nat, j < k → (E.set m true)[j]? = some true) := Lib.hid (fun j hj => by
                  by_cases e : m = j
                  · subst e
                    rw [List.getElem?_set_self (by rw [KN.out.hl]; exact hm)]
                  · rw [List.getElem?_set_ne e]
                    exact DN.out j hj)
                have KK2 : Hid (nextUp (coreL L) m = (k : Int) ∨ (E.set m true)[k]? = some true) := Lib.hid (.inr (by
                  by_cases e : m = k
                  · subst e
                    rw [List.getElem?_set_self (by rw [KN.out.hl]; exact hm)]
                  · rw [List.getElem?_set_ne e]
                    rcases KK.out with h | h
                    · omega
                    · exact h))
                clear hx hok hE hb
                go_wp2_with (go_at_call 113; (refine (UP.out _).mono ?_); rintro e w1 ⟨rfl, hb⟩; have KN2 := Lib.hid (KN2.out.keep hb); clear hb)
                go_roundw
                case rel => exact ⟨_, _, rfl, UIN.out, KN2, DN2, KK2, EN2⟩
                case measure => simp [intOf]; rw [ME.out]; omega
              have AB : at_ = -1 ∨ ∃ m : Nat, at_ = m ∧ m < len ∧ E[m]? = some true := by
                rcases hat with h | h
                · exact .inl h
                · refine .inr ⟨at_.toNat, by omega, by omega, ?_⟩
                  have hl : at_.toNat < E.length := by rw [KN.out.hl]; omega
                  cases hq : E[at_.toNat]'hl with
                  | true => rw [List.getElem?_eq_getElem hl, hq]
                  | false => exact absurd ⟨at_.toNat, by omega, by omega, by rw [List.getElem?_eq_getElem hl, hq]⟩ hC
              have DN2 : Hid (∀ j : Nat, j < k + 1 → E[j]? = some true) := Lib.hid (fun j hj => by
                by_cases e : j = k
                · subst e
                  rcases KK.out with h | h
                  · rcases AB with h2 | ⟨m, h2, _, h3⟩
                    · omega
                    · have : m = j := by omega
                      rw [← this]
                      exact h3
                  · exact h
                · exact DN.out j (by omega))
              clear hC hat KK EN DN
              rcases AB with rfl | ⟨m, rfl, hm, hE⟩
              · go_wp2
                go_roundw
                case rel => exact ⟨k + 1, E, by omega, by go_num, KN, DN2⟩
                case measure => simp [intOf]; omega
              · have hTc := KN.out.row.cell m _ hE
                unfold encT at hTc
                clear hE
                go_wp2
                go_roundw
                case rel => exact ⟨k + 1, E, by omega, by go_num, KN, DN2⟩
                case measure => simp [intOf]; omega)
    · have hkk : k = len := by omega
      subst hkk
      have HR : Hid (waysB (coreL L) = true) := Lib.hid (by
        unfold waysB
        rw [List.all_eq_true, HCL.out]
        intro i hi
        exact KN.out.sound i (DN.out i (List.mem_range.1 hi)))
      go_wp2
      go_ret
      exact ⟨ret_bool HR.out.symm, KN.out.below⟩
end Go.Proofs.YtiffhlncnpppoaaGreatDoor
namespace Go.Proofs.YtiffhlncnpppoaaGreatDoor
theorem allK_split {F : List Core} {p : Nat} {x : Core} (h : F[p]? = some x) : allK F = allK (F.take p) ++ (x.kids ++ allK (F.drop (p + 1))) := by
  obtain ⟨hl, hg⟩ := List.getElem?_eq_some_iff.1 h
  have e : F = F.take p ++ (x :: F.drop (p + 1)) := by rw [← hg, ← List.drop_eq_getElem_cons hl, List.take_append_drop]
  unfold allK
  conv => lhs; rw [e]
  rw [List.flatMap_append, List.flatMap_cons]
theorem hasZ_zero {L : List Int} {n : Int} (h : n ∉ L) : hasZ L n = 0 := by
  unfold hasZ
  rw [List.countP_eq_zero]
  intro z hz
  simp
  rintro rfl
  exact h hz
theorem hasZ_pos {L : List Int} {n : Int} (h : n ∈ L) : 0 < hasZ L n := List.countP_pos_iff.2 ⟨n, h, by simp⟩
theorem mem_allK {F : List Core} {n : Int} (h : n ∈ allK F) : ∃ (i : Nat) (x : Core), F[i]? = some x ∧ n ∈ x.kids := by
  unfold allK at h
  obtain ⟨x, hx, hn⟩ := List.mem_flatMap.1 h
  obtain ⟨i, hi, he⟩ := List.mem_iff_getElem.1 hx
  exact ⟨i, x, by rw [List.getElem?_eq_getElem hi, he], hn⟩
theorem hasZ_part {F : List Core} {p : Nat} {x : Core} (h : F[p]? = some x) (n : Int) : hasZ x.kids n ≤ hasZ (allK F) n := by
  rw [allK_split h, hasZ_app, hasZ_app]
  omega
theorem hasZ_only {F : List Core} {p : Nat} {x : Core} (h : F[p]? = some x) {n : Int} (ho : ∀ (q : Nat) y, F[q]? = some y → n ∈ y.kids → q = p) : hasZ (allK F) n = hasZ x.kids n := by
  have hl := (List.getElem?_eq_some_iff.1 h).1
  have h1 : hasZ (allK (F.take p)) n = 0 := hasZ_zero (fun hm => by
    obtain ⟨i, y, hy, hn⟩ := mem_allK hm
    have hi := (List.getElem?_eq_some_iff.1 hy).1
    rw [List.length_take] at hi
    rw [List.getElem?_take, if_pos (by omega)] at hy
    have := ho i y hy hn
    omega)
  have h2 : hasZ (allK (F.drop (p + 1))) n = 0 := hasZ_zero (fun hm => by
    obtain ⟨i, y, hy, hn⟩ := mem_allK hm
    rw [List.getElem?_drop] at hy
    have := ho _ y hy hn
    omega)
  rw [allK_split h, hasZ_app, hasZ_app, h1, h2]
  omega
theorem isKd_iff {F : List Core} {n k : Int} : isKd F n k = true ↔ ∃ c, getC F n = some c ∧ c.kind = k := by
  unfold isKd
  cases hg : getC F n with
  | none => simp
  | some c => simp
theorem kidB_iff {F : List Core} {i d k : Int} : kidB F i d k = true ↔ ∃ c, getC F k = some c ∧ (c.kind = 1 ∨ c.kind = 2) ∧ c.parent = i ∧ c.doc = d := by
  unfold kidB isKd
  cases hg : getC F k with
  | none => simp
  | some c => simp
theorem kidOk_iff {F : List Core} {i : Nat} {x : Core} {k : Int} : kidOk F i x k = true ↔ hasZ x.kids k = 1 ∧ kidB F (i : Int) x.doc k = true := by
  rw [kidB_iff]
  unfold kidOk
  cases hg : getC F k with
  | none => simp
  | some c => simp [and_assoc]
theorem countP_add_le {α : Type} (p q : α → Bool) : ∀ (l : List α), (∀ x ∈ l, p x = true ∨ q x = true) → (∀ x ∈ l, ¬ (p x = true ∧ q x = true)) → l.countP p + l.countP q = l.length
  | [], _, _ => rfl
  | a :: r, h, h2 => by
    have ih := countP_add_le p q r (fun x hx => h x (by simp [hx])) (fun x hx => h2 x (by simp [hx]))
    rw [List.countP_cons, List.countP_cons, List.length_cons]
    rcases h a (by simp) with e | e
    · have : q a = false := by
        cases hq : q a with
        | false => rfl
        | true => exact absurd ⟨e, hq⟩ (h2 a (by simp))
      rw [e, this]
      simp
      omega
    · have : p a = false := by
        cases hq : p a with
        | false => rfl
        | true => exact absurd ⟨hq, e⟩ (h2 a (by simp))
      rw [e, this]
      simp
      omega
theorem kinds_len {F : List Core} {i d : Int} {l : List Int} (h : ∀ k ∈ l, kidB F i d k = true) : elemsB F l + textsB F l = l.length := by
  refine countP_add_le _ _ l (fun k hk => ?_) (fun k hk => ?_)
  · obtain ⟨c, hc, h1, _⟩ := kidB_iff.1 (h k hk)
    rcases h1 with h1 | h1
    · exact .inl (isKd_iff.2 ⟨c, hc, h1⟩)
    · exact .inr (isKd_iff.2 ⟨c, hc, h1⟩)
  · rintro ⟨h1, h2⟩
    rw [isKd_apart h1 (show (1 : Int) ≠ 2 by decide)] at h2
    cases h2
theorem elemsK_eq {F : List Core} {i : Int} {x : Core} (h : ∀ k ∈ x.kids, kidB F i x.doc k = true) : elemsK F x = elemsB F x.kids := by
  unfold elemsK elemsB
  refine List.countP_congr fun k hk => ?_
  obtain ⟨c, hc, _⟩ := kidB_iff.1 (h k hk)
  unfold kindK isKd
  rw [hc]
theorem shape_eq {F : List Core} {i : Int} {x : Core} (h : ∀ k ∈ x.kids, kidB F i x.doc k = true) : shapeOk F x = shapeB F x := by
  have h1 := kinds_len h
  unfold shapeOk shapeB
  rw [elemsK_eq h]
  by_cases k0 : x.kind = 0
  · rw [if_pos k0, k0, Bool.eq_iff_iff]
    simp
    omega
  · rw [if_neg k0]
    have e0 : (x.kind == 0) = false := beq_eq_false_iff_ne.2 k0
    by_cases k2 : x.kind = 2
    · rw [if_pos k2, k2, Bool.eq_iff_iff]
      have h3 : x.kids.length = 0 ↔ x.kids = [] := List.length_eq_zero_iff
      simp
      rw [← h3]
      omega
    · rw [if_neg k2]
      have e2 : (x.kind == 2) = false := beq_eq_false_iff_ne.2 k2
      rw [e0, e2]
      rfl
theorem shadow_eq {F : List Core} {i : Nat} {x : Core} : (hostOk F i x && underOk F i x) = shadowB F (i : Int) x := by
  unfold hostOk underOk shadowB
  by_cases k4 : x.kind = 4
  · rw [if_pos k4, if_pos k4, k4]
    unfold hostB
    cases getC F x.host <;> simp
  · rw [if_neg k4, if_neg k4]
    by_cases k1 : x.kind = 1
    · rw [if_pos k1, k1]
      unfold underB
      cases getC F x.under <;> simp
    · rw [if_neg k1]
      have : (x.kind == 1) = false := beq_eq_false_iff_ne.2 k1
      rw [this]
      simp
theorem fields_eq {x : Core} (hk : 0 ≤ x.kind ∧ x.kind ≤ 4) : textOk x = fieldsB x := by
  have hd : x.data.toList = [] → x.data.size = 0 := fun e => by rw [← tl_len, e]; rfl
  unfold textOk fieldsB elemNameB
  by_cases k1 : x.kind = 1
  · rw [if_pos k1, if_pos k1]
  rw [if_neg k1, if_neg k1]
  by_cases k2 : x.kind = 2
  · rw [if_neg (by omega), if_pos k2, k2, Bool.eq_iff_iff]
    simp only [Bool.and_eq_true, Bool.or_eq_true, beq_iff_eq, decide_eq_true_eq]
    constructor
    · rintro ⟨⟨⟨h1, h2⟩, h3⟩, h4⟩
      refine ⟨⟨⟨h1, h2⟩, ?_⟩, h3⟩
      rcases h4 with h4 | h4
      · have := hd h4
        omega
      · exact h4.2
    · rintro ⟨⟨⟨h1, h2⟩, h3⟩, h4⟩
      exact ⟨⟨⟨h1, h2⟩, h4⟩, .inr ⟨trivial, h3⟩⟩
  · rw [if_pos (by omega)]
    have : (x.kind == 2) = false := beq_eq_false_iff_ne.2 k2
    rw [this, Bool.eq_iff_iff]
    simp
    constructor
    · rintro ⟨⟨⟨h1, h2⟩, h3⟩, h4⟩
      exact ⟨⟨⟨h4, h1⟩, h2⟩, h3⟩
    · rintro ⟨⟨⟨h1, h2⟩, h3⟩, h4⟩
      exact ⟨⟨⟨h2, h3⟩, h4⟩, h1⟩
theorem fields_kind {x : Core} (h : fieldsB x = true) : 0 ≤ x.kind ∧ x.kind ≤ 4 := by
  unfold fieldsB at h
  by_cases k1 : x.kind = 1
  · omega
  rw [if_neg k1] at h
  by_cases k3 : x.kind = 0 ∨ x.kind = 3 ∨ x.kind = 4
  · omega
  rw [if_neg k3] at h
  by_cases k2 : x.kind = 2
  · omega
  rw [if_neg k2] at h
  cases h
theorem doc_eq {F : List Core} {i : Nat} {x : Core} (hk : 0 ≤ x.kind ∧ x.kind ≤ 4) : docOk F i x = docB F (i : Int) x := by
  unfold docOk docB isKd
  rw [decide_eq_true hk.1, decide_eq_true hk.2]
  rfl
def allFit (F : List Core) : Bool := F.zipIdx.all (fun p => fitsB F (p.2 : Int) p.1)
theorem allFit_iff {F : List Core} : allFit F = true ↔ ∀ (i : Nat) x, F[i]? = some x → fitsB F (i : Int) x = true := by
  unfold allFit
  rw [List.all_eq_true]
  constructor
  · intro h i x hx
    exact h (x, i) (List.mk_mem_zipIdx_iff_getElem?.2 hx)
  · intro h p hp
    exact h p.2 p.1 (List.mk_mem_zipIdx_iff_getElem?.1 hp)
theorem namedB_iff {F : List Core} : namedB F = true ↔ ∀ (i : Nat) x, F[i]? = some x → (hasZ (allK F) i = 1 ↔ x.parent ≠ -1) := by
  unfold namedB
  rw [List.all_eq_true]
  have key : ∀ (i : Nat) x, namedAt F i x = true ↔ (hasZ (allK F) i = 1 ↔ x.parent ≠ -1) := fun i x => by
    unfold namedAt
    rw [beq_iff_eq, Bool.eq_iff_iff]
    simp
  constructor
  · intro h i x hx
    exact (key i x).1 (h (x, i) (List.mk_mem_zipIdx_iff_getElem?.2 hx))
  · intro h p hp
    exact (key p.2 p.1).2 (h p.2 p.1 (List.mk_mem_zipIdx_iff_getElem?.1 hp))
theorem fitsB_iff {F : List Core} {i : Nat} {x : Core} : fitsB F (i : Int) x = true ↔ fieldsB x = true ∧ docB F i x = true ∧ (∀ k ∈ x.kids, kidB F i x.doc k = true) ∧ shapeB F x = true ∧ shadowB F i x = true := by
  unfold fitsB kidsB
  simp only [Bool.and_eq_true, List.all_eq_true]
  constructor
  · rintro ⟨⟨⟨h1, h2⟩, h3, h4⟩, h5⟩
    exact ⟨h1, h2, h3, h4, h5⟩
  · rintro ⟨h1, h2, h3, h4, h5⟩
    exact ⟨⟨⟨h1, h2⟩, h3, h4⟩, h5⟩
theorem nodeOk_iff {F : List Core} {i : Nat} {x : Core} : nodeOk F i x = true ↔ docOk F i x = true ∧ parOk F i x = true ∧ (∀ k ∈ x.kids, kidOk F i x k = true) ∧ shapeOk F x = true ∧ (hostOk F i x && underOk F i x) = true ∧ textOk x = true := by
  unfold nodeOk
  simp only [Bool.and_eq_true, List.all_eq_true]
  constructor
  · rintro ⟨⟨⟨⟨⟨⟨h1, h2⟩, h3⟩, h4⟩, h5⟩, h6⟩, h7⟩
    exact ⟨h1, h2, h3, h4, ⟨h5, h6⟩, h7⟩
  · rintro ⟨h1, h2, h3, h4, ⟨h5, h6⟩, h7⟩
    exact ⟨⟨⟨⟨⟨⟨h1, h2⟩, h3⟩, h4⟩, h5⟩, h6⟩, h7⟩
theorem kid_only {F : List Core} (h : ∀ (i : Nat) x, F[i]? = some x → ∀ k ∈ x.kids, kidB F i x.doc k = true) {n p : Nat} {c : Core} (hc : F[n]? = some c) (hp : c.parent = (p : Int)) : ∀ (q : Nat) y, F[q]? = some y → (n : Int) ∈ y.kids → q = p := fun q y hy hm => by
  obtain ⟨d, hd, _, h2, _⟩ := kidB_iff.1 (h q y hy _ hm)
  rw [getC_nat, hc] at hd
  injection hd with hd
  subst hd
  omega
theorem nodes_eq {F : List Core} : (∀ (i : Nat) x, F[i]? = some x → nodeOk F i x = true) ↔ (allFit F = true ∧ namedB F = true) := by
  rw [allFit_iff, namedB_iff]
  constructor
  · intro h
    have parts := fun i x hx => nodeOk_iff.1 (h i x hx)
    have kids : ∀ (i : Nat) x, F[i]? = some x → ∀ k ∈ x.kids, kidB F i x.doc k = true := fun i x hx k hk => (kidOk_iff.1 ((parts i x hx).2.2.1 k hk)).2
    have kind : ∀ (i : Nat) x, F[i]? = some x → 0 ≤ x.kind ∧ x.kind ≤ 4 := fun i x hx => by
      have := (parts i x hx).1
      unfold docOk at this
      simp only [Bool.and_eq_true, decide_eq_true_eq] at this
      exact ⟨this.1.1.1, this.1.1.2⟩
    refine ⟨fun i x hx => ?_, fun i x hx => ?_⟩
    · obtain ⟨h1, h2, h3, h4, h5, h6⟩ := parts i x hx
      have hk := kind i x hx
      rw [doc_eq hk] at h1
      rw [shape_eq (kids i x hx)] at h4
      rw [shadow_eq] at h5
      rw [fields_eq hk] at h6
      exact fitsB_iff.2 ⟨h6, h1, kids i x hx, h4, h5⟩
    · constructor
      · intro h1 hp
        have hm : (i : Int) ∈ allK F := hasZ_mem h1
        obtain ⟨q, y, hy, hn⟩ := mem_allK hm
        obtain ⟨d, hd, _, h2, _⟩ := kidB_iff.1 (kids q y hy _ hn)
        rw [getC_nat, hx] at hd
        injection hd with hd
        subst hd
        omega
      · intro hp
        have h2 := (parts i x hx).2.1
        unfold parOk at h2
        rw [beq_eq_false_iff_ne.2 hp, Bool.false_or, Bool.and_eq_true] at h2
        cases hg : getC F x.parent with
        | none => rw [hg] at h2; simp at h2
        | some p =>
          rw [hg] at h2
          simp only [Bool.and_eq_true, beq_iff_eq] at h2
          obtain ⟨e1, e2, e3⟩ := getC_some hg
          have := hasZ_only e3 (n := (i : Int)) (kid_only kids hx (by omega))
          rw [this]
          exact h2.2.2
  · rintro ⟨hf, hn⟩ i x hx
    have parts := fun i x hx => fitsB_iff.1 (hf i x hx)
    have kids : ∀ (i : Nat) x, F[i]? = some x → ∀ k ∈ x.kids, kidB F i x.doc k = true := fun i x hx => (parts i x hx).2.2.1
    obtain ⟨h1, h2, h3, h4, h5⟩ := parts i x hx
    have hk := fields_kind h1
    refine nodeOk_iff.2 ⟨by rw [doc_eq hk]; exact h2, ?_, fun k hkk => kidOk_iff.2 ⟨?_, h3 k hkk⟩, by rw [shape_eq h3]; exact h4, by rw [shadow_eq]; exact h5, by rw [fields_eq hk]; exact h1⟩
    · unfold parOk
      by_cases hp : x.parent = -1
      · rw [hp]; rfl
      · rw [beq_eq_false_iff_ne.2 hp, Bool.false_or]
        have hc := (hn i x hx).2 hp
        obtain ⟨q, y, hy, hm⟩ := mem_allK (hasZ_mem hc)
        obtain ⟨d, hd, hdk, hdp, _⟩ := kidB_iff.1 (kids q y hy _ hm)
        rw [getC_nat, hx] at hd
        injection hd with hd
        subst hd
        have e4 := hasZ_only hy (n := (i : Int)) (kid_only kids hx hdp)
        have hyk : y.kind ≠ 2 := fun e => by
          have hs := (parts q y hy).2.2.2.1
          have hl := kinds_len (kids q y hy)
          unfold shapeB at hs
          rw [if_neg (by omega), if_pos e, decide_eq_true_eq] at hs
          rw [hs] at hl
          have : y.kids = [] := List.eq_nil_of_length_eq_zero hl.symm
          rw [this] at hm
          cases hm
        rw [hdp, getC_nat, hy]
        simp only [Bool.and_eq_true, Bool.or_eq_true, beq_iff_eq, bne_iff_ne]
        exact ⟨hdk, hyk, by rw [← e4]; exact hc⟩
    · obtain ⟨c, hc, _, hcp, _⟩ := kidB_iff.1 (h3 k hkk)
      obtain ⟨e1, e2, e3⟩ := getC_some hc
      have hz : ((k.toNat : Nat) : Int) = k := by omega
      have := (hn k.toNat c e3).2 (by omega)
      rw [hz] at this
      have h6 := hasZ_part hx k
      have h7 := hasZ_pos hkk
      omega
theorem head_eq (F : List Core) : headDoc F = isKd F 0 0 := by
  cases F with
  | nil => rfl
  | cons c r => rfl
def rightC (m : Int) (F : List Core) : Bool := decide (m ≤ 400) && decide ((F.length : Int) ≤ m) && isKd F 0 0 && allFit F && namedB F && waysB F
theorem right_eq (m : Int) (F : List Core) : rightC m F = rightF m F := by
  rw [Bool.eq_iff_iff, rightF_iff, nodes_eq, head_eq]
  unfold rightC waysB
  simp only [Bool.and_eq_true, decide_eq_true_eq, List.all_eq_true]
  constructor
  · rintro ⟨⟨⟨⟨⟨h1, h2⟩, h3⟩, h4⟩, h5⟩, h6⟩
    have hl : 0 < F.length := by
      cases F with
      | nil => cases h3
      | cons _ _ => simp
    exact ⟨⟨by omega, h1, h2, h3⟩, ⟨h4, h5⟩, fun i hi => h6 i (List.mem_range.2 hi)⟩
  · rintro ⟨⟨h0, h1, h2, h3⟩, ⟨h4, h5⟩, h6⟩
    exact ⟨⟨⟨⟨⟨h1, h2⟩, h3⟩, h4⟩, h5⟩, fun i hi => h6 i (List.mem_range.1 hi)⟩
theorem fit_kids {F : List Core} (h : allFit F = true) : ∀ x ∈ F, ∀ z ∈ x.kids, 0 ≤ z ∧ z < (F.length : Int) := fun x hx z hz => by
  obtain ⟨i, hi, he⟩ := List.mem_iff_getElem.1 hx
  have hg : F[i]? = some x := by rw [List.getElem?_eq_getElem hi, he]
  obtain ⟨c, hc, _⟩ := kidB_iff.1 ((fitsB_iff.1 (allFit_iff.1 h i x hg)).2.2.1 z hz)
  obtain ⟨e1, e2, _⟩ := getC_some hc
  omega
theorem fit_up {F : List Core} (h : allFit F = true) (hn : namedB F = true) : upIn F F.length := fun i h0 h1 => by
  obtain ⟨n, rfl⟩ : ∃ n : Nat, i = n := ⟨i.toNat, by omega⟩
  have hl : n < F.length := by omega
  have hx : F[n]? = some F[n] := List.getElem?_eq_getElem hl
  have h3 := allFit_iff.1 h
  rw [nextUp_at hx]
  unfold upC
  by_cases hp : F[n].parent = -1
  · rw [if_pos hp]
    have h5 := (fitsB_iff.1 (h3 n _ hx)).2.2.2.2
    unfold shadowB at h5
    by_cases k4 : F[n].kind = 4
    · rw [if_pos k4, Bool.and_eq_true] at h5
      unfold hostB at h5
      cases hg : getC F F[n].host with
      | none => rw [hg] at h5; cases h5.1
      | some c =>
        obtain ⟨e1, e2, _⟩ := getC_some hg
        exact .inr ⟨e1, by omega⟩
    · rw [if_neg k4] at h5
      by_cases k1 : F[n].kind = 1
      · rw [if_pos k1, Bool.and_eq_true] at h5
        exact .inl (beq_iff_eq.1 h5.1)
      · rw [if_neg k1, Bool.and_eq_true] at h5
        exact .inl (beq_iff_eq.1 h5.1)
  · rw [if_neg hp]
    have hc := (namedB_iff.1 hn n _ hx).2 hp
    obtain ⟨q, y, hy, hm⟩ := mem_allK (hasZ_mem hc)
    obtain ⟨d, hd, _, hdp, _⟩ := kidB_iff.1 ((fitsB_iff.1 (h3 q y hy)).2.2.1 _ hm)
    rw [getC_nat, hx] at hd
    injection hd with hd
    subst hd
    have hq := (List.getElem?_eq_some_iff.1 hy).1
    exact .inr ⟨by omega, by omega⟩
end Go.Proofs.YtiffhlncnpppoaaGreatDoor
namespace Go.Proofs.YtiffhlncnpppoaaGreatDoor
open Go.RowKit
theorem hasZ_nodup : ∀ {L : List Int} {n : Int}, L.Nodup → hasZ L n = if n ∈ L then 1 else 0
  | [], n, _ => rfl
  | z :: l, n, h => by
    have h2 := List.nodup_cons.1 h
    have ih := hasZ_nodup (n := n) h2.2
    unfold hasZ at ih ⊢
    rw [List.countP_cons, ih]
    by_cases e : z = n
    · subst e
      rw [if_neg h2.1, if_pos (by simp), if_pos (List.mem_cons_self ..)]
    · rw [if_neg (show ¬ ((z == n) = true) from fun g => e (beq_iff_eq.1 g))]
      by_cases hm : n ∈ l
      · rw [if_pos hm, if_pos (List.mem_cons_of_mem _ hm)]
      · rw [if_neg hm, if_neg (fun g => by rcases List.mem_cons.1 g with g | g; exact e g.symm; exact hm g)]
theorem nodup_sub : ∀ (n : Nat) (l : List Nat), l.Nodup → (∀ x ∈ l, x < n) → l.length ≤ n
  | 0, l, _, hs => by
    cases l with
    | nil => exact Nat.le_refl _
    | cons a r => exact absurd (hs a (List.mem_cons_self ..)) (by omega)
  | n + 1, l, h, hs => by
    have ih := nodup_sub n (l.erase n) (h.erase n) (fun x hx => by
      have := (List.Nodup.mem_erase_iff h).1 hx
      have := hs x this.2
      omega)
    by_cases hm : n ∈ l
    · rw [List.length_erase_of_mem hm] at ih
      omega
    · rw [List.erase_of_not_mem hm] at ih
      omega
end Go.Proofs.YtiffhlncnpppoaaGreatDoor
namespace Go.Proofs.YtiffhlncnpppoaaGreatDoor
open Go.RowKit
set_option maxHeartbeats 8000000 in
set_option maxRecDepth 100000 in
theorem rightF_any (a : Option Addr) (len cap : Nat) (m : Int) (L : List NodeD) (w : World) (h : NodeRow w a len cap L) (hm : In64 m) (hs : smallF L) :
    Calls Tryz.prog 30 #[forV a len cap m] w fun e w' => e = .returned (.bool (rightF m (coreL L))) ∧ Below w.heap.size w w' := by
  rw [← right_eq]
  have HL := Lib.hid h.hlen
  have HCL : Hid ((coreL L).length = len) := Lib.hid (by rw [coreL_len, HL.out])
  have hlen : len ≤ 1000 := by rw [← h.hlen]; exact hs.1
  have BX := Lib.hid (Box.start (m := m) h)
  obtain ⟨hm0, hm1⟩ := hm
  have z0 := BX.out.c0
  have z1 := BX.out.c1
  have HS := Lib.hid hs
  have HRC : Hid (rightC m (coreL L) = (decide (m ≤ 400) && decide ((len : Int) ≤ m) && isKd (coreL L) 0 0 && allFit (coreL L) && namedB (coreL L) && waysB (coreL L))) := Lib.hid (by unfold rightC; rw [HCL.out])
  have CI : Hid (∀ W, NodeRow W a len cap L → Calls Tryz.prog 85 #[.slice a len cap, .int .i64 0, .int .i64 0] W fun e w' => e = .returned (.bool (isKd (coreL L) 0 0)) ∧ W = w') := Lib.hid (fun W h => is_any a len cap L 0 0 W h ⟨by omega, by omega⟩)
  clear h hs
  generalize rightC m (coreL L) = R at HRC ⊢
  by_cases q1 : m ≤ 400
  rotate_left
  · have HR : Hid (R = false) := Lib.hid (by rw [HRC.out, decide_eq_false q1]; rfl)
    clear HRC
    go_enter Tryz.func30, Tryz.ntmps30
    go_wp2
    go_ret
    exact ⟨ret_bool HR.out.symm, BX.out.below⟩
  by_cases q2 : (len : Int) ≤ m
  rotate_left
  · have HR : Hid (R = false) := Lib.hid (by rw [HRC.out, decide_eq_false q2]; simp)
    clear HRC
    go_enter Tryz.func30, Tryz.ntmps30
    go_wp2
    go_ret
    exact ⟨ret_bool HR.out.symm, BX.out.below⟩
  rw [decide_eq_true q1, decide_eq_true q2, Bool.true_and, Bool.true_and] at HRC
  cases q3 : isKd (coreL L) 0 0 with
  | false =>
    rw [q3] at CI HRC
    have HR : Hid (R = false) := Lib.hid (by rw [HRC.out]; rfl)
    clear HRC q3
    go_enter Tryz.func30, Tryz.ntmps30
    go_wp2_with (first
                    | (go_at_call 85; (refine (CI.out _ BX.out.row).mono ?_); rintro e w1 ⟨rfl, rfl⟩)
                    | (go_at_call 86; (refine (CF.out _ BX.out.row).mono ?_); rintro e w1 ⟨rfl, hb⟩; have BX := Lib.hid (BX.out.keep hb); have z0 := BX.out.c0; have z1 := BX.out.c1; clear hb)
                    | (go_at_call 87; (refine (CN.out _ BX.out.row).mono ?_); rintro e w1 ⟨rfl, hb⟩; have BX := Lib.hid (BX.out.keep hb); have z0 := BX.out.c0; have z1 := BX.out.c1; clear hb)
                    | (go_at_call 88; (refine (CW.out _ BX.out.row).mono ?_); rintro e w1 ⟨rfl, hb⟩; have BX := Lib.hid (BX.out.keep hb); have z0 := BX.out.c0; have z1 := BX.out.c1; clear hb))
    go_ret
    exact ⟨ret_bool HR.out.symm, BX.out.below⟩
  | true =>
    rw [q3, Bool.true_and] at HRC
    rw [q3] at CI
    clear q3
    go_enter Tryz.func30, Tryz.ntmps30
    go_wp2_with (first
                    | (go_at_call 85; (refine (CI.out _ BX.out.row).mono ?_); rintro e w1 ⟨rfl, rfl⟩)
                    | (go_at_call 86; (refine (CF.out _ BX.out.row).mono ?_); rintro e w1 ⟨rfl, hb⟩; have BX := Lib.hid (BX.out.keep hb); have z0 := BX.out.c0; have z1 := BX.out.c1; clear hb)
                    | (go_at_call 87; (refine (CN.out _ BX.out.row).mono ?_); rintro e w1 ⟨rfl, hb⟩; have BX := Lib.hid (BX.out.keep hb); have z0 := BX.out.c0; have z1 := BX.out.c1; clear hb)
                    | (go_at_call 88; (refine (CW.out _ BX.out.row).mono ?_); rintro e w1 ⟨rfl, hb⟩; have BX := Lib.hid (BX.out.keep hb); have z0 := BX.out.c0; have z1 := BX.out.c1; clear hb))
    go_loopw [24] (fun i wr => ∃ k : Nat, k ≤ len ∧ i = .int .i64 k ∧ Hid (Box w wr w.heap.size a len cap m L (coreL L)) ∧ Hid (∀ (j : Nat) x, j < k → (coreL L)[j]? = some x → fitsB (coreL L) (j : Int) x = true)) (fun i _ => len - (intOf i).toNat)
    case atStart => exact ⟨0, Nat.zero_le _, rfl, BX, Lib.hid (fun j x hj => absurd hj (by omega))⟩
    case round =>
      clear BX z0 z1
      obtain ⟨k, hk, rfl, BX, HA⟩ := hrel
      have z0 := BX.out.c0
      have z1 := BX.out.c1
      by_cases hlt : k < len
      · obtain ⟨b, off, x, hab, hb, hx, hc, hok⟩ := BX.out.row.get hlt
        have HX : Hid ((coreL L)[k]? = some x.core) := Lib.hid (coreL_get hx)
        have CF : Hid (∀ W, NodeRow W a len cap L → Calls Tryz.prog 86 #[.slice a len cap, .int .i64 k] W fun e w' => e = .returned (.bool (fitsB (coreL L) k x.core)) ∧ Below W.heap.size W w') := Lib.hid (fun W h => fits_any a len cap L k x W h hx)
        clear hab hb hx hc hok
        cases q4 : fitsB (coreL L) (k : Int) x.core with
        | false =>
          rw [q4] at CF
          have HR : Hid (R = false) := Lib.hid (by
            have : allFit (coreL L) = false := by
              cases hq : allFit (coreL L) with
              | false => rfl
              | true =>
                have := allFit_iff.1 hq k _ HX.out
                rw [q4] at this
                cases this
            rw [HRC.out, this]
            rfl)
          clear q4
          go_wp2_with (first
                          | (go_at_call 85; (refine (CI.out _ BX.out.row).mono ?_); rintro e w1 ⟨rfl, rfl⟩)
                          | (go_at_call 86; (refine (CF.out _ BX.out.row).mono ?_); rintro e w1 ⟨rfl, hb⟩; have BX := Lib.hid (BX.out.keep hb); have z0 := BX.out.c0; have z1 := BX.out.c1; clear hb)
                          | (go_at_call 87; (refine (CN.out _ BX.out.row).mono ?_); rintro e w1 ⟨rfl, hb⟩; have BX := Lib.hid (BX.out.keep hb); have z0 := BX.out.c0; have z1 := BX.out.c1; clear hb)
                          | (go_at_call 88; (refine (CW.out _ BX.out.row).mono ?_); rintro e w1 ⟨rfl, hb⟩; have BX := Lib.hid (BX.out.keep hb); have z0 := BX.out.c0; have z1 := BX.out.c1; clear hb))
          go_ret
          exact ⟨ret_bool HR.out.symm, BX.out.below⟩
        | true =>
          rw [q4] at CF
          have HA2 : Hid (∀ (j : Nat) x, j < k + 1 → (coreL L)[j]? = some x → fitsB (coreL L) (j : Int) x = true) := Lib.hid (fun j y hj hy => by
            by_cases e : j = k
            · subst e
              rw [HX.out] at hy
              rw [← Option.some.inj hy]
              exact q4
            · exact HA.out j y (by omega) hy)
          clear q4
          go_wp2_with (first
                          | (go_at_call 85; (refine (CI.out _ BX.out.row).mono ?_); rintro e w1 ⟨rfl, rfl⟩)
                          | (go_at_call 86; (refine (CF.out _ BX.out.row).mono ?_); rintro e w1 ⟨rfl, hb⟩; have BX := Lib.hid (BX.out.keep hb); have z0 := BX.out.c0; have z1 := BX.out.c1; clear hb)
                          | (go_at_call 87; (refine (CN.out _ BX.out.row).mono ?_); rintro e w1 ⟨rfl, hb⟩; have BX := Lib.hid (BX.out.keep hb); have z0 := BX.out.c0; have z1 := BX.out.c1; clear hb)
                          | (go_at_call 88; (refine (CW.out _ BX.out.row).mono ?_); rintro e w1 ⟨rfl, hb⟩; have BX := Lib.hid (BX.out.keep hb); have z0 := BX.out.c0; have z1 := BX.out.c1; clear hb))
          go_roundw
          case rel => exact ⟨k + 1, by omega, by go_num, BX, HA2⟩
          case measure => simp [intOf]; omega
      · have hkk : k = len := by omega
        subst hkk
        have HF : Hid (allFit (coreL L) = true) := Lib.hid (allFit_iff.2 (fun i x hx => HA.out i x (by have := (List.getElem?_eq_some_iff.1 hx).1; rw [HCL.out] at this; exact this) hx))
        have CN : Hid (∀ W, NodeRow W a k cap L → Calls Tryz.prog 87 #[.slice a k cap] W fun e w' => e = .returned (.bool (namedB (coreL L))) ∧ Below W.heap.size W w') := Lib.hid (fun W h => namedOnce_any a k cap L W h (fun x hx z hz => by
          have := fit_kids HF.out x.core (List.mem_map.2 ⟨x, hx, rfl⟩) z hz
          rw [HCL.out] at this
          exact this) HS.out)
        cases q5 : namedB (coreL L) with
        | false =>
          rw [q5] at CN HRC
          have HR : Hid (R = false) := Lib.hid (by rw [HRC.out]; simp)
          clear q5
          go_wp2_with (first
                          | (go_at_call 85; (refine (CI.out _ BX.out.row).mono ?_); rintro e w1 ⟨rfl, rfl⟩)
                          | (go_at_call 86; (refine (CF.out _ BX.out.row).mono ?_); rintro e w1 ⟨rfl, hb⟩; have BX := Lib.hid (BX.out.keep hb); have z0 := BX.out.c0; have z1 := BX.out.c1; clear hb)
                          | (go_at_call 87; (refine (CN.out _ BX.out.row).mono ?_); rintro e w1 ⟨rfl, hb⟩; have BX := Lib.hid (BX.out.keep hb); have z0 := BX.out.c0; have z1 := BX.out.c1; clear hb)
                          | (go_at_call 88; (refine (CW.out _ BX.out.row).mono ?_); rintro e w1 ⟨rfl, hb⟩; have BX := Lib.hid (BX.out.keep hb); have z0 := BX.out.c0; have z1 := BX.out.c1; clear hb))
          go_ret
          exact ⟨ret_bool HR.out.symm, BX.out.below⟩
        | true =>
          have HR : Hid (R = waysB (coreL L)) := Lib.hid (by rw [HRC.out, HF.out, q5]; rfl)
          have CW : Hid (∀ W, NodeRow W a k cap L → Calls Tryz.prog 88 #[.slice a k cap] W fun e w' => e = .returned (.bool (waysB (coreL L))) ∧ Below W.heap.size W w') := Lib.hid (fun W h => waysEnd_any a k cap L W h (by
            have := fit_up HF.out q5
            rw [HCL.out] at this
            exact this) HS.out)
          rw [q5] at CN
          clear q5
          go_wp2_with (first
                          | (go_at_call 85; (refine (CI.out _ BX.out.row).mono ?_); rintro e w1 ⟨rfl, rfl⟩)
                          | (go_at_call 86; (refine (CF.out _ BX.out.row).mono ?_); rintro e w1 ⟨rfl, hb⟩; have BX := Lib.hid (BX.out.keep hb); have z0 := BX.out.c0; have z1 := BX.out.c1; clear hb)
                          | (go_at_call 87; (refine (CN.out _ BX.out.row).mono ?_); rintro e w1 ⟨rfl, hb⟩; have BX := Lib.hid (BX.out.keep hb); have z0 := BX.out.c0; have z1 := BX.out.c1; clear hb)
                          | (go_at_call 88; (refine (CW.out _ BX.out.row).mono ?_); rintro e w1 ⟨rfl, hb⟩; have BX := Lib.hid (BX.out.keep hb); have z0 := BX.out.c0; have z1 := BX.out.c1; clear hb))
          go_ret
          exact ⟨ret_bool HR.out.symm, BX.out.below⟩
end Go.Proofs.YtiffhlncnpppoaaGreatDoor
