/- Texts joined in build order: AttrRightMath AttrEq Ext NameFit NameWords AttrStand OwnCells AttrRef1 RefRight RefSmall. -/
import Derived.Test.YtnjoimedilonnaaGreatDoorA03
import Derived.Test.YtnjoimedilonnaaGreatDoorChecked
import Derived.WalkLawsBesides
import Derived.Lib.Hide
import Derived.BigQuiet
import Derived.Deep.QuietTactic
import Derived.Below
import Derived.WalkSmall
import Derived.Test.YtnjoimedilonnaaGreatDoorA02
import Derived.Lib.Strings
import Derived.Lib.Slices
import Derived.Lib.Walk
import Derived.Laws.Rows
import Derived.Deep.OwnRows
import Derived.WideShapes
import Derived.Laws.IdiomStrings
import Derived.Lib.IndexBytes
namespace Go.Proofs.YtnjoimedilonnaaGreatDoor
open Go.RowKit
def okAt (L : AL) (k : Nat) (x : ByteArray × ByteArray) : Bool := rightL x.1.toList && (smallL x.1.toList == x.1.toList) && decide (x.2.size ≤ 200) && decide (atN L x.1.toList = k)
def rightA (L : AL) : Bool := decide (L.length ≤ 40) && L.zipIdx.all (fun p => okAt L p.2 p.1)
theorem rightA_iff (L : AL) : rightA L = true ↔ L.length ≤ 40 ∧ ∀ (k : Nat) x, L[k]? = some x → okAt L k x = true := by
  unfold rightA
  rw [Bool.and_eq_true, decide_eq_true_eq, List.all_eq_true]
  constructor
  · rintro ⟨h1, h2⟩
    refine ⟨h1, fun k x hx => ?_⟩
    exact h2 (x, k) (List.mk_mem_zipIdx_iff_getElem?.2 hx)
  · rintro ⟨h1, h2⟩
    refine ⟨h1, fun p hp => ?_⟩
    exact h2 p.2 p.1 (List.mk_mem_zipIdx_iff_getElem?.1 hp)
theorem rightA_stop {L : AL} {k : Nat} {x : ByteArray × ByteArray} (hx : L[k]? = some x) (h : okAt L k x = false) : rightA L = false := by
  by_cases hr : rightA L = true
  · have := ((rightA_iff L).1 hr).2 k x hx
    rw [h] at this; cases this
  · simpa using hr
theorem rightA_long {L : AL} (h : 40 < L.length) : rightA L = false := by
  unfold rightA
  rw [decide_eq_false (by omega)]
  rfl
end Go.Proofs.YtnjoimedilonnaaGreatDoor
namespace Go.Proofs.YtnjoimedilonnaaGreatDoor
open Go.RowKit
end Go.Proofs.YtnjoimedilonnaaGreatDoor
namespace Go.Proofs.YtnjoimedilonnaaGreatDoor
open Go.RowKit
structure Ext (w : World) where
  v : World
  below : Below w.heap.size w v
instance extNonempty (w : World) : Nonempty (Ext w) := ⟨⟨w, Below.refl _ _⟩⟩
theorem Ext.cell {w : World} {p : Addr} {v : Option Value} (h : w.cell? p = v) (hp : p.block < w.heap.size) : ∀ x : Ext w, x.v.cell? p = v := fun x => (x.below.cell hp).trans h
theorem Ext.call_same {P : Program} {f : FuncId} {args : Array Value} {w : World} {x : Ext w} {v : Value}
    (h : Calls P f args x.v fun e w' => e = .returned v ∧ x.v = w') : Calls P f args x.v fun e w'' => e = .returned v ∧ ∃ y : Ext w, w'' = y.v :=
  h.mono fun _ _ ⟨he, hm⟩ => ⟨he, x, hm.symm⟩
theorem Ext.call_below {P : Program} {f : FuncId} {args : Array Value} {w : World} {x : Ext w} {v : Value}
    (h : Calls P f args x.v fun e w' => e = .returned v ∧ Below x.v.heap.size x.v w') : Calls P f args x.v fun e w'' => e = .returned v ∧ ∃ y : Ext w, w'' = y.v :=
  h.mono fun _ w' ⟨he, hm⟩ => ⟨he, ⟨w', x.below.trans (hm.mono x.below.size)⟩, rfl⟩
theorem wp_region_ext {P : Program} {id : Nat} {Q : Exit → Act → World → Prop} {a : Act} {w : World} {l : List Oper} (hm : P.follows .mixedOrders = true) (hB : Region.lexB .any l.toArray = true)
    (h : wpQuiet P l.toArray (fun w' => ∃ x : Ext w, w' = x.v) (fun a' => ∀ w', (∃ x : Ext w, w' = x.v) → Q .normal a' w') l a) : (Code.region id l.toArray true).wp P Q a w :=
  wp_region_quiet (C := fun w' => ∃ x : Ext w, w' = x.v) hm hB ⟨⟨_, (Below.refl _ _).drew⟩, rfl⟩ (by simpa using h)
end Go.Proofs.YtnjoimedilonnaaGreatDoor
namespace Go.Proofs.YtnjoimedilonnaaGreatDoor
open Go.RowKit
def fitL (l : List UInt8) : List UInt8 := if rightL l then smallL l else []
def fitE (l : List UInt8) : Int := if rightL l then 0 else 4
set_option maxHeartbeats 2000000 in
theorem fit_any (s : ByteArray) (w : World) (hs : s.size ≤ maxLen) :
    Calls Tryz.prog 38 #[.string s] w fun e w' => e = .returned (.tuple #[.string (ofL (fitL s.toList)), .int .i64 (fitE s.toList)]) ∧ Below w.heap.size w w' := by
  have HB : Below w.heap.size w w := Below.refl _ _
  by_cases hr : rightL s.toList = true
  · have e1 := Lib.hid (show fitL s.toList = smallL s.toList by unfold fitL; rw [if_pos hr])
    have e2 := Lib.hid (show fitE s.toList = 0 by unfold fitE; rw [if_pos hr])
    go_enter Tryz.func38, Tryz.ntmps38
    go_wp2_with (first
      | (go_at_call 65; refine (right_any _ _ hs).mono ?_; rintro e w' ⟨rfl, rfl⟩)
      | (go_at_call 53; refine (small_any _ _ hs).mono ?_; rintro e w' ⟨rfl, hb⟩; have HB := HB.trans (hb.mono HB.size); clear hb))
    go_ret2
    exact ⟨by rw [e1.out, e2.out]; rfl, by assumption⟩
  · have hr' : rightL s.toList = false := by simpa using hr
    have e1 := Lib.hid (show fitL s.toList = [] by unfold fitL; rw [if_neg hr])
    have e2 := Lib.hid (show fitE s.toList = 4 by unfold fitE; rw [if_neg hr])
    clear hr
    go_enter Tryz.func38, Tryz.ntmps38
    go_wp2_with (first
      | (go_at_call 65; refine (right_any _ _ hs).mono ?_; rintro e w' ⟨rfl, rfl⟩))
    go_ret2
    exact ⟨by rw [e1.out, e2.out]; rfl, by assumption⟩
end Go.Proofs.YtnjoimedilonnaaGreatDoor
namespace Go.Proofs.YtnjoimedilonnaaGreatDoor
open Go.RowKit
set_option maxHeartbeats 1000000 in
set_option maxRecDepth 100000 in
theorem indexByte_any (s : ByteArray) (c : Int) (w : World) :
    Calls Tryz.prog 130 #[.string s, .int .u8 c] w fun e w' => e = .returned (.int .i64 (Lib.indexByte s.data.toList c.toNat.toUInt8)) ∧ w' = w := by
  go_enter Tryz.func130, Tryz.ntmps130
  go_wp2
  rw [run_callFunc_extern Tryz.func141 (by kernel_rfl) (by kernel_rfl) (by kernel_rfl) (e := Extern.BytealgIndexByte.indexByte) (by kernel_rfl), Lib.run_indexByteString]
  simp only [Result.andThen]
  rw [Oper.upon_value]
  go_wp2
  go_ret
  exact ⟨rfl, rfl⟩
theorem has_indexByte (c : UInt8) : ∀ l : List UInt8, l.contains c = decide (0 ≤ Lib.indexByte l c)
  | [] => by simp [Lib.indexByte]
  | b :: l => by
    have ih := has_indexByte c l
    have hg := Lib.indexByte_ge l c
    unfold Lib.indexByte
    rw [List.contains_cons, ih]
    by_cases h : b = c
    · subst h; simp
    · have h1 : (c == b) = false := by simp; exact fun e => h e.symm
      have h2 : (b == c) = false := by simp [h]
      rw [h1, h2]
      by_cases h3 : Lib.indexByte l c = -1
      · simp [h3]
      · have h4 : (Lib.indexByte l c == -1) = false := by simp [h3]
        simp only [h4, Bool.false_or, Bool.false_eq_true, if_false]
        rw [decide_eq_decide]
        omega
set_option maxHeartbeats 2000000 in
set_option maxRecDepth 100000 in
theorem dash_any (s : ByteArray) (w : World) :
    Calls Tryz.prog 95 #[.string s, .string ⟨#[45]⟩] w fun e w' => e = .returned (.bool (dashL s.toList)) ∧ w = w' := by
  go_enter Tryz.func95, Tryz.ntmps95
  go_wp2_with (first | (go_at_call 130; refine (indexByte_any _ _ _).mono ?_; rintro e w' ⟨rfl, rfl⟩) | go_in)
  · have h : ([45] == s.toList) = true := by assumption
    go_ret
    refine ⟨ret_bool ?_, rfl⟩
    have e : s.toList = [45] := (beq_iff_eq.1 h).symm
    rw [e]; rfl
  · go_ret
    refine ⟨ret_bool ?_, rfl⟩
    unfold dashL
    rw [has_indexByte, tl]
    rfl
set_option maxHeartbeats 1000000 in
theorem reserved_any (s : ByteArray) (w : World) :
    Calls Tryz.prog 96 #[.string s] w fun e w' => e = .returned (.bool (reservedL s.toList)) ∧ w = w' := by
  go_enter Tryz.func96, Tryz.ntmps96
  go_wp2
  all_goals (go_ret; exact ⟨ret_bool (by unfold reservedL; simp_all), rfl⟩)
end Go.Proofs.YtnjoimedilonnaaGreatDoor
namespace Go.Proofs.YtnjoimedilonnaaGreatDoor
open Go.RowKit
def standB (x : ByteArray × ByteArray) : Bool := rightL x.1.toList && (smallL x.1.toList == x.1.toList) && decide (x.2.size ≤ 200)
theorem box2 {w w' : World} {x y : Value} {t : TypeId} (hb : Below (w.alloc (.cells #[x, y] t)).heap.size (w.alloc (.cells #[x, y] t)) w') :
    w'.cell? ⟨w.heap.size, 0, none⟩ = some x ∧ w'.cell? ⟨w.heap.size, 1, none⟩ = some y ∧ Below w.heap.size w w' := by
  refine ⟨?_, ?_, ((Below.refl _ _).alloc (Nat.le_refl _) _).trans (hb.mono (by simp))⟩
  · rw [hb.cell (p := ⟨w.heap.size, 0, none⟩) (by simp), cell_of_row (w.alloc (.cells #[x, y] t)) w.heap.size 0 _ t (0, 0) (heap_alloc_new w _)]
    rfl
  · rw [hb.cell (p := ⟨w.heap.size, 1, none⟩) (by simp), cell_of_row (w.alloc (.cells #[x, y] t)) w.heap.size 1 _ t (0, 0) (heap_alloc_new w _)]
    rfl
set_option maxHeartbeats 2000000 in
theorem stand_any (xn xv : ByteArray) (w : World) (h1 : xn.size ≤ maxLen) (h2 : xv.size ≤ maxLen) :
    Calls Tryz.prog 76 #[.agg #[.string xn, .string xv]] w fun e w' => e = .returned (.bool (standB (xn, xv))) ∧ Below w.heap.size w w' := by
  have hv64 : xv.size ≤ 9223372036854775807 := by unfold maxLen at h2; omega
  have HN := Lib.hid h1
  clear h1 h2
  by_cases hr : rightL xn.toList = true
  rotate_left
  · have hr : rightL xn.toList = false := by simpa using hr
    have HR : Hid (standB (xn, xv) = false) := Lib.hid (by unfold standB; rw [hr]; rfl)
    have e1 : fitE xn.toList = 4 := by unfold fitE; rw [hr]; rfl
    have C1 : Hid (∀ W, Calls Tryz.prog 38 #[.string xn] W fun e w' => e = .returned (.tuple #[.string (ofL (fitL xn.toList)), .int .i64 4]) ∧ Below W.heap.size W w') := Lib.hid (fun W => by
      have := fit_any xn W HN.out
      rwa [e1] at this)
    clear hr e1
    go_enter Tryz.func76, Tryz.ntmps76
    go_wp2_with (first
      | (go_at_call 38; refine (C1.out _).mono ?_; rintro e w' ⟨rfl, hb⟩; obtain ⟨c1, c2, HB⟩ := box2 hb))
    go_ret
    exact ⟨ret_bool HR.out.symm, by assumption⟩
  have e1 : fitE xn.toList = 0 := by unfold fitE; rw [hr]; rfl
  have e2 : fitL xn.toList = smallL xn.toList := by unfold fitL; rw [hr]; rfl
  have C1 : Hid (∀ W, Calls Tryz.prog 38 #[.string xn] W fun e w' => e = .returned (.tuple #[.string (ofL (smallL xn.toList)), .int .i64 0]) ∧ Below W.heap.size W w') := Lib.hid (fun W => by
    have := fit_any xn W HN.out
    rwa [e1, e2] at this)
  have HRT := Lib.hid hr
  clear hr e1 e2
  by_cases hsm : smallL xn.toList = xn.toList
  rotate_left
  · have s1 : (smallL xn.toList == xn.toList) = false := beq_eq_false_iff_ne.2 hsm
    have HR : Hid (standB (xn, xv) = false) := Lib.hid (by unfold standB; rw [s1]; simp)
    clear hsm
    go_enter Tryz.func76, Tryz.ntmps76
    go_wp2_with (first
      | (go_at_call 38; refine (C1.out _).mono ?_; rintro e w' ⟨rfl, hb⟩; obtain ⟨c1, c2, HB⟩ := box2 hb))
    go_ret
    exact ⟨ret_bool HR.out.symm, by assumption⟩
  have s1 : (smallL xn.toList == xn.toList) = true := beq_iff_eq.2 hsm
  have HR : Hid (standB (xn, xv) = decide ((xv.size : Int) ≤ 200)) := Lib.hid (by unfold standB; rw [s1, HRT.out]; simp; omega)
  clear hsm
  go_enter Tryz.func76, Tryz.ntmps76
  go_wp2_with (first
    | (go_at_call 38; refine (C1.out _).mono ?_; rintro e w' ⟨rfl, hb⟩; obtain ⟨c1, c2, HB⟩ := box2 hb))
  go_ret
  exact ⟨ret_bool HR.out.symm, by assumption⟩
end Go.Proofs.YtnjoimedilonnaaGreatDoor
namespace Go.Proofs.YtnjoimedilonnaaGreatDoor
open Go.RowKit
structure ORow {α : Type} (enc : α → Value) (w : World) (g : Nat) (L : List α) : Prop where
  lt : g < w.heap.size
  cell : ∀ i x, L[i]? = some x → w.cell? ⟨g, i, none⟩ = some (enc x)
  free : ∀ i, w.frozen? ⟨g, i, none⟩ = false
section
variable {α : Type} {enc : α → Value} {w w' : World} {g : Nat} {L : List α}
theorem ORow.keep (h : ORow enc w g L) (hb : Below w.heap.size w w') : ORow enc w' g L :=
  ⟨Nat.lt_of_lt_of_le h.lt hb.size, fun i x hx => (hb.cell (p := ⟨g, i, none⟩) h.lt).trans (h.cell i x hx), fun i => (hb.frozen (p := ⟨g, i, none⟩) h.lt).trans (h.free i)⟩
theorem ORow.drewN (h : ORow enc w g L) (n : Nat) : ORow enc (w.drewN n) g L := ⟨h.lt, h.cell, h.free⟩
theorem ORow.set (h : ORow enc w g L) {k : Nat} (hk : k < L.length) (x : α) : ORow enc (w.setCell ⟨g, k, none⟩ (enc x)) g (L.set k x) := by
  refine ⟨by simpa [World.setCell] using h.lt, fun i y hy => ?_, fun i => by rw [World.frozen?_setCell]; exact h.free i⟩
  by_cases e : k = i
  · subst e
    rw [List.getElem?_set_self hk] at hy
    injection hy with hy
    subst hy
    exact World.cell?_setCell_same _ _ _ (h.cell k _ (List.getElem?_eq_getElem hk))
  · rw [List.getElem?_set_ne e] at hy
    rw [World.cell?_setCell_other _ _ _ _ (fun e' => by injection e' with _ e'; exact e e')]
    exact h.cell i y hy
theorem ORow.other (h : ORow enc w g L) {p : Addr} (hp : p.block ≠ g) (u : Value) : ORow enc (w.setCell p u) g L :=
  ⟨by simpa [World.setCell] using h.lt, fun i x hx => (World.cell?_setCell_other _ _ _ _ (fun e => hp (by rw [e]))).trans (h.cell i x hx), fun i => by rw [World.frozen?_setCell]; exact h.free i⟩
theorem ORow.made (w : World) (e : TypeId) (x : α) (n : Nat) : ORow enc (w.alloc (.cells (madeCells #[enc x] n) e)) w.heap.size (List.replicate n x) := by
  refine ⟨by simp, fun i y hy => ?_, fun i => (World.rowIs_made w (enc x) n e).frozen i⟩
  obtain ⟨hl, hg⟩ := List.getElem?_eq_some_iff.1 hy
  rw [List.getElem_replicate] at hg
  subst hg
  rw [List.length_replicate] at hl
  exact (World.rowIs_made w (enc x) n e).cell hl
end
end Go.Proofs.YtnjoimedilonnaaGreatDoor
namespace Go.Proofs.YtnjoimedilonnaaGreatDoor
open Go.RowKit
end Go.Proofs.YtnjoimedilonnaaGreatDoor
namespace Go.Proofs.YtnjoimedilonnaaGreatDoor
open Go.RowKit
def RightAt (l : List UInt8) (k : Nat) : Prop := (l.take k).all signB = true ∧ (0 < k → headB (l.headD 0) = true)
theorem RightAt.start (l : List UInt8) : RightAt l 0 := ⟨rfl, fun h => absurd h (by omega)⟩
theorem RightAt.next {l : List UInt8} {k : Nat} {c : UInt8} (h : RightAt l k) (hc : l[k]? = some c) (hk : k = 0 ∧ headB c = true ∨ 0 < k ∧ signB c = true) : RightAt l (k + 1) := by
  rcases hk with ⟨rfl, hk⟩ | ⟨hk, hs⟩
  · refine ⟨(all_take_succ l 0 c hc rfl).trans (sign_of_head c hk), fun _ => ?_⟩
    cases l with
    | nil => simp at hc
    | cons b r => simp at hc; subst hc; exact hk
  · exact ⟨(all_take_succ l k c hc h.1).trans hs, fun _ => h.2 hk⟩
theorem RightAt.stop {l : List UInt8} {k : Nat} {c : UInt8} (hc : l[k]? = some c) (hk : k = 0 ∧ headB c = false ∨ 0 < k ∧ signB c = false) : rightL l = false := by
  rcases hk with ⟨rfl, hk⟩ | ⟨_, hs⟩
  · exact rightL_head l c hc hk
  · exact rightL_stop l k c hc hs
end Go.Proofs.YtnjoimedilonnaaGreatDoor
namespace Go.Proofs.YtnjoimedilonnaaGreatDoor
open Go.RowKit
end Go.Proofs.YtnjoimedilonnaaGreatDoor
