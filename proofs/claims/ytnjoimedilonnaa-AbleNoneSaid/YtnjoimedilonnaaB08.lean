/- Texts joined in build order: NameFit AttrStand. -/
import Derived.Test.YtnjoimedilonnaaB03
import Derived.Test.YtnjoimedilonnaaB04
namespace Go.Proofs.Ytnjoimedilonnaa
open Go.RowKit
def fitL (l : List UInt8) : List UInt8 := if rightL l then smallL l else []
def fitE (l : List UInt8) : Int := if rightL l then 0 else 4
set_option maxHeartbeats 2000000 in
theorem fit_any (s : ByteArray) (w : World) (hs : s.size ≤ maxLen) :
    Calls Try.prog 32 #[.string s] w fun e w' => e = .returned (.tuple #[.string (ofL (fitL s.toList)), .int .i64 (fitE s.toList)]) ∧ Below w.heap.size w w' := by
  have HB : Below w.heap.size w w := Below.refl _ _
  by_cases hr : rightL s.toList = true
  · have e1 := Lib.hid (show fitL s.toList = smallL s.toList by unfold fitL; rw [if_pos hr])
    have e2 := Lib.hid (show fitE s.toList = 0 by unfold fitE; rw [if_pos hr])
    go_enter Try.func32, Try.ntmps32
    go_wp2_with (first
      | (go_at_call 42; refine (right_any _ _ hs).mono ?_; rintro e w' ⟨rfl, rfl⟩)
      | (go_at_call 43; refine (small_any _ _ hs).mono ?_; rintro e w' ⟨rfl, hb⟩; have HB := HB.trans (hb.mono HB.size); clear hb))
    go_ret2
    exact ⟨by rw [e1.out, e2.out]; rfl, by assumption⟩
  · have hr' : rightL s.toList = false := by simpa using hr
    have e1 := Lib.hid (show fitL s.toList = [] by unfold fitL; rw [if_neg hr])
    have e2 := Lib.hid (show fitE s.toList = 4 by unfold fitE; rw [if_neg hr])
    clear hr
    go_enter Try.func32, Try.ntmps32
    go_wp2_with (first
      | (go_at_call 42; refine (right_any _ _ hs).mono ?_; rintro e w' ⟨rfl, rfl⟩))
    go_ret2
    exact ⟨by rw [e1.out, e2.out]; rfl, by assumption⟩
end Go.Proofs.Ytnjoimedilonnaa
namespace Go.Proofs.Ytnjoimedilonnaa
open Go.RowKit
def standB (x : ByteArray × ByteArray) : Bool := rightL x.1.toList && (smallL x.1.toList == x.1.toList) && decide (x.2.size ≤ 200)
theorem box2 {w w' : World} {x y : Value} {t : TypeId} (hb : Below (w.alloc (.cells #[x, y] t)).heap.size (w.alloc (.cells #[x, y] t)) w') :
    w'.cell? ⟨w.heap.size, 0, none⟩ = some x ∧ w'.cell? ⟨w.heap.size, 1, none⟩ = some y ∧ Below w.heap.size w w' := by
  refine ⟨?_, ?_, ((Below.refl _ _).alloc (Nat.le_refl _) _).trans (hb.mono (by simp))⟩
  · rw [hb.cell (p := ⟨w.heap.size, 0, none⟩) (by simp), cell_of_row (w.alloc (.cells #[x, y] t)) w.heap.size 0 _ t (0, 0) (heap_alloc_new w _)]
    rfl
  · rw [hb.cell (p := ⟨w.heap.size, 1, none⟩) (by simp), cell_of_row (w.alloc (.cells #[x, y] t)) w.heap.size 1 _ t (0, 0) (heap_alloc_new w _)]
    rfl
set_option maxHeartbeats 2000000 in
theorem stand_any (xn xv : ByteArray) (w : World) (h1 : xn.size ≤ maxLen) (h2 : xv.size ≤ maxLen) :
    Calls Try.prog 41 #[.agg #[.string xn, .string xv]] w fun e w' => e = .returned (.bool (standB (xn, xv))) ∧ Below w.heap.size w w' := by
  have hv64 : xv.size ≤ 9223372036854775807 := by unfold maxLen at h2; omega
  have HN := Lib.hid h1
  clear h1 h2
  by_cases hr : rightL xn.toList = true
  rotate_left
  · have hr : rightL xn.toList = false := by simpa using hr
    have HR : Hid (standB (xn, xv) = false) := Lib.hid (by unfold standB; rw [hr]; rfl)
    have e1 : fitE xn.toList = 4 := by unfold fitE; rw [hr]; rfl
    have C1 : Hid (∀ W, Calls Try.prog 32 #[.string xn] W fun e w' => e = .returned (.tuple #[.string (ofL (fitL xn.toList)), .int .i64 4]) ∧ Below W.heap.size W w') := Lib.hid (fun W => by
      have := fit_any xn W HN.out
      rwa [e1] at this)
    clear hr e1
    go_enter Try.func41, Try.ntmps41
    go_wp2_with (first
      | (go_at_call 32; refine (C1.out _).mono ?_; rintro e w' ⟨rfl, hb⟩; obtain ⟨c1, c2, HB⟩ := box2 hb))
    go_ret
    exact ⟨ret_bool HR.out.symm, by assumption⟩
  have e1 : fitE xn.toList = 0 := by unfold fitE; rw [hr]; rfl
  have e2 : fitL xn.toList = smallL xn.toList := by unfold fitL; rw [hr]; rfl
  have C1 : Hid (∀ W, Calls Try.prog 32 #[.string xn] W fun e w' => e = .returned (.tuple #[.string (ofL (smallL xn.toList)), .int .i64 0]) ∧ Below W.heap.size W w') := Lib.hid (fun W => by
    have := fit_any xn W HN.out
    rwa [e1, e2] at this)
  have HRT := Lib.hid hr
  clear hr e1 e2
  by_cases hsm : smallL xn.toList = xn.toList
  rotate_left
  · have s1 : (smallL xn.toList == xn.toList) = false := beq_eq_false_iff_ne.2 hsm
    have HR : Hid (standB (xn, xv) = false) := Lib.hid (by unfold standB; rw [s1]; simp)
    clear hsm
    go_enter Try.func41, Try.ntmps41
    go_wp2_with (first
      | (go_at_call 32; refine (C1.out _).mono ?_; rintro e w' ⟨rfl, hb⟩; obtain ⟨c1, c2, HB⟩ := box2 hb))
    go_ret
    exact ⟨ret_bool HR.out.symm, by assumption⟩
  have s1 : (smallL xn.toList == xn.toList) = true := beq_iff_eq.2 hsm
  have HR : Hid (standB (xn, xv) = decide ((xv.size : Int) ≤ 200)) := Lib.hid (by unfold standB; rw [s1, HRT.out]; simp; omega)
  clear hsm
  go_enter Try.func41, Try.ntmps41
  go_wp2_with (first
    | (go_at_call 32; refine (C1.out _).mono ?_; rintro e w' ⟨rfl, hb⟩; obtain ⟨c1, c2, HB⟩ := box2 hb))
  go_ret
  exact ⟨ret_bool HR.out.symm, by assumption⟩
end Go.Proofs.Ytnjoimedilonnaa
