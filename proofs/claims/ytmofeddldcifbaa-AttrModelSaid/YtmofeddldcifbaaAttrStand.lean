/- Package attr's mayStand: may an attribute, by itself, stand in a list that is right? -/
import Derived.Test.YtmofeddldcifbaaAttrRem
import Derived.Test.YtmofeddldcifbaaNameFit
namespace Go.Proofs.Ytmofeddldcifbaa
open Go.RowKit
def standB (x : ByteArray × ByteArray) : Bool := rightL x.1.toList && (smallL x.1.toList == x.1.toList) && decide (x.2.size ≤ 200)
theorem box2 {w w' : World} {x y : Value} {t : TypeId} (hb : Below (w.alloc (.cells #[x, y] t)).heap.size (w.alloc (.cells #[x, y] t)) w') :
    w'.cell? ⟨w.heap.size, 0, none⟩ = some x ∧ w'.cell? ⟨w.heap.size, 1, none⟩ = some y ∧ Below w.heap.size w w' := by
  refine ⟨?_, ?_, ((Below.refl _ _).alloc (Nat.le_refl _) _).trans (hb.mono (by simp))⟩
  · rw [hb.cell (p := ⟨w.heap.size, 0, none⟩) (by simp), cell_of_row (w.alloc (.cells #[x, y] t)) w.heap.size 0 _ t (0, 0) (heap_alloc_new w _)]
    rfl
  · rw [hb.cell (p := ⟨w.heap.size, 1, none⟩) (by simp), cell_of_row (w.alloc (.cells #[x, y] t)) w.heap.size 1 _ t (0, 0) (heap_alloc_new w _)]
    rfl
set_option maxHeartbeats 2000000 in
theorem stand_any (xn xv : ByteArray) (w : World) (h1 : xn.size ≤ maxLen) (h2 : xv.size ≤ maxLen) :
    Calls Try.prog 33 #[.agg #[.string xn, .string xv]] w fun e w' => e = .returned (.bool (standB (xn, xv))) ∧ Below w.heap.size w w' := by
  have hv64 : xv.size ≤ 9223372036854775807 := by unfold maxLen at h2; omega
  have HN := Lib.hid h1
  clear h1 h2
  by_cases hr : rightL xn.toList = true
  rotate_left
  · have hr : rightL xn.toList = false := by simpa using hr
    have HR : Hid (standB (xn, xv) = false) := Lib.hid (by unfold standB; rw [hr]; rfl)
    have e1 : fitE xn.toList = 4 := by unfold fitE; rw [hr]; rfl
    have C1 : Hid (∀ W, Calls Try.prog 32 #[.string xn] W fun e w' => e = .returned (.tuple #[.string (ofL (fitL xn.toList)), .int .i64 4]) ∧ Below W.heap.size W w') := Lib.hid (fun W => by
      have := fit_any xn W HN.out
      rwa [e1] at this)
    clear hr e1
    go_enter Try.func33, Try.ntmps33
    go_wp2_with (first
      | (go_at_call 32; refine (C1.out _).mono ?_; rintro e w' ⟨rfl, hb⟩; obtain ⟨c1, c2, HB⟩ := box2 hb))
    go_ret
    exact ⟨ret_bool HR.out.symm, by assumption⟩
  have e1 : fitE xn.toList = 0 := by unfold fitE; rw [hr]; rfl
  have e2 : fitL xn.toList = smallL xn.toList := by unfold fitL; rw [hr]; rfl
  have C1 : Hid (∀ W, Calls Try.prog 32 #[.string xn] W fun e w' => e = .returned (.tuple #[.string (ofL (smallL xn.toList)), .int .i64 0]) ∧ Below W.heap.size W w') := Lib.hid (fun W => by
    have := fit_any xn W HN.out
    rwa [e1, e2] at this)
  have HRT := Lib.hid hr
  clear hr e1 e2
  by_cases hsm : smallL xn.toList = xn.toList
  rotate_left
  · have s1 : (smallL xn.toList == xn.toList) = false := beq_eq_false_iff_ne.2 hsm
    have HR : Hid (standB (xn, xv) = false) := Lib.hid (by unfold standB; rw [s1]; simp)
    clear hsm
    go_enter Try.func33, Try.ntmps33
    go_wp2_with (first
      | (go_at_call 32; refine (C1.out _).mono ?_; rintro e w' ⟨rfl, hb⟩; obtain ⟨c1, c2, HB⟩ := box2 hb))
    go_ret
    exact ⟨ret_bool HR.out.symm, by assumption⟩
  have s1 : (smallL xn.toList == xn.toList) = true := beq_iff_eq.2 hsm
  have HR : Hid (standB (xn, xv) = decide ((xv.size : Int) ≤ 200)) := Lib.hid (by unfold standB; rw [s1, HRT.out]; simp; omega)
  clear hsm
  go_enter Try.func33, Try.ntmps33
  go_wp2_with (first
    | (go_at_call 32; refine (C1.out _).mono ?_; rintro e w' ⟨rfl, hb⟩; obtain ⟨c1, c2, HB⟩ := box2 hb))
  go_ret
  exact ⟨ret_bool HR.out.symm, by assumption⟩
end Go.Proofs.Ytmofeddldcifbaa
