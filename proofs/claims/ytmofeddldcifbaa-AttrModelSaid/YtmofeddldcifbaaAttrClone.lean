/- slices.Clone on attributes, and package attr's Get. -/
import Derived.Test.YtmofeddldcifbaaAttrFind
import Derived.Lib.SliceRun
namespace Go.Proofs.Ytmofeddldcifbaa
open Go.RowKit
/-- A slice that the call made itself, and that reads as L. -/
def OwnPost (w : World) (L : AL) (e : Ending) (w' : World) : Prop := ∃ v, e = .returned v ∧ w'.ownsRow w.heap.size 41 2 v L.length (L.flatMap encA) ∧ Below w.heap.size w w'
set_option maxHeartbeats 4000000 in
theorem clone_any (a : Option Addr) (len cap : Nat) (L : AL) (w : World) (h : AttrRow w a len cap L) (h40 : len ≤ 1000000) :
    Calls Try.prog 28 #[.slice a len cap] w (OwnPost w L) := by
  obtain ⟨i0, hi0, hz0, hz1, hz2⟩ := info_parts attr_info
  have HL := Lib.hid h.hlen
  have q22 : ∀ (w : World) (a : Option Addr) (n c n' c' : Nat), (binOp .eql 22 (.slice a n c) (.slice none n' c')).run Try.prog w = .ok (.bool a.isNone) w := fun w a n c n' c' => Lib.run_eql_slice_nil w _ _ a n c n' c' Try.underlying22
  rcases a with _ | ad
  · have hc : cap = 0 := h.hnil rfl
    have h0 : len = 0 := by have := h.row.hcap; omega
    have hLn : L = [] := List.eq_nil_of_length_eq_zero (by rw [h.hlen, h0])
    subst hc; subst h0; subst hLn
    clear h
    go_enter Try.func28, Try.ntmps28
    go_wp2
    go_ret
    exact ⟨_, rfl, World.ownsRow_nil _ _ _ _, Below.refl _ _⟩
  · have H := Lib.hid h
    have hE := own_empty (α := ByteArray × ByteArray) (enc := encA) (size := 2) w w.heap.size 41 (Nat.le_refl _)
    have HE := Lib.hid hE
    clear h hE
    go_enter Try.func28, Try.ntmps28
    go_wp2_with (first
      | (at_builtin
         refine wpList_append_rows rfl (.tmp 5) (.tmp 6) 22 rfl 41 i0 _ 2 32 Try.underlying22 hi0 hz0 hz1 hz2 rfl (by decide) w.heap.size _ 0 _ L rfl HE.out (some ad) len cap rfl (H.out.below ((Below.refl _ _).alloc (Nat.le_refl _) _)).row (fun x _ => encA_one x) (by unfold maxLen; omega) (by omega) (by simp) (fun h => by cases h) ?_
         intro v2 w2 hown2 hg2 hat2
         have HB2 := below_new (Below.refl _ _) hg2
         have HO2 := Lib.hid hown2
         clear hown2 hg2 hat2))
    go_ret
    refine ⟨_, rfl, ?_, HB2⟩
    have := HO2.out
    rw [HL.out]
    simpa using this
set_option maxHeartbeats 4000000 in
theorem attrget_any (a : Option Addr) (len cap : Nat) (L : AL) (n : ByteArray) (w : World) (h : AttrRow w a len cap L) (hn : n.size ≤ maxLen) :
    Calls Try.prog 10 #[.slice a len cap, .string n] w fun e w' => e = .returned (.tuple #[.string (valA L n.toList), .bool (hasA L n.toList)]) ∧ Below w.heap.size w w' := by
  have C1 := Lib.hid (find_any a len cap L n w h hn)
  have H := Lib.hid h
  by_cases hg : (rightA L && rightL n.toList) = true
  rotate_left
  · have hg : (rightA L && rightL n.toList) = false := by simpa using hg
    have HR : Hid (hasA L n.toList = false) := Lib.hid (by unfold hasA; rw [hg]; rfl)
    have HV : Hid (valA L n.toList = ofL []) := Lib.hid (by unfold valA; rw [HR.out]; rfl)
    have E1 : findI L n.toList = -1 := by unfold findI; rw [hg]; rfl
    have C2 := C1.out
    rw [E1] at C2
    have C3 := Lib.hid C2
    by_cases hz : findE L n.toList = 0
    · exfalso
      unfold findE at hz
      revert hg hz
      cases rightA L <;> cases rightL n.toList <;> simp
    · have z1 : (findE L n.toList == 0) = false := beq_eq_false_iff_ne.2 hz
      have z2 : (findE L n.toList != 0) = true := by unfold bne; rw [z1]; rfl
      clear h hn hg E1 C2 C1 hz
      go_enter Try.func10, Try.ntmps10
      go_wp2_with (first
        | (go_at_call 24; refine C3.out.mono ?_; rintro e w' ⟨rfl, HB⟩))
      go_ret2
      exact ⟨by rw [HR.out, HV.out]; rfl, HB⟩
  have E3 : findE L n.toList = 0 := by
    unfold findE
    revert hg
    cases rightA L <;> cases rightL n.toList <;> simp
  by_cases hp : placeA L n.toList < L.length
  · have E1 : findI L n.toList = (placeA L n.toList : Int) := by unfold findI; rw [hg, ← atL_place hp]; rfl
    have hp' : placeA L n.toList < len := by rw [← h.hlen]; exact hp
    obtain ⟨b, off, xn, xv, rfl, hblt, hx, hc1, hc2, _, _⟩ := H.out.get hp'
    have HR : Hid (hasA L n.toList = true) := Lib.hid (by unfold hasA; rw [hg, decide_eq_true hp]; rfl)
    have HV : Hid (valA L n.toList = xv) := Lib.hid (by unfold valA; rw [HR.out, hx]; rfl)
    have C2 := C1.out
    rw [E1, E3] at C2
    obtain ⟨p, hpp⟩ : ∃ p, placeA L n.toList = p := ⟨_, rfl⟩
    rw [hpp] at C2 hp' hc1 hc2
    have C3 := Lib.hid C2
    have hl := h.len64
    have z1 : ((p : Int) == -1) = false := beq_eq_false_iff_ne.2 (by omega)
    clear h hn hg E1 E3 C2 C1 hpp hx hp
    go_enter Try.func10, Try.ntmps10
    go_wp2_with (first
      | (go_at_call 24; refine C3.out.mono ?_; rintro e w' ⟨rfl, HB⟩; have hd := (HB.cell (p := ⟨b, off + p * 2 + 1, none⟩) hblt).trans hc2))
    go_ret2
    exact ⟨by rw [HR.out, HV.out]; rfl, HB⟩
  · have E1 : findI L n.toList = -1 := by unfold findI; rw [hg, ← atL_noplace hp]; rfl
    have HR : Hid (hasA L n.toList = false) := Lib.hid (by unfold hasA; rw [decide_eq_false hp]; simp)
    have HV : Hid (valA L n.toList = ofL []) := Lib.hid (by unfold valA; rw [HR.out]; rfl)
    have C2 := C1.out
    rw [E1, E3] at C2
    have C3 := Lib.hid C2
    clear h hn hg E1 E3 C2 C1 hp
    go_enter Try.func10, Try.ntmps10
    go_wp2_with (first
      | (go_at_call 24; refine C3.out.mono ?_; rintro e w' ⟨rfl, HB⟩))
    go_ret2
    exact ⟨by rw [HR.out, HV.out]; rfl, HB⟩
end Go.Proofs.Ytmofeddldcifbaa
