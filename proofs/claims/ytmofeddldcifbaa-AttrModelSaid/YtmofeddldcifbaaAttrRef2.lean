/- instarref02's Get and Set. -/
import Derived.Test.YtmofeddldcifbaaAttrOps
import Derived.OwnWalk
namespace Go.Proofs.Ytmofeddldcifbaa
open Go.RowKit
theorem small40 {n : ByteArray} (h : rightL n.toList = true) : n.size ≤ 1000000 := by
  have := rightL_len h
  rw [tl_len] at this
  omega
set_option maxHeartbeats 4000000 in
set_option maxRecDepth 100000 in
theorem refget_any (a : Option Addr) (len cap : Nat) (L : AL) (n : ByteArray) (w : World) (h : AttrRow w a len cap L) (hn : n.size ≤ maxLen) :
    Calls Try.prog 11 #[.slice a len cap, .string n] w fun e w' => e = .returned (.tuple #[.string (valA L n.toList), .bool (hasA L n.toList)]) ∧ Below w.heap.size w w' := by
  have HB : Below w.heap.size w w := Below.refl _ _
  have H := Lib.hid h
  have HN := Lib.hid hn
  clear h hn
  by_cases hr : rightA L = true
  rotate_left
  · have hr : rightA L = false := by simpa using hr
    have HR : Hid (hasA L n.toList = false) := Lib.hid (by unfold hasA; rw [hr]; rfl)
    have HV : Hid (valA L n.toList = ofL []) := Lib.hid (by unfold valA; rw [HR.out]; rfl)
    go_enter Try.func11, Try.ntmps11
    go_wp2_with (first
      | (go_at_call 19; refine (refrightA_any _ _ _ L _ H.out).mono ?_; rintro e w' ⟨rfl, hb⟩; have HB := HB.trans (hb.mono HB.size); clear hb))
    go_ret2
    exact ⟨by rw [HR.out, HV.out]; rfl, by assumption⟩
  by_cases hnr : rightL n.toList = true
  rotate_left
  · have hnr : rightL n.toList = false := by simpa using hnr
    have HR : Hid (hasA L n.toList = false) := Lib.hid (by unfold hasA; rw [hnr]; simp)
    have HV : Hid (valA L n.toList = ofL []) := Lib.hid (by unfold valA; rw [HR.out]; rfl)
    go_enter Try.func11, Try.ntmps11
    go_wp2_with (first
      | (go_at_call 19; refine (refrightA_any _ _ _ L _ H.out).mono ?_; rintro e w' ⟨rfl, hb⟩; have HB := HB.trans (hb.mono HB.size); clear hb)
      | (go_at_call 25; refine (refright_any _ _ HN.out).mono ?_; rintro e w' ⟨rfl, rfl⟩))
    go_ret2
    exact ⟨by rw [HR.out, HV.out]; rfl, by assumption⟩
  have HS := Lib.hid (small40 hnr)
  by_cases hp : placeA L n.toList < L.length
  · have hat := atL_place hp
    have hp' : placeA L n.toList < len := by rw [← H.out.hlen]; exact hp
    obtain ⟨b, off, xn, xv, rfl, hblt, hx, hc1, hc2, _, _⟩ := H.out.get hp'
    have HR : Hid (hasA L n.toList = true) := Lib.hid (by unfold hasA; rw [hr, hnr, decide_eq_true hp]; rfl)
    have HV : Hid (valA L n.toList = xv) := Lib.hid (by unfold valA; rw [HR.out, hx]; rfl)
    obtain ⟨p, hpp⟩ : ∃ p, placeA L n.toList = p := ⟨_, rfl⟩
    rw [hpp] at hat hp' hc1 hc2
    clear hpp hx hp
    go_enter Try.func11, Try.ntmps11
    go_wp2_with (first
      | (go_at_call 19; refine (refrightA_any _ _ _ L _ H.out).mono ?_; rintro e w' ⟨rfl, hb⟩; have HB := HB.trans (hb.mono HB.size); clear hb)
      | (go_at_call 25; refine (refright_any _ _ HN.out).mono ?_; rintro e w' ⟨rfl, rfl⟩)
      | (go_at_call 26; refine (refsmall_any _ _ HS.out).mono ?_; rintro e w' ⟨rfl, hb⟩; have HB := HB.trans (hb.mono HB.size); clear hb; have hd := (HB.cell (p := ⟨b, off + p * 2 + 1, none⟩) hblt).trans hc2)
      | (go_at_call 21; refine (refat_any _ _ _ L _ _ (H.out.below HB)).mono ?_; rintro e w' ⟨rfl, rfl⟩))
    go_ret2
    exact ⟨by rw [HR.out, HV.out]; rfl, by assumption⟩
  · have hat := atL_noplace hp
    have HR : Hid (hasA L n.toList = false) := Lib.hid (by unfold hasA; rw [decide_eq_false hp]; simp)
    have HV : Hid (valA L n.toList = ofL []) := Lib.hid (by unfold valA; rw [HR.out]; rfl)
    clear hp
    go_enter Try.func11, Try.ntmps11
    go_wp2_with (first
      | (go_at_call 19; refine (refrightA_any _ _ _ L _ H.out).mono ?_; rintro e w' ⟨rfl, hb⟩; have HB := HB.trans (hb.mono HB.size); clear hb)
      | (go_at_call 25; refine (refright_any _ _ HN.out).mono ?_; rintro e w' ⟨rfl, rfl⟩)
      | (go_at_call 26; refine (refsmall_any _ _ HS.out).mono ?_; rintro e w' ⟨rfl, hb⟩; have HB := HB.trans (hb.mono HB.size); clear hb)
      | (go_at_call 21; refine (refat_any _ _ _ L _ _ (H.out.below HB)).mono ?_; rintro e w' ⟨rfl, rfl⟩))
    go_ret2
    exact ⟨by rw [HR.out, HV.out]; rfl, by assumption⟩
end Go.Proofs.Ytmofeddldcifbaa
