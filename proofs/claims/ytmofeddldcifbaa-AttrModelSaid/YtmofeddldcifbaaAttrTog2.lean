/- Package attr's Toggle. -/
import Derived.Test.YtmofeddldcifbaaAttrRem2
namespace Go.Proofs.Ytmofeddldcifbaa
open Go.RowKit
theorem has_of {L : AL} {n : List UInt8} (hr : rightA L = true) (hn : rightL n = true) : hasA L n = decide (placeA L n < L.length) := by
  unfold hasA
  rw [hr, hn]
  rfl
set_option maxHeartbeats 16000000 in
set_option maxRecDepth 100000 in
theorem attrtog_any (a : Option Addr) (len cap : Nat) (L : AL) (n : ByteArray) (f : Int) (w : World) (h : AttrRow w a len cap L) (hn : n.size ≤ maxLen) (hlen : L.length ≤ 1000) :
    Calls Try.prog 16 #[.slice a len cap, .string n, .int .i64 f] w (TogNew w (togA L n.toList f) (togB L n.toList f) (togE L n.toList f)) := by
  have H := Lib.hid h
  have HN := Lib.hid hn
  have HLN := Lib.hid hlen
  have HL := Lib.hid h.hlen
  have hl40 : len ≤ 1000 := by rw [← h.hlen]; exact hlen
  have C1 := Lib.hid (find_any a len cap L n w h hn)
  have CC : Hid (∀ W, Below w.heap.size w W → Calls Try.prog 28 #[.slice a len cap] W fun e w' => ∃ v, e = .returned v ∧ w'.ownsRow w.heap.size 41 2 v len (L.flatMap encA) ∧ Below w.heap.size w w') := Lib.hid (fun W hb => clone_own a len cap L w W h (by omega) hb)
  by_cases hg : (rightA L && rightL n.toList) = true
  rotate_left
  · have hg : (rightA L && rightL n.toList) = false := by simpa using hg
    have EA : Hid (togA L n.toList f = L) := Lib.hid (by unfold togA; rw [hg]; rfl)
    have EB : Hid (togB L n.toList f = false) := Lib.hid (by unfold togB; rw [hg]; rfl)
    have EE : Hid (findE L n.toList = togE L n.toList f ∧ ¬ togE L n.toList f = 0) := Lib.hid (by
      unfold findE togE
      revert hg
      cases rightA L <;> cases rightL n.toList <;> simp)
    obtain ⟨z, hz⟩ : ∃ z, togE L n.toList f = z := ⟨_, rfl⟩
    have C2 := C1.out
    rw [EE.out.1, hz] at C2
    have C3 := Lib.hid C2
    have z0 : ¬ z = 0 := by rw [← hz]; exact EE.out.2
    have z1 : (z == 0) = false := beq_eq_false_iff_ne.2 z0
    have z2 : (z != 0) = true := by unfold bne; rw [z1]; rfl
    have HZ := Lib.hid hz
    clear h hn hg hlen C1 C2 z0 hz
    go_enter Try.func16, Try.ntmps16
    go_wp2_with (first
      | (go_at_call 24; refine C3.out.mono ?_; rintro e w' ⟨rfl, HB⟩)
      | (go_at_call 28; refine (CC.out _ HB).mono ?_; rintro e w' ⟨v2, rfl, hown, HB2⟩; have HO := Lib.hid hown; clear hown))
    go_ret3
    rw [EA.out, EB.out, HZ.out]
    exact TogNew.mk rfl HL.out HO.out H.out.small HB2
  obtain ⟨hr, hnr⟩ : rightA L = true ∧ rightL n.toList = true := by simpa using hg
  obtain ⟨F1, F2, F3⟩ := find_ok hr hnr
  have C2 := C1.out
  rw [F1, F2, F3] at C2
  by_cases hp : placeA L n.toList < L.length
  · have HR : hasA L n.toList = true := by rw [has_of hr hnr, decide_eq_true hp]
    have hat := atL_place hp
    have hp' : placeA L n.toList < len := by rw [← h.hlen]; exact hp
    rw [hat] at C2
    obtain ⟨p, hpp⟩ : ∃ p, placeA L n.toList = p := ⟨_, rfl⟩
    rw [hpp] at C2 hp'
    have C3 := Lib.hid C2
    have z1 : ((p : Int) == -1) = false := beq_eq_false_iff_ne.2 (by omega)
    have z2 : ((p : Int) != -1) = true := by unfold bne; rw [z1]; rfl
    by_cases hf : 0 < f
    · have EA : Hid (togA L n.toList f = L) := Lib.hid (by unfold togA; rw [hr, hnr, HR, if_pos hf]; rfl)
      have EB : Hid (togB L n.toList f = true) := Lib.hid (by unfold togB; rw [hr, hnr, HR, decide_eq_true hf]; rfl)
      have EE : Hid (togE L n.toList f = 0) := Lib.hid (by unfold togE; rw [hr, hnr, HR]; rfl)
      have y1 : decide (f ≤ 0) = false := decide_eq_false (by omega)
      clear h hn hg hlen C1 C2 hr hnr F1 F2 F3 hp HR hat hpp hf
      go_enter Try.func16, Try.ntmps16
      go_wp2_with (first
        | (go_at_call 24; refine C3.out.mono ?_; rintro e w' ⟨rfl, HB⟩)
        | (go_at_call 28; refine (CC.out _ HB).mono ?_; rintro e w' ⟨v2, rfl, hown, HB2⟩; have HO := Lib.hid hown; clear hown))
      go_ret3
      rw [EA.out, EB.out, EE.out]
      exact TogNew.mk rfl HL.out HO.out H.out.small HB2
    · have EA : Hid (togA L n.toList f = remA L n.toList) := Lib.hid (by unfold togA; rw [hr, hnr, HR, if_neg hf]; rfl)
      have EB : Hid (togB L n.toList f = false) := Lib.hid (by unfold togB; rw [hr, hnr, HR, decide_eq_false hf]; rfl)
      have EE : Hid (togE L n.toList f = 0) := Lib.hid (by unfold togE; rw [hr, hnr, HR]; rfl)
      have y1 : decide (f ≤ 0) = true := decide_eq_true (by omega)
      clear h hn hg hlen C1 C2 hr hnr F1 F2 F3 hp HR hat hpp hf
      go_enter Try.func16, Try.ntmps16
      go_wp2_with (first
        | (go_at_call 24; refine C3.out.mono ?_; rintro e w' ⟨rfl, HB⟩)
        | (go_at_call 14; refine (attrrem_any a len cap L n _ (H.out.below HB) HN.out HLN.out).mono ?_; rintro e w' ⟨a2, len2, cap2, rfl, hrow, hb, hnew⟩; have HROW := Lib.hid hrow; have HNEW := Lib.hid hnew; have HB2 := Lib.hid hb; clear hrow hnew hb))
      go_ret3
      rw [EA.out, EB.out, EE.out]
      exact ⟨_, _, _, rfl, HROW.out, HB.trans (HB2.out.mono HB.size), fun b off he => Nat.le_trans HB.size (HNEW.out b off he)⟩
  · have HR : hasA L n.toList = false := by rw [has_of hr hnr, decide_eq_false hp]
    have hat := atL_noplace hp
    rw [hat] at C2
    have C3 := Lib.hid C2
    by_cases hf : f < 0
    · have EA : Hid (togA L n.toList f = L) := Lib.hid (by unfold togA; rw [hr, hnr, HR, if_pos hf]; rfl)
      have EB : Hid (togB L n.toList f = false) := Lib.hid (by unfold togB; rw [hr, hnr, HR, if_pos hf]; rfl)
      have EE : Hid (togE L n.toList f = 0) := Lib.hid (by unfold togE; rw [hr, hnr, HR, if_pos hf]; rfl)
      have y1 : decide (0 ≤ f) = false := decide_eq_false (by omega)
      clear h hn hg hlen C1 C2 hr hnr F1 F2 F3 hp HR hat hf
      go_enter Try.func16, Try.ntmps16
      go_wp2_with (first
        | (go_at_call 24; refine C3.out.mono ?_; rintro e w' ⟨rfl, HB⟩)
        | (go_at_call 28; refine (CC.out _ HB).mono ?_; rintro e w' ⟨v2, rfl, hown, HB2⟩; have HO := Lib.hid hown; clear hown))
      go_ret3
      rw [EA.out, EB.out, EE.out]
      exact TogNew.mk rfl HL.out HO.out H.out.small HB2
    · have EA : Hid (togA L n.toList f = setA L n.toList (ofL [])) := Lib.hid (by unfold togA; rw [hr, hnr, HR, if_neg hf]; rfl)
      have EB : Hid (togB L n.toList f = (setE L n.toList (ofL []) == 0)) := Lib.hid (by unfold togB; rw [hr, hnr, HR, if_neg hf]; rfl)
      have EE : Hid (togE L n.toList f = setE L n.toList (ofL [])) := Lib.hid (by unfold togE; rw [hr, hnr, HR, if_neg hf]; rfl)
      have y1 : decide (0 ≤ f) = true := decide_eq_true (by omega)
      have HZ : Hid (ofL [] = ⟨#[]⟩) := Lib.hid rfl
      obtain ⟨z, hz⟩ : ∃ z, setE L n.toList (ofL []) = z := ⟨_, rfl⟩
      have C4 : Hid (∀ W, AttrRow W a len cap L → Calls Try.prog 12 #[.slice a len cap, .string n, .string ⟨#[]⟩] W (SetNew W (setA L n.toList (ofL [])) z)) := Lib.hid (fun W hW => by
        have := attrset_any a len cap L n ⟨#[]⟩ W hW HN.out (by decide) HLN.out
        rw [← HZ.out, hz] at this
        exact this)
      have HZ2 := Lib.hid hz
      clear h hn hg hlen C1 C2 hr hnr F1 F2 F3 hp HR hat hf hz
      go_enter Try.func16, Try.ntmps16
      go_wp2_with (first
        | (go_at_call 24; refine C3.out.mono ?_; rintro e w' ⟨rfl, HB⟩)
        | (go_at_call 12; refine (C4.out _ (H.out.below HB)).mono ?_; rintro e w' ⟨a2, len2, cap2, rfl, hrow, hb, hnew⟩; have HROW := Lib.hid hrow; have HNEW := Lib.hid hnew; have HB2 := Lib.hid hb; clear hrow hnew hb))
      go_ret3
      rw [EA.out, EB.out, EE.out, HZ2.out]
      exact ⟨_, _, _, rfl, HROW.out, HB.trans (HB2.out.mono HB.size), fun b off he => Nat.le_trans HB.size (HNEW.out b off he)⟩
end Go.Proofs.Ytmofeddldcifbaa
