/- instarref02's Remove and Toggle. -/
import Derived.Test.YtmofeddldcifbaaAttrSet
import Derived.Test.YtmofeddldcifbaaExt
namespace Go.Proofs.Ytmofeddldcifbaa
open Go.RowKit
/-- A call that hands back a list of attributes and a truth. -/
def RemPost (w : World) (M : AL) (z : Bool) (e : Ending) (w' : World) : Prop := ∃ a len cap, e = .returned (.tuple #[.slice a len cap, .bool z]) ∧ AttrRow w' a len cap M ∧ Below w.heap.size w w'
theorem RemPost.mk {w w' : World} {M : AL} {z : Bool} {e : Ending} {a : Option Addr} {len cap : Nat} (he : e = .returned (.tuple #[.slice a len cap, .bool z])) (h : AttrRow w' a len cap M) (hb : Below w.heap.size w w') : RemPost w M z e w' := ⟨a, len, cap, he, h, hb⟩
def offQ (n : List UInt8) (x : ByteArray × ByteArray) : Bool := !keyIs (smallL n) x
theorem remA_yes {L : AL} {n : List UInt8} (h : hasA L n = true) : remA L n = L.filter (offQ n) := by unfold remA; rw [if_pos h]; rfl
theorem remA_no {L : AL} {n : List UInt8} (h : hasA L n = false) : remA L n = L := by unfold remA; rw [if_neg (by rw [h]; decide)]
theorem filter_step {α : Type} {L : List α} {q : α → Bool} {k : Nat} {x : α} (hx : L[k]? = some x) : (L.take (k + 1)).filter q = (L.take k).filter q ++ (if q x then [x] else []) := by
  obtain ⟨hl, hg⟩ := List.getElem?_eq_some_iff.1 hx
  rw [List.take_succ_eq_append_getElem hl, hg, List.filter_append]
  congr 1
  rw [List.filter_cons]
  rfl
theorem hasA_right {L : AL} {n : List UInt8} (h : hasA L n = true) : rightA L = true ∧ rightL n = true ∧ placeA L n < L.length := by
  unfold hasA at h
  simpa [and_assoc] using h

set_option maxHeartbeats 16000000 in
set_option maxRecDepth 100000 in
theorem refrem_any (a : Option Addr) (len cap : Nat) (L : AL) (n : ByteArray) (w : World) (h : AttrRow w a len cap L) (hn : n.size ≤ maxLen) :
    Calls Try.prog 15 #[.slice a len cap, .string n] w (RemPost w (remA L n.toList) (hasA L n.toList)) := by
  have HB : Below w.heap.size w w := Below.refl _ _
  have H := Lib.hid h
  have HN := Lib.hid hn
  have hl64 := h.len64
  clear h hn
  by_cases hh : hasA L n.toList = true
  rotate_left
  · have hh : hasA L n.toList = false := by simpa using hh
    have HM := Lib.hid (remA_no hh)
    go_enter Try.func15, Try.ntmps15
    go_wp2_with (first
      | (go_at_call 11; refine (refget_any _ _ _ L _ _ H.out HN.out).mono ?_; rintro e w' ⟨rfl, hb⟩; have HB := HB.trans (hb.mono HB.size); clear hb))
    go_ret2
    rw [HM.out]
    exact RemPost.mk (by rw [hh]; rfl) (H.out.below HB) HB
  obtain ⟨hr, hnr, _⟩ := hasA_right hh
  have HS := Lib.hid (small40 hnr)
  have h40 : len ≤ 40 := by have := ((rightA_iff L).1 hr).1; rw [H.out.hlen] at this; exact this
  have HM := Lib.hid (remA_yes hh)
  obtain ⟨i0, hi0, hz0, hz1, hz2⟩ := info_parts attr_info
  clear hr hnr
  go_enter Try.func15, Try.ntmps15
  go_wp2_with (first
    | (go_at_call 11; refine (refget_any _ _ _ L _ _ H.out HN.out).mono ?_; rintro e w' ⟨rfl, hb⟩; have HB := HB.trans (hb.mono HB.size); clear hb))
  go_loopw [8, 9] (fun o i wr => ∃ k m : Nat, k ≤ len ∧ i = .int .i64 k ∧ Hid (wr.ownsRow w.heap.size 41 2 o m (((L.take k).filter (offQ n.toList)).flatMap encA)) ∧ Hid (((L.take k).filter (offQ n.toList)).length = m) ∧ m ≤ k ∧ Below w.heap.size w wr) (fun _ i _ => len - (intOf i).toNat)
  case atStart => exact ⟨0, 0, Nat.zero_le _, rfl, Lib.hid (World.ownsRow_nil _ _ _ _), Lib.hid rfl, Nat.le_refl _, HB⟩
  case round =>
    obtain ⟨k, m, hk, rfl, HO, HLen, hmk, HBR⟩ := hrel
    by_cases hlt : k < len
    · have h2 := H.out.below HBR
      obtain ⟨b, off, xn, xv, rfl, hblt, hx, hc1, hc2, hs1, hs2⟩ := h2.get hlt
      have HX := Lib.hid hx
      have HF := Lib.hid (filter_step (q := offQ n.toList) hx)
      have E1 := Ext.cell hc1 hblt
      have hbw : b < w.heap.size := by
        obtain ⟨b', off', _, _, ha, hb', _⟩ := H.out.get hlt
        injection ha with ha; injection ha with ha; rw [ha]; exact hb'
      have C2 : Hid (∀ W, Calls Try.prog 26 #[.string n] W fun e w' => e = .returned (.string (ofL (smallL n.toList))) ∧ Below W.heap.size W w') := Lib.hid (fun W => refsmall_any n W HS.out)
      clear hx h2
      by_cases hq : xn.toList = smallL n.toList
      · have s1 : (xn.toList == smallL n.toList) = true := beq_iff_eq.2 hq
        have HQ : Hid (offQ n.toList (xn, xv) = false) := Lib.hid (by unfold offQ keyIs; rw [s1]; rfl)
        clear hq
        go_wp2
        refine wp_region_ext (by kernel_rfl) (by kernel_rfl) ?_
        repeat (go_big_quiet_step (first
          | (go_at_call 26; exact Ext.call_below (C2.out _))))
        refine wpQuiet_nil ?_
        intro w' hw'
        obtain ⟨⟨w1, hb1⟩, hw''⟩ := hw'
        dsimp only at hw''
        subst hw''
        go_wp2
        go_roundw
        case rel =>
          refine ⟨k + 1, m, by omega, by go_num, Lib.hid ?_, Lib.hid ?_, by omega, HBR.trans (hb1.mono HBR.size)⟩
          · rw [HF.out, HQ.out]
            simpa using own_below HO.out hb1
          · rw [HF.out, HQ.out]
            simpa using HLen.out
        case measure => simp [intOf]; omega
      · have s1 : (xn.toList == smallL n.toList) = false := beq_eq_false_iff_ne.2 hq
        have HQ : Hid (offQ n.toList (xn, xv) = true) := Lib.hid (by unfold offQ keyIs; rw [s1]; rfl)
        clear hq
        go_wp2
        refine wp_region_ext (by kernel_rfl) (by kernel_rfl) ?_
        repeat (go_big_quiet_step (first
          | (go_at_call 26; exact Ext.call_below (C2.out _))))
        refine wpQuiet_nil ?_
        intro w' hw'
        obtain ⟨⟨w1, hb1⟩, hw''⟩ := hw'
        dsimp only at hw''
        subst hw''
        have d1 := (hb1.cell (p := ⟨b, off + k * 2, none⟩) hblt).trans hc1
        have d2 := (hb1.cell (p := ⟨b, off + k * 2 + 1, none⟩) hblt).trans hc2
        have HO2 := Lib.hid (own_below HO.out hb1)
        have HB2 := HBR.trans (hb1.mono HBR.size)
        clear hc1 hc2 E1
        go_wp2_with (first
          | (at_builtin
             refine wpList_append_rows rfl (.tmp 33) (.tmp 38) 22 rfl 41 i0 _ 2 32 Try.underlying22 hi0 hz0 hz1 hz2 rfl (by decide) w.heap.size _ m _ [(xn, xv)] rfl (HO2.out.alloc _) _ 1 1 rfl (own_one _ _ _ _ rfl rfl) (fun x _ => encA_one x) (by unfold maxLen; omega) (by omega) (by have := HB2.size; simp; omega) (fun h => by cases h) ?_
             intro v2 w2 hown2 hg2 hat2
             have HB3 := below_own HB2 HO2.out hg2
             have HO3 := Lib.hid hown2
             clear hown2 hg2 hat2))
        go_roundw
        case rel =>
          refine ⟨k + 1, m + 1, by omega, by go_num, Lib.hid ?_, Lib.hid ?_, by omega, HB3⟩
          · rw [HF.out, HQ.out]
            exact HO3.out
          · rw [HF.out, HQ.out, List.length_append, HLen.out]
            rfl
        case measure => simp [intOf]; omega
    · have HE : Hid (L.take k = L) := Lib.hid (List.take_of_length_le (by have := H.out.hlen; omega))
      have hown := HO.out
      rw [HE.out] at hown
      have hlen := HLen.out
      rw [HE.out] at hlen
      obtain ⟨a2, cap2, rfl, hr2⟩ := AttrRow.of_own hlen hown (fun y hy => H.out.small y (List.mem_filter.1 hy).1)
      have HR2 := Lib.hid hr2
      clear hown hlen hr2
      go_wp2
      go_ret2
      rw [HM.out]
      exact RemPost.mk (by rw [hh]; rfl) HR2.out HBR

/-- A call that hands back a list of attributes, a truth and a number. -/
def TogPost (w : World) (M : AL) (t : Bool) (z : Int) (e : Ending) (w' : World) : Prop := ∃ a len cap, e = .returned (.tuple #[.slice a len cap, .bool t, .int .i64 z]) ∧ AttrRow w' a len cap M ∧ Below w.heap.size w w'
theorem TogPost.mk {w w' : World} {M : AL} {t : Bool} {z : Int} {e : Ending} {a : Option Addr} {len cap : Nat} (he : e = .returned (.tuple #[.slice a len cap, .bool t, .int .i64 z])) (h : AttrRow w' a len cap M) (hb : Below w.heap.size w w') : TogPost w M t z e w' := ⟨a, len, cap, he, h, hb⟩
/-- What Toggle hands back: the list, whether it is there then, the error's number. -/
def togA (L : AL) (n : List UInt8) (f : Int) : AL :=
  if rightA L && rightL n then (if hasA L n then (if 0 < f then L else remA L n) else (if f < 0 then L else setA L n (ofL []))) else L
def togB (L : AL) (n : List UInt8) (f : Int) : Bool :=
  if rightA L && rightL n then (if hasA L n then decide (0 < f) else (if f < 0 then false else (setE L n (ofL []) == 0))) else false
def togE (L : AL) (n : List UInt8) (f : Int) : Int :=
  if rightA L then (if rightL n then (if hasA L n then 0 else (if f < 0 then 0 else setE L n (ofL []))) else 4) else 1
set_option maxHeartbeats 16000000 in
set_option maxRecDepth 100000 in
theorem reftog_any (a : Option Addr) (len cap : Nat) (L : AL) (n : ByteArray) (f : Int) (w : World) (h : AttrRow w a len cap L) (hn : n.size ≤ maxLen) :
    Calls Try.prog 17 #[.slice a len cap, .string n, .int .i64 f] w (TogPost w (togA L n.toList f) (togB L n.toList f) (togE L n.toList f)) := by
  have HB : Below w.heap.size w w := Below.refl _ _
  have H := Lib.hid h
  have HN := Lib.hid hn
  clear h hn
  by_cases hr : rightA L = true
  rotate_left
  · have hr : rightA L = false := by simpa using hr
    have HA : Hid (togA L n.toList f = L) := Lib.hid (by unfold togA; rw [hr]; rfl)
    have HT : Hid (togB L n.toList f = false) := Lib.hid (by unfold togB; rw [hr]; rfl)
    have HE : Hid (togE L n.toList f = 1) := Lib.hid (by unfold togE; rw [hr]; rfl)
    go_enter Try.func17, Try.ntmps17
    go_wp2_with (first
      | (go_at_call 19; refine (refrightA_any _ _ _ L _ H.out).mono ?_; rintro e w' ⟨rfl, hb⟩; have HB := HB.trans (hb.mono HB.size); clear hb))
    go_ret3
    rw [HA.out, HT.out, HE.out]
    exact TogPost.mk rfl (H.out.below HB) HB
  by_cases hnr : rightL n.toList = true
  rotate_left
  · have hnr : rightL n.toList = false := by simpa using hnr
    have HA : Hid (togA L n.toList f = L) := Lib.hid (by unfold togA; rw [hnr]; simp)
    have HT : Hid (togB L n.toList f = false) := Lib.hid (by unfold togB; rw [hnr]; simp)
    have HE : Hid (togE L n.toList f = 4) := Lib.hid (by unfold togE; rw [hr, hnr]; rfl)
    go_enter Try.func17, Try.ntmps17
    go_wp2_with (first
      | (go_at_call 19; refine (refrightA_any _ _ _ L _ H.out).mono ?_; rintro e w' ⟨rfl, hb⟩; have HB := HB.trans (hb.mono HB.size); clear hb)
      | (go_at_call 25; refine (refright_any _ _ HN.out).mono ?_; rintro e w' ⟨rfl, rfl⟩))
    go_ret3
    rw [HA.out, HT.out, HE.out]
    exact TogPost.mk rfl (H.out.below HB) HB
  by_cases hh : hasA L n.toList = true
  · by_cases hf : 0 < f
    · have HA : Hid (togA L n.toList f = L) := Lib.hid (by unfold togA; rw [hr, hnr, hh, if_pos hf]; rfl)
      have HT : Hid (togB L n.toList f = true) := Lib.hid (by unfold togB; rw [hr, hnr, hh, decide_eq_true hf]; rfl)
      have HE : Hid (togE L n.toList f = 0) := Lib.hid (by unfold togE; rw [hr, hnr, hh]; rfl)
      go_enter Try.func17, Try.ntmps17
      go_wp2_with (first
        | (go_at_call 19; refine (refrightA_any _ _ _ L _ H.out).mono ?_; rintro e w' ⟨rfl, hb⟩; have HB := HB.trans (hb.mono HB.size); clear hb)
        | (go_at_call 25; refine (refright_any _ _ HN.out).mono ?_; rintro e w' ⟨rfl, rfl⟩)
        | (go_at_call 11; refine (refget_any _ _ _ L _ _ (H.out.below HB) HN.out).mono ?_; rintro e w' ⟨rfl, hb⟩; have HB := HB.trans (hb.mono HB.size); clear hb))
      go_ret3
      rw [HA.out, HT.out, HE.out]
      exact TogPost.mk rfl (H.out.below HB) HB
    · have HA : Hid (togA L n.toList f = remA L n.toList) := Lib.hid (by unfold togA; rw [hr, hnr, hh, if_neg hf]; rfl)
      have HT : Hid (togB L n.toList f = false) := Lib.hid (by unfold togB; rw [hr, hnr, hh, decide_eq_false hf]; rfl)
      have HE : Hid (togE L n.toList f = 0) := Lib.hid (by unfold togE; rw [hr, hnr, hh]; rfl)
      go_enter Try.func17, Try.ntmps17
      go_wp2_with (first
        | (go_at_call 19; refine (refrightA_any _ _ _ L _ H.out).mono ?_; rintro e w' ⟨rfl, hb⟩; have HB := HB.trans (hb.mono HB.size); clear hb)
        | (go_at_call 25; refine (refright_any _ _ HN.out).mono ?_; rintro e w' ⟨rfl, rfl⟩)
        | (go_at_call 11; refine (refget_any _ _ _ L _ _ (H.out.below HB) HN.out).mono ?_; rintro e w' ⟨rfl, hb⟩; have HB := HB.trans (hb.mono HB.size); clear hb)
        | (go_at_call 15; refine (refrem_any _ _ _ L _ _ (H.out.below HB) HN.out).mono ?_; rintro e w' ⟨a2, len2, cap2, rfl, hr2, hb⟩; have HR2 := Lib.hid hr2; have HB := HB.trans (hb.mono HB.size); clear hb hr2))
      go_ret3
      rw [HA.out, HT.out, HE.out]
      exact TogPost.mk rfl HR2.out HB
  · have hh : hasA L n.toList = false := by simpa using hh
    by_cases hf : f < 0
    · have HA : Hid (togA L n.toList f = L) := Lib.hid (by unfold togA; rw [hr, hnr, hh, if_pos hf]; rfl)
      have HT : Hid (togB L n.toList f = false) := Lib.hid (by unfold togB; rw [hr, hnr, hh, if_pos hf]; rfl)
      have HE : Hid (togE L n.toList f = 0) := Lib.hid (by unfold togE; rw [hr, hnr, hh, if_pos hf]; rfl)
      go_enter Try.func17, Try.ntmps17
      go_wp2_with (first
        | (go_at_call 19; refine (refrightA_any _ _ _ L _ H.out).mono ?_; rintro e w' ⟨rfl, hb⟩; have HB := HB.trans (hb.mono HB.size); clear hb)
        | (go_at_call 25; refine (refright_any _ _ HN.out).mono ?_; rintro e w' ⟨rfl, rfl⟩)
        | (go_at_call 11; refine (refget_any _ _ _ L _ _ (H.out.below HB) HN.out).mono ?_; rintro e w' ⟨rfl, hb⟩; have HB := HB.trans (hb.mono HB.size); clear hb))
      go_ret3
      rw [HA.out, HT.out, HE.out]
      exact TogPost.mk rfl (H.out.below HB) HB
    · have HA : Hid (togA L n.toList f = setA L n.toList (ofL [])) := Lib.hid (by unfold togA; rw [hr, hnr, hh, if_neg hf]; rfl)
      have HT : Hid (togB L n.toList f = (setE L n.toList (ofL []) == 0)) := Lib.hid (by unfold togB; rw [hr, hnr, hh, if_neg hf]; rfl)
      have HE : Hid (togE L n.toList f = setE L n.toList (ofL [])) := Lib.hid (by unfold togE; rw [hr, hnr, hh, if_neg hf]; rfl)
      have HZ : Hid (ofL [] = ⟨#[]⟩) := Lib.hid rfl
      obtain ⟨z, hz⟩ : ∃ z, setE L n.toList (ofL []) = z := ⟨_, rfl⟩
      have C4 : Hid (∀ W, AttrRow W a len cap L → Calls Try.prog 13 #[.slice a len cap, .string n, .string ⟨#[]⟩] W (SetPost W (setA L n.toList (ofL [])) z)) := Lib.hid (fun W hW => by
        have := refset_any a len cap L n ⟨#[]⟩ W hW HN.out (by decide)
        rw [← HZ.out, hz] at this
        exact this)
      have HZ2 := Lib.hid hz
      clear hz
      go_enter Try.func17, Try.ntmps17
      go_wp2_with (first
        | (go_at_call 19; refine (refrightA_any _ _ _ L _ H.out).mono ?_; rintro e w' ⟨rfl, hb⟩; have HB := HB.trans (hb.mono HB.size); clear hb)
        | (go_at_call 25; refine (refright_any _ _ HN.out).mono ?_; rintro e w' ⟨rfl, rfl⟩)
        | (go_at_call 11; refine (refget_any _ _ _ L _ _ (H.out.below HB) HN.out).mono ?_; rintro e w' ⟨rfl, hb⟩; have HB := HB.trans (hb.mono HB.size); clear hb)
        | (go_at_call 13; refine (C4.out _ (H.out.below HB)).mono ?_; rintro e w' ⟨a2, len2, cap2, rfl, hr2, hb⟩; have HR2 := Lib.hid hr2; have HB := HB.trans (hb.mono HB.size); clear hb hr2))
      go_ret3
      rw [HA.out, HT.out, HE.out, HZ2.out]
      exact TogPost.mk rfl HR2.out HB
end Go.Proofs.Ytmofeddldcifbaa
