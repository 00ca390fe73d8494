/- Texts joined in build order: AttrSet AttrRem AttrFind AttrClone AttrDelete AttrMath AttrSet2 ForestClone. -/
import Derived.Test.YtiffhlncnpppoaaGreatDoorM04
import Derived.Laws.OwnMore
import Derived.Test.YtiffhlncnpppoaaGreatDoorM01
import Derived.Test.YtiffhlncnpppoaaGreatDoorM02
import Derived.Lib.SliceRun
import Derived.Deep.RegionLaw
import Derived.Laws.IdiomCopy
import Derived.Deep.MidRow
import Derived.Deep.RegionHeld3
import Derived.Deep.DrawnRows
namespace Go.Proofs.YtiffhlncnpppoaaGreatDoor
open Go.RowKit
def SetPost (w : World) (M : AL) (z : Int) (e : Ending) (w' : World) : Prop := ∃ a len cap, e = .returned (.tuple #[.slice a len cap, .int .i64 z]) ∧ AttrRow w' a len cap M ∧ Below w.heap.size w w'
theorem SetPost.mk {w w' : World} {M : AL} {z : Int} {e : Ending} {a : Option Addr} {len cap : Nat} (he : e = .returned (.tuple #[.slice a len cap, .int .i64 z])) (h : AttrRow w' a len cap M) (hb : Below w.heap.size w w') : SetPost w M z e w' := ⟨a, len, cap, he, h, hb⟩
theorem attr_info : (Tryz.prog.info? 160).map (fun i => (i.zero, i.size, i.bytes)) = some (some (.agg #[.string ⟨#[]⟩, .string ⟨#[]⟩]), 2, 32) := by kernel_rfl
theorem AttrRow.of_own {w : World} {base : Nat} {v : Value} {n : Nat} {M : AL} (hl : M.length = n) (h : w.ownsRow base 160 2 v n (M.flatMap encA)) (hs : ∀ x ∈ M, x.1.size ≤ maxLen ∧ x.2.size ≤ maxLen) :
    ∃ a cap, v = .slice a n cap ∧ AttrRow w a n cap M := by
  rcases h.2 with ⟨rfl, h0⟩ | ⟨g, cap, cur, rfl, _⟩
  · subst h0
    have hL : M = [] := List.eq_nil_of_length_eq_zero hl
    subst hL
    exact ⟨none, 0, rfl, SRow.nil, hs, fun _ => rfl⟩
  · obtain ⟨a, cap', he, hr, _⟩ := SRow.of_own (fun x _ => encA_len x) hl h
    injection he with h1 h2 h3
    subst h1; subst h3
    exact ⟨_, _, rfl, hr, hs, fun h => by cases h⟩
theorem set_flat {M : AL} {p : Nat} {x y : ByteArray × ByteArray} (hx : M[p]? = some x) (hn : y.1 = x.1) : (M.set p y).flatMap encA = (M.flatMap encA).set (p * 2 + 1) (.string y.2) := by
  induction M generalizing p with
  | nil => simp at hx
  | cons z r ih =>
    cases p with
    | zero =>
      simp at hx; subst hx
      simp [encA, hn]
    | succ p =>
      have := ih (p := p) (by simpa using hx)
      have e : (p + 1) * 2 + 1 = p * 2 + 1 + 1 + 1 := by omega
      rw [List.set_cons_succ, List.flatMap_cons, List.flatMap_cons, this, e]
      simp [encA]
set_option maxHeartbeats 16000000 in
set_option maxRecDepth 100000 in
theorem refset_any (a : Option Addr) (len cap : Nat) (L : AL) (n v : ByteArray) (w : World) (h : AttrRow w a len cap L) (hn : n.size ≤ maxLen) (hv : v.size ≤ maxLen) :
    Calls Tryz.prog 79 #[.slice a len cap, .string n, .string v] w (SetPost w (setA L n.toList v) (setE L n.toList v)) := by
  have HB : Below w.heap.size w w := Below.refl _ _
  have H := Lib.hid h
  have HN := Lib.hid hn
  have HVS := Lib.hid hv
  have hl64 := h.len64
  have hv64 : v.size ≤ 9223372036854775807 := by unfold maxLen at hv; omega
  clear h hn hv
  by_cases hr : rightA L = true
  rotate_left
  · have hr : rightA L = false := by simpa using hr
    have HE : Hid (setE L n.toList v = 1) := Lib.hid (by unfold setE; rw [hr]; rfl)
    have HM : Hid (setA L n.toList v = L) := Lib.hid (by unfold setA; rw [HE.out]; rfl)
    go_enter Tryz.func79, Tryz.ntmps79
    go_wp2_with (first
      | (go_at_call 124; refine (refrightA_any _ _ _ L _ H.out).mono ?_; rintro e w' ⟨rfl, hb⟩; have HB := HB.trans (hb.mono HB.size); clear hb))
    go_ret2
    rw [HE.out, HM.out]
    exact SetPost.mk rfl (H.out.below HB) HB
  by_cases hnr : rightL n.toList = true
  rotate_left
  · have hnr : rightL n.toList = false := by simpa using hnr
    have HE : Hid (setE L n.toList v = 4) := Lib.hid (by unfold setE; rw [hr, hnr]; rfl)
    have HM : Hid (setA L n.toList v = L) := Lib.hid (by unfold setA; rw [HE.out]; rfl)
    go_enter Tryz.func79, Tryz.ntmps79
    go_wp2_with (first
      | (go_at_call 124; refine (refrightA_any _ _ _ L _ H.out).mono ?_; rintro e w' ⟨rfl, hb⟩; have HB := HB.trans (hb.mono HB.size); clear hb)
      | (go_at_call 81; refine (refright_any _ _ HN.out).mono ?_; rintro e w' ⟨rfl, rfl⟩))
    go_ret2
    rw [HE.out, HM.out]
    exact SetPost.mk rfl (H.out.below HB) HB
  have HS := Lib.hid (small40 hnr)
  have h40 : len ≤ 40 := by have := ((rightA_iff L).1 hr).1; rw [H.out.hlen] at this; exact this
  by_cases hlg : longA L n.toList v = true
  · have HE : Hid (setE L n.toList v = 3) := Lib.hid (by unfold setE; rw [hr, hnr, hlg]; rfl)
    have HM : Hid (setA L n.toList v = L) := Lib.hid (by unfold setA; rw [HE.out]; rfl)
    have hcase : 200 < v.size ∨ (¬ placeA L n.toList < L.length ∧ 40 ≤ len) := by
      unfold longA at hlg
      rw [H.out.hlen] at hlg
      simp at hlg
      rw [H.out.hlen]
      omega
    clear hlg
    by_cases hp : placeA L n.toList < L.length
    · have hat := atL_place hp
      have hbig : (200 : Int) < (v.size : Int) := by omega
      clear hcase hp
      go_enter Tryz.func79, Tryz.ntmps79
      go_wp2_with (first
        | (go_at_call 124; refine (refrightA_any _ _ _ L _ H.out).mono ?_; rintro e w' ⟨rfl, hb⟩; have HB := HB.trans (hb.mono HB.size); clear hb)
        | (go_at_call 81; refine (refright_any _ _ HN.out).mono ?_; rintro e w' ⟨rfl, rfl⟩)
        | (go_at_call 122; refine (refsmall_any _ _ HS.out).mono ?_; rintro e w' ⟨rfl, hb⟩; have HB := HB.trans (hb.mono HB.size); clear hb)
        | (go_at_call 138; refine (refat_any _ _ _ L _ _ (H.out.below HB)).mono ?_; rintro e w' ⟨rfl, rfl⟩))
      go_ret2
      rw [HE.out, HM.out]
      exact SetPost.mk rfl (H.out.below HB) HB
    · have hat := atL_noplace hp
      by_cases hbig : (200 : Int) < (v.size : Int)
      · clear hcase hp
        go_enter Tryz.func79, Tryz.ntmps79
        go_wp2_with (first
          | (go_at_call 124; refine (refrightA_any _ _ _ L _ H.out).mono ?_; rintro e w' ⟨rfl, hb⟩; have HB := HB.trans (hb.mono HB.size); clear hb)
          | (go_at_call 81; refine (refright_any _ _ HN.out).mono ?_; rintro e w' ⟨rfl, rfl⟩)
          | (go_at_call 122; refine (refsmall_any _ _ HS.out).mono ?_; rintro e w' ⟨rfl, hb⟩; have HB := HB.trans (hb.mono HB.size); clear hb)
          | (go_at_call 138; refine (refat_any _ _ _ L _ _ (H.out.below HB)).mono ?_; rintro e w' ⟨rfl, rfl⟩))
        go_ret2
        rw [HE.out, HM.out]
        exact SetPost.mk rfl (H.out.below HB) HB
      · have hfull : (40 : Int) ≤ (len : Int) := by omega
        clear hcase hp
        go_enter Tryz.func79, Tryz.ntmps79
        go_wp2_with (first
          | (go_at_call 124; refine (refrightA_any _ _ _ L _ H.out).mono ?_; rintro e w' ⟨rfl, hb⟩; have HB := HB.trans (hb.mono HB.size); clear hb)
          | (go_at_call 81; refine (refright_any _ _ HN.out).mono ?_; rintro e w' ⟨rfl, rfl⟩)
          | (go_at_call 122; refine (refsmall_any _ _ HS.out).mono ?_; rintro e w' ⟨rfl, hb⟩; have HB := HB.trans (hb.mono HB.size); clear hb)
          | (go_at_call 138; refine (refat_any _ _ _ L _ _ (H.out.below HB)).mono ?_; rintro e w' ⟨rfl, rfl⟩))
        go_ret2
        rw [HE.out, HM.out]
        exact SetPost.mk rfl (H.out.below HB) HB
  have hlg : longA L n.toList v = false := by simpa using hlg
  have HE : Hid (setE L n.toList v = 0) := Lib.hid (by unfold setE; rw [hr, hnr, hlg]; rfl)
  have HM : Hid (setA L n.toList v = setL L n.toList v) := Lib.hid (by unfold setA; rw [HE.out]; rfl)
  have hbig : ¬ (200 : Int) < (v.size : Int) := by
    unfold longA at hlg
    simp at hlg
    omega
  have hroom : placeA L n.toList < L.length ∨ len < 40 := by
    unfold longA at hlg
    rw [H.out.hlen] at hlg
    simp at hlg
    rw [H.out.hlen]
    omega
  clear hlg
  obtain ⟨i0, hi0, hz0, hz1, hz2⟩ := info_parts attr_info
  by_cases hp : placeA L n.toList < L.length
  · have hat := atL_place hp
    have hp' : placeA L n.toList < len := by rw [← H.out.hlen]; exact hp
    obtain ⟨x, hx, hx1⟩ := place_key hp
    have HL : Hid (setL L n.toList v = L.set (placeA L n.toList) (ofL (smallL n.toList), v)) := Lib.hid (by unfold setL; rw [if_pos hp])
    have HX := Lib.hid hx
    have HX1 := Lib.hid hx1
    obtain ⟨p, hpp⟩ : ∃ p, placeA L n.toList = p := ⟨_, rfl⟩
    rw [hpp] at hat hp' HX HL
    clear hpp hx hp hroom hx1
    go_enter Tryz.func79, Tryz.ntmps79
    go_wp2_with (first
      | (go_at_call 124; refine (refrightA_any _ _ _ L _ H.out).mono ?_; rintro e w' ⟨rfl, hb⟩; have HB := HB.trans (hb.mono HB.size); clear hb)
      | (go_at_call 81; refine (refright_any _ _ HN.out).mono ?_; rintro e w' ⟨rfl, rfl⟩)
      | (go_at_call 122; refine (refsmall_any _ _ HS.out).mono ?_; rintro e w' ⟨rfl, hb⟩; have HB := HB.trans (hb.mono HB.size); clear hb)
      | (go_at_call 138; refine (refat_any _ _ _ L _ _ (H.out.below HB)).mono ?_; rintro e w' ⟨rfl, rfl⟩)
      | (at_builtin
         refine wpList_append_rows rfl (.tmp 35) (.tmp 36) 50 rfl 160 i0 _ 2 32 Tryz.underlying50 hi0 hz0 hz1 hz2 rfl (by decide) w.heap.size _ 0 [] L rfl (own_empty _ _ _ HB.size) a len cap rfl (H.out.below (HB.alloc HB.size _)).row (fun x _ => encA_one x) (by unfold maxLen; omega) (by omega) (by have := HB.size; simp; omega) H.out.hnil ?_
         intro v1 w1 hown1 hg1 hat1
         rw [Nat.zero_add, List.nil_append] at hown1
         obtain ⟨g, cap1, rfl, hgb, hglt⟩ := World.ownsRow.form hown1 (by omega)
         have HB := below_new HB hg1
         have hcell : w1.cell? ⟨g, p * 2 + 1, none⟩ = some (.string x.2) := by
           rw [hown1.cellAt (p * 2 + 1) (by omega), flat_get (fun x _ => encA_len x) HX.out (by decide)]
           rfl
         have hfree := hown1.frozenAt (p * 2 + 1)
         have HOWN := Lib.hid hown1
         clear hown1 hg1 hat1))
    go_ret2
    rw [HE.out, HM.out, HL.out]
    have hst := (HOWN.out.stored (p * 2 + 1) (.string v)).1
    rw [← set_flat (y := (ofL (smallL n.toList), v)) HX.out HX1.out.symm] at hst
    obtain ⟨a2, cap2, he2, hr2⟩ := AttrRow.of_own (by rw [List.length_set]; exact H.out.hlen) hst (fun y hy => by
      rcases List.mem_or_eq_of_mem_set hy with hy | rfl
      · exact H.out.small y hy
      · refine ⟨?_, HVS.out⟩
        rw [size_ofL, smallL_length, tl_len]
        exact HN.out)
    injection he2 with h1 h2 h3
    subst h1; subst h3
    exact SetPost.mk rfl hr2 (HB.setCell hgb _)
  · have hat := atL_noplace hp
    have hlt40 : len < 40 := by omega
    have HL : Hid (setL L n.toList v = L ++ [(ofL (smallL n.toList), v)]) := Lib.hid (by unfold setL; rw [if_neg hp])
    clear hp hroom
    go_enter Tryz.func79, Tryz.ntmps79
    go_wp2_with (first
      | (go_at_call 124; refine (refrightA_any _ _ _ L _ H.out).mono ?_; rintro e w' ⟨rfl, hb⟩; have HB := HB.trans (hb.mono HB.size); clear hb)
      | (go_at_call 81; refine (refright_any _ _ HN.out).mono ?_; rintro e w' ⟨rfl, rfl⟩)
      | (go_at_call 122; refine (refsmall_any _ _ HS.out).mono ?_; rintro e w' ⟨rfl, hb⟩; have HC := Lib.hid hb; have HB := HB.trans (hb.mono HB.size); clear hb)
      | (go_at_call 138; refine (refat_any _ _ _ L _ _ (H.out.below HB)).mono ?_; rintro e w' ⟨rfl, rfl⟩)
      | (at_builtin
         refine wpList_append_rows rfl (.tmp 35) (.tmp 36) 50 rfl 160 i0 _ 2 32 Tryz.underlying50 hi0 hz0 hz1 hz2 rfl (by decide) w.heap.size _ 0 [] L rfl (own_empty _ _ _ HB.size) a len cap rfl (H.out.below (HB.alloc HB.size _)).row (fun x _ => encA_one x) (by unfold maxLen; omega) (by omega) (by have := HB.size; simp; omega) H.out.hnil ?_
         intro v1 w1 hown1 hg1 hat1
         rw [Nat.zero_add, List.nil_append] at hown1
         have HB := below_new HB hg1
         have HOWN := Lib.hid hown1
         clear hown1 hg1 hat1)
      | (at_builtin
         refine wpList_append_rows rfl (.tmp 46) (.tmp 51) 50 rfl 160 i0 _ 2 32 Tryz.underlying50 hi0 hz0 hz1 hz2 rfl (by decide) w.heap.size _ len L [(ofL (smallL n.toList), v)] rfl ((own_below HOWN.out HC.out).alloc _) _ 1 1 rfl (own_one _ _ _ _ rfl rfl) (fun x _ => encA_one x) (by unfold maxLen; omega) (by omega) (by have := HB.size; simp; omega) (fun h => by cases h) ?_
         intro v2 w2 hown2 hg2 hat2
         have HB := below_own HB (own_below HOWN.out HC.out) hg2
         have HOWN2 := Lib.hid hown2
         clear hown2 hg2 hat2))
    have hm : ∀ y ∈ L ++ [(ofL (smallL n.toList), v)], y.1.size ≤ maxLen ∧ y.2.size ≤ maxLen := by
      intro y hy
      rcases List.mem_append.1 hy with hy | hy
      · exact H.out.small y hy
      · simp at hy; subst hy
        refine ⟨?_, HVS.out⟩
        rw [size_ofL, smallL_length, tl_len]
        exact HN.out
    obtain ⟨a2, cap2, rfl, hr2⟩ := AttrRow.of_own (by rw [List.length_append, H.out.hlen]; rfl) HOWN2.out hm
    go_ret2
    rw [HE.out, HM.out, HL.out]
    exact SetPost.mk rfl hr2 HB
end Go.Proofs.YtiffhlncnpppoaaGreatDoor
namespace Go.Proofs.YtiffhlncnpppoaaGreatDoor
open Go.RowKit
def RemPost (w : World) (M : AL) (z : Bool) (e : Ending) (w' : World) : Prop := ∃ a len cap, e = .returned (.tuple #[.slice a len cap, .bool z]) ∧ AttrRow w' a len cap M ∧ Below w.heap.size w w'
theorem RemPost.mk {w w' : World} {M : AL} {z : Bool} {e : Ending} {a : Option Addr} {len cap : Nat} (he : e = .returned (.tuple #[.slice a len cap, .bool z])) (h : AttrRow w' a len cap M) (hb : Below w.heap.size w w') : RemPost w M z e w' := ⟨a, len, cap, he, h, hb⟩
def offQ (n : List UInt8) (x : ByteArray × ByteArray) : Bool := !keyIs (smallL n) x
theorem remA_yes {L : AL} {n : List UInt8} (h : hasA L n = true) : remA L n = L.filter (offQ n) := by unfold remA; rw [if_pos h]; rfl
theorem remA_no {L : AL} {n : List UInt8} (h : hasA L n = false) : remA L n = L := by unfold remA; rw [if_neg (by rw [h]; decide)]
theorem filter_step {α : Type} {L : List α} {q : α → Bool} {k : Nat} {x : α} (hx : L[k]? = some x) : (L.take (k + 1)).filter q = (L.take k).filter q ++ (if q x then [x] else []) := by
  obtain ⟨hl, hg⟩ := List.getElem?_eq_some_iff.1 hx
  rw [List.take_succ_eq_append_getElem hl, hg, List.filter_append]
  congr 1
  rw [List.filter_cons]
  rfl
theorem hasA_right {L : AL} {n : List UInt8} (h : hasA L n = true) : rightA L = true ∧ rightL n = true ∧ placeA L n < L.length := by
  unfold hasA at h
  simpa [and_assoc] using h
set_option maxHeartbeats 16000000 in
set_option maxRecDepth 100000 in
theorem refrem_any (a : Option Addr) (len cap : Nat) (L : AL) (n : ByteArray) (w : World) (h : AttrRow w a len cap L) (hn : n.size ≤ maxLen) :
    Calls Tryz.prog 82 #[.slice a len cap, .string n] w (RemPost w (remA L n.toList) (hasA L n.toList)) := by
  have HB : Below w.heap.size w w := Below.refl _ _
  have H := Lib.hid h
  have HN := Lib.hid hn
  have hl64 := h.len64
  clear h hn
  by_cases hh : hasA L n.toList = true
  rotate_left
  · have hh : hasA L n.toList = false := by simpa using hh
    have HM := Lib.hid (remA_no hh)
    go_enter Tryz.func82, Tryz.ntmps82
    go_wp2_with (first
      | (go_at_call 83; refine (refget_any _ _ _ L _ _ H.out HN.out).mono ?_; rintro e w' ⟨rfl, hb⟩; have HB := HB.trans (hb.mono HB.size); clear hb))
    go_ret2
    rw [HM.out]
    exact RemPost.mk (by rw [hh]; rfl) (H.out.below HB) HB
  obtain ⟨hr, hnr, _⟩ := hasA_right hh
  have HS := Lib.hid (small40 hnr)
  have h40 : len ≤ 40 := by have := ((rightA_iff L).1 hr).1; rw [H.out.hlen] at this; exact this
  have HM := Lib.hid (remA_yes hh)
  obtain ⟨i0, hi0, hz0, hz1, hz2⟩ := info_parts attr_info
  clear hr hnr
  go_enter Tryz.func82, Tryz.ntmps82
  go_wp2_with (first
    | (go_at_call 83; refine (refget_any _ _ _ L _ _ H.out HN.out).mono ?_; rintro e w' ⟨rfl, hb⟩; have HB := HB.trans (hb.mono HB.size); clear hb))
  go_loopw [8, 9] (fun o i wr => ∃ k m : Nat, k ≤ len ∧ i = .int .i64 k ∧ Hid (wr.ownsRow w.heap.size 160 2 o m (((L.take k).filter (offQ n.toList)).flatMap encA)) ∧ Hid (((L.take k).filter (offQ n.toList)).length = m) ∧ m ≤ k ∧ Below w.heap.size w wr) (fun _ i _ => len - (intOf i).toNat)
  case atStart => exact ⟨0, 0, Nat.zero_le _, rfl, Lib.hid (World.ownsRow_nil _ _ _ _), Lib.hid rfl, Nat.le_refl _, HB⟩
  case round =>
    obtain ⟨k, m, hk, rfl, HO, HLen, hmk, HBR⟩ := hrel
    by_cases hlt : k < len
    · have h2 := H.out.below HBR
      obtain ⟨b, off, xn, xv, rfl, hblt, hx, hc1, hc2, hs1, hs2⟩ := h2.get hlt
      have HX := Lib.hid hx
      have HF := Lib.hid (filter_step (q := offQ n.toList) hx)
      have E1 := Ext.cell hc1 hblt
      have hbw : b < w.heap.size := by
        obtain ⟨b', off', _, _, ha, hb', _⟩ := H.out.get hlt
        injection ha with ha; injection ha with ha; rw [ha]; exact hb'
      have C2 : Hid (∀ W, Calls Tryz.prog 122 #[.string n] W fun e w' => e = .returned (.string (ofL (smallL n.toList))) ∧ Below W.heap.size W w') := Lib.hid (fun W => refsmall_any n W HS.out)
      clear hx h2
      by_cases hq : xn.toList = smallL n.toList
      · have s1 : (xn.toList == smallL n.toList) = true := beq_iff_eq.2 hq
        have HQ : Hid (offQ n.toList (xn, xv) = false) := Lib.hid (by unfold offQ keyIs; rw [s1]; rfl)
        clear hq
        go_wp2
        refine wp_region_ext (by kernel_rfl) (by kernel_rfl) ?_
        repeat (go_big_quiet_step (first
          | (go_at_call 122; exact Ext.call_below (C2.out _))))
        refine wpQuiet_nil ?_
        intro w' hw'
        obtain ⟨⟨w1, hb1⟩, hw''⟩ := hw'
        dsimp only at hw''
        subst hw''
        go_wp2
        go_roundw
        case rel =>
          refine ⟨k + 1, m, by omega, by go_num, Lib.hid ?_, Lib.hid ?_, by omega, HBR.trans (hb1.mono HBR.size)⟩
          · rw [HF.out, HQ.out]
            simpa using own_below HO.out hb1
          · rw [HF.out, HQ.out]
            simpa using HLen.out
        case measure => simp [intOf]; omega
      · have s1 : (xn.toList == smallL n.toList) = false := beq_eq_false_iff_ne.2 hq
        have HQ : Hid (offQ n.toList (xn, xv) = true) := Lib.hid (by unfold offQ keyIs; rw [s1]; rfl)
        clear hq
        go_wp2
        refine wp_region_ext (by kernel_rfl) (by kernel_rfl) ?_
        repeat (go_big_quiet_step (first
          | (go_at_call 122; exact Ext.call_below (C2.out _))))
        refine wpQuiet_nil ?_
        intro w' hw'
        obtain ⟨⟨w1, hb1⟩, hw''⟩ := hw'
        dsimp only at hw''
        subst hw''
        have d1 := (hb1.cell (p := ⟨b, off + k * 2, none⟩) hblt).trans hc1
        have d2 := (hb1.cell (p := ⟨b, off + k * 2 + 1, none⟩) hblt).trans hc2
        have HO2 := Lib.hid (own_below HO.out hb1)
        have HB2 := HBR.trans (hb1.mono HBR.size)
        clear hc1 hc2 E1
        go_wp2_with (first
          | (at_builtin
             refine wpList_append_rows rfl (.tmp 33) (.tmp 38) 50 rfl 160 i0 _ 2 32 Tryz.underlying50 hi0 hz0 hz1 hz2 rfl (by decide) w.heap.size _ m _ [(xn, xv)] rfl (HO2.out.alloc _) _ 1 1 rfl (own_one _ _ _ _ rfl rfl) (fun x _ => encA_one x) (by unfold maxLen; omega) (by omega) (by have := HB2.size; simp; omega) (fun h => by cases h) ?_
             intro v2 w2 hown2 hg2 hat2
             have HB3 := below_own HB2 HO2.out hg2
             have HO3 := Lib.hid hown2
             clear hown2 hg2 hat2))
        go_roundw
        case rel =>
          refine ⟨k + 1, m + 1, by omega, by go_num, Lib.hid ?_, Lib.hid ?_, by omega, HB3⟩
          · rw [HF.out, HQ.out]
            exact HO3.out
          · rw [HF.out, HQ.out, List.length_append, HLen.out]
            rfl
        case measure => simp [intOf]; omega
    · have HE : Hid (L.take k = L) := Lib.hid (List.take_of_length_le (by have := H.out.hlen; omega))
      have hown := HO.out
      rw [HE.out] at hown
      have hlen := HLen.out
      rw [HE.out] at hlen
      obtain ⟨a2, cap2, rfl, hr2⟩ := AttrRow.of_own hlen hown (fun y hy => H.out.small y (List.mem_filter.1 hy).1)
      have HR2 := Lib.hid hr2
      clear hown hlen hr2
      go_wp2
      go_ret2
      rw [HM.out]
      exact RemPost.mk (by rw [hh]; rfl) HR2.out HBR
def TogPost (w : World) (M : AL) (t : Bool) (z : Int) (e : Ending) (w' : World) : Prop := ∃ a len cap, e = .returned (.tuple #[.slice a len cap, .bool t, .int .i64 z]) ∧ AttrRow w' a len cap M ∧ Below w.heap.size w w'
theorem TogPost.mk {w w' : World} {M : AL} {t : Bool} {z : Int} {e : Ending} {a : Option Addr} {len cap : Nat} (he : e = .returned (.tuple #[.slice a len cap, .bool t, .int .i64 z])) (h : AttrRow w' a len cap M) (hb : Below w.heap.size w w') : TogPost w M t z e w' := ⟨a, len, cap, he, h, hb⟩
def togA (L : AL) (n : List UInt8) (f : Int) : AL :=
  if rightA L && rightL n then (if hasA L n then (if 0 < f then L else remA L n) else (if f < 0 then L else setA L n (ofL []))) else L
def togB (L : AL) (n : List UInt8) (f : Int) : Bool :=
  if rightA L && rightL n then (if hasA L n then decide (0 < f) else (if f < 0 then false else (setE L n (ofL []) == 0))) else false
def togE (L : AL) (n : List UInt8) (f : Int) : Int :=
  if rightA L then (if rightL n then (if hasA L n then 0 else (if f < 0 then 0 else setE L n (ofL []))) else 4) else 1
set_option maxHeartbeats 16000000 in
set_option maxRecDepth 100000 in
theorem reftog_any (a : Option Addr) (len cap : Nat) (L : AL) (n : ByteArray) (f : Int) (w : World) (h : AttrRow w a len cap L) (hn : n.size ≤ maxLen) :
    Calls Tryz.prog 84 #[.slice a len cap, .string n, .int .i64 f] w (TogPost w (togA L n.toList f) (togB L n.toList f) (togE L n.toList f)) := by
  have HB : Below w.heap.size w w := Below.refl _ _
  have H := Lib.hid h
  have HN := Lib.hid hn
  clear h hn
  by_cases hr : rightA L = true
  rotate_left
  · have hr : rightA L = false := by simpa using hr
    have HA : Hid (togA L n.toList f = L) := Lib.hid (by unfold togA; rw [hr]; rfl)
    have HT : Hid (togB L n.toList f = false) := Lib.hid (by unfold togB; rw [hr]; rfl)
    have HE : Hid (togE L n.toList f = 1) := Lib.hid (by unfold togE; rw [hr]; rfl)
    go_enter Tryz.func84, Tryz.ntmps84
    go_wp2_with (first
      | (go_at_call 124; refine (refrightA_any _ _ _ L _ H.out).mono ?_; rintro e w' ⟨rfl, hb⟩; have HB := HB.trans (hb.mono HB.size); clear hb))
    go_ret3
    rw [HA.out, HT.out, HE.out]
    exact TogPost.mk rfl (H.out.below HB) HB
  by_cases hnr : rightL n.toList = true
  rotate_left
  · have hnr : rightL n.toList = false := by simpa using hnr
    have HA : Hid (togA L n.toList f = L) := Lib.hid (by unfold togA; rw [hnr]; simp)
    have HT : Hid (togB L n.toList f = false) := Lib.hid (by unfold togB; rw [hnr]; simp)
    have HE : Hid (togE L n.toList f = 4) := Lib.hid (by unfold togE; rw [hr, hnr]; rfl)
    go_enter Tryz.func84, Tryz.ntmps84
    go_wp2_with (first
      | (go_at_call 124; refine (refrightA_any _ _ _ L _ H.out).mono ?_; rintro e w' ⟨rfl, hb⟩; have HB := HB.trans (hb.mono HB.size); clear hb)
      | (go_at_call 81; refine (refright_any _ _ HN.out).mono ?_; rintro e w' ⟨rfl, rfl⟩))
    go_ret3
    rw [HA.out, HT.out, HE.out]
    exact TogPost.mk rfl (H.out.below HB) HB
  by_cases hh : hasA L n.toList = true
  · by_cases hf : 0 < f
    · have HA : Hid (togA L n.toList f = L) := Lib.hid (by unfold togA; rw [hr, hnr, hh, if_pos hf]; rfl)
      have HT : Hid (togB L n.toList f = true) := Lib.hid (by unfold togB; rw [hr, hnr, hh, decide_eq_true hf]; rfl)
      have HE : Hid (togE L n.toList f = 0) := Lib.hid (by unfold togE; rw [hr, hnr, hh]; rfl)
      go_enter Tryz.func84, Tryz.ntmps84
      go_wp2_with (first
        | (go_at_call 124; refine (refrightA_any _ _ _ L _ H.out).mono ?_; rintro e w' ⟨rfl, hb⟩; have HB := HB.trans (hb.mono HB.size); clear hb)
        | (go_at_call 81; refine (refright_any _ _ HN.out).mono ?_; rintro e w' ⟨rfl, rfl⟩)
        | (go_at_call 83; refine (refget_any _ _ _ L _ _ (H.out.below HB) HN.out).mono ?_; rintro e w' ⟨rfl, hb⟩; have HB := HB.trans (hb.mono HB.size); clear hb))
      go_ret3
      rw [HA.out, HT.out, HE.out]
      exact TogPost.mk rfl (H.out.below HB) HB
    · have HA : Hid (togA L n.toList f = remA L n.toList) := Lib.hid (by unfold togA; rw [hr, hnr, hh, if_neg hf]; rfl)
      have HT : Hid (togB L n.toList f = false) := Lib.hid (by unfold togB; rw [hr, hnr, hh, decide_eq_false hf]; rfl)
      have HE : Hid (togE L n.toList f = 0) := Lib.hid (by unfold togE; rw [hr, hnr, hh]; rfl)
      go_enter Tryz.func84, Tryz.ntmps84
      go_wp2_with (first
        | (go_at_call 124; refine (refrightA_any _ _ _ L _ H.out).mono ?_; rintro e w' ⟨rfl, hb⟩; have HB := HB.trans (hb.mono HB.size); clear hb)
        | (go_at_call 81; refine (refright_any _ _ HN.out).mono ?_; rintro e w' ⟨rfl, rfl⟩)
        | (go_at_call 83; refine (refget_any _ _ _ L _ _ (H.out.below HB) HN.out).mono ?_; rintro e w' ⟨rfl, hb⟩; have HB := HB.trans (hb.mono HB.size); clear hb)
        | (go_at_call 82; refine (refrem_any _ _ _ L _ _ (H.out.below HB) HN.out).mono ?_; rintro e w' ⟨a2, len2, cap2, rfl, hr2, hb⟩; have HR2 := Lib.hid hr2; have HB := HB.trans (hb.mono HB.size); clear hb hr2))
      go_ret3
      rw [HA.out, HT.out, HE.out]
      exact TogPost.mk rfl HR2.out HB
  · have hh : hasA L n.toList = false := by simpa using hh
    by_cases hf : f < 0
    · have HA : Hid (togA L n.toList f = L) := Lib.hid (by unfold togA; rw [hr, hnr, hh, if_pos hf]; rfl)
      have HT : Hid (togB L n.toList f = false) := Lib.hid (by unfold togB; rw [hr, hnr, hh, if_pos hf]; rfl)
      have HE : Hid (togE L n.toList f = 0) := Lib.hid (by unfold togE; rw [hr, hnr, hh, if_pos hf]; rfl)
      go_enter Tryz.func84, Tryz.ntmps84
      go_wp2_with (first
        | (go_at_call 124; refine (refrightA_any _ _ _ L _ H.out).mono ?_; rintro e w' ⟨rfl, hb⟩; have HB := HB.trans (hb.mono HB.size); clear hb)
        | (go_at_call 81; refine (refright_any _ _ HN.out).mono ?_; rintro e w' ⟨rfl, rfl⟩)
        | (go_at_call 83; refine (refget_any _ _ _ L _ _ (H.out.below HB) HN.out).mono ?_; rintro e w' ⟨rfl, hb⟩; have HB := HB.trans (hb.mono HB.size); clear hb))
      go_ret3
      rw [HA.out, HT.out, HE.out]
      exact TogPost.mk rfl (H.out.below HB) HB
    · have HA : Hid (togA L n.toList f = setA L n.toList (ofL [])) := Lib.hid (by unfold togA; rw [hr, hnr, hh, if_neg hf]; rfl)
      have HT : Hid (togB L n.toList f = (setE L n.toList (ofL []) == 0)) := Lib.hid (by unfold togB; rw [hr, hnr, hh, if_neg hf]; rfl)
      have HE : Hid (togE L n.toList f = setE L n.toList (ofL [])) := Lib.hid (by unfold togE; rw [hr, hnr, hh, if_neg hf]; rfl)
      have HZ : Hid (ofL [] = ⟨#[]⟩) := Lib.hid rfl
      obtain ⟨z, hz⟩ : ∃ z, setE L n.toList (ofL []) = z := ⟨_, rfl⟩
      have C4 : Hid (∀ W, AttrRow W a len cap L → Calls Tryz.prog 79 #[.slice a len cap, .string n, .string ⟨#[]⟩] W (SetPost W (setA L n.toList (ofL [])) z)) := Lib.hid (fun W hW => by
        have := refset_any a len cap L n ⟨#[]⟩ W hW HN.out (by decide)
        rw [← HZ.out, hz] at this
        exact this)
      have HZ2 := Lib.hid hz
      clear hz
      go_enter Tryz.func84, Tryz.ntmps84
      go_wp2_with (first
        | (go_at_call 124; refine (refrightA_any _ _ _ L _ H.out).mono ?_; rintro e w' ⟨rfl, hb⟩; have HB := HB.trans (hb.mono HB.size); clear hb)
        | (go_at_call 81; refine (refright_any _ _ HN.out).mono ?_; rintro e w' ⟨rfl, rfl⟩)
        | (go_at_call 83; refine (refget_any _ _ _ L _ _ (H.out.below HB) HN.out).mono ?_; rintro e w' ⟨rfl, hb⟩; have HB := HB.trans (hb.mono HB.size); clear hb)
        | (go_at_call 79; refine (C4.out _ (H.out.below HB)).mono ?_; rintro e w' ⟨a2, len2, cap2, rfl, hr2, hb⟩; have HR2 := Lib.hid hr2; have HB := HB.trans (hb.mono HB.size); clear hb hr2))
      go_ret3
      rw [HA.out, HT.out, HE.out, HZ2.out]
      exact TogPost.mk rfl HR2.out HB
end Go.Proofs.YtiffhlncnpppoaaGreatDoor
namespace Go.Proofs.YtiffhlncnpppoaaGreatDoor
open Go.RowKit Go.Maps Go.WideMaps
def findI (L : AL) (n : List UInt8) : Int := if rightA L && rightL n then atL L (smallL n) else -1
def findS (L : AL) (n : List UInt8) : List UInt8 := if rightA L && rightL n then smallL n else []
def findE (L : AL) (n : List UInt8) : Int := if rightA L then (if rightL n then 0 else 4) else 1
set_option maxHeartbeats 4000000 in
set_option maxRecDepth 100000 in
theorem find_any (a : Option Addr) (len cap : Nat) (L : AL) (n : ByteArray) (w : World) (h : AttrRow w a len cap L) (hn : n.size ≤ maxLen) :
    Calls Tryz.prog 132 #[.slice a len cap, .string n] w fun e w' => e = .returned (.tuple #[.int .i64 (findI L n.toList), .string (ofL (findS L n.toList)), .int .i64 (findE L n.toList)]) ∧ Below w.heap.size w w' := by
  have HN := Lib.hid hn
  by_cases hr : rightA L = true
  rotate_left
  · have hr : rightA L = false := by simpa using hr
    have C1 := Lib.hid (placesWrong_any a len cap L w h hr)
    have E1 : findI L n.toList = -1 := by unfold findI; rw [hr]; rfl
    have E2 : findS L n.toList = [] := by unfold findS; rw [hr]; rfl
    have E3 : findE L n.toList = 1 := by unfold findE; rw [hr]; rfl
    rw [E1, E2, E3]
    clear h hr hn E1 E2 E3
    go_enter Tryz.func132, Tryz.ntmps132
    go_wp2_with (first
      | (go_at_call 158; refine C1.out.mono ?_; rintro e w' ⟨rfl, HB⟩))
    go_ret3
    exact ⟨rfl, HB⟩
  have C1 := Lib.hid (placesRight_any a len cap L w h hr)
  have HF := Lib.hid (right_first hr)
  by_cases hnr : rightL n.toList = true
  rotate_left
  · have hnr : rightL n.toList = false := by simpa using hnr
    have E1 : findI L n.toList = -1 := by unfold findI; rw [hr, hnr]; rfl
    have E2 : findS L n.toList = [] := by unfold findS; rw [hr, hnr]; rfl
    have E3 : findE L n.toList = 4 := by unfold findE; rw [hr, hnr]; rfl
    have e1 : fitE n.toList = 4 := by unfold fitE; rw [hnr]; rfl
    have C2 : Hid (∀ W, Calls Tryz.prog 75 #[.string n] W fun e w' => e = .returned (.tuple #[.string (ofL (fitL n.toList)), .int .i64 4]) ∧ Below W.heap.size W w') := Lib.hid (fun W => by
      have := fit_any n W HN.out
      rwa [e1] at this)
    rw [E1, E2, E3]
    clear h hr hn E1 E2 E3 e1 hnr HF
    go_enter Tryz.func132, Tryz.ntmps132
    go_wp2_with (first
      | (go_at_call 158; refine C1.out.mono ?_; rintro e w1 ⟨b, rfl, _, _, HB⟩)
      | (go_at_call 75; refine (C2.out _).mono ?_; rintro e w' ⟨rfl, hb⟩; have HB := HB.trans (hb.mono HB.size); clear hb))
    go_ret3
    exact ⟨rfl, HB⟩
  have E1 : findI L n.toList = atL L (smallL n.toList) := by unfold findI; rw [hr, hnr]; rfl
  have E2 : findS L n.toList = smallL n.toList := by unfold findS; rw [hr, hnr]; rfl
  have E3 : findE L n.toList = 0 := by unfold findE; rw [hr, hnr]; rfl
  have e1 : fitE n.toList = 0 := by unfold fitE; rw [hnr]; rfl
  have e2 : fitL n.toList = smallL n.toList := by unfold fitL; rw [hnr]; rfl
  have C2 : Hid (∀ W, Calls Tryz.prog 75 #[.string n] W fun e w' => e = .returned (.tuple #[.string (ofL (smallL n.toList)), .int .i64 0]) ∧ Below W.heap.size W w') := Lib.hid (fun W => by
    have := fit_any n W HN.out
    rwa [e1, e2] at this)
  have hkey : Hid (keyOf Tryz.prog 9 (.string (ofL (smallL n.toList))) = some (.string (smallL n.toList))) := Lib.hid (by
    have := keyS (s := ofL (smallL n.toList)) (by rw [size_ofL, smallL_length, tl_len]; exact hn)
    rwa [← tl, toList_ofL] at this)
  have HH := Lib.hid (plD_has (L := L) (smallL n.toList) L.length (Nat.le_refl _))
  rw [E1, E2, E3]
  by_cases hp : atN L (smallL n.toList) < L.length
  · have HH1 : Hid (Maps.has (plD L L.length) (.string (smallL n.toList)) = true) := Lib.hid (by rw [HH.out, decide_eq_true hp])
    have HA := Lib.hid (plD_at (L := L) (smallL n.toList) (.lit (.int .i64 0)) L.length (Nat.le_refl _) HF.out hp)
    have HE : atL L (smallL n.toList) = (atN L (smallL n.toList) : Int) := by unfold atL; rw [if_pos hp]
    rw [HE]
    clear h hr hn E1 E2 E3 e1 e2 hnr HF HE hp HH
    go_enter Tryz.func132, Tryz.ntmps132
    go_wp2_with (first
      | (go_at_call 158; refine C1.out.mono ?_; rintro e w1 ⟨b, rfl, _, hown, HB⟩; have HM := Lib.hid hown; clear hown)
      | (go_at_call 75; refine (C2.out _).mono ?_; rintro e w' ⟨rfl, hb⟩; have HM := Lib.hid (own_belowM HM.out hb); have HB := HB.trans (hb.mono HB.size); clear hb)
      | (at_lookup; refine wpList_lookup_own_ok_int _ rfl _ _ 173 rfl 9 3 .i64 lawS Tryz.underlying173 Tryz.underlying3 (zeroI _) b L.length (plD L L.length) rfl HM.out _ _ rfl hkey.out ?_; intro c hat hwc; simp only [HH1.out]; obtain rfl : (atN L (smallL n.toList) : Int) = c := (by rw [HA.out] at hat; injection hat with hat; injection hat); clear hat hwc))
    go_ret3
    exact ⟨rfl, HB⟩
  · have HH1 : Hid (Maps.has (plD L L.length) (.string (smallL n.toList)) = false) := Lib.hid (by rw [HH.out, decide_eq_false hp])
    have HE : atL L (smallL n.toList) = -1 := by unfold atL; rw [if_neg hp]
    rw [HE]
    clear h hr hn E1 E2 E3 e1 e2 hnr HF HE hp HH
    go_enter Tryz.func132, Tryz.ntmps132
    go_wp2_with (first
      | (go_at_call 158; refine C1.out.mono ?_; rintro e w1 ⟨b, rfl, _, hown, HB⟩; have HM := Lib.hid hown; clear hown)
      | (go_at_call 75; refine (C2.out _).mono ?_; rintro e w' ⟨rfl, hb⟩; have HM := Lib.hid (own_belowM HM.out hb); have HB := HB.trans (hb.mono HB.size); clear hb)
      | (at_lookup; refine wpList_lookup_own_ok_int _ rfl _ _ 173 rfl 9 3 .i64 lawS Tryz.underlying173 Tryz.underlying3 (zeroI _) b L.length (plD L L.length) rfl HM.out _ _ rfl hkey.out ?_; intro c hat hwc; simp only [HH1.out]; clear hat hwc))
    go_ret3
    exact ⟨rfl, HB⟩
theorem afits_any (a : Option Addr) (len cap : Nat) (p : Int) (v : ByteArray) (w : World) (hv : v.size ≤ maxLen) :
    Calls Tryz.prog 133 #[.slice a len cap, .int .i64 p, .string v] w fun e w' => e = .returned (.bool (decide ((v.size : Int) ≤ 200) && (p != -1 || decide ((len : Int) < 40)))) ∧ w = w' := by
  have hv64 : v.size ≤ 9223372036854775807 := by unfold maxLen at hv; omega
  clear hv
  go_enter Tryz.func133, Tryz.ntmps133
  go_wp2
  all_goals
    go_ret
    refine ⟨ret_bool ?_, rfl⟩
    first | (simp_all; done) | (simp_all; omega)
end Go.Proofs.YtiffhlncnpppoaaGreatDoor
namespace Go.Proofs.YtiffhlncnpppoaaGreatDoor
open Go.RowKit
def OwnPost (w : World) (L : AL) (e : Ending) (w' : World) : Prop := ∃ v, e = .returned v ∧ w'.ownsRow w.heap.size 160 2 v L.length (L.flatMap encA) ∧ Below w.heap.size w w'
set_option maxHeartbeats 4000000 in
theorem clone_any (a : Option Addr) (len cap : Nat) (L : AL) (w : World) (h : AttrRow w a len cap L) (h40 : len ≤ 1000000) :
    Calls Tryz.prog 134 #[.slice a len cap] w (OwnPost w L) := by
  obtain ⟨i0, hi0, hz0, hz1, hz2⟩ := info_parts attr_info
  have HL := Lib.hid h.hlen
  have q22 : ∀ (w : World) (a : Option Addr) (n c n' c' : Nat), (binOp .eql 50 (.slice a n c) (.slice none n' c')).run Tryz.prog w = .ok (.bool a.isNone) w := fun w a n c n' c' => Lib.run_eql_slice_nil w _ _ a n c n' c' Tryz.underlying50
  rcases a with _ | ad
  · have hc : cap = 0 := h.hnil rfl
    have h0 : len = 0 := by have := h.row.hcap; omega
    have hLn : L = [] := List.eq_nil_of_length_eq_zero (by rw [h.hlen, h0])
    subst hc; subst h0; subst hLn
    clear h
    go_enter Tryz.func134, Tryz.ntmps134
    go_wp2
    go_ret
    exact ⟨_, rfl, World.ownsRow_nil _ _ _ _, Below.refl _ _⟩
  · have H := Lib.hid h
    have hE := own_empty (α := ByteArray × ByteArray) (enc := encA) (size := 2) w w.heap.size 160 (Nat.le_refl _)
    have HE := Lib.hid hE
    clear h hE
    go_enter Tryz.func134, Tryz.ntmps134
    go_wp2_with (first
      | (at_builtin
         refine wpList_append_rows rfl (.tmp 5) (.tmp 6) 50 rfl 160 i0 _ 2 32 Tryz.underlying50 hi0 hz0 hz1 hz2 rfl (by decide) w.heap.size _ 0 _ L rfl HE.out (some ad) len cap rfl (H.out.below ((Below.refl _ _).alloc (Nat.le_refl _) _)).row (fun x _ => encA_one x) (by unfold maxLen; omega) (by omega) (by simp) (fun h => by cases h) ?_
         intro v2 w2 hown2 hg2 hat2
         have HB2 := below_new (Below.refl _ _) hg2
         have HO2 := Lib.hid hown2
         clear hown2 hg2 hat2))
    go_ret
    refine ⟨_, rfl, ?_, HB2⟩
    have := HO2.out
    rw [HL.out]
    simpa using this
set_option maxHeartbeats 4000000 in
theorem attrget_any (a : Option Addr) (len cap : Nat) (L : AL) (n : ByteArray) (w : World) (h : AttrRow w a len cap L) (hn : n.size ≤ maxLen) :
    Calls Tryz.prog 78 #[.slice a len cap, .string n] w fun e w' => e = .returned (.tuple #[.string (valA L n.toList), .bool (hasA L n.toList)]) ∧ Below w.heap.size w w' := by
  have C1 := Lib.hid (find_any a len cap L n w h hn)
  have H := Lib.hid h
  by_cases hg : (rightA L && rightL n.toList) = true
  rotate_left
  · have hg : (rightA L && rightL n.toList) = false := by simpa using hg
    have HR : Hid (hasA L n.toList = false) := Lib.hid (by unfold hasA; rw [hg]; rfl)
    have HV : Hid (valA L n.toList = ofL []) := Lib.hid (by unfold valA; rw [HR.out]; rfl)
    have E1 : findI L n.toList = -1 := by unfold findI; rw [hg]; rfl
    have C2 := C1.out
    rw [E1] at C2
    have C3 := Lib.hid C2
    by_cases hz : findE L n.toList = 0
    · exfalso
      unfold findE at hz
      revert hg hz
      cases rightA L <;> cases rightL n.toList <;> simp
    · have z1 : (findE L n.toList == 0) = false := beq_eq_false_iff_ne.2 hz
      have z2 : (findE L n.toList != 0) = true := by unfold bne; rw [z1]; rfl
      clear h hn hg E1 C2 C1 hz
      go_enter Tryz.func78, Tryz.ntmps78
      go_wp2_with (first
        | (go_at_call 132; refine C3.out.mono ?_; rintro e w' ⟨rfl, HB⟩))
      go_ret2
      exact ⟨by rw [HR.out, HV.out]; rfl, HB⟩
  have E3 : findE L n.toList = 0 := by
    unfold findE
    revert hg
    cases rightA L <;> cases rightL n.toList <;> simp
  by_cases hp : placeA L n.toList < L.length
  · have E1 : findI L n.toList = (placeA L n.toList : Int) := by unfold findI; rw [hg, ← atL_place hp]; rfl
    have hp' : placeA L n.toList < len := by rw [← h.hlen]; exact hp
    obtain ⟨b, off, xn, xv, rfl, hblt, hx, hc1, hc2, _, _⟩ := H.out.get hp'
    have HR : Hid (hasA L n.toList = true) := Lib.hid (by unfold hasA; rw [hg, decide_eq_true hp]; rfl)
    have HV : Hid (valA L n.toList = xv) := Lib.hid (by unfold valA; rw [HR.out, hx]; rfl)
    have C2 := C1.out
    rw [E1, E3] at C2
    obtain ⟨p, hpp⟩ : ∃ p, placeA L n.toList = p := ⟨_, rfl⟩
    rw [hpp] at C2 hp' hc1 hc2
    have C3 := Lib.hid C2
    have hl := h.len64
    have z1 : ((p : Int) == -1) = false := beq_eq_false_iff_ne.2 (by omega)
    clear h hn hg E1 E3 C2 C1 hpp hx hp
    go_enter Tryz.func78, Tryz.ntmps78
    go_wp2_with (first
      | (go_at_call 132; refine C3.out.mono ?_; rintro e w' ⟨rfl, HB⟩; have hd := (HB.cell (p := ⟨b, off + p * 2 + 1, none⟩) hblt).trans hc2))
    go_ret2
    exact ⟨by rw [HR.out, HV.out]; rfl, HB⟩
  · have E1 : findI L n.toList = -1 := by unfold findI; rw [hg, ← atL_noplace hp]; rfl
    have HR : Hid (hasA L n.toList = false) := Lib.hid (by unfold hasA; rw [decide_eq_false hp]; simp)
    have HV : Hid (valA L n.toList = ofL []) := Lib.hid (by unfold valA; rw [HR.out]; rfl)
    have C2 := C1.out
    rw [E1, E3] at C2
    have C3 := Lib.hid C2
    clear h hn hg E1 E3 C2 C1 hp
    go_enter Tryz.func78, Tryz.ntmps78
    go_wp2_with (first
      | (go_at_call 132; refine C3.out.mono ?_; rintro e w' ⟨rfl, HB⟩))
    go_ret2
    exact ⟨by rw [HR.out, HV.out]; rfl, HB⟩
end Go.Proofs.YtiffhlncnpppoaaGreatDoor
namespace Go.Proofs.YtiffhlncnpppoaaGreatDoor
open Go.RowKit
theorem below_setCells {B g : Nat} {a : World} (hg : B ≤ g) : ∀ (vs : List Value) (o : Nat) (w : World), Below B a w → Below B a (w.setCells g o vs)
  | [], _, _, h => h
  | v :: r, o, w, h => below_setCells hg r (o + 1) (w.setCell ⟨g, o, none⟩ v) (h.setCell hg v)
theorem size_setCells (g : Nat) : ∀ (vs : List Value) (o : Nat) (w : World), (w.setCells g o vs).heap.size = w.heap.size
  | [], _, _ => rfl
  | v :: r, o, w => by
    show ((w.setCell ⟨g, o, none⟩ v).setCells g (o + 1) r).heap.size = _
    rw [size_setCells g r]
    simp [World.setCell]
theorem run_clear_attrs (w : World) (ty : TypeId) (b o n c : Nat) (hn : 0 < n) (hc : ∀ j, j < n * 2 → (w.cell? ⟨b, o + j, none⟩).isSome = true) (hf : ∀ j, j < n * 2 → w.frozen? ⟨b, o + j, none⟩ = false) :
    (Builtin.clear_ #[50] ty #[.slice (some ⟨b, o, none⟩) n c]).run Tryz.prog w = .ok (.tuple #[]) (w.setCells b o (List.replicate (n * 2) (.string ⟨#[]⟩))) := by
  have hzc : (Builtin.zeroCells #[Value.string ⟨#[]⟩, .string ⟨#[]⟩] n).toList = List.replicate (n * 2) (.string ⟨#[]⟩) := by
    simp [Builtin.zeroCells]
    apply List.ext_getElem
    · simp
    · intro i h1 h2
      have : i % 2 = 0 ∨ i % 2 = 1 := by omega
      rcases this with h | h <;> simp [h]
  have hst := run_storeCells_cells (P := Tryz.prog) b o (List.replicate (n * 2) (.string ⟨#[]⟩)) 0 w (by simpa using hc) (by simpa using hf) (by intro v hv'; rw [List.eq_of_mem_replicate hv']; rfl)
  simp only [Nat.add_zero] at hst
  obtain ⟨m, rfl⟩ : ∃ m, n = m + 1 := ⟨n - 1, by omega⟩
  have hz2 : (Value.agg #[.string ⟨#[]⟩, .string ⟨#[]⟩]).cells = #[Value.string ⟨#[]⟩, .string ⟨#[]⟩] := by simp [Value.cells]
  simp [Builtin.clear_, run_underlying Tryz.underlying50, hz2, hzc, hst]
theorem eraseIdx_cells {L : AL} {i : Nat} (k : Nat) : (L.eraseIdx i)[k]? = if k < i then L[k]? else L[k + 1]? := by
  rw [List.getElem?_eraseIdx]
theorem delete_row {w w' : World} {g n cap i : Nat} {L : AL} (hL : L.length = n) (hi : i < n) (hcap : n ≤ cap) (hmax : cap ≤ maxLen) (hs : ∀ x ∈ L, x.1.size ≤ maxLen ∧ x.2.size ≤ maxLen) (hg : g < w'.heap.size)
    (h : ∀ k u, (L.flatMap encA)[k]? = some u → w.cell? ⟨g, k, none⟩ = some u)
    (hlo : ∀ k, k < i * 2 → w'.cell? ⟨g, k, none⟩ = w.cell? ⟨g, k, none⟩) (hhi : ∀ k, i * 2 ≤ k → k < (n - 1) * 2 → w'.cell? ⟨g, k, none⟩ = w.cell? ⟨g, k + 2, none⟩) :
    AttrRow w' (some ⟨g, 0, none⟩) (n - 1) cap (L.eraseIdx i) := by
  have hlen : (L.eraseIdx i).length = n - 1 := by rw [List.length_eraseIdx, hL, if_pos hi]
  refine ⟨⟨hlen, by omega, hmax, fun x _ => encA_len x, .inr ⟨g, 0, rfl, hg, fun k x j v hx hv => ?_⟩⟩, fun x hx => hs x (List.mem_of_mem_eraseIdx hx), fun h => by cases h⟩
  have hj : j < 2 := (List.getElem?_eq_some_iff.1 hv).1
  have hk : k < n - 1 := by rw [← hlen]; exact (List.getElem?_eq_some_iff.1 hx).1
  rw [eraseIdx_cells] at hx
  rw [Nat.zero_add]
  by_cases hki : k < i
  · rw [if_pos hki] at hx
    rw [hlo _ (by omega)]
    exact h _ _ ((flat_get (fun x _ => encA_len x) hx hj).trans hv)
  · rw [if_neg hki] at hx
    rw [hhi _ (by omega) (by omega), show k * 2 + j + 2 = (k + 1) * 2 + j by omega]
    exact h _ _ ((flat_get (fun x _ => encA_len x) hx hj).trans hv)
def DelPost (base g n cap : Nat) (L : AL) (i : Nat) (w : World) (e : Ending) (w' : World) : Prop := e = .returned (.slice (some ⟨g, 0, none⟩) (n - 1) cap) ∧ AttrRow w' (some ⟨g, 0, none⟩) (n - 1) cap (L.eraseIdx i) ∧ Below base w w'
set_option maxHeartbeats 8000000 in
set_option maxRecDepth 100000 in
theorem delete_any (w : World) (base g n cap : Nat) (L : AL) (i : Nat) (hown : w.ownsRow base 160 2 (.slice (some ⟨g, 0, none⟩) n cap) n (L.flatMap encA)) (hL : L.length = n) (hs : ∀ x ∈ L, x.1.size ≤ maxLen ∧ x.2.size ≤ maxLen) (hi : i < n) (hn : n ≤ 1000) :
    Calls Tryz.prog 137 #[.slice (some ⟨g, 0, none⟩) n cap, .int .i64 i, .int .i64 ((i : Int) + 1)] w (DelPost base g n cap L i w) := by
  obtain ⟨i0, hi0, hz0, hz1, hz2⟩ := info_parts attr_info
  have hcells : ∀ k u, (L.flatMap encA)[k]? = some u → w.cell? ⟨g, k, none⟩ = some u := fun k u hu => by
    have := hown.cells (g := g) rfl k u hu
    rwa [Go.WideShapes.add_plain, Nat.zero_add] at this
  have hfl : (L.flatMap encA).length = n * 2 := by rw [flat_len (fun x _ => encA_len x), hL]
  have hbase : base ≤ g := (hown.lt g rfl).1
  have hglt : g < w.heap.size := (hown.lt g rfl).2
  have hsome : ∀ k, k < n * 2 → (w.cell? ⟨g, k, none⟩).isSome = true := fun k hk => by
    rw [hcells k _ (List.getElem?_eq_getElem (by omega : k < (L.flatMap encA).length))]; rfl
  obtain ⟨hcap, hmax, hfro⟩ : n ≤ cap ∧ cap ≤ maxLen ∧ ∀ k, w.frozen? ⟨g, k, none⟩ = false := by
    rcases hown.2 with ⟨h, _⟩ | ⟨g', cap', cur, hv, _, hh, h1, h2, _⟩
    · cases h
    · injection hv with hv1 hv2 hv3
      injection hv1 with hv1
      injection hv1 with hv1
      subst hv1; subst hv3
      exact ⟨h1, h2, fun k => by simp [World.frozen?, hh]⟩
  obtain ⟨news, hnews⟩ : ∃ news, news = (L.flatMap encA).drop ((i + 1) * 2) := ⟨_, rfl⟩
  have hnl : news.length = (n - (i + 1)) * 2 := by rw [hnews, List.length_drop, hfl]; omega
  have hone : ∀ u ∈ news, u.oneCell' = true := fun u hu => by
    rw [hnews] at hu
    obtain ⟨x, _, hxu⟩ := List.mem_flatMap.1 (List.mem_of_mem_drop hu)
    exact encA_one x u hxu
  obtain ⟨A, hA, hsrc⟩ : ∃ A : Addr, (if cap = i + 1 then some (⟨g, 0, none⟩ : Addr) else some ⟨g, (i + 1) * 2, none⟩) = some A ∧ Hid (∀ t u, news[t]? = some u → w.drew.cell? (A.add t) = some u) := by
    by_cases h : cap = i + 1
    · refine ⟨⟨g, 0, none⟩, by simp [h], Lib.hid fun t u hu => ?_⟩
      have h0 : news.length = 0 := by rw [hnl]; omega
      rw [List.length_eq_zero_iff.1 h0] at hu
      simp at hu
    · refine ⟨⟨g, (i + 1) * 2, none⟩, by simp [h], Lib.hid fun t u hu => ?_⟩
      rw [Go.WideShapes.add_plain]
      rw [hnews, List.getElem?_drop] at hu
      exact hcells _ _ hu
  have S1 := Lib.hid hnl
  have S2 := Lib.hid hone
  have S3 : Hid (∀ t, t < news.length → (w.drew.cell? ⟨g, 0 + i * 2 + t, none⟩).isSome = true ∧ w.drew.frozen? ⟨g, 0 + i * 2 + t, none⟩ = false) := Lib.hid (fun t ht => ⟨hsome _ (by omega), hfro _⟩)
  obtain ⟨W1, hW1⟩ : ∃ W1, W1 = w.drew.setCells g (0 + i * 2) news := ⟨_, rfl⟩
  have hsome1 : ∀ k, k < n * 2 → (W1.cell? ⟨g, k, none⟩).isSome = true := fun k hk => by rw [hW1]; exact World.isSome_setCells g news _ _ _ (hsome k hk)
  have hfro1 : ∀ k, W1.frozen? ⟨g, k, none⟩ = false := fun k => by rw [hW1, World.frozen?_setCells]; exact hfro k
  have HCL : Hid (∀ ty o c, o = (n - 1) * 2 → (Builtin.clear_ #[50] ty #[.slice (some ⟨g, o, none⟩) 1 c]).run Tryz.prog W1 = .ok (.tuple #[]) (W1.setCells g o (List.replicate (1 * 2) (.string ⟨#[]⟩)))) := Lib.hid (fun ty o c ho => run_clear_attrs W1 ty g o 1 c (by omega) (fun j hj => hsome1 _ (by omega)) (fun j hj => hfro1 _))
  have HEND : Hid (∀ W2, W2 = W1.setCells g ((n - 1) * 2) (List.replicate (1 * 2) (.string ⟨#[]⟩)) → AttrRow W2 (some ⟨g, 0, none⟩) (n - 1) cap (L.eraseIdx i) ∧ Below base w W2) := Lib.hid (fun W2 hW2 => by
    have hb1 : Below base w W1 := by rw [hW1]; exact below_setCells hbase _ _ _ ((Below.refl _ _).drew)
    refine ⟨delete_row (w := w) hL hi hcap hmax hs ?_ hcells (fun k hk => ?_) (fun k hk1 hk2 => ?_), by rw [hW2]; exact below_setCells hbase _ _ _ hb1⟩
    · rw [hW2, size_setCells, hW1, size_setCells]; exact hglt
    · rw [hW2, World.cell?_setCells_out g _ _ _ _ (fun _ _ => .inl (show k < (n - 1) * 2 by omega)), hW1, World.cell?_setCells_out g _ _ _ _ (fun _ _ => .inl (show k < 0 + i * 2 by omega))]
      rfl
    · have hkn : k - i * 2 < news.length := by rw [hnl]; omega
      have h1 := World.cell?_setCells_in g news (0 + i * 2) w.drew (fun j hj => (S3.out j hj).1) (k - i * 2) hkn
      rw [show 0 + i * 2 + (k - i * 2) = k by omega, ← hW1] at h1
      rw [hW2, World.cell?_setCells_out g _ _ _ _ (fun _ _ => .inl (show k < (n - 1) * 2 by omega)), h1]
      have h2 : (L.flatMap encA)[k + 2]? = some (news[k - i * 2]'hkn) := by
        rw [← List.getElem?_eq_getElem hkn, hnews, List.getElem?_drop]
        congr 1
        omega
      exact (hcells _ _ h2).symm)
  have HW := Lib.hid hW1
  have hic : i ≤ cap := by omega
  have hjc : i + 1 ≤ cap := by omega
  have hij : i + 1 ≤ n := by omega
  have hcap64 : cap ≤ 9223372036854775807 := by unfold maxLen at hmax; omega
  clear hown hcells hfl hsome hfro hnews hnl hone hW1 hsome1 hfro1 hmax
  go_enter Tryz.func137, Tryz.ntmps137
  go_wp2_with fail
  have q1 : (0 : Int) ≤ (i : Int) + 1 := by omega
  have q2 : (i : Int) + 1 ≤ (n : Int) := by omega
  go_region_law (refine step_append_room rfl (.tmp 22) (.tmp 25) 50 rfl 160 i0 2 Tryz.underlying50 hi0 hz1 g 0 i cap (by simp [Act.eval, Act.put]) A (n - (i + 1)) (cap - (i + 1)) news (by simp [Act.eval, Act.put]) S1.out hsrc.out S2.out (by omega) S3.out ?_; rw [← HW.out])
  have e : i + (n - (i + 1)) = n - 1 := by omega
  rw [e]
  obtain ⟨m, hm⟩ : ∃ m, n = m + 1 := ⟨n - 1, by omega⟩
  subst hm
  clear e q1 q2 hA
  have hcm : m < cap := by omega
  rw [Nat.add_sub_cancel] at HCL HEND ⊢
  obtain ⟨W2, hW2⟩ : ∃ W2, W2 = W1.setCells g (m * 2) (List.replicate (1 * 2) (.string ⟨#[]⟩)) := ⟨_, rfl⟩
  have hcl := HCL.out 0 (m * 2) (cap - m) rfl
  rw [← hW2] at hcl
  have HE := Lib.hid (HEND.out W2 hW2)
  clear hW2
  go_wp2_with fail
  go_ret
  exact ⟨by rw [Nat.add_sub_cancel]; rfl, HE.out.1, HE.out.2⟩
end Go.Proofs.YtiffhlncnpppoaaGreatDoor
namespace Go.Proofs.YtiffhlncnpppoaaGreatDoor
theorem setA_eq {L : AL} {n : List UInt8} {v : ByteArray} (h : setE L n v = 0) : setA L n v = setL L n v := by unfold setA; rw [if_pos h]
theorem setA_ne {L : AL} {n : List UInt8} {v : ByteArray} (h : ¬ setE L n v = 0) : setA L n v = L := by unfold setA; rw [if_neg h]
end Go.Proofs.YtiffhlncnpppoaaGreatDoor
namespace Go.Proofs.YtiffhlncnpppoaaGreatDoor
open Go.RowKit
def SetNew (w : World) (M : AL) (z : Int) (e : Ending) (w' : World) : Prop := ∃ a len cap, e = .returned (.tuple #[.slice a len cap, .int .i64 z]) ∧ AttrRow w' a len cap M ∧ Below w.heap.size w w' ∧ ∀ b off, a = some ⟨b, off, none⟩ → w.heap.size ≤ b
theorem SetNew.post {w w' : World} {M : AL} {z : Int} {e : Ending} (h : SetNew w M z e w') : SetPost w M z e w' := by
  obtain ⟨a, len, cap, h1, h2, h3, _⟩ := h
  exact ⟨a, len, cap, h1, h2, h3⟩
theorem AttrRow.of_own_new {w : World} {base : Nat} {v : Value} {n : Nat} {M : AL} (hl : M.length = n) (h : w.ownsRow base 160 2 v n (M.flatMap encA)) (hs : ∀ x ∈ M, x.1.size ≤ maxLen ∧ x.2.size ≤ maxLen) :
    ∃ a cap, v = .slice a n cap ∧ AttrRow w a n cap M ∧ ∀ b off, a = some ⟨b, off, none⟩ → base ≤ b := by
  rcases h.2 with ⟨rfl, h0⟩ | ⟨g, cap, cur, rfl, _⟩
  · subst h0
    have hL : M = [] := List.eq_nil_of_length_eq_zero hl
    subst hL
    exact ⟨none, 0, rfl, ⟨SRow.nil, hs, fun _ => rfl⟩, fun b off h => by cases h⟩
  · obtain ⟨a, cap', he, hr, hb⟩ := SRow.of_own (fun x _ => encA_len x) hl h
    injection he with h1 h2 h3
    subst h1; subst h3
    exact ⟨_, _, rfl, ⟨hr, hs, fun h => by cases h⟩, hb⟩
theorem SetNew.mk {w w' : World} {M : AL} {z : Int} {e : Ending} {v : Value} {n : Nat} (he : e = .returned (.tuple #[v, .int .i64 z])) (hl : M.length = n) (h : w'.ownsRow w.heap.size 160 2 v n (M.flatMap encA)) (hs : ∀ x ∈ M, x.1.size ≤ maxLen ∧ x.2.size ≤ maxLen) (hb : Below w.heap.size w w') : SetNew w M z e w' := by
  obtain ⟨a, cap, rfl, h1, h2⟩ := AttrRow.of_own_new hl h hs
  exact ⟨a, n, cap, he, h1, hb, h2⟩
theorem clone_own (a : Option Addr) (len cap : Nat) (L : AL) (w W : World) (h : AttrRow w a len cap L) (h40 : len ≤ 1000000) (hb : Below w.heap.size w W) :
    Calls Tryz.prog 134 #[.slice a len cap] W fun e w' => ∃ v, e = .returned v ∧ w'.ownsRow w.heap.size 160 2 v len (L.flatMap encA) ∧ Below w.heap.size w w' :=
  (clone_any a len cap L W (h.below hb) h40).mono fun e w' ⟨v, he, hown, hb2⟩ => ⟨v, he, by
    rw [h.hlen] at hown
    refine ⟨hown.1, ?_⟩
    rcases hown.2 with h | ⟨g, cap, cur, h1, h2, h3⟩
    · exact .inl h
    · exact .inr ⟨g, cap, cur, h1, Nat.le_trans hb.size h2, h3⟩, hb.trans (hb2.mono hb.size)⟩
theorem find_ok {L : AL} {n : List UInt8} (hr : rightA L = true) (hn : rightL n = true) : findI L n = atL L (smallL n) ∧ findS L n = smallL n ∧ findE L n = 0 := by
  unfold findI findS findE
  rw [hr, hn]
  exact ⟨rfl, rfl, rfl⟩
set_option maxHeartbeats 16000000 in
set_option maxRecDepth 100000 in
theorem attrset_any (a : Option Addr) (len cap : Nat) (L : AL) (n v : ByteArray) (w : World) (h : AttrRow w a len cap L) (hn : n.size ≤ maxLen) (hv : v.size ≤ maxLen) (hlen : L.length ≤ 1000) :
    Calls Tryz.prog 73 #[.slice a len cap, .string n, .string v] w (SetNew w (setA L n.toList v) (setE L n.toList v)) := by
  have H := Lib.hid h
  have HN := Lib.hid hn
  have HV := Lib.hid hv
  have HL := Lib.hid h.hlen
  have hl40 : len ≤ 1000 := by rw [← h.hlen]; exact hlen
  have C1 := Lib.hid (find_any a len cap L n w h hn)
  have CC : Hid (∀ W, Below w.heap.size w W → Calls Tryz.prog 134 #[.slice a len cap] W fun e w' => ∃ v, e = .returned v ∧ w'.ownsRow w.heap.size 160 2 v len (L.flatMap encA) ∧ Below w.heap.size w w') := Lib.hid (fun W hb => clone_own a len cap L w W h (by omega) hb)
  have CF : Hid (∀ W p, Calls Tryz.prog 133 #[.slice a len cap, .int .i64 p, .string v] W fun e w' => e = .returned (.bool (decide ((v.size : Int) ≤ 200) && (p != -1 || decide ((len : Int) < 40)))) ∧ W = w') := Lib.hid (fun W p => afits_any a len cap p v W hv)
  by_cases hg : (rightA L && rightL n.toList) = true
  rotate_left
  · have hg : (rightA L && rightL n.toList) = false := by simpa using hg
    have EE : Hid (findE L n.toList = setE L n.toList v ∧ ¬ setE L n.toList v = 0) := Lib.hid (by
      unfold findE setE
      revert hg
      cases rightA L <;> cases rightL n.toList <;> simp)
    have EM : Hid (setA L n.toList v = L) := Lib.hid (setA_ne EE.out.2)
    obtain ⟨z, hz⟩ : ∃ z, setE L n.toList v = z := ⟨_, rfl⟩
    have C2 := C1.out
    rw [EE.out.1, hz] at C2
    have C3 := Lib.hid C2
    have z0 : ¬ z = 0 := by rw [← hz]; exact EE.out.2
    have z1 : (z == 0) = false := beq_eq_false_iff_ne.2 z0
    have z2 : (z != 0) = true := by unfold bne; rw [z1]; rfl
    have HZ := Lib.hid hz
    clear h hn hv hg hlen C1 C2 z0 hz
    go_enter Tryz.func73, Tryz.ntmps73
    go_wp2_with (first
      | (go_at_call 132; refine C3.out.mono ?_; rintro e w' ⟨rfl, HB⟩)
      | (go_at_call 134; refine (CC.out _ HB).mono ?_; rintro e w' ⟨v2, rfl, hown, HB2⟩; have HO := Lib.hid hown; clear hown))
    go_ret2
    rw [EM.out, HZ.out]
    exact SetNew.mk rfl HL.out HO.out H.out.small HB2
  obtain ⟨hr, hnr⟩ : rightA L = true ∧ rightL n.toList = true := by simpa using hg
  obtain ⟨F1, F2, F3⟩ := find_ok hr hnr
  have C2 := C1.out
  rw [F1, F2, F3] at C2
  have hk40 : L.length ≤ 40 := ((rightA_iff L).1 hr).1
  by_cases hlg : longA L n.toList v = true
  · have HE : Hid (setE L n.toList v = 3) := Lib.hid (by unfold setE; rw [hr, hnr, hlg]; rfl)
    have HM : Hid (setA L n.toList v = L) := Lib.hid (by unfold setA; rw [HE.out]; rfl)
    have hfit : (decide ((v.size : Int) ≤ 200) && (atL L (smallL n.toList) != -1 || decide ((len : Int) < 40))) = false := by
      unfold longA at hlg
      by_cases hp : placeA L n.toList < L.length
      · rw [atL_place hp]
        rw [decide_eq_false (show ¬ L.length ≤ placeA L n.toList by omega)] at hlg
        simp at hlg
        rw [decide_eq_false (by omega)]
        rfl
      · rw [atL_noplace hp]
        rw [decide_eq_true (show L.length ≤ placeA L n.toList by omega), h.hlen] at hlg
        simp at hlg
        rcases hlg with hlg | hlg
        · rw [decide_eq_false (by omega)]; rfl
        · rw [decide_eq_false (show ¬ (len : Int) < 40 by omega)]; simp
    obtain ⟨p, hp⟩ : ∃ p, atL L (smallL n.toList) = p := ⟨_, rfl⟩
    rw [hp] at C2 hfit
    have C3 := Lib.hid C2
    have CF2 : Hid (∀ W, Calls Tryz.prog 133 #[.slice a len cap, .int .i64 p, .string v] W fun e w' => e = .returned (.bool false) ∧ W = w') := Lib.hid (fun W => by
      have := CF.out W p
      rwa [hfit] at this)
    clear h hn hv hg hlen C1 C2 hp hfit hlg hr hnr F1 F2 F3 hk40 CF
    go_enter Tryz.func73, Tryz.ntmps73
    go_wp2_with (first
      | (go_at_call 132; refine C3.out.mono ?_; rintro e w' ⟨rfl, HB⟩)
      | (go_at_call 133; refine (CF2.out _).mono ?_; rintro e w' ⟨rfl, rfl⟩)
      | (go_at_call 134; refine (CC.out _ HB).mono ?_; rintro e w' ⟨v2, rfl, hown, HB2⟩; have HO := Lib.hid hown; clear hown))
    go_ret2
    rw [HM.out, HE.out]
    exact SetNew.mk rfl HL.out HO.out H.out.small HB2
  have hlg : longA L n.toList v = false := by simpa using hlg
  have HE : Hid (setE L n.toList v = 0) := Lib.hid (by unfold setE; rw [hr, hnr, hlg]; rfl)
  have HM : Hid (setA L n.toList v = setL L n.toList v) := Lib.hid (setA_eq HE.out)
  have hfit : (decide ((v.size : Int) ≤ 200) && (atL L (smallL n.toList) != -1 || decide ((len : Int) < 40))) = true := by
    unfold longA at hlg
    simp at hlg
    rw [decide_eq_true (by omega)]
    by_cases hp : placeA L n.toList < L.length
    · rw [atL_place hp, show ((placeA L n.toList : Int) != -1) = true from by unfold bne; rw [beq_eq_false_iff_ne.2 (by omega)]; rfl]
      rfl
    · rw [decide_eq_true (show (len : Int) < 40 by rw [← h.hlen]; omega)]
      simp
  by_cases hp : placeA L n.toList < L.length
  · have hat := atL_place hp
    have hp' : placeA L n.toList < len := by rw [← h.hlen]; exact hp
    obtain ⟨x, hx, hx1⟩ := place_key hp
    have HSL : Hid (setL L n.toList v = L.set (placeA L n.toList) (ofL (smallL n.toList), v)) := Lib.hid (by unfold setL; rw [if_pos hp])
    have HX := Lib.hid hx
    have HX1 := Lib.hid hx1
    obtain ⟨p, hpp⟩ : ∃ p, placeA L n.toList = p := ⟨_, rfl⟩
    rw [hpp] at hat hp' HX HSL
    rw [hat] at C2 hfit
    have C3 := Lib.hid C2
    have CF2 : Hid (∀ W, Calls Tryz.prog 133 #[.slice a len cap, .int .i64 p, .string v] W fun e w' => e = .returned (.bool true) ∧ W = w') := Lib.hid (fun W => by
      have := CF.out W p
      rwa [hfit] at this)
    have z1 : ((p : Int) == -1) = false := beq_eq_false_iff_ne.2 (by omega)
    clear h hn hv hg hlen C1 C2 hp hfit hlg hr hnr F1 F2 F3 hk40 CF hat hpp hx hx1
    go_enter Tryz.func73, Tryz.ntmps73
    go_wp2_with (first
      | (go_at_call 132; refine C3.out.mono ?_; rintro e w' ⟨rfl, HB⟩)
      | (go_at_call 133; refine (CF2.out _).mono ?_; rintro e w' ⟨rfl, rfl⟩)
      | (go_at_call 134; refine (CC.out _ HB).mono ?_; rintro e w1 ⟨v2, rfl, hown, HB2⟩
         obtain ⟨g, cap1, rfl, hgb, hglt⟩ := World.ownsRow.form hown (by omega)
         have hcell : w1.cell? ⟨g, p * 2 + 1, none⟩ = some (.string x.2) := by
           rw [hown.cellAt (p * 2 + 1) (by omega), flat_get (fun x _ => encA_len x) HX.out (by decide)]
           rfl
         have hfree := hown.frozenAt (p * 2 + 1)
         have HO := Lib.hid hown
         clear hown))
    go_ret2
    rw [HE.out, HM.out, HSL.out]
    have hst := (HO.out.stored (p * 2 + 1) (.string v)).1
    rw [← set_flat (y := (ofL (smallL n.toList), v)) HX.out HX1.out.symm] at hst
    refine SetNew.mk rfl (by rw [List.length_set]; exact HL.out) hst (fun y hy => ?_) (HB2.setCell hgb _)
    rcases List.mem_or_eq_of_mem_set hy with hy | rfl
    · exact H.out.small y hy
    · refine ⟨?_, HV.out⟩
      rw [size_ofL, smallL_length, tl_len]
      exact HN.out
  · have hat := atL_noplace hp
    have HSL : Hid (setL L n.toList v = L ++ [(ofL (smallL n.toList), v)]) := Lib.hid (by unfold setL; rw [if_neg hp])
    obtain ⟨i0, hi0, hz0, hz1, hz2⟩ := info_parts attr_info
    rw [hat] at C2 hfit
    have C3 := Lib.hid C2
    have CF2 : Hid (∀ W, Calls Tryz.prog 133 #[.slice a len cap, .int .i64 (-1), .string v] W fun e w' => e = .returned (.bool true) ∧ W = w') := Lib.hid (fun W => by
      have := CF.out W (-1)
      rwa [hfit] at this)
    clear h hn hv hg hlen C1 C2 hp hfit hlg hr hnr F1 F2 F3 hk40 CF hat
    go_enter Tryz.func73, Tryz.ntmps73
    go_wp2_with (first
      | (go_at_call 132; refine C3.out.mono ?_; rintro e w' ⟨rfl, HB⟩)
      | (go_at_call 133; refine (CF2.out _).mono ?_; rintro e w' ⟨rfl, rfl⟩)
      | (go_at_call 134; refine (CC.out _ HB).mono ?_; rintro e w1 ⟨v2, rfl, hown, HB2⟩; have HO := Lib.hid hown; clear hown)
      | (at_builtin
         refine wpList_append_rows rfl (.tmp 38) (.tmp 42) 50 rfl 160 i0 _ 2 32 Tryz.underlying50 hi0 hz0 hz1 hz2 rfl (by decide) w.heap.size _ len L [(ofL (smallL n.toList), v)] rfl (HO.out.alloc _) _ 1 1 rfl (own_one _ _ _ _ rfl rfl) (fun x _ => encA_one x) (by unfold maxLen; omega) (by omega) (by have := HB2.size; simp; omega) (fun h => by cases h) ?_
         intro v3 w3 hown3 hg3 hat3
         have HB3 := below_own HB2 HO.out hg3
         have HO3 := Lib.hid hown3
         clear hown3 hg3 hat3))
    go_ret2
    rw [HE.out, HM.out, HSL.out]
    refine SetNew.mk rfl (by rw [List.length_append, HL.out]; rfl) HO3.out (fun y hy => ?_) HB3
    rcases List.mem_append.1 hy with hy | hy
    · exact H.out.small y hy
    · simp at hy; subst hy
      refine ⟨?_, HV.out⟩
      rw [size_ofL, smallL_length, tl_len]
      exact HN.out
end Go.Proofs.YtiffhlncnpppoaaGreatDoor
namespace Go.Proofs.YtiffhlncnpppoaaGreatDoor
open Go.RowKit
attribute [local go_sem ↓] Go.wp_at_zero Go.wp_at_succ
theorem node_info : (Tryz.prog.info? 53).map (fun i => (i.zero, i.size, i.bytes)) = some (some (.agg #[.int .i64 0, .string ⟨#[]⟩, .string ⟨#[]⟩, .string ⟨#[]⟩, .slice none 0 0, .int .i64 0, .slice none 0 0, .int .i64 0, .int .i64 0, .int .i64 0]), 10, 136) := by kernel_rfl
def OwnPostI (w : World) (L : List Int) (e : Ending) (w' : World) : Prop := ∃ v, e = .returned v ∧ w'.ownsRow w.heap.size 3 1 v L.length (L.flatMap encZ) ∧ Below w.heap.size w w'
def OwnPostN (w : World) (L : List NodeD) (e : Ending) (w' : World) : Prop := ∃ v, e = .returned v ∧ w'.ownsRow w.heap.size 53 10 v L.length (L.flatMap encN) ∧ Below w.heap.size w w'
set_option maxHeartbeats 4000000 in
theorem cloneI_any (a : Option Addr) (len cap : Nat) (L : List Int) (w : World) (h : IntRow w a len cap L) (h40 : len ≤ 1000000) :
    Calls Tryz.prog 92 #[.slice a len cap] w (OwnPostI w L) := by
  obtain ⟨i0, hi0, hz0, hz1, hz2⟩ := info_parts int_info
  have HL := Lib.hid h.hlen
  have q22 : ∀ (w : World) (a : Option Addr) (n c n' c' : Nat), (binOp .eql 51 (.slice a n c) (.slice none n' c')).run Tryz.prog w = .ok (.bool a.isNone) w := fun w a n c n' c' => Lib.run_eql_slice_nil w _ _ a n c n' c' Tryz.underlying51
  rcases a with _ | ad
  · have hc : cap = 0 := h.hnil rfl
    have h0 : len = 0 := by have := h.row.hcap; omega
    have hLn : L = [] := List.eq_nil_of_length_eq_zero (by rw [h.hlen, h0])
    subst hc; subst h0; subst hLn
    clear h
    go_enter Tryz.func92, Tryz.ntmps92
    go_wp2
    go_ret
    exact ⟨_, rfl, World.ownsRow_nil _ _ _ _, Below.refl _ _⟩
  · have H := Lib.hid h
    have HE := Lib.hid (own_empty (α := Int) (enc := encZ) (size := 1) w w.heap.size 3 (Nat.le_refl _))
    clear h
    go_enter Tryz.func92, Tryz.ntmps92
    go_wp2_with (first
      | (at_builtin
         refine wpList_append_rows rfl (.tmp 5) (.tmp 6) 51 rfl 3 i0 _ 1 8 Tryz.underlying51 hi0 hz0 hz1 hz2 rfl (by decide) w.heap.size _ 0 _ L rfl HE.out (some ad) len cap rfl (H.out.below ((Below.refl _ _).alloc (Nat.le_refl _) _)).row (fun x _ => encZ_one x) (by unfold maxLen; omega) (by omega) (by simp) (fun h => by cases h) ?_
         intro v2 w2 hown2 hg2 hat2
         have HB2 := below_new (Below.refl _ _) hg2
         have HO2 := Lib.hid hown2
         clear hown2 hg2 hat2))
    go_ret
    refine ⟨_, rfl, ?_, HB2⟩
    have := HO2.out
    rw [HL.out]
    simpa using this
set_option maxHeartbeats 4000000 in
theorem cloneN_any (a : Option Addr) (len cap : Nat) (L : List NodeD) (w : World) (h : NodeRow w a len cap L) (h40 : len ≤ 1000000) :
    Calls Tryz.prog 152 #[.slice a len cap] w (OwnPostN w L) := by
  obtain ⟨i0, hi0, hz0, hz1, hz2⟩ := info_parts node_info
  have HL := Lib.hid h.hlen
  have q22 : ∀ (w : World) (a : Option Addr) (n c n' c' : Nat), (binOp .eql 22 (.slice a n c) (.slice none n' c')).run Tryz.prog w = .ok (.bool a.isNone) w := fun w a n c n' c' => Lib.run_eql_slice_nil w _ _ a n c n' c' Tryz.underlying22
  rcases a with _ | ad
  · have hc : cap = 0 := h.hnil rfl
    have h0 : len = 0 := by have := h.row.hcap; omega
    have hLn : L = [] := List.eq_nil_of_length_eq_zero (by rw [h.hlen, h0])
    subst hc; subst h0; subst hLn
    clear h
    go_enter Tryz.func152, Tryz.ntmps152
    go_wp2
    go_ret
    exact ⟨_, rfl, World.ownsRow_nil _ _ _ _, Below.refl _ _⟩
  · have H := Lib.hid h
    have HE := Lib.hid (own_empty (α := NodeD) (enc := encN) (size := 10) w w.heap.size 53 (Nat.le_refl _))
    clear h
    go_enter Tryz.func152, Tryz.ntmps152
    go_wp2_with (first
      | (at_builtin
         refine wpList_append_rows rfl (.tmp 5) (.tmp 6) 22 rfl 53 i0 _ 10 136 Tryz.underlying22 hi0 hz0 hz1 hz2 rfl (by decide) w.heap.size _ 0 _ L rfl HE.out (some ad) len cap rfl (H.out.below ((Below.refl _ _).alloc (Nat.le_refl _) _)).row (fun x _ => encN_one x) (by unfold maxLen; omega) (by omega) (by simp) (fun h => by cases h) ?_
         intro v2 w2 hown2 hg2 hat2
         have HB2 := below_new (Below.refl _ _) hg2
         have HO2 := Lib.hid hown2
         clear hown2 hg2 hat2))
    go_ret
    refine ⟨_, rfl, ?_, HB2⟩
    have := HO2.out
    rw [HL.out]
    simpa using this
theorem IntRow.of_own_new {w : World} {base : Nat} {v : Value} {n : Nat} {M : List Int} (hl : M.length = n) (h : w.ownsRow base 3 1 v n (M.flatMap encZ)) (hs : ∀ x ∈ M, In64 x) :
    ∃ a cap, v = .slice a n cap ∧ IntRow w a n cap M ∧ ∀ b off, a = some ⟨b, off, none⟩ → base ≤ b := by
  rcases h.2 with ⟨rfl, h0⟩ | ⟨g, cap, cur, rfl, _⟩
  · subst h0
    have hL : M = [] := List.eq_nil_of_length_eq_zero hl
    subst hL
    exact ⟨none, 0, rfl, ⟨SRow.nil, hs, fun _ => rfl⟩, fun b off h => by cases h⟩
  · obtain ⟨a, cap', he, hr, hb⟩ := SRow.of_own (fun x _ => encZ_len x) hl h
    injection he with h1 h2 h3
    subst h1; subst h3
    exact ⟨_, _, rfl, ⟨hr, hs, fun h => by cases h⟩, hb⟩
def NodeAway (g : Nat) (x : NodeD) : Prop := (∀ b off, x.aA = some ⟨b, off, none⟩ → 0 < x.aN → b ≠ g) ∧ (∀ b off, x.kA = some ⟨b, off, none⟩ → 0 < x.kN → b ≠ g)
theorem NodeOk.away {w : World} {x : NodeD} {g : Nat} (h : NodeOk w x) (hg : w.heap.size ≤ g) : NodeAway g x := by
  refine ⟨fun b off ha hp e => ?_, fun b off ha hp e => ?_⟩
  · rcases h.attrs.row.cells with h0 | ⟨b', off', ha', hlt, _⟩
    · omega
    · rw [ha] at ha'
      injection ha' with ha'
      injection ha' with e1
      omega
  · rcases h.kids.row.cells with h0 | ⟨b', off', ha', hlt, _⟩
    · omega
    · rw [ha] at ha'
      injection ha' with ha'
      injection ha' with e1
      omega
theorem NodeOk.setCell {w : World} {x : NodeD} {g o : Nat} (h : NodeOk w x) (ha : NodeAway g x) (u : Value) : NodeOk (w.setCell ⟨g, o, none⟩ u) x := by
  have hs : w.heap.size ≤ (w.setCell ⟨g, o, none⟩ u).heap.size := by simp [World.setCell]
  have far : ∀ b o', b ≠ g → (w.setCell ⟨g, o, none⟩ u).cell? ⟨b, o', none⟩ = w.cell? ⟨b, o', none⟩ := fun b o' hne => World.cell?_setCell_other _ _ _ _ (fun e => hne (by injection e with e _; exact e.symm))
  exact ⟨⟨h.attrs.row.keep hs (fun b off he hp o' => far b o' (ha.1 b off he hp)), h.attrs.small, h.attrs.hnil⟩, ⟨h.kids.row.keep hs (fun b off he hp o' => far b o' (ha.2 b off he hp)), h.kids.inb, h.kids.hnil⟩, h.name, h.is, h.data, h.kind, h.parent, h.host, h.under, h.doc⟩
def aloneC (x : Core) (n : Int) : Core := ⟨x.kind, x.name, x.is, x.data, x.attrs, -1, [], -1, -1, if x.kind = 0 then n else x.doc⟩
def AlonePost (w : World) (x : Core) (n : Int) (e : Ending) (w' : World) : Prop := ∃ y : NodeD, e = .returned (nodVal y) ∧ y.core = aloneC x n ∧ NodeOk w' y ∧ Below w.heap.size w w' ∧ (∀ b off, y.aA = some ⟨b, off, none⟩ → w.heap.size ≤ b) ∧ y.kA = none
abbrev zeroNB : Obj := .cells #[.int .i64 0, .string ⟨#[]⟩, .string ⟨#[]⟩, .string ⟨#[]⟩, .slice none 0 0, .int .i64 0, .slice none 0 0, .int .i64 0, .int .i64 0, .int .i64 0] 53
structure Zero10 (W : World) (g : Nat) : Prop where
  lt : g < W.heap.size
  c : ∀ j v, (#[.int .i64 0, .string ⟨#[]⟩, .string ⟨#[]⟩, .string ⟨#[]⟩, .slice none 0 0, .int .i64 0, .slice none 0 0, .int .i64 0, .int .i64 0, .int .i64 0] : Array Value)[j]? = some v → W.cell? ⟨g, j, none⟩ = some v
  f : ∀ j, W.frozen? ⟨g, j, none⟩ = false
theorem Zero10.keep {W W2 : World} {g : Nat} (h : Zero10 W g) (hb : Below W.heap.size W W2) : Zero10 W2 g :=
  ⟨Nat.lt_of_lt_of_le h.lt hb.size, fun j v hv => (hb.cell (p := ⟨g, j, none⟩) h.lt).trans (h.c j v hv), fun j => (hb.frozen (p := ⟨g, j, none⟩) h.lt).trans (h.f j)⟩
theorem Zero10.new (W : World) : Zero10 (W.alloc zeroNB) W.heap.size :=
  ⟨by simp, fun j v hv => by rw [cell_of_row (W.alloc zeroNB) W.heap.size j _ 53 (0, 0) (heap_alloc_new W _), hv], fun j => row_free (heap_alloc_new W zeroNB) j⟩
structure AloneSt (w W : World) (x : NodeD) : Prop where
  a : NBox w W w.heap.size x
  z : Zero10 W (w.heap.size + 1)
  below : Below w.heap.size w W
theorem AloneSt.keep {w W W2 : World} {x : NodeD} (h : AloneSt w W x) (hb : Below W.heap.size W W2) : AloneSt w W2 x := ⟨h.a.keep hb, h.z.keep hb, h.below.trans (hb.mono h.below.size)⟩
theorem AloneSt.start {w : World} {x : NodeD} (h : NodeOk w x) : AloneSt w ((w.alloc (nodB x)).alloc zeroNB) x := by
  refine ⟨(NKeep.start h).box.keep (below_box _ _), ?_, (below_box w _).alloc (by simp) _⟩
  have := Zero10.new (w.alloc (nodB x))
  rwa [World.size_alloc] at this
theorem inM1 : In64 (-1) := ⟨by decide, by decide⟩
theorem OwnPost.row {w w' : World} {L : AL} {e : Ending} (h : OwnPost w L e w') (hs : ∀ x ∈ L, x.1.size ≤ maxLen ∧ x.2.size ≤ maxLen) : ∃ a cap, e = .returned (.slice a L.length cap) ∧ AttrRow w' a L.length cap L ∧ (∀ b off, a = some ⟨b, off, none⟩ → w.heap.size ≤ b) ∧ Below w.heap.size w w' := by
  obtain ⟨v, he, hown, hb⟩ := h
  obtain ⟨a, cap, hv, hr, hl⟩ := AttrRow.of_own_new (M := L) (n := L.length) rfl hown hs
  exact ⟨a, cap, by rw [he, hv], hr, hl, hb⟩
theorem OwnPostI.row {w w' : World} {L : List Int} {e : Ending} (h : OwnPostI w L e w') (hs : ∀ x ∈ L, In64 x) : ∃ a cap, e = .returned (.slice a L.length cap) ∧ IntRow w' a L.length cap L ∧ (∀ b off, a = some ⟨b, off, none⟩ → w.heap.size ≤ b) ∧ Below w.heap.size w w' := by
  obtain ⟨v, he, hown, hb⟩ := h
  obtain ⟨a, cap, hv, hr, hl⟩ := IntRow.of_own_new (M := L) (n := L.length) rfl hown hs
  exact ⟨a, cap, by rw [he, hv], hr, hl, hb⟩
set_option maxHeartbeats 8000000 in
set_option maxRecDepth 100000 in
theorem alone_any (x : NodeD) (n : Int) (w : World) (h : NodeOk w x) (hn : In64 n) (ha : x.core.attrs.length ≤ 1000) :
    Calls Tryz.prog 114 #[nodVal x, .int .i64 n] w (AlonePost w x.core n) := by
  obtain ⟨⟨kind, name, is, data, attrs, parent, kids, host, under, doc⟩, aA, aN, aC, kA, kN, kC⟩ := x
  have HAN : Hid (aN ≤ 1000) := Lib.hid (by have : attrs.length = aN := h.attrs.hlen; dsimp only at ha; omega)
  have HN := Lib.hid hn
  by_cases k0 : kind = 0
  · subst k0
    obtain ⟨W0, hW0, ST⟩ : ∃ W0, (w.alloc (nodB ⟨⟨0, name, is, data, attrs, parent, kids, host, under, doc⟩, aA, aN, aC, kA, kN, kC⟩)).alloc zeroNB = W0 ∧ AloneSt w W0 ⟨⟨0, name, is, data, attrs, parent, kids, host, under, doc⟩, aA, aN, aC, kA, kN, kC⟩ := ⟨_, rfl, AloneSt.start h⟩
    have ST := Lib.hid ST
    have HW := Lib.hid hW0
    have HZ : Hid (w.heap.size + 1 < W0.heap.size) := Lib.hid ST.out.z.lt
    have HH := Lib.hid h
    have CA : Hid (∀ W, AttrRow W aA aN aC attrs → Calls Tryz.prog 134 #[.slice aA aN aC] W (OwnPost W attrs)) := Lib.hid (fun W h => clone_any aA aN aC attrs W h (by have := HAN.out; omega))
    have HSM := Lib.hid h.attrs.small
    clear h hn ha hW0
    go_enter Tryz.func114, Tryz.ntmps114
    go_wp2
    rw [HW.out]
    obtain ⟨-, x0, x1, x2, x3, x4, x5, x6, x7, x8, x9, -⟩ := ST.out.a
    dsimp only at x0 x1 x2 x3 x4
    go_region_held3 (fun w' => w'.cell? ⟨w.heap.size, 0, none⟩ = some (.int .i64 0) ∧ w'.cell? ⟨w.heap.size, 1, none⟩ = some (.string name) ∧ w'.cell? ⟨w.heap.size, 2, none⟩ = some (.string is) ∧ w'.cell? ⟨w.heap.size, 3, none⟩ = some (.string data) ∧ w'.cell? ⟨w.heap.size, 4, none⟩ = some (.slice aA aN aC)) (go_keep)
      (first | (go_at_call 134; refine (CA.out _ ST.out.a.ok.attrs.drew).mono ?_; intro e w1 hp; obtain ⟨a2, c2, rfl, hrw, hlow, hb⟩ := hp.row HSM.out; have HRW := Lib.hid hrw; have HLW := Lib.hid hlow; have ST := Lib.hid (ST.out.keep ((Below.refl _ _).drew.trans hb)); obtain ⟨-, x0, x1, x2, x3, x4, x5, x6, x7, x8, x9, -⟩ := ST.out.a; dsimp only at x0 x1 x2 x3 x4; have d0 := ST.out.z.c 0 _ rfl; have d1 := ST.out.z.c 1 _ rfl; have d2 := ST.out.z.c 2 _ rfl; have d3 := ST.out.z.c 3 _ rfl; have d4 := ST.out.z.c 4 _ rfl; have d5 := ST.out.z.c 5 _ rfl; have d6 := ST.out.z.c 6 _ rfl; have d7 := ST.out.z.c 7 _ rfl; have d8 := ST.out.z.c 8 _ rfl; have d9 := ST.out.z.c 9 _ rfl; have f0 := ST.out.z.f 0; have f1 := ST.out.z.f 1; have f2 := ST.out.z.f 2; have f3 := ST.out.z.f 3; have f4 := ST.out.z.f 4; have f5 := ST.out.z.f 5; have f6 := ST.out.z.f 6; have f7 := ST.out.z.f 7; have f8 := ST.out.z.f 8; have f9 := ST.out.z.f 9; clear x5 x6 x7 x8 x9 hb hp hrw hlow))
    go_wp2
    have HG : w.heap.size + 1 < W0.heap.size := HZ.out
    have hk : NodeOk w1 ⟨⟨0, name, is, data, attrs, -1, [], -1, -1, n⟩, a2, attrs.length, c2, none, 0, 0⟩ := ⟨HRW.out, ⟨SRow.nil, (fun z hz => by cases hz), fun _ => rfl⟩, HH.out.name, HH.out.is, HH.out.data, HH.out.kind, inM1, inM1, inM1, HN.out⟩
    have haw : NodeAway (w.heap.size + 1) ⟨⟨0, name, is, data, attrs, -1, [], -1, -1, n⟩, a2, attrs.length, c2, none, 0, 0⟩ := ⟨fun b off hb _ e => by have := HLW.out b off hb; simp at this; omega, fun b off hb => by cases hb⟩
    refine bodyPost_ret (v := nodVal ⟨⟨0, name, is, data, attrs, -1, [], -1, -1, n⟩, a2, attrs.length, c2, none, 0, 0⟩) ?_ rfl ⟨_, rfl, rfl, ((((((((((hk.setCell haw _).setCell haw _).setCell haw _).setCell haw _).setCell haw _).setCell haw _).setCell haw _).setCell haw _).setCell haw _).setCell haw _), ?_, fun b off hb => ?_, rfl⟩
    · simp [results, Tryz.results114, go_sem, d0, d1, d2, d3, d4, d5, d6, d7, d8, d9]
    · exact (((((((((ST.out.below.setCell (p := ⟨w.heap.size + 1, 0, none⟩) (by simp) _).setCell (p := ⟨w.heap.size + 1, 1, none⟩) (by simp) _).setCell (p := ⟨w.heap.size + 1, 2, none⟩) (by simp) _).setCell (p := ⟨w.heap.size + 1, 3, none⟩) (by simp) _).setCell (p := ⟨w.heap.size + 1, 4, none⟩) (by simp) _).setCell (p := ⟨w.heap.size + 1, 5, none⟩) (by simp) _).setCell (p := ⟨w.heap.size + 1, 6, none⟩) (by simp) _).setCell (p := ⟨w.heap.size + 1, 7, none⟩) (by simp) _).setCell (p := ⟨w.heap.size + 1, 8, none⟩) (by simp) _).setCell (p := ⟨w.heap.size + 1, 9, none⟩) (by simp) _
    · have := HLW.out b off hb
      simp at this
      omega
  · have HAC : Hid ((⟨kind, name, is, data, attrs, -1, [], -1, -1, doc⟩ : Core) = aloneC ⟨kind, name, is, data, attrs, parent, kids, host, under, doc⟩ n) := Lib.hid (by unfold aloneC; dsimp only; rw [if_neg k0])
    have f0 : (kind == 0) = false := beq_eq_false_iff_ne.2 k0
    clear k0
    obtain ⟨W0, hW0, ST⟩ : ∃ W0, (w.alloc (nodB ⟨⟨kind, name, is, data, attrs, parent, kids, host, under, doc⟩, aA, aN, aC, kA, kN, kC⟩)).alloc zeroNB = W0 ∧ AloneSt w W0 ⟨⟨kind, name, is, data, attrs, parent, kids, host, under, doc⟩, aA, aN, aC, kA, kN, kC⟩ := ⟨_, rfl, AloneSt.start h⟩
    have ST := Lib.hid ST
    have HW := Lib.hid hW0
    have HZ : Hid (w.heap.size + 1 < W0.heap.size) := Lib.hid ST.out.z.lt
    have HH := Lib.hid h
    have CA : Hid (∀ W, AttrRow W aA aN aC attrs → Calls Tryz.prog 134 #[.slice aA aN aC] W (OwnPost W attrs)) := Lib.hid (fun W h => clone_any aA aN aC attrs W h (by have := HAN.out; omega))
    have HSM := Lib.hid h.attrs.small
    clear h hn ha hW0
    go_enter Tryz.func114, Tryz.ntmps114
    go_wp2
    rw [HW.out]
    obtain ⟨-, x0, x1, x2, x3, x4, x5, x6, x7, x8, x9, -⟩ := ST.out.a
    dsimp only at x0 x1 x2 x3 x4
    go_region_held3 (fun w' => w'.cell? ⟨w.heap.size, 0, none⟩ = some (.int .i64 kind) ∧ w'.cell? ⟨w.heap.size, 1, none⟩ = some (.string name) ∧ w'.cell? ⟨w.heap.size, 2, none⟩ = some (.string is) ∧ w'.cell? ⟨w.heap.size, 3, none⟩ = some (.string data) ∧ w'.cell? ⟨w.heap.size, 4, none⟩ = some (.slice aA aN aC)) (go_keep)
      (first | (go_at_call 134; refine (CA.out _ ST.out.a.ok.attrs.drew).mono ?_; intro e w1 hp; obtain ⟨a2, c2, rfl, hrw, hlow, hb⟩ := hp.row HSM.out; have HRW := Lib.hid hrw; have HLW := Lib.hid hlow; have ST := Lib.hid (ST.out.keep ((Below.refl _ _).drew.trans hb)); obtain ⟨-, x0, x1, x2, x3, x4, x5, x6, x7, x8, x9, -⟩ := ST.out.a; dsimp only at x0 x1 x2 x3 x4; have d0 := ST.out.z.c 0 _ rfl; have d1 := ST.out.z.c 1 _ rfl; have d2 := ST.out.z.c 2 _ rfl; have d3 := ST.out.z.c 3 _ rfl; have d4 := ST.out.z.c 4 _ rfl; have d5 := ST.out.z.c 5 _ rfl; have d6 := ST.out.z.c 6 _ rfl; have d7 := ST.out.z.c 7 _ rfl; have d8 := ST.out.z.c 8 _ rfl; have d9 := ST.out.z.c 9 _ rfl; have f0 := ST.out.z.f 0; have f1 := ST.out.z.f 1; have f2 := ST.out.z.f 2; have f3 := ST.out.z.f 3; have f4 := ST.out.z.f 4; have f5 := ST.out.z.f 5; have f6 := ST.out.z.f 6; have f7 := ST.out.z.f 7; have f8 := ST.out.z.f 8; have f9 := ST.out.z.f 9; clear x5 x6 x7 x8 x9 hb hp hrw hlow))
    go_wp2
    have HG : w.heap.size + 1 < W0.heap.size := HZ.out
    have hk : NodeOk w1 ⟨⟨kind, name, is, data, attrs, -1, [], -1, -1, doc⟩, a2, attrs.length, c2, none, 0, 0⟩ := ⟨HRW.out, ⟨SRow.nil, (fun z hz => by cases hz), fun _ => rfl⟩, HH.out.name, HH.out.is, HH.out.data, HH.out.kind, inM1, inM1, inM1, HH.out.doc⟩
    have haw : NodeAway (w.heap.size + 1) ⟨⟨kind, name, is, data, attrs, -1, [], -1, -1, doc⟩, a2, attrs.length, c2, none, 0, 0⟩ := ⟨fun b off hb _ e => by have := HLW.out b off hb; simp at this; omega, fun b off hb => by cases hb⟩
    refine bodyPost_ret (v := nodVal ⟨⟨kind, name, is, data, attrs, -1, [], -1, -1, doc⟩, a2, attrs.length, c2, none, 0, 0⟩) ?_ rfl ⟨_, rfl, HAC.out, ((((((((((hk.setCell haw _).setCell haw _).setCell haw _).setCell haw _).setCell haw _).setCell haw _).setCell haw _).setCell haw _).setCell haw _).setCell haw _), ?_, fun b off hb => ?_, rfl⟩
    · simp [results, Tryz.results114, go_sem, d0, d1, d2, d3, d4, d5, d6, d7, d8, d9]
    · exact (((((((((ST.out.below.setCell (p := ⟨w.heap.size + 1, 0, none⟩) (by simp) _).setCell (p := ⟨w.heap.size + 1, 1, none⟩) (by simp) _).setCell (p := ⟨w.heap.size + 1, 2, none⟩) (by simp) _).setCell (p := ⟨w.heap.size + 1, 3, none⟩) (by simp) _).setCell (p := ⟨w.heap.size + 1, 4, none⟩) (by simp) _).setCell (p := ⟨w.heap.size + 1, 5, none⟩) (by simp) _).setCell (p := ⟨w.heap.size + 1, 6, none⟩) (by simp) _).setCell (p := ⟨w.heap.size + 1, 7, none⟩) (by simp) _).setCell (p := ⟨w.heap.size + 1, 8, none⟩) (by simp) _).setCell (p := ⟨w.heap.size + 1, 9, none⟩) (by simp) _
    · have := HLW.out b off hb
      simp at this
      omega
end Go.Proofs.YtiffhlncnpppoaaGreatDoor
