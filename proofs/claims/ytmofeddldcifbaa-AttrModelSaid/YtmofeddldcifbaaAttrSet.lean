/- instarref02's Set: it hands back what setA says, in new memory or in the list's own, and an error's number. -/
import Derived.Test.YtmofeddldcifbaaAttrRef2
import Derived.Laws.OwnMore
namespace Go.Proofs.Ytmofeddldcifbaa
open Go.RowKit
/-- A call that hands back a list of attributes and a number. -/
def SetPost (w : World) (M : AL) (z : Int) (e : Ending) (w' : World) : Prop := ∃ a len cap, e = .returned (.tuple #[.slice a len cap, .int .i64 z]) ∧ AttrRow w' a len cap M ∧ Below w.heap.size w w'
theorem SetPost.mk {w w' : World} {M : AL} {z : Int} {e : Ending} {a : Option Addr} {len cap : Nat} (he : e = .returned (.tuple #[.slice a len cap, .int .i64 z])) (h : AttrRow w' a len cap M) (hb : Below w.heap.size w w') : SetPost w M z e w' := ⟨a, len, cap, he, h, hb⟩
theorem attr_info : (Try.prog.info? 41).map (fun i => (i.zero, i.size, i.bytes)) = some (some (.agg #[.string ⟨#[]⟩, .string ⟨#[]⟩]), 2, 32) := by kernel_rfl
/-- A row that the call owns, as a list of attributes. -/
theorem AttrRow.of_own {w : World} {base : Nat} {v : Value} {n : Nat} {M : AL} (hl : M.length = n) (h : w.ownsRow base 41 2 v n (M.flatMap encA)) (hs : ∀ x ∈ M, x.1.size ≤ maxLen ∧ x.2.size ≤ maxLen) :
    ∃ a cap, v = .slice a n cap ∧ AttrRow w a n cap M := by
  rcases h.2 with ⟨rfl, h0⟩ | ⟨g, cap, cur, rfl, _⟩
  · subst h0
    have hL : M = [] := List.eq_nil_of_length_eq_zero hl
    subst hL
    exact ⟨none, 0, rfl, SRow.nil, hs, fun _ => rfl⟩
  · obtain ⟨a, cap', he, hr, _⟩ := SRow.of_own (fun x _ => encA_len x) hl h
    injection he with h1 h2 h3
    subst h1; subst h3
    exact ⟨_, _, rfl, hr, hs, fun h => by cases h⟩
theorem set_flat {M : AL} {p : Nat} {x y : ByteArray × ByteArray} (hx : M[p]? = some x) (hn : y.1 = x.1) : (M.set p y).flatMap encA = (M.flatMap encA).set (p * 2 + 1) (.string y.2) := by
  induction M generalizing p with
  | nil => simp at hx
  | cons z r ih =>
    cases p with
    | zero =>
      simp at hx; subst hx
      simp [encA, hn]
    | succ p =>
      have := ih (p := p) (by simpa using hx)
      have e : (p + 1) * 2 + 1 = p * 2 + 1 + 1 + 1 := by omega
      rw [List.set_cons_succ, List.flatMap_cons, List.flatMap_cons, this, e]
      simp [encA]

set_option maxHeartbeats 16000000 in
set_option maxRecDepth 100000 in
theorem refset_any (a : Option Addr) (len cap : Nat) (L : AL) (n v : ByteArray) (w : World) (h : AttrRow w a len cap L) (hn : n.size ≤ maxLen) (hv : v.size ≤ maxLen) :
    Calls Try.prog 13 #[.slice a len cap, .string n, .string v] w (SetPost w (setA L n.toList v) (setE L n.toList v)) := by
  have HB : Below w.heap.size w w := Below.refl _ _
  have H := Lib.hid h
  have HN := Lib.hid hn
  have HVS := Lib.hid hv
  have hl64 := h.len64
  have hv64 : v.size ≤ 9223372036854775807 := by unfold maxLen at hv; omega
  clear h hn hv
  by_cases hr : rightA L = true
  rotate_left
  · have hr : rightA L = false := by simpa using hr
    have HE : Hid (setE L n.toList v = 1) := Lib.hid (by unfold setE; rw [hr]; rfl)
    have HM : Hid (setA L n.toList v = L) := Lib.hid (by unfold setA; rw [HE.out]; rfl)
    go_enter Try.func13, Try.ntmps13
    go_wp2_with (first
      | (go_at_call 19; refine (refrightA_any _ _ _ L _ H.out).mono ?_; rintro e w' ⟨rfl, hb⟩; have HB := HB.trans (hb.mono HB.size); clear hb))
    go_ret2
    rw [HE.out, HM.out]
    exact SetPost.mk rfl (H.out.below HB) HB
  by_cases hnr : rightL n.toList = true
  rotate_left
  · have hnr : rightL n.toList = false := by simpa using hnr
    have HE : Hid (setE L n.toList v = 4) := Lib.hid (by unfold setE; rw [hr, hnr]; rfl)
    have HM : Hid (setA L n.toList v = L) := Lib.hid (by unfold setA; rw [HE.out]; rfl)
    go_enter Try.func13, Try.ntmps13
    go_wp2_with (first
      | (go_at_call 19; refine (refrightA_any _ _ _ L _ H.out).mono ?_; rintro e w' ⟨rfl, hb⟩; have HB := HB.trans (hb.mono HB.size); clear hb)
      | (go_at_call 25; refine (refright_any _ _ HN.out).mono ?_; rintro e w' ⟨rfl, rfl⟩))
    go_ret2
    rw [HE.out, HM.out]
    exact SetPost.mk rfl (H.out.below HB) HB
  have HS := Lib.hid (small40 hnr)
  have h40 : len ≤ 40 := by have := ((rightA_iff L).1 hr).1; rw [H.out.hlen] at this; exact this
  by_cases hlg : longA L n.toList v = true
  · have HE : Hid (setE L n.toList v = 3) := Lib.hid (by unfold setE; rw [hr, hnr, hlg]; rfl)
    have HM : Hid (setA L n.toList v = L) := Lib.hid (by unfold setA; rw [HE.out]; rfl)
    have hcase : 200 < v.size ∨ (¬ placeA L n.toList < L.length ∧ 40 ≤ len) := by
      unfold longA at hlg
      rw [H.out.hlen] at hlg
      simp at hlg
      rw [H.out.hlen]
      omega
    clear hlg
    by_cases hp : placeA L n.toList < L.length
    · have hat := atL_place hp
      have hbig : (200 : Int) < (v.size : Int) := by omega
      clear hcase hp
      go_enter Try.func13, Try.ntmps13
      go_wp2_with (first
        | (go_at_call 19; refine (refrightA_any _ _ _ L _ H.out).mono ?_; rintro e w' ⟨rfl, hb⟩; have HB := HB.trans (hb.mono HB.size); clear hb)
        | (go_at_call 25; refine (refright_any _ _ HN.out).mono ?_; rintro e w' ⟨rfl, rfl⟩)
        | (go_at_call 26; refine (refsmall_any _ _ HS.out).mono ?_; rintro e w' ⟨rfl, hb⟩; have HB := HB.trans (hb.mono HB.size); clear hb)
        | (go_at_call 21; refine (refat_any _ _ _ L _ _ (H.out.below HB)).mono ?_; rintro e w' ⟨rfl, rfl⟩))
      go_ret2
      rw [HE.out, HM.out]
      exact SetPost.mk rfl (H.out.below HB) HB
    · have hat := atL_noplace hp
      by_cases hbig : (200 : Int) < (v.size : Int)
      · clear hcase hp
        go_enter Try.func13, Try.ntmps13
        go_wp2_with (first
          | (go_at_call 19; refine (refrightA_any _ _ _ L _ H.out).mono ?_; rintro e w' ⟨rfl, hb⟩; have HB := HB.trans (hb.mono HB.size); clear hb)
          | (go_at_call 25; refine (refright_any _ _ HN.out).mono ?_; rintro e w' ⟨rfl, rfl⟩)
          | (go_at_call 26; refine (refsmall_any _ _ HS.out).mono ?_; rintro e w' ⟨rfl, hb⟩; have HB := HB.trans (hb.mono HB.size); clear hb)
          | (go_at_call 21; refine (refat_any _ _ _ L _ _ (H.out.below HB)).mono ?_; rintro e w' ⟨rfl, rfl⟩))
        go_ret2
        rw [HE.out, HM.out]
        exact SetPost.mk rfl (H.out.below HB) HB
      · have hfull : (40 : Int) ≤ (len : Int) := by omega
        clear hcase hp
        go_enter Try.func13, Try.ntmps13
        go_wp2_with (first
          | (go_at_call 19; refine (refrightA_any _ _ _ L _ H.out).mono ?_; rintro e w' ⟨rfl, hb⟩; have HB := HB.trans (hb.mono HB.size); clear hb)
          | (go_at_call 25; refine (refright_any _ _ HN.out).mono ?_; rintro e w' ⟨rfl, rfl⟩)
          | (go_at_call 26; refine (refsmall_any _ _ HS.out).mono ?_; rintro e w' ⟨rfl, hb⟩; have HB := HB.trans (hb.mono HB.size); clear hb)
          | (go_at_call 21; refine (refat_any _ _ _ L _ _ (H.out.below HB)).mono ?_; rintro e w' ⟨rfl, rfl⟩))
        go_ret2
        rw [HE.out, HM.out]
        exact SetPost.mk rfl (H.out.below HB) HB
  have hlg : longA L n.toList v = false := by simpa using hlg
  have HE : Hid (setE L n.toList v = 0) := Lib.hid (by unfold setE; rw [hr, hnr, hlg]; rfl)
  have HM : Hid (setA L n.toList v = setL L n.toList v) := Lib.hid (by unfold setA; rw [HE.out]; rfl)
  have hbig : ¬ (200 : Int) < (v.size : Int) := by
    unfold longA at hlg
    simp at hlg
    omega
  have hroom : placeA L n.toList < L.length ∨ len < 40 := by
    unfold longA at hlg
    rw [H.out.hlen] at hlg
    simp at hlg
    rw [H.out.hlen]
    omega
  clear hlg
  obtain ⟨i0, hi0, hz0, hz1, hz2⟩ := info_parts attr_info
  by_cases hp : placeA L n.toList < L.length
  · have hat := atL_place hp
    have hp' : placeA L n.toList < len := by rw [← H.out.hlen]; exact hp
    obtain ⟨x, hx, hx1⟩ := place_key hp
    have HL : Hid (setL L n.toList v = L.set (placeA L n.toList) (ofL (smallL n.toList), v)) := Lib.hid (by unfold setL; rw [if_pos hp])
    have HX := Lib.hid hx
    have HX1 := Lib.hid hx1
    obtain ⟨p, hpp⟩ : ∃ p, placeA L n.toList = p := ⟨_, rfl⟩
    rw [hpp] at hat hp' HX HL
    clear hpp hx hp hroom hx1
    go_enter Try.func13, Try.ntmps13
    go_wp2_with (first
      | (go_at_call 19; refine (refrightA_any _ _ _ L _ H.out).mono ?_; rintro e w' ⟨rfl, hb⟩; have HB := HB.trans (hb.mono HB.size); clear hb)
      | (go_at_call 25; refine (refright_any _ _ HN.out).mono ?_; rintro e w' ⟨rfl, rfl⟩)
      | (go_at_call 26; refine (refsmall_any _ _ HS.out).mono ?_; rintro e w' ⟨rfl, hb⟩; have HB := HB.trans (hb.mono HB.size); clear hb)
      | (go_at_call 21; refine (refat_any _ _ _ L _ _ (H.out.below HB)).mono ?_; rintro e w' ⟨rfl, rfl⟩)
      | (at_builtin
         refine wpList_append_rows rfl (.tmp 35) (.tmp 36) 22 rfl 41 i0 _ 2 32 Try.underlying22 hi0 hz0 hz1 hz2 rfl (by decide) w.heap.size _ 0 [] L rfl (own_empty _ _ _ HB.size) a len cap rfl (H.out.below (HB.alloc HB.size _)).row (fun x _ => encA_one x) (by unfold maxLen; omega) (by omega) (by have := HB.size; simp; omega) H.out.hnil ?_
         intro v1 w1 hown1 hg1 hat1
         rw [Nat.zero_add, List.nil_append] at hown1
         obtain ⟨g, cap1, rfl, hgb, hglt⟩ := World.ownsRow.form hown1 (by omega)
         have HB := below_new HB hg1
         have hcell : w1.cell? ⟨g, p * 2 + 1, none⟩ = some (.string x.2) := by
           rw [hown1.cellAt (p * 2 + 1) (by omega), flat_get (fun x _ => encA_len x) HX.out (by decide)]
           rfl
         have hfree := hown1.frozenAt (p * 2 + 1)
         have HOWN := Lib.hid hown1
         clear hown1 hg1 hat1))
    go_ret2
    rw [HE.out, HM.out, HL.out]
    have hst := (HOWN.out.stored (p * 2 + 1) (.string v)).1
    rw [← set_flat (y := (ofL (smallL n.toList), v)) HX.out HX1.out.symm] at hst
    obtain ⟨a2, cap2, he2, hr2⟩ := AttrRow.of_own (by rw [List.length_set]; exact H.out.hlen) hst (fun y hy => by
      rcases List.mem_or_eq_of_mem_set hy with hy | rfl
      · exact H.out.small y hy
      · refine ⟨?_, HVS.out⟩
        rw [size_ofL, smallL_length, tl_len]
        exact HN.out)
    injection he2 with h1 h2 h3
    subst h1; subst h3
    exact SetPost.mk rfl hr2 (HB.setCell hgb _)
  · have hat := atL_noplace hp
    have hlt40 : len < 40 := by omega
    have HL : Hid (setL L n.toList v = L ++ [(ofL (smallL n.toList), v)]) := Lib.hid (by unfold setL; rw [if_neg hp])
    clear hp hroom
    go_enter Try.func13, Try.ntmps13
    go_wp2_with (first
      | (go_at_call 19; refine (refrightA_any _ _ _ L _ H.out).mono ?_; rintro e w' ⟨rfl, hb⟩; have HB := HB.trans (hb.mono HB.size); clear hb)
      | (go_at_call 25; refine (refright_any _ _ HN.out).mono ?_; rintro e w' ⟨rfl, rfl⟩)
      | (go_at_call 26; refine (refsmall_any _ _ HS.out).mono ?_; rintro e w' ⟨rfl, hb⟩; have HC := Lib.hid hb; have HB := HB.trans (hb.mono HB.size); clear hb)
      | (go_at_call 21; refine (refat_any _ _ _ L _ _ (H.out.below HB)).mono ?_; rintro e w' ⟨rfl, rfl⟩)
      | (at_builtin
         refine wpList_append_rows rfl (.tmp 35) (.tmp 36) 22 rfl 41 i0 _ 2 32 Try.underlying22 hi0 hz0 hz1 hz2 rfl (by decide) w.heap.size _ 0 [] L rfl (own_empty _ _ _ HB.size) a len cap rfl (H.out.below (HB.alloc HB.size _)).row (fun x _ => encA_one x) (by unfold maxLen; omega) (by omega) (by have := HB.size; simp; omega) H.out.hnil ?_
         intro v1 w1 hown1 hg1 hat1
         rw [Nat.zero_add, List.nil_append] at hown1
         have HB := below_new HB hg1
         have HOWN := Lib.hid hown1
         clear hown1 hg1 hat1)
      | (at_builtin
         refine wpList_append_rows rfl (.tmp 46) (.tmp 51) 22 rfl 41 i0 _ 2 32 Try.underlying22 hi0 hz0 hz1 hz2 rfl (by decide) w.heap.size _ len L [(ofL (smallL n.toList), v)] rfl ((own_below HOWN.out HC.out).alloc _) _ 1 1 rfl (own_one _ _ _ _ rfl rfl) (fun x _ => encA_one x) (by unfold maxLen; omega) (by omega) (by have := HB.size; simp; omega) (fun h => by cases h) ?_
         intro v2 w2 hown2 hg2 hat2
         have HB := below_own HB (own_below HOWN.out HC.out) hg2
         have HOWN2 := Lib.hid hown2
         clear hown2 hg2 hat2))
    have hm : ∀ y ∈ L ++ [(ofL (smallL n.toList), v)], y.1.size ≤ maxLen ∧ y.2.size ≤ maxLen := by
      intro y hy
      rcases List.mem_append.1 hy with hy | hy
      · exact H.out.small y hy
      · simp at hy; subst hy
        refine ⟨?_, HVS.out⟩
        rw [size_ofL, smallL_length, tl_len]
        exact HN.out
    obtain ⟨a2, cap2, rfl, hr2⟩ := AttrRow.of_own (by rw [List.length_append, H.out.hlen]; rfl) HOWN2.out hm
    go_ret2
    rw [HE.out, HM.out, HL.out]
    exact SetPost.mk rfl hr2 HB
end Go.Proofs.Ytmofeddldcifbaa
