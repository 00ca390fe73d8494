/- The walk of the law AttrAlike, over the contracts of package attr. -/
import Derived.Test.YtmofeddldcifbaaAttrLawRight
import Derived.Test.YtmofeddldcifbaaAttrMath4
import Derived.BigRegion
import Derived.OpenShut
namespace Go.Proofs.Ytmofeddldcifbaa
open Go.RowKit
set_option maxHeartbeats 16000000 in
set_option maxRecDepth 100000 in
theorem attrAlike_walk (F : AttrFns) (a0 : Option Addr) (len0 cap0 : Nat) (L0 : AL) (a1 : Option Addr) (len1 cap1 : Nat) (L1 : AL) (x y : Int) (w : World)
    (h0 : AttrRow w a0 len0 cap0 L0) (h1 : AttrRow w a1 len1 cap1 L1) (hx : (Lit.int .u8 x).wf = true) (hy : (Lit.int .u8 y).wf = true) :
    Calls Try.prog 7 #[.slice a0 len0 cap0, .slice a1 len1 cap1, .int .u8 x, .int .u8 y] w fun e w' => e = .returned (.bool true) ∧ Below w.heap.size w w' := by
  have HB : Below w.heap.size w w := Below.refl _ _
  have H0 := Lib.hid h0
  have H1 := Lib.hid h1
  have AW := Lib.hid (fun W => awake2_any F W)
  have HF := Lib.hid F
  have hl0 := h0.len64
  have hl1 := h1.len64
  obtain ⟨hx0, hx1⟩ := Go.bounds_u8 hx
  obtain ⟨hy0, hy1⟩ := Go.bounds_u8 hy
  clear h0 h1 F hx hy
  obtain ⟨i0, hi0, hz0, hz1, hz2⟩ := info_parts attr_info
  by_cases c0 : (len0 : Int) ≤ 60
  rotate_left
  · have e1 : decide ((len0 : Int) ≤ 60) = false := decide_eq_false c0
    clear c0
    go_enter Try.func7, Try.ntmps7
    go_wp2_with (first
      | (go_at_call 8; (with_reducible refine (AW.out _).mono ?_); rintro e w' ⟨rfl, hb⟩; have HB := HB.trans (hb.mono HB.size); clear hb)
      | (go_at_call 9; (with_reducible refine (refshort_any _ _ _ _).mono ?_); rintro e w' ⟨rfl, rfl⟩))
    go_ret
    exact ⟨rfl, HB⟩
  have e1 : decide ((len0 : Int) ≤ 60) = true := decide_eq_true c0
  by_cases c1 : (len1 : Int) ≤ 60
  rotate_left
  · have e2 : decide ((len1 : Int) ≤ 60) = false := decide_eq_false c1
    clear c0 c1
    go_enter Try.func7, Try.ntmps7
    go_wp2_with (first
      | (go_at_call 8; (with_reducible refine (AW.out _).mono ?_); rintro e w' ⟨rfl, hb⟩; have HB := HB.trans (hb.mono HB.size); clear hb)
      | (go_at_call 9; (with_reducible refine (refshort_any _ _ _ _).mono ?_); rintro e w' ⟨rfl, rfl⟩))
    go_ret
    exact ⟨rfl, HB⟩
  have e2 : decide ((len1 : Int) ≤ 60) = true := decide_eq_true c1
  have H60 := Lib.hid (show len0 ≤ 60 ∧ len1 ≤ 60 by omega)
  clear c0 c1
  obtain ⟨r0, hr0⟩ : ∃ z, rightA L0 = z := ⟨_, rfl⟩
  obtain ⟨r1, hr1⟩ : ∃ z, rightA L1 = z := ⟨_, rfl⟩
  obtain ⟨al, d3⟩ : ∃ z, alikeA L0 L1 = z := ⟨_, rfl⟩
  have d4 : alikeA L1 L0 = al := by rw [alike_symm]; exact d3
  have d1 : alikeA L0 L0 = r0 := by rw [alike_same rfl rfl (fun _ h => h)]; exact hr0
  have HAL : Hid (al = true → r0 = true ∧ r1 = true ∧ len0 = len1) := Lib.hid (fun h => by
    obtain ⟨k1, k2, k3, _⟩ := alike_parts (d3.trans h)
    exact ⟨hr0.symm.trans k1, hr1.symm.trans k2, by rw [← H0.out.hlen, ← H1.out.hlen]; exact k3⟩)
  by_cases hpos : 0 < len0
  rotate_left
  · have hz : len0 = 0 := by omega
    subst hz
    have b2 : rightA L0 = r0 := hr0
    have d2 := d1
    have d5 := d3
    have B1 : Hid (∀ W a len cap, AttrRow W a len cap L0 → Calls Try.prog 18 #[.slice a len cap] W fun e w' => e = .returned (.bool r0) ∧ Below W.heap.size W w') := Lib.hid (fun W a len cap k => by
      have := HF.out.right a len cap L0 W k
      rwa [hr0] at this)
    have B2 : Hid (∀ W a len cap, AttrRow W a len cap L0 → Calls Try.prog 18 #[.slice a len cap] W fun e w' => e = .returned (.bool r0) ∧ Below W.heap.size W w') := Lib.hid (fun W a len cap k => by
      have := HF.out.right a len cap L0 W k
      rwa [b2] at this)
    have B3 : Hid (∀ W a len cap, AttrRow W a len cap L1 → Calls Try.prog 18 #[.slice a len cap] W fun e w' => e = .returned (.bool r1) ∧ Below W.heap.size W w') := Lib.hid (fun W a len cap k => by
      have := HF.out.right a len cap L1 W k
      rwa [hr1] at this)
    have D1 : Hid (∀ W a len cap a' len' cap', AttrRow W a len cap L0 → AttrRow W a' len' cap' L0 → Calls Try.prog 22 #[.slice a len cap, .slice a' len' cap'] W fun e w' => e = .returned (.bool r0) ∧ Below W.heap.size W w') := Lib.hid (fun W a len cap a' len' cap' k k' => by
      have := HF.out.alike a a' len cap len' cap' L0 L0 W k k'
      rwa [d1] at this)
    have D2 : Hid (∀ W a len cap a' len' cap', AttrRow W a len cap L0 → AttrRow W a' len' cap' L0 → Calls Try.prog 22 #[.slice a len cap, .slice a' len' cap'] W fun e w' => e = .returned (.bool r0) ∧ Below W.heap.size W w') := Lib.hid (fun W a len cap a' len' cap' k k' => by
      have := HF.out.alike a a' len cap len' cap' L0 L0 W k k'
      rwa [d2] at this)
    have D3 : Hid (∀ W a len cap a' len' cap', AttrRow W a len cap L0 → AttrRow W a' len' cap' L1 → Calls Try.prog 22 #[.slice a len cap, .slice a' len' cap'] W fun e w' => e = .returned (.bool al) ∧ Below W.heap.size W w') := Lib.hid (fun W a len cap a' len' cap' k k' => by
      have := HF.out.alike a a' len cap len' cap' L0 L1 W k k'
      rwa [d3] at this)
    have D4 : Hid (∀ W a len cap a' len' cap', AttrRow W a len cap L1 → AttrRow W a' len' cap' L0 → Calls Try.prog 22 #[.slice a len cap, .slice a' len' cap'] W fun e w' => e = .returned (.bool al) ∧ Below W.heap.size W w') := Lib.hid (fun W a len cap a' len' cap' k k' => by
      have := HF.out.alike a a' len cap len' cap' L1 L0 W k k'
      rwa [d4] at this)
    have D5 : Hid (∀ W a len cap a' len' cap', AttrRow W a len cap L0 → AttrRow W a' len' cap' L1 → Calls Try.prog 22 #[.slice a len cap, .slice a' len' cap'] W fun e w' => e = .returned (.bool al) ∧ Below W.heap.size W w') := Lib.hid (fun W a len cap a' len' cap' k k' => by
      have := HF.out.alike a a' len cap len' cap' L0 L1 W k k'
      rwa [d5] at this)
    clear hr0 hr1 d1 d2 d3 d4 d5 b2 hpos
    cases al
    all_goals
      try (obtain ⟨rfl, rfl, hlen⟩ := HAL.out rfl; subst hlen)
      clear HAL
      go_enter Try.func7, Try.ntmps7
      go_wp2_with (first
        | (go_at_call 8; (with_reducible refine (AW.out _).mono ?_); rintro e w' ⟨rfl, hb⟩; have HB := HB.trans (hb.mono HB.size); clear hb)
        | (go_at_call 9; (with_reducible refine (refshort_any _ _ _ _).mono ?_); rintro e w' ⟨rfl, rfl⟩)
        | (at_builtin
           refine wpList_append_rows rfl (.tmp 24) (.tmp 25) 22 rfl 41 i0 _ 2 32 Try.underlying22 hi0 hz0 hz1 hz2 rfl (by decide) w.heap.size _ 0 [] L0 rfl (own_empty _ _ _ HB.size) _ _ _ rfl (H0.out.below (HB.alloc HB.size _)).row (fun x _ => encA_one x) (by have := H60.out; unfold maxLen; omega) (by have := H60.out; omega) (by have := HB.size; simp; omega) H0.out.hnil ?_
           intro v1 w' hown1 hg1 hat1
           rw [Nat.zero_add, List.nil_append] at hown1
           have HB := below_new HB hg1
           have HOWN := Lib.hid hown1
           obtain ⟨am, capm, rfl, hrm⟩ := AttrRow.of_own H0.out.hlen hown1 H0.out.small
           have HT := Lib.hid hrm
           clear hrm
           clear hown1 hg1 hat1)
        | (go_at_call 18; (with_reducible refine (B1.out _ _ _ _ (H0.out.below HB)).mono ?_); rintro e w' ⟨rfl, hb⟩; (try (have HT := Lib.hid (HT.out.below hb))); have HB := HB.trans (hb.mono HB.size); clear hb)
        | (go_at_call 18; (with_reducible refine (B2.out _ _ _ _ HT.out).mono ?_); rintro e w' ⟨rfl, hb⟩; (try (have HT := Lib.hid (HT.out.below hb))); have HB := HB.trans (hb.mono HB.size); clear hb)
        | (go_at_call 18; (with_reducible refine (B3.out _ _ _ _ (H1.out.below HB)).mono ?_); rintro e w' ⟨rfl, hb⟩; (try (have HT := Lib.hid (HT.out.below hb))); have HB := HB.trans (hb.mono HB.size); clear hb)
        | (go_at_call 22; (with_reducible refine (D1.out _ _ _ _ _ _ _ (H0.out.below HB) (H0.out.below HB)).mono ?_); rintro e w' ⟨rfl, hb⟩; (try (have HT := Lib.hid (HT.out.below hb))); have HB := HB.trans (hb.mono HB.size); clear hb)
        | (go_at_call 22; (with_reducible refine (D2.out _ _ _ _ _ _ _ (H0.out.below HB) HT.out).mono ?_); rintro e w' ⟨rfl, hb⟩; (try (have HT := Lib.hid (HT.out.below hb))); have HB := HB.trans (hb.mono HB.size); clear hb)
        | (go_at_call 22; (with_reducible refine (D3.out _ _ _ _ _ _ _ (H0.out.below HB) (H1.out.below HB)).mono ?_); rintro e w' ⟨rfl, hb⟩; (try (have HT := Lib.hid (HT.out.below hb))); have HB := HB.trans (hb.mono HB.size); clear hb)
        | (go_at_call 22; (with_reducible refine (D4.out _ _ _ _ _ _ _ (H1.out.below HB) (H0.out.below HB)).mono ?_); rintro e w' ⟨rfl, hb⟩; (try (have HT := Lib.hid (HT.out.below hb))); have HB := HB.trans (hb.mono HB.size); clear hb)
        | (go_at_call 22; (with_reducible refine (D5.out _ _ _ _ _ _ _ HT.out (H1.out.below HB)).mono ?_); rintro e w' ⟨rfl, hb⟩; (try (have HT := Lib.hid (HT.out.below hb))); have HB := HB.trans (hb.mono HB.size); clear hb))
      go_ret
      exact ⟨ret_bool (by simp), HB⟩
  have hpz : (0 : Int) < (len0 : Int) := by omega
  obtain ⟨i, hi⟩ : ∃ i : Nat, x % (len0 : Int) = (i : Int) := ⟨(x % (len0 : Int)).toNat, by have := Int.emod_nonneg x (b := (len0 : Int)) (by omega); omega⟩
  obtain ⟨j, hj⟩ : ∃ i : Nat, y % (len0 : Int) = (i : Int) := ⟨(y % (len0 : Int)).toNat, by have := Int.emod_nonneg y (b := (len0 : Int)) (by omega); omega⟩
  have hil : (i : Int) < (len0 : Int) := by rw [← hi]; exact Int.emod_lt_of_pos _ hpz
  have hjl : (j : Int) < (len0 : Int) := by rw [← hj]; exact Int.emod_lt_of_pos _ hpz
  have hi' : x.tmod (len0 : Int) = (i : Int) := by rw [Int.tmod_eq_emod_of_nonneg hx0]; exact hi
  have hj' : y.tmod (len0 : Int) = (j : Int) := by rw [Int.tmod_eq_emod_of_nonneg hy0]; exact hj
  have hlen0 := H0.out.hlen
  obtain ⟨b, off, nj, vj, rfl, hblt, hLj, hcj1, hcj2, _, _⟩ := H0.out.get (k := j) (by omega)
  obtain ⟨b', off', ni, vi, hba, hblt', hLi, hci1, hci2, _, _⟩ := H0.out.get (k := i) (by omega)
  injection hba with hba
  injection hba with hba1 hba2 _
  subst hba1; subst hba2
  obtain ⟨T, hT⟩ : ∃ T, swapL L0 i j (ni, vi) (nj, vj) = T := ⟨_, rfl⟩
  obtain ⟨t1, t2, t3⟩ := swap_all hLi hLj
  rw [hT] at t1 t2 t3
  have b2 : rightA T = r0 := by rw [← t2]; exact hr0
  have d2 : alikeA L0 T = r0 := by rw [alike_same t1.symm t2 (fun z h => (t3 z).1 h)]; exact hr0
  have d5 : alikeA T L1 = al := by rw [← alike_other t1.symm t2 t3]; exact d3
  have B1 : Hid (∀ W a len cap, AttrRow W a len cap L0 → Calls Try.prog 18 #[.slice a len cap] W fun e w' => e = .returned (.bool r0) ∧ Below W.heap.size W w') := Lib.hid (fun W a len cap k => by
    have := HF.out.right a len cap L0 W k
    rwa [hr0] at this)
  have B2 : Hid (∀ W a len cap, AttrRow W a len cap T → Calls Try.prog 18 #[.slice a len cap] W fun e w' => e = .returned (.bool r0) ∧ Below W.heap.size W w') := Lib.hid (fun W a len cap k => by
    have := HF.out.right a len cap T W k
    rwa [b2] at this)
  have B3 : Hid (∀ W a len cap, AttrRow W a len cap L1 → Calls Try.prog 18 #[.slice a len cap] W fun e w' => e = .returned (.bool r1) ∧ Below W.heap.size W w') := Lib.hid (fun W a len cap k => by
    have := HF.out.right a len cap L1 W k
    rwa [hr1] at this)
  have D1 : Hid (∀ W a len cap a' len' cap', AttrRow W a len cap L0 → AttrRow W a' len' cap' L0 → Calls Try.prog 22 #[.slice a len cap, .slice a' len' cap'] W fun e w' => e = .returned (.bool r0) ∧ Below W.heap.size W w') := Lib.hid (fun W a len cap a' len' cap' k k' => by
    have := HF.out.alike a a' len cap len' cap' L0 L0 W k k'
    rwa [d1] at this)
  have D2 : Hid (∀ W a len cap a' len' cap', AttrRow W a len cap L0 → AttrRow W a' len' cap' T → Calls Try.prog 22 #[.slice a len cap, .slice a' len' cap'] W fun e w' => e = .returned (.bool r0) ∧ Below W.heap.size W w') := Lib.hid (fun W a len cap a' len' cap' k k' => by
    have := HF.out.alike a a' len cap len' cap' L0 T W k k'
    rwa [d2] at this)
  have D3 : Hid (∀ W a len cap a' len' cap', AttrRow W a len cap L0 → AttrRow W a' len' cap' L1 → Calls Try.prog 22 #[.slice a len cap, .slice a' len' cap'] W fun e w' => e = .returned (.bool al) ∧ Below W.heap.size W w') := Lib.hid (fun W a len cap a' len' cap' k k' => by
    have := HF.out.alike a a' len cap len' cap' L0 L1 W k k'
    rwa [d3] at this)
  have D4 : Hid (∀ W a len cap a' len' cap', AttrRow W a len cap L1 → AttrRow W a' len' cap' L0 → Calls Try.prog 22 #[.slice a len cap, .slice a' len' cap'] W fun e w' => e = .returned (.bool al) ∧ Below W.heap.size W w') := Lib.hid (fun W a len cap a' len' cap' k k' => by
    have := HF.out.alike a a' len cap len' cap' L1 L0 W k k'
    rwa [d4] at this)
  have D5 : Hid (∀ W a len cap a' len' cap', AttrRow W a len cap T → AttrRow W a' len' cap' L1 → Calls Try.prog 22 #[.slice a len cap, .slice a' len' cap'] W fun e w' => e = .returned (.bool al) ∧ Below W.heap.size W w') := Lib.hid (fun W a len cap a' len' cap' k k' => by
    have := HF.out.alike a a' len cap len' cap' T L1 W k k'
    rwa [d5] at this)
  have HTL := Lib.hid hT
  have HT1 := Lib.hid t1
  have HTM := Lib.hid t3
  have hLI := Lib.hid hLi
  have hLJ := Lib.hid hLj
  have HLN := Lib.hid hlen0
  clear hr0 hr1 d1 d2 d3 d4 d5 b2 t1 t2 t3 hT hLi hLj hlen0
  have cases_al : al = false ∨ al = true ∧ r0 = true ∧ r1 = true ∧ len0 = len1 := by
    cases al
    · exact .inl rfl
    · exact .inr ⟨rfl, HAL.out rfl⟩
  clear HAL
  by_cases hij : i = j
  · subst hij
    have hE := Option.some.inj (hLI.out.symm.trans hLJ.out)
    have hE1 : ni = nj := congrArg Prod.fst hE
    have hE2 : vi = vj := congrArg Prod.snd hE
    subst hE1; subst hE2
    clear hE
    rcases cases_al with rfl | ⟨rfl, rfl, rfl, rfl⟩
    all_goals
      go_enter Try.func7, Try.ntmps7
      go_wp2_with (first
        | (go_at_call 8; (with_reducible refine (AW.out _).mono ?_); rintro e w' ⟨rfl, hb⟩; have HB := HB.trans (hb.mono HB.size); clear hb)
        | (go_at_call 9; (with_reducible refine (refshort_any _ _ _ _).mono ?_); rintro e w' ⟨rfl, rfl⟩)
        | (at_builtin
           refine wpList_append_rows rfl (.tmp 24) (.tmp 25) 22 rfl 41 i0 _ 2 32 Try.underlying22 hi0 hz0 hz1 hz2 rfl (by decide) w.heap.size _ 0 [] L0 rfl (own_empty _ _ _ HB.size) _ _ _ rfl (H0.out.below (HB.alloc HB.size _)).row (fun x _ => encA_one x) (by have := H60.out; unfold maxLen; omega) (by have := H60.out; omega) (by have := HB.size; simp; omega) H0.out.hnil ?_
           intro v1 w' hown1 hg1 hat1
           rw [Nat.zero_add, List.nil_append] at hown1
           have HB := below_new HB hg1
           have HOWN := Lib.hid hown1
           obtain ⟨g, capm, rfl, hgb, hglt⟩ := World.ownsRow.form hown1 (by omega)
           clear hown1 hg1 hat1)
        | fail)
      go_quiet (fail)
      go_wp2_with fail
      have cj1 := (HB.cell (p := ⟨b, off + i * 2, none⟩) hblt).trans hcj1
      have cj2 := (HB.cell (p := ⟨b, off + i * 2 + 1, none⟩) hblt).trans hcj2
      have ci1 := (HB.cell (p := ⟨b, off + i * 2, none⟩) hblt).trans hci1
      have ci2 := (HB.cell (p := ⟨b, off + i * 2 + 1, none⟩) hblt).trans hci2
      have mi1 : w'.cell? ⟨g, i * 2, none⟩ = some (.string ni) := by
        have h := HOWN.out.cellAt (i * 2 + 0) (by omega)
        rw [flat_get (fun x _ => encA_len x) hLI.out (by decide)] at h
        simpa [encA] using h
      have mi2 : w'.cell? ⟨g, i * 2 + 1, none⟩ = some (.string vi) := by
        have h := HOWN.out.cellAt (i * 2 + 1) (by omega)
        rw [flat_get (fun x _ => encA_len x) hLI.out (by decide)] at h
        simpa [encA] using h
      have mj1 : w'.cell? ⟨g, i * 2, none⟩ = some (.string ni) := by
        have h := HOWN.out.cellAt (i * 2 + 0) (by omega)
        rw [flat_get (fun x _ => encA_len x) hLJ.out (by decide)] at h
        simpa [encA] using h
      have mj2 : w'.cell? ⟨g, i * 2 + 1, none⟩ = some (.string vi) := by
        have h := HOWN.out.cellAt (i * 2 + 1) (by omega)
        rw [flat_get (fun x _ => encA_len x) hLJ.out (by decide)] at h
        simpa [encA] using h
      have fi1 := HOWN.out.frozenAt (i * 2)
      have fi2 := HOWN.out.frozenAt (i * 2 + 1)
      have fj1 := HOWN.out.frozenAt (i * 2)
      have fj2 := HOWN.out.frozenAt (i * 2 + 1)
      have hgbne : g ≠ b := by omega
      have HBQ := below_drewN HB nq
      have HOQ : Hid ((w'.drewN nq).ownsRow w.heap.size 41 2 (.slice (some ⟨g, 0, none⟩) len0 capm) len0 (L0.flatMap encA)) := Lib.hid (own_below HOWN.out (below_drewN (Below.refl _ _) nq))
      generalize hwq : w'.drewN nq = wq at HBQ HOQ
      have q1 : wq.cell? ⟨b, off + i * 2, none⟩ = some (.string ni) := by rw [← hwq]; exact cj1
      have q2 : wq.cell? ⟨b, off + i * 2 + 1, none⟩ = some (.string vi) := by rw [← hwq]; exact cj2
      have q3 : wq.cell? ⟨b, off + i * 2, none⟩ = some (.string ni) := by rw [← hwq]; exact ci1
      have q4 : wq.cell? ⟨b, off + i * 2 + 1, none⟩ = some (.string vi) := by rw [← hwq]; exact ci2
      have r1 : wq.cell? ⟨g, i * 2, none⟩ = some (.string ni) := by rw [← hwq]; exact mi1
      have r2 : wq.cell? ⟨g, i * 2 + 1, none⟩ = some (.string vi) := by rw [← hwq]; exact mi2
      have r3 : wq.cell? ⟨g, i * 2, none⟩ = some (.string ni) := by rw [← hwq]; exact mj1
      have r4 : wq.cell? ⟨g, i * 2 + 1, none⟩ = some (.string vi) := by rw [← hwq]; exact mj2
      have z1 : wq.frozen? ⟨g, i * 2, none⟩ = false := by rw [← hwq]; exact fi1
      have z2 : wq.frozen? ⟨g, i * 2 + 1, none⟩ = false := by rw [← hwq]; exact fi2
      have z3 : wq.frozen? ⟨g, i * 2, none⟩ = false := by rw [← hwq]; exact fj1
      have z4 : wq.frozen? ⟨g, i * 2 + 1, none⟩ = false := by rw [← hwq]; exact fj2
      clear hwq cj1 cj2 ci1 ci2 mi1 mi2 mj1 mj2 fi1 fi2 fj1 fj2
      go_region
      all_goals
        have st := ((((HOQ.out.stored (i * 2) (.string ni)).1.stored (i * 2 + 1) (.string vi)).1.stored (i * 2) (.string ni)).1.stored (i * 2 + 1) (.string vi)).1
        rw [set_two (x := (ni, vi)) (by have := HLN.out; omega), set_two (x := (ni, vi)) (by rw [List.length_set]; have := HLN.out; omega)] at st
        have HBN := (((((HBQ.setCell (p := ⟨g, i * 2, none⟩) hgb (.string ni)).setCell (p := ⟨g, i * 2 + 1, none⟩) hgb (.string vi)).setCell (p := ⟨g, i * 2, none⟩) hgb (.string ni)).setCell (p := ⟨g, i * 2 + 1, none⟩) hgb (.string vi))).drew
        have st2 := World.ownsRow.drew st
        obtain ⟨a2, cap2, he2, hr2⟩ := AttrRow.of_own (M := T) (HT1.out.trans HLN.out) (by rw [← HTL.out]; exact st2) (fun z hz => H0.out.small z ((HTM.out z).2 hz))
        injection he2 with he21 he22 he23
        subst he21; subst he23
        clear st st2 HOQ HOWN HBQ q1 q2 q3 q4 r1 r2 r3 r4 z1 z2 z3 z4
        generalize (World.drew _) = w3 at hr2 HBN ⊢
        have HT := Lib.hid hr2
        have HB := HBN
        clear hr2 HBN
        go_wp2_with (first
          | (go_at_call 18; (with_reducible refine (B1.out _ _ _ _ (H0.out.below HB)).mono ?_); rintro e w' ⟨rfl, hb⟩; (try (have HT := Lib.hid (HT.out.below hb))); have HB := HB.trans (hb.mono HB.size); clear hb)
          | (go_at_call 18; (with_reducible refine (B2.out _ _ _ _ HT.out).mono ?_); rintro e w' ⟨rfl, hb⟩; (try (have HT := Lib.hid (HT.out.below hb))); have HB := HB.trans (hb.mono HB.size); clear hb)
          | (go_at_call 18; (with_reducible refine (B3.out _ _ _ _ (H1.out.below HB)).mono ?_); rintro e w' ⟨rfl, hb⟩; (try (have HT := Lib.hid (HT.out.below hb))); have HB := HB.trans (hb.mono HB.size); clear hb)
          | (go_at_call 22; (with_reducible refine (D1.out _ _ _ _ _ _ _ (H0.out.below HB) (H0.out.below HB)).mono ?_); rintro e w' ⟨rfl, hb⟩; (try (have HT := Lib.hid (HT.out.below hb))); have HB := HB.trans (hb.mono HB.size); clear hb)
          | (go_at_call 22; (with_reducible refine (D2.out _ _ _ _ _ _ _ (H0.out.below HB) HT.out).mono ?_); rintro e w' ⟨rfl, hb⟩; (try (have HT := Lib.hid (HT.out.below hb))); have HB := HB.trans (hb.mono HB.size); clear hb)
          | (go_at_call 22; (with_reducible refine (D3.out _ _ _ _ _ _ _ (H0.out.below HB) (H1.out.below HB)).mono ?_); rintro e w' ⟨rfl, hb⟩; (try (have HT := Lib.hid (HT.out.below hb))); have HB := HB.trans (hb.mono HB.size); clear hb)
          | (go_at_call 22; (with_reducible refine (D4.out _ _ _ _ _ _ _ (H1.out.below HB) (H0.out.below HB)).mono ?_); rintro e w' ⟨rfl, hb⟩; (try (have HT := Lib.hid (HT.out.below hb))); have HB := HB.trans (hb.mono HB.size); clear hb)
          | (go_at_call 22; (with_reducible refine (D5.out _ _ _ _ _ _ _ HT.out (H1.out.below HB)).mono ?_); rintro e w' ⟨rfl, hb⟩; (try (have HT := Lib.hid (HT.out.below hb))); have HB := HB.trans (hb.mono HB.size); clear hb))
        go_ret
        exact ⟨ret_bool (by simp), HB⟩
  · rcases cases_al with rfl | ⟨rfl, rfl, rfl, rfl⟩
    all_goals
      go_enter Try.func7, Try.ntmps7
      go_wp2_with (first
        | (go_at_call 8; (with_reducible refine (AW.out _).mono ?_); rintro e w' ⟨rfl, hb⟩; have HB := HB.trans (hb.mono HB.size); clear hb)
        | (go_at_call 9; (with_reducible refine (refshort_any _ _ _ _).mono ?_); rintro e w' ⟨rfl, rfl⟩)
        | (at_builtin
           refine wpList_append_rows rfl (.tmp 24) (.tmp 25) 22 rfl 41 i0 _ 2 32 Try.underlying22 hi0 hz0 hz1 hz2 rfl (by decide) w.heap.size _ 0 [] L0 rfl (own_empty _ _ _ HB.size) _ _ _ rfl (H0.out.below (HB.alloc HB.size _)).row (fun x _ => encA_one x) (by have := H60.out; unfold maxLen; omega) (by have := H60.out; omega) (by have := HB.size; simp; omega) H0.out.hnil ?_
           intro v1 w' hown1 hg1 hat1
           rw [Nat.zero_add, List.nil_append] at hown1
           have HB := below_new HB hg1
           have HOWN := Lib.hid hown1
           obtain ⟨g, capm, rfl, hgb, hglt⟩ := World.ownsRow.form hown1 (by omega)
           clear hown1 hg1 hat1)
        | fail)
      go_quiet (fail)
      go_wp2_with fail
      have cj1 := (HB.cell (p := ⟨b, off + j * 2, none⟩) hblt).trans hcj1
      have cj2 := (HB.cell (p := ⟨b, off + j * 2 + 1, none⟩) hblt).trans hcj2
      have ci1 := (HB.cell (p := ⟨b, off + i * 2, none⟩) hblt).trans hci1
      have ci2 := (HB.cell (p := ⟨b, off + i * 2 + 1, none⟩) hblt).trans hci2
      have mi1 : w'.cell? ⟨g, i * 2, none⟩ = some (.string ni) := by
        have h := HOWN.out.cellAt (i * 2 + 0) (by omega)
        rw [flat_get (fun x _ => encA_len x) hLI.out (by decide)] at h
        simpa [encA] using h
      have mi2 : w'.cell? ⟨g, i * 2 + 1, none⟩ = some (.string vi) := by
        have h := HOWN.out.cellAt (i * 2 + 1) (by omega)
        rw [flat_get (fun x _ => encA_len x) hLI.out (by decide)] at h
        simpa [encA] using h
      have mj1 : w'.cell? ⟨g, j * 2, none⟩ = some (.string nj) := by
        have h := HOWN.out.cellAt (j * 2 + 0) (by omega)
        rw [flat_get (fun x _ => encA_len x) hLJ.out (by decide)] at h
        simpa [encA] using h
      have mj2 : w'.cell? ⟨g, j * 2 + 1, none⟩ = some (.string vj) := by
        have h := HOWN.out.cellAt (j * 2 + 1) (by omega)
        rw [flat_get (fun x _ => encA_len x) hLJ.out (by decide)] at h
        simpa [encA] using h
      have fi1 := HOWN.out.frozenAt (i * 2)
      have fi2 := HOWN.out.frozenAt (i * 2 + 1)
      have fj1 := HOWN.out.frozenAt (j * 2)
      have fj2 := HOWN.out.frozenAt (j * 2 + 1)
      have hgbne : g ≠ b := by omega
      have HBQ := below_drewN HB nq
      have HOQ : Hid ((w'.drewN nq).ownsRow w.heap.size 41 2 (.slice (some ⟨g, 0, none⟩) len0 capm) len0 (L0.flatMap encA)) := Lib.hid (own_below HOWN.out (below_drewN (Below.refl _ _) nq))
      generalize hwq : w'.drewN nq = wq at HBQ HOQ
      have q1 : wq.cell? ⟨b, off + j * 2, none⟩ = some (.string nj) := by rw [← hwq]; exact cj1
      have q2 : wq.cell? ⟨b, off + j * 2 + 1, none⟩ = some (.string vj) := by rw [← hwq]; exact cj2
      have q3 : wq.cell? ⟨b, off + i * 2, none⟩ = some (.string ni) := by rw [← hwq]; exact ci1
      have q4 : wq.cell? ⟨b, off + i * 2 + 1, none⟩ = some (.string vi) := by rw [← hwq]; exact ci2
      have r1 : wq.cell? ⟨g, i * 2, none⟩ = some (.string ni) := by rw [← hwq]; exact mi1
      have r2 : wq.cell? ⟨g, i * 2 + 1, none⟩ = some (.string vi) := by rw [← hwq]; exact mi2
      have r3 : wq.cell? ⟨g, j * 2, none⟩ = some (.string nj) := by rw [← hwq]; exact mj1
      have r4 : wq.cell? ⟨g, j * 2 + 1, none⟩ = some (.string vj) := by rw [← hwq]; exact mj2
      have z1 : wq.frozen? ⟨g, i * 2, none⟩ = false := by rw [← hwq]; exact fi1
      have z2 : wq.frozen? ⟨g, i * 2 + 1, none⟩ = false := by rw [← hwq]; exact fi2
      have z3 : wq.frozen? ⟨g, j * 2, none⟩ = false := by rw [← hwq]; exact fj1
      have z4 : wq.frozen? ⟨g, j * 2 + 1, none⟩ = false := by rw [← hwq]; exact fj2
      clear hwq cj1 cj2 ci1 ci2 mi1 mi2 mj1 mj2 fi1 fi2 fj1 fj2
      go_region
      all_goals
        have st := ((((HOQ.out.stored (i * 2) (.string nj)).1.stored (i * 2 + 1) (.string vj)).1.stored (j * 2) (.string ni)).1.stored (j * 2 + 1) (.string vi)).1
        rw [set_two (x := (nj, vj)) (by have := HLN.out; omega), set_two (x := (ni, vi)) (by rw [List.length_set]; have := HLN.out; omega)] at st
        have HBN := (((((HBQ.setCell (p := ⟨g, i * 2, none⟩) hgb (.string nj)).setCell (p := ⟨g, i * 2 + 1, none⟩) hgb (.string vj)).setCell (p := ⟨g, j * 2, none⟩) hgb (.string ni)).setCell (p := ⟨g, j * 2 + 1, none⟩) hgb (.string vi))).drew
        have st2 := World.ownsRow.drew st
        obtain ⟨a2, cap2, he2, hr2⟩ := AttrRow.of_own (M := T) (HT1.out.trans HLN.out) (by rw [← HTL.out]; exact st2) (fun z hz => H0.out.small z ((HTM.out z).2 hz))
        injection he2 with he21 he22 he23
        subst he21; subst he23
        clear st st2 HOQ HOWN HBQ q1 q2 q3 q4 r1 r2 r3 r4 z1 z2 z3 z4
        generalize (World.drew _) = w3 at hr2 HBN ⊢
        have HT := Lib.hid hr2
        have HB := HBN
        clear hr2 HBN
        go_wp2_with (first
          | (go_at_call 18; (with_reducible refine (B1.out _ _ _ _ (H0.out.below HB)).mono ?_); rintro e w' ⟨rfl, hb⟩; (try (have HT := Lib.hid (HT.out.below hb))); have HB := HB.trans (hb.mono HB.size); clear hb)
          | (go_at_call 18; (with_reducible refine (B2.out _ _ _ _ HT.out).mono ?_); rintro e w' ⟨rfl, hb⟩; (try (have HT := Lib.hid (HT.out.below hb))); have HB := HB.trans (hb.mono HB.size); clear hb)
          | (go_at_call 18; (with_reducible refine (B3.out _ _ _ _ (H1.out.below HB)).mono ?_); rintro e w' ⟨rfl, hb⟩; (try (have HT := Lib.hid (HT.out.below hb))); have HB := HB.trans (hb.mono HB.size); clear hb)
          | (go_at_call 22; (with_reducible refine (D1.out _ _ _ _ _ _ _ (H0.out.below HB) (H0.out.below HB)).mono ?_); rintro e w' ⟨rfl, hb⟩; (try (have HT := Lib.hid (HT.out.below hb))); have HB := HB.trans (hb.mono HB.size); clear hb)
          | (go_at_call 22; (with_reducible refine (D2.out _ _ _ _ _ _ _ (H0.out.below HB) HT.out).mono ?_); rintro e w' ⟨rfl, hb⟩; (try (have HT := Lib.hid (HT.out.below hb))); have HB := HB.trans (hb.mono HB.size); clear hb)
          | (go_at_call 22; (with_reducible refine (D3.out _ _ _ _ _ _ _ (H0.out.below HB) (H1.out.below HB)).mono ?_); rintro e w' ⟨rfl, hb⟩; (try (have HT := Lib.hid (HT.out.below hb))); have HB := HB.trans (hb.mono HB.size); clear hb)
          | (go_at_call 22; (with_reducible refine (D4.out _ _ _ _ _ _ _ (H1.out.below HB) (H0.out.below HB)).mono ?_); rintro e w' ⟨rfl, hb⟩; (try (have HT := Lib.hid (HT.out.below hb))); have HB := HB.trans (hb.mono HB.size); clear hb)
          | (go_at_call 22; (with_reducible refine (D5.out _ _ _ _ _ _ _ HT.out (H1.out.below HB)).mono ?_); rintro e w' ⟨rfl, hb⟩; (try (have HT := Lib.hid (HT.out.below hb))); have HB := HB.trans (hb.mono HB.size); clear hb))
        go_ret
        exact ⟨ret_bool (by simp), HB⟩
end Go.Proofs.Ytmofeddldcifbaa
