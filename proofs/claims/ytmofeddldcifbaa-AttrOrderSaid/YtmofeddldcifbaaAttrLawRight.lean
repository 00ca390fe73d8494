/- The walk of the law AttrRight, over the contracts of package attr. -/
import Derived.Test.YtmofeddldcifbaaAttrAwake
namespace Go.Proofs.Ytmofeddldcifbaa
open Go.RowKit
theorem refsame_same {a a' : Option Addr} {len cap len' cap' : Nat} {L : AL} {w : World} (h : AttrRow w a len cap L) (h' : AttrRow w a' len' cap' L) :
    Calls Try.prog 20 #[.slice a len cap, .slice a' len' cap'] w fun e w' => e = .returned (.bool true) ∧ Below w.heap.size w w' :=
  (refsame_any a a' len cap len' cap' L L w h h').mono fun _ _ ⟨he, n, hw⟩ => ⟨by rw [he]; unfold sameL; rw [decide_eq_true rfl], by rw [hw]; exact below_drewN (Below.refl _ _) n⟩
theorem all_take_step {α : Type} {L : List α} {q : α → Bool} {k : Nat} {x : α} (hx : L[k]? = some x) : (L.take (k + 1)).all q = ((L.take k).all q && q x) := by
  obtain ⟨hl, hg⟩ := List.getElem?_eq_some_iff.1 hx
  rw [List.take_succ_eq_append_getElem hl, hg, List.all_append]
  simp
theorem all_take_false {α : Type} {L : List α} {q : α → Bool} {k : Nat} (h : (L.take k).all q = false) : L.all q = false := by
  rw [← List.take_append_drop k L, List.all_append, h, Bool.false_and]

set_option maxHeartbeats 16000000 in
set_option maxRecDepth 100000 in
theorem attrRight_walk (F : AttrFns) (a0 : Option Addr) (len0 cap0 : Nat) (L0 : AL) (a1 : Option Addr) (len1 cap1 : Nat) (L1 : AL) (n v : ByteArray) (f : Int) (w : World)
    (h0 : AttrRow w a0 len0 cap0 L0) (h1 : AttrRow w a1 len1 cap1 L1) (hn : n.size ≤ maxLen) (hv : v.size ≤ maxLen) :
    Calls Try.prog 3 #[.slice a0 len0 cap0, .slice a1 len1 cap1, .string n, .string v, .int .i64 f] w fun e w' => e = .returned (.bool true) ∧ Below w.heap.size w w' := by
  have HB : Below w.heap.size w w := Below.refl _ _
  have H0 := Lib.hid h0
  have H1 := Lib.hid h1
  have HN := Lib.hid hn
  have HV := Lib.hid hv
  have AW := Lib.hid (fun W => awake2_any F W)
  have HF := Lib.hid F
  have hl0 := h0.len64
  have hl1 := h1.len64
  clear h0 h1 hn hv F
  by_cases hb0 : (len0 : Int) ≤ 60
  rotate_left
  · have e1 : decide ((len0 : Int) ≤ 60) = false := decide_eq_false hb0
    clear hb0
    go_enter Try.func3, Try.ntmps3
    go_wp2_with (first
      | (go_at_call 8; refine (AW.out _).mono ?_; rintro e w' ⟨rfl, hb⟩; have HB := HB.trans (hb.mono HB.size); clear hb)
      | (go_at_call 9; refine (refshort_any _ _ _ _).mono ?_; rintro e w' ⟨rfl, rfl⟩))
    go_ret
    exact ⟨rfl, HB⟩
  have e1 : decide ((len0 : Int) ≤ 60) = true := decide_eq_true hb0
  by_cases hb1 : (len1 : Int) ≤ 60
  rotate_left
  · have e2 : decide ((len1 : Int) ≤ 60) = false := decide_eq_false hb1
    clear hb0 hb1
    go_enter Try.func3, Try.ntmps3
    go_wp2_with (first
      | (go_at_call 8; refine (AW.out _).mono ?_; rintro e w' ⟨rfl, hb⟩; have HB := HB.trans (hb.mono HB.size); clear hb)
      | (go_at_call 9; refine (refshort_any _ _ _ _).mono ?_; rintro e w' ⟨rfl, rfl⟩))
    go_ret
    exact ⟨rfl, HB⟩
  have e2 : decide ((len1 : Int) ≤ 60) = true := decide_eq_true hb1
  have H60 := Lib.hid (show len0 ≤ 60 ∧ len1 ≤ 60 by omega)
  have hns : n.size ≤ 9223372036854775807 := by have := HN.out; unfold maxLen at this; omega
  have hvs : v.size ≤ 9223372036854775807 := by have := HV.out; unfold maxLen at this; omega
  clear hb0 hb1
  by_cases hn3 : (300 : Int) < (n.size : Int)
  · go_enter Try.func3, Try.ntmps3
    go_wp2_with (first
      | (go_at_call 8; refine (AW.out _).mono ?_; rintro e w' ⟨rfl, hb⟩; have HB := HB.trans (hb.mono HB.size); clear hb)
      | (go_at_call 9; refine (refshort_any _ _ _ _).mono ?_; rintro e w' ⟨rfl, rfl⟩))
    go_ret
    exact ⟨rfl, HB⟩
  by_cases hv3 : (300 : Int) < (v.size : Int)
  · go_enter Try.func3, Try.ntmps3
    go_wp2_with (first
      | (go_at_call 8; refine (AW.out _).mono ?_; rintro e w' ⟨rfl, hb⟩; have HB := HB.trans (hb.mono HB.size); clear hb)
      | (go_at_call 9; refine (refshort_any _ _ _ _).mono ?_; rintro e w' ⟨rfl, rfl⟩))
    go_ret
    exact ⟨rfl, HB⟩
  obtain ⟨i0, hi0, hz0, hz1, hz2⟩ := info_parts attr_info
  obtain ⟨va, hva⟩ : ∃ x, valA L0 n.toList = x := ⟨_, rfl⟩
  obtain ⟨ha, hha⟩ : ∃ x, hasA L0 n.toList = x := ⟨_, rfl⟩
  obtain ⟨sa, hsa⟩ : ∃ x, setA L0 n.toList v = x := ⟨_, rfl⟩
  obtain ⟨se, hse⟩ : ∃ x, setE L0 n.toList v = x := ⟨_, rfl⟩
  obtain ⟨ra, hra⟩ : ∃ x, remA L0 n.toList = x := ⟨_, rfl⟩
  obtain ⟨ta, hta⟩ : ∃ x, togA L0 n.toList f = x := ⟨_, rfl⟩
  obtain ⟨tb, htb⟩ : ∃ x, togB L0 n.toList f = x := ⟨_, rfl⟩
  obtain ⟨te, hte⟩ : ∃ x, togE L0 n.toList f = x := ⟨_, rfl⟩
  obtain ⟨r0, hr0⟩ : ∃ x, rightA L0 = x := ⟨_, rfl⟩
  obtain ⟨r1, hr1⟩ : ∃ x, rightA L1 = x := ⟨_, rfl⟩
  have A1 : Hid (∀ W a len cap, AttrRow W a len cap L0 → Calls Try.prog 10 #[.slice a len cap, .string n] W fun e w' => e = .returned (.tuple #[.string va, .bool ha]) ∧ Below W.heap.size W w') := Lib.hid (fun W a len cap h => by have := HF.out.get a len cap L0 n W h HN.out; rwa [hva, hha] at this)
  have A2 : Hid (∀ W a len cap, AttrRow W a len cap L0 → Calls Try.prog 11 #[.slice a len cap, .string n] W fun e w' => e = .returned (.tuple #[.string va, .bool ha]) ∧ Below W.heap.size W w') := Lib.hid (fun W a len cap h => by have := refget_any a len cap L0 n W h HN.out; rwa [hva, hha] at this)
  have A3 : Hid (∀ W a len cap, AttrRow W a len cap L0 → Calls Try.prog 12 #[.slice a len cap, .string n, .string v] W (SetPost W sa se)) := Lib.hid (fun W a len cap h => by have := HF.out.set a len cap L0 n v W h HN.out HV.out (by have := H60.out; have := H0.out.hlen; omega); rwa [hsa, hse] at this)
  have A4 : Hid (∀ W a len cap, AttrRow W a len cap L0 → Calls Try.prog 13 #[.slice a len cap, .string n, .string v] W (SetPost W sa se)) := Lib.hid (fun W a len cap h => by have := refset_any a len cap L0 n v W h HN.out HV.out; rwa [hsa, hse] at this)
  have A5 : Hid (∀ W a len cap, AttrRow W a len cap L0 → Calls Try.prog 14 #[.slice a len cap, .string n] W (RemPost W ra ha)) := Lib.hid (fun W a len cap h => by have := HF.out.remove a len cap L0 n W h HN.out (by have := H60.out; have := H0.out.hlen; omega); rwa [hra, hha] at this)
  have A6 : Hid (∀ W a len cap, AttrRow W a len cap L0 → Calls Try.prog 15 #[.slice a len cap, .string n] W (RemPost W ra ha)) := Lib.hid (fun W a len cap h => by have := refrem_any a len cap L0 n W h HN.out; rwa [hra, hha] at this)
  have A7 : Hid (∀ W a len cap, AttrRow W a len cap L0 → Calls Try.prog 16 #[.slice a len cap, .string n, .int .i64 f] W (TogPost W ta tb te)) := Lib.hid (fun W a len cap h => by have := HF.out.toggle a len cap L0 n f W h HN.out (by have := H60.out; have := H0.out.hlen; omega); rwa [hta, htb, hte] at this)
  have A8 : Hid (∀ W a len cap, AttrRow W a len cap L0 → Calls Try.prog 17 #[.slice a len cap, .string n, .int .i64 f] W (TogPost W ta tb te)) := Lib.hid (fun W a len cap h => by have := reftog_any a len cap L0 n f W h HN.out; rwa [hta, htb, hte] at this)
  have A9 : Hid (∀ W a len cap, AttrRow W a len cap L0 → Calls Try.prog 18 #[.slice a len cap] W fun e w' => e = .returned (.bool r0) ∧ Below W.heap.size W w') := Lib.hid (fun W a len cap h => by have := HF.out.right a len cap L0 W h; rwa [hr0] at this)
  have A10 : Hid (∀ W a len cap, AttrRow W a len cap L0 → Calls Try.prog 19 #[.slice a len cap] W fun e w' => e = .returned (.bool r0) ∧ Below W.heap.size W w') := Lib.hid (fun W a len cap h => by have := refrightA_any a len cap L0 W h; rwa [hr0] at this)
  have A11 : Hid (∀ W a len cap, AttrRow W a len cap L1 → Calls Try.prog 19 #[.slice a len cap] W fun e w' => e = .returned (.bool r1) ∧ Below W.heap.size W w') := Lib.hid (fun W a len cap h => by have := refrightA_any a len cap L1 W h; rwa [hr1] at this)
  have R0 := Lib.hid hr0
  have R1 := Lib.hid hr1
  clear hva hha hsa hse hra hta htb hte hr0 hr1
  go_enter Try.func3, Try.ntmps3
  go_wp2_with (first
    | (go_at_call 8; (with_reducible refine (AW.out _).mono ?_); rintro e w' ⟨rfl, hb⟩; have HB := HB.trans (hb.mono HB.size); clear hb)
    | (go_at_call 9; (with_reducible refine (refshort_any _ _ _ _).mono ?_); rintro e w' ⟨rfl, rfl⟩)
    | (at_builtin
       refine wpList_append_rows rfl (.tmp 53) (.tmp 54) 22 rfl 41 i0 _ 2 32 Try.underlying22 hi0 hz0 hz1 hz2 rfl (by decide) w.heap.size _ 0 [] L0 rfl (own_empty _ _ _ HB.size) a0 len0 cap0 rfl (H0.out.below (HB.alloc HB.size _)).row (fun x _ => encA_one x) (by have := H60.out; unfold maxLen; omega) (by have := H60.out; omega) (by have := HB.size; simp; omega) H0.out.hnil ?_
       intro v1 w' hown1 hg1 hat1
       rw [Nat.zero_add, List.nil_append] at hown1
       have HB := below_new HB hg1
       obtain ⟨am, capm, rfl, hrm⟩ := AttrRow.of_own H0.out.hlen hown1 H0.out.small
       have HM := Lib.hid hrm
       clear hown1 hg1 hat1 hrm)
    | (go_at_call 10; (with_reducible refine (A1.out _ _ _ _ HM.out).mono ?_); rintro e w' ⟨rfl, hb⟩; (try (have HM := Lib.hid (HM.out.below hb))); (try (have HC := Lib.hid (HC.out.below hb))); (try (have HD := Lib.hid (HD.out.below hb))); (try (have HG := Lib.hid (HG.out.below hb))); (try (have HH := Lib.hid (HH.out.below hb))); (try (have HO := Lib.hid (HO.out.below hb))); (try (have HP := Lib.hid (HP.out.below hb))); have HB := HB.trans (hb.mono HB.size); clear hb)
    | (go_at_call 11; (with_reducible refine (A2.out _ _ _ _ (H0.out.below HB)).mono ?_); rintro e w' ⟨rfl, hb⟩; (try (have HM := Lib.hid (HM.out.below hb))); (try (have HC := Lib.hid (HC.out.below hb))); (try (have HD := Lib.hid (HD.out.below hb))); (try (have HG := Lib.hid (HG.out.below hb))); (try (have HH := Lib.hid (HH.out.below hb))); (try (have HO := Lib.hid (HO.out.below hb))); (try (have HP := Lib.hid (HP.out.below hb))); have HB := HB.trans (hb.mono HB.size); clear hb)
    | (go_at_call 12; (with_reducible refine (A3.out _ _ _ _ HM.out).mono ?_); rintro e w' ⟨ac, lenc, capc, rfl, hr, hb⟩; (try (have HM := Lib.hid (HM.out.below hb))); (try (have HC := Lib.hid (HC.out.below hb))); (try (have HD := Lib.hid (HD.out.below hb))); (try (have HG := Lib.hid (HG.out.below hb))); (try (have HH := Lib.hid (HH.out.below hb))); (try (have HO := Lib.hid (HO.out.below hb))); (try (have HP := Lib.hid (HP.out.below hb))); have HB := HB.trans (hb.mono HB.size); clear hb; have HC := Lib.hid hr; clear hr)
    | (go_at_call 13; (with_reducible refine (A4.out _ _ _ _ (H0.out.below HB)).mono ?_); rintro e w' ⟨ad, lend, capd, rfl, hr, hb⟩; (try (have HM := Lib.hid (HM.out.below hb))); (try (have HC := Lib.hid (HC.out.below hb))); (try (have HD := Lib.hid (HD.out.below hb))); (try (have HG := Lib.hid (HG.out.below hb))); (try (have HH := Lib.hid (HH.out.below hb))); (try (have HO := Lib.hid (HO.out.below hb))); (try (have HP := Lib.hid (HP.out.below hb))); have HB := HB.trans (hb.mono HB.size); clear hb; have HD := Lib.hid hr; clear hr)
    | (go_at_call 14; (with_reducible refine (A5.out _ _ _ _ HM.out).mono ?_); rintro e w' ⟨ag, leng, capg, rfl, hr, hb⟩; (try (have HM := Lib.hid (HM.out.below hb))); (try (have HC := Lib.hid (HC.out.below hb))); (try (have HD := Lib.hid (HD.out.below hb))); (try (have HG := Lib.hid (HG.out.below hb))); (try (have HH := Lib.hid (HH.out.below hb))); (try (have HO := Lib.hid (HO.out.below hb))); (try (have HP := Lib.hid (HP.out.below hb))); have HB := HB.trans (hb.mono HB.size); clear hb; have HG := Lib.hid hr; clear hr)
    | (go_at_call 15; (with_reducible refine (A6.out _ _ _ _ (H0.out.below HB)).mono ?_); rintro e w' ⟨ah, lenh, caph, rfl, hr, hb⟩; (try (have HM := Lib.hid (HM.out.below hb))); (try (have HC := Lib.hid (HC.out.below hb))); (try (have HD := Lib.hid (HD.out.below hb))); (try (have HG := Lib.hid (HG.out.below hb))); (try (have HH := Lib.hid (HH.out.below hb))); (try (have HO := Lib.hid (HO.out.below hb))); (try (have HP := Lib.hid (HP.out.below hb))); have HB := HB.trans (hb.mono HB.size); clear hb; have HH := Lib.hid hr; clear hr)
    | (go_at_call 16; (with_reducible refine (A7.out _ _ _ _ HM.out).mono ?_); rintro e w' ⟨ao, leno, capo, rfl, hr, hb⟩; (try (have HM := Lib.hid (HM.out.below hb))); (try (have HC := Lib.hid (HC.out.below hb))); (try (have HD := Lib.hid (HD.out.below hb))); (try (have HG := Lib.hid (HG.out.below hb))); (try (have HH := Lib.hid (HH.out.below hb))); (try (have HO := Lib.hid (HO.out.below hb))); (try (have HP := Lib.hid (HP.out.below hb))); have HB := HB.trans (hb.mono HB.size); clear hb; have HO := Lib.hid hr; clear hr)
    | (go_at_call 17; (with_reducible refine (A8.out _ _ _ _ (H0.out.below HB)).mono ?_); rintro e w' ⟨ap, lenp, capp, rfl, hr, hb⟩; (try (have HM := Lib.hid (HM.out.below hb))); (try (have HC := Lib.hid (HC.out.below hb))); (try (have HD := Lib.hid (HD.out.below hb))); (try (have HG := Lib.hid (HG.out.below hb))); (try (have HH := Lib.hid (HH.out.below hb))); (try (have HO := Lib.hid (HO.out.below hb))); (try (have HP := Lib.hid (HP.out.below hb))); have HB := HB.trans (hb.mono HB.size); clear hb; have HP := Lib.hid hr; clear hr)
    | (go_at_call 18; (with_reducible refine (A9.out _ _ _ _ HM.out).mono ?_); rintro e w' ⟨rfl, hb⟩; (try (have HM := Lib.hid (HM.out.below hb))); (try (have HC := Lib.hid (HC.out.below hb))); (try (have HD := Lib.hid (HD.out.below hb))); (try (have HG := Lib.hid (HG.out.below hb))); (try (have HH := Lib.hid (HH.out.below hb))); (try (have HO := Lib.hid (HO.out.below hb))); (try (have HP := Lib.hid (HP.out.below hb))); have HB := HB.trans (hb.mono HB.size); clear hb)
    | (go_at_call 19; (with_reducible refine (A10.out _ _ _ _ (H0.out.below HB)).mono ?_); rintro e w' ⟨rfl, hb⟩; (try (have HM := Lib.hid (HM.out.below hb))); (try (have HC := Lib.hid (HC.out.below hb))); (try (have HD := Lib.hid (HD.out.below hb))); (try (have HG := Lib.hid (HG.out.below hb))); (try (have HH := Lib.hid (HH.out.below hb))); (try (have HO := Lib.hid (HO.out.below hb))); (try (have HP := Lib.hid (HP.out.below hb))); have HB := HB.trans (hb.mono HB.size); clear hb)
    | (go_at_call 19; (with_reducible refine (A11.out _ _ _ _ (H1.out.below HB)).mono ?_); rintro e w' ⟨rfl, hb⟩; (try (have HM := Lib.hid (HM.out.below hb))); (try (have HC := Lib.hid (HC.out.below hb))); (try (have HD := Lib.hid (HD.out.below hb))); (try (have HG := Lib.hid (HG.out.below hb))); (try (have HH := Lib.hid (HH.out.below hb))); (try (have HO := Lib.hid (HO.out.below hb))); (try (have HP := Lib.hid (HP.out.below hb))); have HB := HB.trans (hb.mono HB.size); clear hb)
    | (go_at_call 20; (with_reducible refine (refsame_same HC.out HD.out).mono ?_); rintro e w' ⟨rfl, hb⟩; (try (have HM := Lib.hid (HM.out.below hb))); (try (have HC := Lib.hid (HC.out.below hb))); (try (have HD := Lib.hid (HD.out.below hb))); (try (have HG := Lib.hid (HG.out.below hb))); (try (have HH := Lib.hid (HH.out.below hb))); (try (have HO := Lib.hid (HO.out.below hb))); (try (have HP := Lib.hid (HP.out.below hb))); have HB := HB.trans (hb.mono HB.size); clear hb)
    | (go_at_call 20; (with_reducible refine (refsame_same HG.out HH.out).mono ?_); rintro e w' ⟨rfl, hb⟩; (try (have HM := Lib.hid (HM.out.below hb))); (try (have HC := Lib.hid (HC.out.below hb))); (try (have HD := Lib.hid (HD.out.below hb))); (try (have HG := Lib.hid (HG.out.below hb))); (try (have HH := Lib.hid (HH.out.below hb))); (try (have HO := Lib.hid (HO.out.below hb))); (try (have HP := Lib.hid (HP.out.below hb))); have HB := HB.trans (hb.mono HB.size); clear hb)
    | (go_at_call 20; (with_reducible refine (refsame_same HO.out HP.out).mono ?_); rintro e w' ⟨rfl, hb⟩; (try (have HM := Lib.hid (HM.out.below hb))); (try (have HC := Lib.hid (HC.out.below hb))); (try (have HD := Lib.hid (HD.out.below hb))); (try (have HG := Lib.hid (HG.out.below hb))); (try (have HH := Lib.hid (HH.out.below hb))); (try (have HO := Lib.hid (HO.out.below hb))); (try (have HP := Lib.hid (HP.out.below hb))); have HB := HB.trans (hb.mono HB.size); clear hb)
    | (go_at_call 20; (with_reducible refine (refsame_same HM.out (H0.out.below HB)).mono ?_); rintro e w' ⟨rfl, hb⟩; (try (have HM := Lib.hid (HM.out.below hb))); (try (have HC := Lib.hid (HC.out.below hb))); (try (have HD := Lib.hid (HD.out.below hb))); (try (have HG := Lib.hid (HG.out.below hb))); (try (have HH := Lib.hid (HH.out.below hb))); (try (have HO := Lib.hid (HO.out.below hb))); (try (have HP := Lib.hid (HP.out.below hb))); have HB := HB.trans (hb.mono HB.size); clear hb)
    | fail)
  all_goals
    have A12 : Hid (∀ W a len cap a' len' cap', AttrRow W a len cap L0 → AttrRow W a' len' cap' L1 → Calls Try.prog 22 #[.slice a len cap, .slice a' len' cap'] W fun e w' => e = .returned (.bool (alikeA L0 L1)) ∧ Below W.heap.size W w') := Lib.hid (fun W a len cap a' len' cap' h h' => HF.out.alike a a' len cap len' cap' L0 L1 W h h')
    have HRR : Hid (∀ q, alikeA L0 L1 = (r0 && r1 && decide (len0 = len1) && L0.all q) ∨ q ≠ pairIn L1) := Lib.hid (fun q => by
      by_cases e : q = pairIn L1
      · left
        unfold alikeA
        rw [R0.out, R1.out, H0.out.hlen, H1.out.hlen, e]
      · exact .inr e)
    go_loopw [30, 31] (fun al i wr => ∃ (k q : Nat) (b : Bool), k ≤ len0 ∧ i = .int .i64 k ∧ al = .bool b ∧ Hid (b = (r0 && r1 && decide (len0 = len1) && (L0.take k).all (pairIn L1))) ∧ wr = w'.drewN q) (fun _ i _ => len0 - (intOf i).toNat)
    case atStart =>
      refine ⟨0, 0, _, Nat.zero_le _, rfl, rfl, Lib.hid ?_, rfl⟩
      first
        | (simp [*]; done)
        | (simp [*]
           rw [Bool.eq_iff_iff]
           simp
           try omega)
    case round =>
      obtain ⟨k, q, bb, hk, rfl, rfl, HBb, rfl⟩ := hrel
      by_cases hlt : k < len0
      · cases bb
        · have HZ : Hid (alikeA L0 L1 = false) := Lib.hid (by
            rcases HRR.out (pairIn L1) with e | e
            · rw [e]
              have h := HBb.out.symm
              rcases Bool.and_eq_false_iff.1 h with h | h
              · rw [h, Bool.false_and]
              · rw [all_take_false h, Bool.and_false]
            · exact absurd rfl e)
          go_wp2_with (first
            | (go_at_call 22; refine (A12.out _ _ _ _ _ _ _ (HM.out.drewN q) ((H1.out.below HB).drewN q)).mono ?_; rw [HZ.out]; rintro e w2 ⟨rfl, hb⟩; have HB := HB.trans ((below_drewN (Below.refl _ _) q).trans (hb.mono (Nat.le_refl _)) |>.mono HB.size); clear hb))
          go_ret
          exact ⟨rfl, HB⟩
        · obtain ⟨b, off, xn, xv, rfl, hblt, hx, hc1, hc2, hs1, hs2⟩ := (H0.out.below HB).get hlt
          have HX := Lib.hid hx
          have HS := Lib.hid (all_take_step (q := pairIn L1) hx)
          have hh1 := H1.out.below HB
          clear hx hs1 hs2
          by_cases hp : atN L1 xn.toList < L1.length
          · have hp' : atN L1 xn.toList < len1 := by rw [← H1.out.hlen]; exact hp
            obtain ⟨b', off', yn, yv, rfl, hblt', hy, hd1, hd2, _, _⟩ := hh1.get hp'
            have HPI : Hid (pairIn L1 (xn, xv) = (yv.toList == xv.toList)) := Lib.hid (by unfold pairIn; simp only; rw [hy])
            have hat : atL L1 xn.toList = (atN L1 xn.toList : Int) := by unfold atL; rw [if_pos hp]
            obtain ⟨p, hpp⟩ : ∃ p, atN L1 xn.toList = p := ⟨_, rfl⟩
            rw [hpp] at hat hp' hd1 hd2
            have HAT : Hid (∀ W, AttrRow W (some ⟨b', off', none⟩) len1 cap1 L1 → Calls Try.prog 21 #[.slice (some ⟨b', off', none⟩) len1 cap1, .string xn] W fun e w' => e = .returned (.int .i64 (p : Int)) ∧ W = w') := Lib.hid (fun W h => by have := refat_any _ len1 cap1 L1 xn W h; rwa [hat] at this)
            have hpl : (p : Int) < (len1 : Int) := by omega
            have hkl : (k : Int) < (len0 : Int) := by omega
            have hp64 : (p : Int) ≤ 9223372036854775807 := by omega
            have g1 : decide ((0 : Int) ≤ (p : Int)) = true := decide_eq_true (by omega)
            have HH1 := Lib.hid hh1
            clear hat hpp hp hy hh1
            by_cases hyx : yv.toList = xv.toList
            · have s1 : (yv.toList == xv.toList) = true := beq_iff_eq.2 hyx
              clear hyx
              go_wp2_with (first
                | (go_at_call 21; refine (HAT.out _ (HH1.out.drewN q)).mono ?_; rintro e w2 ⟨rfl, rfl⟩))
              go_quiet (fail)
              go_wp2
              go_roundw
              case rel =>
                refine ⟨k + 1, _, true, by omega, by go_num, rfl, Lib.hid ?_, by first | rfl | exact World.drewN_drewN _ _ _⟩
                rw [HS.out, HPI.out, s1, Bool.and_true]
                exact HBb.out
              case measure => simp [intOf]; omega
            · have s1 : (yv.toList == xv.toList) = false := beq_eq_false_iff_ne.2 hyx
              clear hyx
              go_wp2_with (first
                | (go_at_call 21; refine (HAT.out _ (HH1.out.drewN q)).mono ?_; rintro e w2 ⟨rfl, rfl⟩))
              go_quiet (fail)
              go_wp2
              go_roundw
              case rel =>
                refine ⟨k + 1, _, false, by omega, by go_num, rfl, Lib.hid ?_, by first | rfl | exact World.drewN_drewN _ _ _⟩
                rw [HS.out, HPI.out, s1, Bool.and_false, Bool.and_false]
              case measure => simp [intOf]; omega
          · have HPI : Hid (pairIn L1 (xn, xv) = false) := Lib.hid (by unfold pairIn; simp only; rw [List.getElem?_eq_none (by omega)])
            have hat : atL L1 xn.toList = -1 := by unfold atL; rw [if_neg hp]
            have HAT : Hid (∀ W, AttrRow W a1 len1 cap1 L1 → Calls Try.prog 21 #[.slice a1 len1 cap1, .string xn] W fun e w' => e = .returned (.int .i64 (-1)) ∧ W = w') := Lib.hid (fun W h => by have := refat_any _ len1 cap1 L1 xn W h; rwa [hat] at this)
            have HH1 := Lib.hid hh1
            clear hat hp hh1
            go_wp2_with (first
              | (go_at_call 21; refine (HAT.out _ (HH1.out.drewN q)).mono ?_; rintro e w2 ⟨rfl, rfl⟩))
            go_quiet (fail)
            go_wp2
            go_roundw
            case rel =>
              refine ⟨k + 1, _, false, by omega, by go_num, rfl, Lib.hid ?_, by first | rfl | exact World.drewN_drewN _ _ _⟩
              rw [HS.out, HPI.out, Bool.and_false, Bool.and_false]
            case measure => simp [intOf]; omega
      · have HZ : Hid (alikeA L0 L1 = bb) := Lib.hid (by
          rcases HRR.out (pairIn L1) with e | e
          · rw [e, HBb.out, List.take_of_length_le (by have := H0.out.hlen; omega)]
          · exact absurd rfl e)
        go_wp2_with (first
          | (go_at_call 22; refine (A12.out _ _ _ _ _ _ _ (HM.out.drewN q) ((H1.out.below HB).drewN q)).mono ?_; rw [HZ.out]; rintro e w2 ⟨rfl, hb⟩; have HB := HB.trans ((below_drewN (Below.refl _ _) q).trans (hb.mono (Nat.le_refl _)) |>.mono HB.size); clear hb))
        go_ret
        exact ⟨ret_bool (by simp), HB⟩
end Go.Proofs.Ytmofeddldcifbaa
