/- The walk of the law AttrOrder, over the contracts of package attr. -/
import Derived.Test.YtmofeddldcifbaaAttrLawRight
import Derived.Test.YtmofeddldcifbaaAttrMath3
import Derived.Test.YtmofeddldcifbaaNameSmall
namespace Go.Proofs.Ytmofeddldcifbaa
open Go.RowKit
set_option maxHeartbeats 16000000 in
set_option maxRecDepth 100000 in
theorem attrOrder_walk (F : AttrFns) (a0 : Option Addr) (len0 cap0 : Nat) (L0 : AL) (na nb x y : ByteArray) (w : World)
    (h0 : AttrRow w a0 len0 cap0 L0) (hna : na.size ≤ maxLen) (hnb : nb.size ≤ maxLen) (hx : x.size ≤ maxLen) (hy : y.size ≤ maxLen) :
    Calls Try.prog 6 #[.slice a0 len0 cap0, .string na, .string nb, .string x, .string y] w fun e w' => e = .returned (.bool true) ∧ Below w.heap.size w w' := by
  have HB : Below w.heap.size w w := Below.refl _ _
  have H0 := Lib.hid h0
  have HA := Lib.hid hna
  have HBN := Lib.hid hnb
  have HX := Lib.hid hx
  have HY := Lib.hid hy
  have AW := Lib.hid (fun W => awake2_any F W)
  have HF := Lib.hid F
  have hl0 := h0.len64
  have has : na.size ≤ 9223372036854775807 := by unfold maxLen at hna; omega
  have hbs : nb.size ≤ 9223372036854775807 := by unfold maxLen at hnb; omega
  have hxs : x.size ≤ 9223372036854775807 := by unfold maxLen at hx; omega
  have hys : y.size ≤ 9223372036854775807 := by unfold maxLen at hy; omega
  clear h0 hna hnb hx hy F
  by_cases c0 : (len0 : Int) ≤ 60
  rotate_left
  · have e1 : decide ((len0 : Int) ≤ 60) = false := decide_eq_false c0
    clear c0
    go_enter Try.func6, Try.ntmps6
    go_wp2_with (first
      | (go_at_call 8; (with_reducible refine (AW.out _).mono ?_); rintro e w' ⟨rfl, hb⟩; have HB := HB.trans (hb.mono HB.size); clear hb)
      | (go_at_call 9; (with_reducible refine (refshort_any _ _ _ _).mono ?_); rintro e w' ⟨rfl, rfl⟩))
    go_ret
    exact ⟨rfl, HB⟩
  have e1 : decide ((len0 : Int) ≤ 60) = true := decide_eq_true c0
  have B60 : Hid (L0.length ≤ 60) := Lib.hid (by have := H0.out.hlen; omega)
  clear c0
  by_cases c1 : (300 : Int) < (na.size : Int)
  · go_enter Try.func6, Try.ntmps6
    go_wp2_with (first
      | (go_at_call 8; (with_reducible refine (AW.out _).mono ?_); rintro e w' ⟨rfl, hb⟩; have HB := HB.trans (hb.mono HB.size); clear hb)
      | (go_at_call 9; (with_reducible refine (refshort_any _ _ _ _).mono ?_); rintro e w' ⟨rfl, rfl⟩))
    go_ret
    exact ⟨rfl, HB⟩
  by_cases c2 : (300 : Int) < (nb.size : Int)
  · go_enter Try.func6, Try.ntmps6
    go_wp2_with (first
      | (go_at_call 8; (with_reducible refine (AW.out _).mono ?_); rintro e w' ⟨rfl, hb⟩; have HB := HB.trans (hb.mono HB.size); clear hb)
      | (go_at_call 9; (with_reducible refine (refshort_any _ _ _ _).mono ?_); rintro e w' ⟨rfl, rfl⟩))
    go_ret
    exact ⟨rfl, HB⟩
  by_cases c3 : (300 : Int) < (x.size : Int)
  · go_enter Try.func6, Try.ntmps6
    go_wp2_with (first
      | (go_at_call 8; (with_reducible refine (AW.out _).mono ?_); rintro e w' ⟨rfl, hb⟩; have HB := HB.trans (hb.mono HB.size); clear hb)
      | (go_at_call 9; (with_reducible refine (refshort_any _ _ _ _).mono ?_); rintro e w' ⟨rfl, rfl⟩))
    go_ret
    exact ⟨rfl, HB⟩
  by_cases c4 : (300 : Int) < (y.size : Int)
  · go_enter Try.func6, Try.ntmps6
    go_wp2_with (first
      | (go_at_call 8; (with_reducible refine (AW.out _).mono ?_); rintro e w' ⟨rfl, hb⟩; have HB := HB.trans (hb.mono HB.size); clear hb)
      | (go_at_call 9; (with_reducible refine (refshort_any _ _ _ _).mono ?_); rintro e w' ⟨rfl, rfl⟩))
    go_ret
    exact ⟨rfl, HB⟩
  by_cases hs : smallL na.toList = smallL nb.toList
  · have s1 : (smallL na.toList == smallL nb.toList) = true := beq_iff_eq.2 hs
    clear hs
    go_enter Try.func6, Try.ntmps6
    go_wp2_with (first
      | (go_at_call 8; (with_reducible refine (AW.out _).mono ?_); rintro e w' ⟨rfl, hb⟩; have HB := HB.trans (hb.mono HB.size); clear hb)
      | (go_at_call 9; (with_reducible refine (refshort_any _ _ _ _).mono ?_); rintro e w' ⟨rfl, rfl⟩)
      | (go_at_call 23; (with_reducible refine (small_any _ _ HA.out).mono ?_); rintro e w' ⟨rfl, hb⟩; have HB := HB.trans (hb.mono HB.size); clear hb)
      | (go_at_call 23; (with_reducible refine (small_any _ _ HBN.out).mono ?_); rintro e w' ⟨rfl, hb⟩; have HB := HB.trans (hb.mono HB.size); clear hb))
    go_ret
    exact ⟨rfl, HB⟩
  have s1 : (smallL na.toList == smallL nb.toList) = false := beq_eq_false_iff_ne.2 hs
  have HS := Lib.hid hs
  clear hs
  obtain ⟨e, he⟩ : ∃ z, setE L0 na.toList x = z := ⟨_, rfl⟩
  obtain ⟨M, hM⟩ : ∃ z, setA L0 na.toList x = z := ⟨_, rfl⟩
  obtain ⟨f, hf⟩ : ∃ z, setE M nb.toList y = z := ⟨_, rfl⟩
  obtain ⟨N, hN⟩ : ∃ z, setA M nb.toList y = z := ⟨_, rfl⟩
  obtain ⟨g, hg⟩ : ∃ z, setE L0 nb.toList y = z := ⟨_, rfl⟩
  obtain ⟨O, hO⟩ : ∃ z, setA L0 nb.toList y = z := ⟨_, rfl⟩
  obtain ⟨h, hh⟩ : ∃ z, setE O na.toList x = z := ⟨_, rfl⟩
  obtain ⟨P, hP⟩ : ∃ z, setA O na.toList x = z := ⟨_, rfl⟩
  have A1 : Hid (∀ W a len cap, AttrRow W a len cap L0 → Calls Try.prog 12 #[.slice a len cap, .string na, .string x] W (SetPost W M e)) := Lib.hid (fun W a len cap k => by
    have := HF.out.set a len cap L0 na x W k HA.out HX.out (by have := B60.out; omega)
    rwa [hM, he] at this)
  have A2 : Hid (∀ W a len cap, AttrRow W a len cap M → Calls Try.prog 12 #[.slice a len cap, .string nb, .string y] W (SetPost W N f)) := Lib.hid (fun W a len cap k => by
    have := HF.out.set a len cap M nb y W k HBN.out HY.out (by have := B60.out; have := setA_grow L0 na.toList x; rw [hM] at this; omega)
    rwa [hN, hf] at this)
  have A3 : Hid (∀ W a len cap, AttrRow W a len cap L0 → Calls Try.prog 12 #[.slice a len cap, .string nb, .string y] W (SetPost W O g)) := Lib.hid (fun W a len cap k => by
    have := HF.out.set a len cap L0 nb y W k HBN.out HY.out (by have := B60.out; omega)
    rwa [hO, hg] at this)
  have A4 : Hid (∀ W a len cap, AttrRow W a len cap O → Calls Try.prog 12 #[.slice a len cap, .string na, .string x] W (SetPost W P h)) := Lib.hid (fun W a len cap k => by
    have := HF.out.set a len cap O na x W k HA.out HX.out (by have := B60.out; have := setA_grow L0 nb.toList y; rw [hO] at this; omega)
    rwa [hP, hh] at this)
  by_cases e0 : e = 0
  rotate_left
  · have h0 : ¬ h = 0 := by
      rw [← hh, ← hO]
      exact order_first x y HS.out (by rw [he]; exact e0)
    have t1 : (e == 0) = false := beq_eq_false_iff_ne.2 e0
    have t2 : (e != 0) = true := by unfold bne; rw [t1]; rfl
    have t3 : (h == 0) = false := beq_eq_false_iff_ne.2 h0
    have t4 : (h != 0) = true := by unfold bne; rw [t3]; rfl
    clear he hM hf hN hg hO hh hP e0 h0
    go_enter Try.func6, Try.ntmps6
    go_wp2_with (first
      | (go_at_call 8; (with_reducible refine (AW.out _).mono ?_); rintro e w' ⟨rfl, hb⟩; have HB := HB.trans (hb.mono HB.size); clear hb)
      | (go_at_call 9; (with_reducible refine (refshort_any _ _ _ _).mono ?_); rintro e w' ⟨rfl, rfl⟩)
      | (go_at_call 23; (with_reducible refine (small_any _ _ HA.out).mono ?_); rintro e w' ⟨rfl, hb⟩; have HB := HB.trans (hb.mono HB.size); clear hb)
      | (go_at_call 23; (with_reducible refine (small_any _ _ HBN.out).mono ?_); rintro e w' ⟨rfl, hb⟩; have HB := HB.trans (hb.mono HB.size); clear hb)
      | (go_at_call 12; (with_reducible refine (A1.out _ _ _ _ (H0.out.below HB)).mono ?_); rintro e w' ⟨am, lenam, capam, rfl, hr, hb⟩; (try (have HM := Lib.hid (HM.out.below hb))); (try (have HN := Lib.hid (HN.out.below hb))); (try (have HO := Lib.hid (HO.out.below hb))); have HB := HB.trans (hb.mono HB.size); clear hb; have HM := Lib.hid hr; clear hr)
      | (go_at_call 12; (with_reducible refine (A2.out _ _ _ _ HM.out).mono ?_); rintro e w' ⟨an, lenan, capan, rfl, hr, hb⟩; (try (have HM := Lib.hid (HM.out.below hb))); (try (have HN := Lib.hid (HN.out.below hb))); (try (have HO := Lib.hid (HO.out.below hb))); have HB := HB.trans (hb.mono HB.size); clear hb; have HN := Lib.hid hr; clear hr)
      | (go_at_call 12; (with_reducible refine (A3.out _ _ _ _ (H0.out.below HB)).mono ?_); rintro e w' ⟨ao, lenao, capao, rfl, hr, hb⟩; (try (have HM := Lib.hid (HM.out.below hb))); (try (have HN := Lib.hid (HN.out.below hb))); (try (have HO := Lib.hid (HO.out.below hb))); have HB := HB.trans (hb.mono HB.size); clear hb; have HO := Lib.hid hr; clear hr)
      | (go_at_call 12; (with_reducible refine (A4.out _ _ _ _ HO.out).mono ?_); rintro e w' ⟨ap, lenap, capap, rfl, hr, hb⟩; (try (have HM := Lib.hid (HM.out.below hb))); (try (have HN := Lib.hid (HN.out.below hb))); (try (have HO := Lib.hid (HO.out.below hb))); have HB := HB.trans (hb.mono HB.size); clear hb; have HP := Lib.hid hr; clear hr))
    go_ret
    exact ⟨rfl, HB⟩
  subst e0
  by_cases g0 : g = 0
  rotate_left
  · have f0 : ¬ f = 0 := by
      rw [← hf, ← hM]
      exact order_first y x (Ne.symm HS.out) (by rw [hg]; exact g0)
    have t1 : (g == 0) = false := beq_eq_false_iff_ne.2 g0
    have t2 : (g != 0) = true := by unfold bne; rw [t1]; rfl
    have t3 : (f == 0) = false := beq_eq_false_iff_ne.2 f0
    have t4 : (f != 0) = true := by unfold bne; rw [t3]; rfl
    clear he hM hf hN hg hO hh hP f0 g0
    go_enter Try.func6, Try.ntmps6
    go_wp2_with (first
      | (go_at_call 8; (with_reducible refine (AW.out _).mono ?_); rintro e w' ⟨rfl, hb⟩; have HB := HB.trans (hb.mono HB.size); clear hb)
      | (go_at_call 9; (with_reducible refine (refshort_any _ _ _ _).mono ?_); rintro e w' ⟨rfl, rfl⟩)
      | (go_at_call 23; (with_reducible refine (small_any _ _ HA.out).mono ?_); rintro e w' ⟨rfl, hb⟩; have HB := HB.trans (hb.mono HB.size); clear hb)
      | (go_at_call 23; (with_reducible refine (small_any _ _ HBN.out).mono ?_); rintro e w' ⟨rfl, hb⟩; have HB := HB.trans (hb.mono HB.size); clear hb)
      | (go_at_call 12; (with_reducible refine (A1.out _ _ _ _ (H0.out.below HB)).mono ?_); rintro e w' ⟨am, lenam, capam, rfl, hr, hb⟩; (try (have HM := Lib.hid (HM.out.below hb))); (try (have HN := Lib.hid (HN.out.below hb))); (try (have HO := Lib.hid (HO.out.below hb))); have HB := HB.trans (hb.mono HB.size); clear hb; have HM := Lib.hid hr; clear hr)
      | (go_at_call 12; (with_reducible refine (A2.out _ _ _ _ HM.out).mono ?_); rintro e w' ⟨an, lenan, capan, rfl, hr, hb⟩; (try (have HM := Lib.hid (HM.out.below hb))); (try (have HN := Lib.hid (HN.out.below hb))); (try (have HO := Lib.hid (HO.out.below hb))); have HB := HB.trans (hb.mono HB.size); clear hb; have HN := Lib.hid hr; clear hr)
      | (go_at_call 12; (with_reducible refine (A3.out _ _ _ _ (H0.out.below HB)).mono ?_); rintro e w' ⟨ao, lenao, capao, rfl, hr, hb⟩; (try (have HM := Lib.hid (HM.out.below hb))); (try (have HN := Lib.hid (HN.out.below hb))); (try (have HO := Lib.hid (HO.out.below hb))); have HB := HB.trans (hb.mono HB.size); clear hb; have HO := Lib.hid hr; clear hr)
      | (go_at_call 12; (with_reducible refine (A4.out _ _ _ _ HO.out).mono ?_); rintro e w' ⟨ap, lenap, capap, rfl, hr, hb⟩; (try (have HM := Lib.hid (HM.out.below hb))); (try (have HN := Lib.hid (HN.out.below hb))); (try (have HO := Lib.hid (HO.out.below hb))); have HB := HB.trans (hb.mono HB.size); clear hb; have HP := Lib.hid hr; clear hr))
    go_ret
    exact ⟨rfl, HB⟩
  subst g0
  by_cases hfh : f = 0 ∧ h = 0
  rotate_left
  · have both : f = 3 ∧ h = 3 := by
      by_cases f0 : f = 0
      · have k0 : ¬ setE (setA L0 nb.toList y) na.toList x = 0 := by rw [hO, hh]; exact fun k => hfh ⟨f0, k⟩
        have := order_full (Ne.symm HS.out) hg he k0
        rw [hO, hh, hM, hf] at this
        exact ⟨this.2, this.1⟩
      · have k0 : ¬ setE (setA L0 na.toList x) nb.toList y = 0 := by rw [hM, hf]; exact f0
        have := order_full HS.out he hg k0
        rw [hO, hh, hM, hf] at this
        exact this
    obtain ⟨rfl, rfl⟩ := both
    clear he hM hf hN hg hO hh hP hfh
    go_enter Try.func6, Try.ntmps6
    go_wp2_with (first
      | (go_at_call 8; (with_reducible refine (AW.out _).mono ?_); rintro e w' ⟨rfl, hb⟩; have HB := HB.trans (hb.mono HB.size); clear hb)
      | (go_at_call 9; (with_reducible refine (refshort_any _ _ _ _).mono ?_); rintro e w' ⟨rfl, rfl⟩)
      | (go_at_call 23; (with_reducible refine (small_any _ _ HA.out).mono ?_); rintro e w' ⟨rfl, hb⟩; have HB := HB.trans (hb.mono HB.size); clear hb)
      | (go_at_call 23; (with_reducible refine (small_any _ _ HBN.out).mono ?_); rintro e w' ⟨rfl, hb⟩; have HB := HB.trans (hb.mono HB.size); clear hb)
      | (go_at_call 12; (with_reducible refine (A1.out _ _ _ _ (H0.out.below HB)).mono ?_); rintro e w' ⟨am, lenam, capam, rfl, hr, hb⟩; (try (have HM := Lib.hid (HM.out.below hb))); (try (have HN := Lib.hid (HN.out.below hb))); (try (have HO := Lib.hid (HO.out.below hb))); have HB := HB.trans (hb.mono HB.size); clear hb; have HM := Lib.hid hr; clear hr)
      | (go_at_call 12; (with_reducible refine (A2.out _ _ _ _ HM.out).mono ?_); rintro e w' ⟨an, lenan, capan, rfl, hr, hb⟩; (try (have HM := Lib.hid (HM.out.below hb))); (try (have HN := Lib.hid (HN.out.below hb))); (try (have HO := Lib.hid (HO.out.below hb))); have HB := HB.trans (hb.mono HB.size); clear hb; have HN := Lib.hid hr; clear hr)
      | (go_at_call 12; (with_reducible refine (A3.out _ _ _ _ (H0.out.below HB)).mono ?_); rintro e w' ⟨ao, lenao, capao, rfl, hr, hb⟩; (try (have HM := Lib.hid (HM.out.below hb))); (try (have HN := Lib.hid (HN.out.below hb))); (try (have HO := Lib.hid (HO.out.below hb))); have HB := HB.trans (hb.mono HB.size); clear hb; have HO := Lib.hid hr; clear hr)
      | (go_at_call 12; (with_reducible refine (A4.out _ _ _ _ HO.out).mono ?_); rintro e w' ⟨ap, lenap, capap, rfl, hr, hb⟩; (try (have HM := Lib.hid (HM.out.below hb))); (try (have HN := Lib.hid (HN.out.below hb))); (try (have HO := Lib.hid (HO.out.below hb))); have HB := HB.trans (hb.mono HB.size); clear hb; have HP := Lib.hid hr; clear hr))
    go_ret
    exact ⟨rfl, HB⟩
  obtain ⟨rfl, rfl⟩ := hfh
  have G1 : Hid (∀ W a len cap, AttrRow W a len cap P → Calls Try.prog 10 #[.slice a len cap, .string na] W fun e w' => e = .returned (.tuple #[.string x, .bool true]) ∧ Below W.heap.size W w') := Lib.hid (fun W a len cap k => by
    have := HF.out.get a len cap P na W k HA.out
    rw [← hP, (back_has hh).1, (back_has hh).2] at this
    exact this)
  have G2 : Hid (∀ W a len cap, AttrRow W a len cap N → Calls Try.prog 10 #[.slice a len cap, .string nb] W fun e w' => e = .returned (.tuple #[.string y, .bool true]) ∧ Below W.heap.size W w') := Lib.hid (fun W a len cap k => by
    have := HF.out.get a len cap N nb W k HBN.out
    rw [← hN, (back_has hf).1, (back_has hf).2] at this
    exact this)
  have hal := order_alike HS.out he (by rw [hM]; exact hf) hg (by rw [hO]; exact hh)
  rw [hM, hN, hO, hP] at hal
  have K1 : Hid (∀ W a len cap a' len' cap', AttrRow W a len cap N → AttrRow W a' len' cap' P → Calls Try.prog 22 #[.slice a len cap, .slice a' len' cap'] W fun e w' => e = .returned (.bool true) ∧ Below W.heap.size W w') := Lib.hid (fun W a len cap a' len' cap' k k' => by
    have := HF.out.alike a a' len cap len' cap' N P W k k'
    rwa [hal.1] at this)
  have K2 : Hid (∀ W a len cap a' len' cap', AttrRow W a len cap P → AttrRow W a' len' cap' N → Calls Try.prog 22 #[.slice a len cap, .slice a' len' cap'] W fun e w' => e = .returned (.bool true) ∧ Below W.heap.size W w') := Lib.hid (fun W a len cap a' len' cap' k k' => by
    have := HF.out.alike a a' len cap len' cap' P N W k k'
    rwa [hal.2] at this)
  clear he hM hf hN hg hO hh hP hal
  go_enter Try.func6, Try.ntmps6
  go_wp2_with (first
    | (go_at_call 8; (with_reducible refine (AW.out _).mono ?_); rintro e w' ⟨rfl, hb⟩; have HB := HB.trans (hb.mono HB.size); clear hb)
    | (go_at_call 9; (with_reducible refine (refshort_any _ _ _ _).mono ?_); rintro e w' ⟨rfl, rfl⟩)
    | (go_at_call 23; (with_reducible refine (small_any _ _ HA.out).mono ?_); rintro e w' ⟨rfl, hb⟩; have HB := HB.trans (hb.mono HB.size); clear hb)
    | (go_at_call 23; (with_reducible refine (small_any _ _ HBN.out).mono ?_); rintro e w' ⟨rfl, hb⟩; have HB := HB.trans (hb.mono HB.size); clear hb)
    | (go_at_call 12; (with_reducible refine (A1.out _ _ _ _ (H0.out.below HB)).mono ?_); rintro e w' ⟨am, lenam, capam, rfl, hr, hb⟩; (try (have HM := Lib.hid (HM.out.below hb))); (try (have HN := Lib.hid (HN.out.below hb))); (try (have HO := Lib.hid (HO.out.below hb))); have HB := HB.trans (hb.mono HB.size); clear hb; have HM := Lib.hid hr; clear hr)
    | (go_at_call 12; (with_reducible refine (A2.out _ _ _ _ HM.out).mono ?_); rintro e w' ⟨an, lenan, capan, rfl, hr, hb⟩; (try (have HM := Lib.hid (HM.out.below hb))); (try (have HN := Lib.hid (HN.out.below hb))); (try (have HO := Lib.hid (HO.out.below hb))); have HB := HB.trans (hb.mono HB.size); clear hb; have HN := Lib.hid hr; clear hr)
    | (go_at_call 12; (with_reducible refine (A3.out _ _ _ _ (H0.out.below HB)).mono ?_); rintro e w' ⟨ao, lenao, capao, rfl, hr, hb⟩; (try (have HM := Lib.hid (HM.out.below hb))); (try (have HN := Lib.hid (HN.out.below hb))); (try (have HO := Lib.hid (HO.out.below hb))); have HB := HB.trans (hb.mono HB.size); clear hb; have HO := Lib.hid hr; clear hr)
    | (go_at_call 12; (with_reducible refine (A4.out _ _ _ _ HO.out).mono ?_); rintro e w' ⟨ap, lenap, capap, rfl, hr, hb⟩; (try (have HM := Lib.hid (HM.out.below hb))); (try (have HN := Lib.hid (HN.out.below hb))); (try (have HO := Lib.hid (HO.out.below hb))); have HB := HB.trans (hb.mono HB.size); clear hb; have HP := Lib.hid hr; clear hr)
    | (go_at_call 10; (with_reducible refine (G1.out _ _ _ _ HP.out).mono ?_); rintro e w' ⟨rfl, hb⟩; (try (have HN := Lib.hid (HN.out.below hb))); (try (have HP := Lib.hid (HP.out.below hb))); have HB := HB.trans (hb.mono HB.size); clear hb)
    | (go_at_call 10; (with_reducible refine (G2.out _ _ _ _ HN.out).mono ?_); rintro e w' ⟨rfl, hb⟩; (try (have HN := Lib.hid (HN.out.below hb))); (try (have HP := Lib.hid (HP.out.below hb))); have HB := HB.trans (hb.mono HB.size); clear hb)
    | (go_at_call 22; (with_reducible refine (K1.out _ _ _ _ _ _ _ HN.out HP.out).mono ?_); rintro e w' ⟨rfl, hb⟩; (try (have HN := Lib.hid (HN.out.below hb))); (try (have HP := Lib.hid (HP.out.below hb))); have HB := HB.trans (hb.mono HB.size); clear hb)
    | (go_at_call 22; (with_reducible refine (K2.out _ _ _ _ _ _ _ HP.out HN.out).mono ?_); rintro e w' ⟨rfl, hb⟩; (try (have HN := Lib.hid (HN.out.below hb))); (try (have HP := Lib.hid (HP.out.below hb))); have HB := HB.trans (hb.mono HB.size); clear hb))
  go_ret
  exact ⟨ret_bool (by simp), HB⟩
end Go.Proofs.Ytmofeddldcifbaa
