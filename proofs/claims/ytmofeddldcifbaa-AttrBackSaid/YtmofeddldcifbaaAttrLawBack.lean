/- The walk of the law AttrBack, over the contracts of package attr. -/
import Derived.Test.YtmofeddldcifbaaAttrLawRight
import Derived.Test.YtmofeddldcifbaaAttrMath2
import Derived.Test.YtmofeddldcifbaaNameSmall
namespace Go.Proofs.Ytmofeddldcifbaa
open Go.RowKit
set_option maxHeartbeats 16000000 in
set_option maxRecDepth 100000 in
theorem attrBack_walk (F : AttrFns) (a0 : Option Addr) (len0 cap0 : Nat) (L0 : AL) (n v o : ByteArray) (w : World)
    (h0 : AttrRow w a0 len0 cap0 L0) (hn : n.size ≤ maxLen) (hv : v.size ≤ maxLen) (ho : o.size ≤ maxLen) :
    Calls Try.prog 5 #[.slice a0 len0 cap0, .string n, .string v, .string o] w fun e w' => e = .returned (.bool true) ∧ Below w.heap.size w w' := by
  have HB : Below w.heap.size w w := Below.refl _ _
  have H0 := Lib.hid h0
  have HN := Lib.hid hn
  have HV := Lib.hid hv
  have HO := Lib.hid ho
  have AW := Lib.hid (fun W => awake2_any F W)
  have HF := Lib.hid F
  have hl0 := h0.len64
  have hns : n.size ≤ 9223372036854775807 := by unfold maxLen at hn; omega
  have hvs : v.size ≤ 9223372036854775807 := by unfold maxLen at hv; omega
  have hos : o.size ≤ 9223372036854775807 := by unfold maxLen at ho; omega
  clear h0 hn hv ho F
  obtain ⟨r0, hr0⟩ : ∃ x, rightA L0 = x := ⟨_, rfl⟩
  have A9 : Hid (∀ W a len cap, AttrRow W a len cap L0 → Calls Try.prog 18 #[.slice a len cap] W fun e w' => e = .returned (.bool r0) ∧ Below W.heap.size W w') := Lib.hid (fun W a len cap h => by have := HF.out.right a len cap L0 W h; rwa [hr0] at this)
  have R0 := Lib.hid hr0
  clear hr0
  have early : (60 < len0 ∨ 300 < n.size ∨ 300 < v.size ∨ 300 < o.size ∨ r0 = false) → Calls Try.prog 5 #[.slice a0 len0 cap0, .string n, .string v, .string o] w fun e w' => e = .returned (.bool true) ∧ Below w.heap.size w w' := by
    intro hbad
    by_cases c0 : (len0 : Int) ≤ 60
    rotate_left
    · have e1 : decide ((len0 : Int) ≤ 60) = false := decide_eq_false c0
      clear hbad c0
      go_enter Try.func5, Try.ntmps5
      go_wp2_with (first
        | (go_at_call 8; refine (AW.out _).mono ?_; rintro e w' ⟨rfl, hb⟩; have HB := HB.trans (hb.mono HB.size); clear hb)
        | (go_at_call 9; refine (refshort_any _ _ _ _).mono ?_; rintro e w' ⟨rfl, rfl⟩))
      go_ret
      exact ⟨rfl, HB⟩
    have e1 : decide ((len0 : Int) ≤ 60) = true := decide_eq_true c0
    by_cases c1 : (300 : Int) < (n.size : Int)
    · clear hbad c0
      go_enter Try.func5, Try.ntmps5
      go_wp2_with (first
        | (go_at_call 8; refine (AW.out _).mono ?_; rintro e w' ⟨rfl, hb⟩; have HB := HB.trans (hb.mono HB.size); clear hb)
        | (go_at_call 9; refine (refshort_any _ _ _ _).mono ?_; rintro e w' ⟨rfl, rfl⟩))
      go_ret
      exact ⟨rfl, HB⟩
    by_cases c2 : (300 : Int) < (v.size : Int)
    · clear hbad c0
      go_enter Try.func5, Try.ntmps5
      go_wp2_with (first
        | (go_at_call 8; refine (AW.out _).mono ?_; rintro e w' ⟨rfl, hb⟩; have HB := HB.trans (hb.mono HB.size); clear hb)
        | (go_at_call 9; refine (refshort_any _ _ _ _).mono ?_; rintro e w' ⟨rfl, rfl⟩))
      go_ret
      exact ⟨rfl, HB⟩
    by_cases c3 : (300 : Int) < (o.size : Int)
    · clear hbad c0
      go_enter Try.func5, Try.ntmps5
      go_wp2_with (first
        | (go_at_call 8; refine (AW.out _).mono ?_; rintro e w' ⟨rfl, hb⟩; have HB := HB.trans (hb.mono HB.size); clear hb)
        | (go_at_call 9; refine (refshort_any _ _ _ _).mono ?_; rintro e w' ⟨rfl, rfl⟩))
      go_ret
      exact ⟨rfl, HB⟩
    obtain rfl : r0 = false := by
      rcases hbad with h | h | h | h | h
      · omega
      · omega
      · omega
      · omega
      · exact h
    clear hbad c0
    go_enter Try.func5, Try.ntmps5
    go_wp2_with (first
      | (go_at_call 8; refine (AW.out _).mono ?_; rintro e w' ⟨rfl, hb⟩; have HB := HB.trans (hb.mono HB.size); clear hb)
      | (go_at_call 9; refine (refshort_any _ _ _ _).mono ?_; rintro e w' ⟨rfl, rfl⟩)
      | (go_at_call 18; refine (A9.out _ _ _ _ (H0.out.below HB)).mono ?_; rintro e w' ⟨rfl, hb⟩; have HB := HB.trans (hb.mono HB.size); clear hb))
    go_ret
    exact ⟨rfl, HB⟩
  by_cases hbad : (60 < len0 ∨ 300 < n.size ∨ 300 < v.size ∨ 300 < o.size ∨ r0 = false)
  · exact early hbad
  have c0 : (len0 : Int) ≤ 60 := by omega
  have c1 : ¬ (300 : Int) < (n.size : Int) := by omega
  have c2 : ¬ (300 : Int) < (v.size : Int) := by omega
  have c3 : ¬ (300 : Int) < (o.size : Int) := by omega
  have hr : r0 = true := by
    cases r0
    · exact absurd (.inr (.inr (.inr (.inr rfl)))) hbad
    · rfl
  subst hr
  have e1 : decide ((len0 : Int) ≤ 60) = true := decide_eq_true c0
  have B60 : Hid (L0.length ≤ 60) := Lib.hid (by have := H0.out.hlen; omega)
  clear hbad early c0
  obtain ⟨se, hse⟩ : ∃ x, setE L0 n.toList v = x := ⟨_, rfl⟩
  by_cases h0 : se = 0
  rotate_left
  · have s1 : (se == 0) = false := beq_eq_false_iff_ne.2 h0
    have s2 : (se != 0) = true := by unfold bne; rw [s1]; rfl
    have A3 : Hid (∀ W a len cap, AttrRow W a len cap L0 → Calls Try.prog 12 #[.slice a len cap, .string n, .string v] W (SetPost W L0 se)) := Lib.hid (fun W a len cap h => by
      have := HF.out.set a len cap L0 n v W h HN.out HV.out (by have := B60.out; omega)
      rwa [setA_ne (by rw [hse]; exact h0), hse] at this)
    clear hse h0
    go_enter Try.func5, Try.ntmps5
    go_wp2_with (first
      | (go_at_call 8; refine (AW.out _).mono ?_; rintro e w' ⟨rfl, hb⟩; have HB := HB.trans (hb.mono HB.size); clear hb)
      | (go_at_call 9; refine (refshort_any _ _ _ _).mono ?_; rintro e w' ⟨rfl, rfl⟩)
      | (go_at_call 18; refine (A9.out _ _ _ _ (H0.out.below HB)).mono ?_; rintro e w' ⟨rfl, hb⟩; have HB := HB.trans (hb.mono HB.size); clear hb)
      | (go_at_call 12; (with_reducible refine (A3.out _ _ _ _ (H0.out.below HB)).mono ?_); rintro e w' ⟨ac, lenc, capc, rfl, hr, hb⟩; have HC := Lib.hid hr; have HB := HB.trans (hb.mono HB.size); clear hb hr)
      | (go_at_call 20; (with_reducible refine (refsame_same HC.out (H0.out.below HB)).mono ?_); rintro e w' ⟨rfl, hb⟩; have HB := HB.trans (hb.mono HB.size); clear hb))
    go_ret
    exact ⟨rfl, HB⟩
  subst h0
  obtain ⟨M, hM⟩ : ∃ x, setA L0 n.toList v = x := ⟨_, rfl⟩
  obtain ⟨R, hR⟩ : ∃ x, remA M n.toList = x := ⟨_, rfl⟩
  obtain ⟨rl, hrl⟩ : ∃ x, R.length = x := ⟨_, rfl⟩
  have hml : M.length = rl + 1 := by rw [← hrl, ← hR, ← hM]; exact (back_len hse).symm
  have hr41 : rl ≤ 40 := by have := ((right_iff M).1 (by rw [← hM]; exact setA_right hse)).1; omega
  have ML := Lib.hid hml
  have RL := Lib.hid hrl
  clear hml hrl
  obtain ⟨va, hva⟩ : ∃ x, valA L0 n.toList = x := ⟨_, rfl⟩
  obtain ⟨ha, hha⟩ : ∃ x, hasA L0 n.toList = x := ⟨_, rfl⟩
  obtain ⟨vo, hvo⟩ : ∃ x, valA L0 o.toList = x := ⟨_, rfl⟩
  obtain ⟨hao, hhao⟩ : ∃ x, hasA L0 o.toList = x := ⟨_, rfl⟩
  have A3 : Hid (∀ W a len cap, AttrRow W a len cap L0 → Calls Try.prog 12 #[.slice a len cap, .string n, .string v] W (SetPost W M 0)) := Lib.hid (fun W a len cap h => by
    have := HF.out.set a len cap L0 n v W h HN.out HV.out (by have := B60.out; omega)
    rwa [hM, hse] at this)
  have A4 : Hid (∀ W a len cap, AttrRow W a len cap M → Calls Try.prog 12 #[.slice a len cap, .string n, .string v] W (SetPost W M 0)) := Lib.hid (fun W a len cap h => by
    have := HF.out.set a len cap M n v W h HN.out HV.out (by have := ML.out; omega)
    rw [← hM, (set_again hse).1, (set_again hse).2, hM] at this
    exact this)
  have G1 : Hid (∀ W a len cap, AttrRow W a len cap M → Calls Try.prog 10 #[.slice a len cap, .string (ofL (smallL n.toList))] W fun e w' => e = .returned (.tuple #[.string v, .bool true]) ∧ Below W.heap.size W w') := Lib.hid (fun W a len cap h => by
    have := HF.out.get a len cap M (ofL (smallL n.toList)) W h (by rw [size_ofL, smallL_length, tl_len]; exact HN.out)
    rw [toList_ofL, ← hM, (back_small hse).1, (back_small hse).2] at this
    exact this)
  have G2 : Hid (∀ W a len cap, AttrRow W a len cap M → Calls Try.prog 14 #[.slice a len cap, .string n] W (RemPost W R true)) := Lib.hid (fun W a len cap h => by
    have := HF.out.remove a len cap M n W h HN.out (by have := ML.out; omega)
    rw [hR, ← hM, (back_has hse).1] at this
    exact this)
  have G3 : Hid (∀ W a len cap, AttrRow W a len cap L0 → Calls Try.prog 10 #[.slice a len cap, .string n] W fun e w' => e = .returned (.tuple #[.string va, .bool ha]) ∧ Below W.heap.size W w') := Lib.hid (fun W a len cap h => by
    have := HF.out.get a len cap L0 n W h HN.out
    rwa [hva, hha] at this)
  have G4 : Hid (∀ W a len cap, AttrRow W a len cap L0 → Calls Try.prog 10 #[.slice a len cap, .string o] W fun e w' => e = .returned (.tuple #[.string vo, .bool hao]) ∧ Below W.heap.size W w') := Lib.hid (fun W a len cap h => by
    have := HF.out.get a len cap L0 o W h HO.out
    rwa [hvo, hhao] at this)
  have G5 : Hid (smallL o.toList ≠ smallL n.toList → ∀ W a len cap, AttrRow W a len cap M → Calls Try.prog 10 #[.slice a len cap, .string o] W fun e w' => e = .returned (.tuple #[.string vo, .bool hao]) ∧ Below W.heap.size W w') := Lib.hid (fun hd W a len cap h => by
    have := HF.out.get a len cap M o W h HO.out
    rw [← hM, (other_M hse hd).1, (other_M hse hd).2, hvo, hhao] at this
    exact this)
  have G6 : Hid (smallL o.toList ≠ smallL n.toList → ∀ W a len cap, AttrRow W a len cap R → Calls Try.prog 10 #[.slice a len cap, .string o] W fun e w' => e = .returned (.tuple #[.string vo, .bool hao]) ∧ Below W.heap.size W w') := Lib.hid (fun hd W a len cap h => by
    have := HF.out.get a len cap R o W h HO.out
    rw [← hR, ← hM, (other_R hse hd).1, (other_R hse hd).2, hvo, hhao] at this
    exact this)
  have HRL : Hid (ha = false → R = L0) := Lib.hid (fun h => by rw [← hR, ← hM]; exact back_rem hse (by rw [hha]; exact h))
  clear hse hM hR hva hha hvo hhao
  have run : ∀ (eqs : Bool), (smallL o.toList == smallL n.toList) = eqs → Calls Try.prog 5 #[.slice a0 len0 cap0, .string n, .string v, .string o] w fun e w' => e = .returned (.bool true) ∧ Below w.heap.size w w' := by
    intro eqs heqs
    have HD : Hid (eqs = false → smallL o.toList ≠ smallL n.toList) := Lib.hid (fun h => by rw [h] at heqs; exact beq_eq_false_iff_ne.1 heqs)
    cases eqs <;> cases ha
    all_goals
      try (obtain rfl := HRL.out rfl)
      try (have HDD := Lib.hid (HD.out rfl))
      clear HD HRL
      go_enter Try.func5, Try.ntmps5
      go_wp2_with (first
        | (go_at_call 8; (with_reducible refine (AW.out _).mono ?_); rintro e w' ⟨rfl, hb⟩; have HB := HB.trans (hb.mono HB.size); clear hb)
        | (go_at_call 9; (with_reducible refine (refshort_any _ _ _ _).mono ?_); rintro e w' ⟨rfl, rfl⟩)
        | (go_at_call 18; (with_reducible refine (A9.out _ _ _ _ (H0.out.below HB)).mono ?_); rintro e w' ⟨rfl, hb⟩; have HB := HB.trans (hb.mono HB.size); clear hb)
        | (go_at_call 12; (with_reducible refine (A3.out _ _ _ _ (H0.out.below HB)).mono ?_); rintro e w' ⟨ac, lenc, capc, rfl, hr, hb⟩; obtain rfl : lenc = rl + 1 := hr.hlen.symm.trans ML.out; have HC := Lib.hid hr; have HB := HB.trans (hb.mono HB.size); clear hb hr)
        | (go_at_call 12; (with_reducible refine (A4.out _ _ _ _ HC.out).mono ?_); rintro e w' ⟨ad, lend, capd, rfl, hr, hb⟩; (try (have HC := Lib.hid (HC.out.below hb))); (try (have HD2 := Lib.hid (HD2.out.below hb))); (try (have HR := Lib.hid (HR.out.below hb))); have HB := HB.trans (hb.mono HB.size); clear hb; have HD2 := Lib.hid hr; clear hr)
        | (go_at_call 23; (with_reducible refine (small_any _ _ HN.out).mono ?_); rintro e w' ⟨rfl, hb⟩; (try (have HC := Lib.hid (HC.out.below hb))); (try (have HD2 := Lib.hid (HD2.out.below hb))); (try (have HR := Lib.hid (HR.out.below hb))); have HB := HB.trans (hb.mono HB.size); clear hb)
        | (go_at_call 23; (with_reducible refine (small_any _ _ HO.out).mono ?_); rintro e w' ⟨rfl, hb⟩; (try (have HC := Lib.hid (HC.out.below hb))); (try (have HD2 := Lib.hid (HD2.out.below hb))); (try (have HR := Lib.hid (HR.out.below hb))); have HB := HB.trans (hb.mono HB.size); clear hb)
        | (go_at_call 10; (with_reducible refine (G1.out _ _ _ _ HC.out).mono ?_); rintro e w' ⟨rfl, hb⟩; (try (have HC := Lib.hid (HC.out.below hb))); (try (have HD2 := Lib.hid (HD2.out.below hb))); (try (have HR := Lib.hid (HR.out.below hb))); have HB := HB.trans (hb.mono HB.size); clear hb)
        | (go_at_call 10; (with_reducible refine (G3.out _ _ _ _ (H0.out.below HB)).mono ?_); rintro e w' ⟨rfl, hb⟩; (try (have HC := Lib.hid (HC.out.below hb))); (try (have HD2 := Lib.hid (HD2.out.below hb))); (try (have HR := Lib.hid (HR.out.below hb))); have HB := HB.trans (hb.mono HB.size); clear hb)
        | (go_at_call 10; (with_reducible refine (G4.out _ _ _ _ (H0.out.below HB)).mono ?_); rintro e w' ⟨rfl, hb⟩; (try (have HC := Lib.hid (HC.out.below hb))); (try (have HD2 := Lib.hid (HD2.out.below hb))); (try (have HR := Lib.hid (HR.out.below hb))); have HB := HB.trans (hb.mono HB.size); clear hb)
        | (go_at_call 10; (with_reducible refine (G5.out HDD.out _ _ _ _ HC.out).mono ?_); rintro e w' ⟨rfl, hb⟩; (try (have HC := Lib.hid (HC.out.below hb))); (try (have HD2 := Lib.hid (HD2.out.below hb))); (try (have HR := Lib.hid (HR.out.below hb))); have HB := HB.trans (hb.mono HB.size); clear hb)
        | (go_at_call 10; (with_reducible refine (G6.out HDD.out _ _ _ _ HR.out).mono ?_); rintro e w' ⟨rfl, hb⟩; (try (have HC := Lib.hid (HC.out.below hb))); (try (have HD2 := Lib.hid (HD2.out.below hb))); (try (have HR := Lib.hid (HR.out.below hb))); have HB := HB.trans (hb.mono HB.size); clear hb)
        | (go_at_call 14; (with_reducible refine (G2.out _ _ _ _ HC.out).mono ?_); rintro e w' ⟨ag, leng, capg, rfl, hr, hb⟩; obtain rfl : leng = rl := hr.hlen.symm.trans RL.out; (try (have HC := Lib.hid (HC.out.below hb))); (try (have HD2 := Lib.hid (HD2.out.below hb))); (try (have HR := Lib.hid (HR.out.below hb))); have HB := HB.trans (hb.mono HB.size); clear hb; have HR := Lib.hid hr; clear hr)
        | (go_at_call 20; (with_reducible refine (refsame_same HD2.out HC.out).mono ?_); rintro e w' ⟨rfl, hb⟩; (try (have HC := Lib.hid (HC.out.below hb))); (try (have HD2 := Lib.hid (HD2.out.below hb))); (try (have HR := Lib.hid (HR.out.below hb))); have HB := HB.trans (hb.mono HB.size); clear hb)
        | (go_at_call 20; (with_reducible refine (refsame_same HR.out (H0.out.below HB)).mono ?_); rintro e w' ⟨rfl, hb⟩; (try (have HC := Lib.hid (HC.out.below hb))); (try (have HD2 := Lib.hid (HD2.out.below hb))); (try (have HR := Lib.hid (HR.out.below hb))); have HB := HB.trans (hb.mono HB.size); clear hb))
      go_ret
      exact ⟨ret_bool (by simp), HB⟩
  exact run _ rfl
end Go.Proofs.Ytmofeddldcifbaa
