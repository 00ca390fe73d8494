/- Texts joined in build order: AbleRightLaw. -/
import Derived.Test.YtnjoimedilonnaaGreatC46
import Derived.Test.YtnjoimedilonnaaGreatC40
import Derived.Test.YtnjoimedilonnaaGreatC47
import Derived.Test.YtnjoimedilonnaaGreatC38
import Derived.Test.YtnjoimedilonnaaGreatC09
namespace Go.Proofs.YtnjoimedilonnaaGreat
open Go.RowKit
set_option maxHeartbeats 16000000 in
set_option maxRecDepth 100000 in
theorem ableRight_walk (_ : True) (a : Option Addr) (len cap : Nat) (m : Int) (L : List NodeD) (n : Int) (w : World) (h : NodeRow w a len cap L) (hm : In64 m) (hn : In64 n) :
    Calls Tryz.prog 3 #[forV a len cap m, .int .i64 n] w fun e w' => e = .returned (.bool true) ∧ Below w.heap.size w w' := by
  have AW := Lib.hid (fun W => awake14_any W)
  have BX := Lib.hid (Box.start (m := m) h)
  have hl0 := h.len64
  have HL := Lib.hid h.hlen
  have HM := Lib.hid hm
  have z0 := BX.out.c0
  have z1 := BX.out.c1
  clear h hm
  cases c0 : shortF L with
  | false =>
    have C0 := Lib.hid c0
    clear c0
    go_enter Tryz.func3, Tryz.ntmps3
    go_wp2_with (first
                    | (go_at_call 4; (with_reducible refine (AW.out _).mono ?_); rintro e w1 ⟨rfl, hb⟩; have BX := Lib.hid (BX.out.keep hb); clear z0 z1; have z0 := BX.out.c0; have z1 := BX.out.c1; clear hb)
                    | (go_at_call 5; (with_reducible refine (refshortF_any _ _ _ _ _ _ BX.out.row).mono ?_); rintro e w1 ⟨rfl, hb⟩; rw [C0.out]; have BX := Lib.hid (BX.out.keep hb); clear z0 z1; have z0 := BX.out.c0; have z1 := BX.out.c1; clear hb)
                    | (go_at_call 14; (with_reducible refine (HR.out _ BX.out.row).mono ?_); rintro e w1 ⟨rfl, hb⟩; have BX := Lib.hid (BX.out.keep hb); clear z0 z1; have z0 := BX.out.c0; have z1 := BX.out.c1; clear hb))
    go_ret
    exact ⟨rfl, BX.out.below⟩
  | true =>
    have C0 := Lib.hid c0
    have SM := Lib.hid (small_of_short c0)
    clear c0
    have hlen : len ≤ 1000 := by rw [← HL.out]; exact SM.out.1
    cases c1 : rightF m (coreL L) with
    | false =>
      have HR : Hid (∀ W, NodeRow W a len cap L → Calls Tryz.prog 7 #[forV a len cap m] W fun e w' => e = .returned (.bool false) ∧ Below W.heap.size W w') := Lib.hid (fun W h => by
        have := refrightN_any a len cap m L W h
        rwa [c1] at this)
      have hth : thereF m (coreL L) n = false := by unfold thereF; rw [c1]; rfl
      have CA : Hid (∀ W, NodeRow W a len cap L → Calls Tryz.prog 6 #[forV a len cap m] W (OrdNew W [])) := Lib.hid (fun W h => by
        have := allB_any a len cap m L W h HM.out SM.out
        rwa [show allB m (coreL L) = [] by unfold allB; rw [c1]; rfl] at this)
      have CB : Hid (∀ W, NodeRow W a len cap L → Calls Tryz.prog 8 #[forV a len cap m, .int .i64 n] W fun e w' => e = .returned (.bool false) ∧ Below W.heap.size W w') := Lib.hid (fun W h => by
        have := barO_any a len cap m L n W h HM.out SM.out
        rwa [show barO m (coreL L) n = false by unfold barO; rw [hth]; rfl] at this)
      have CL : Hid (∀ W, NodeRow W a len cap L → Calls Tryz.prog 9 #[forV a len cap m, .int .i64 n] W fun e w' => e = .returned (.int .i64 (-1)) ∧ Below W.heap.size W w') := Lib.hid (fun W h => by
        have := legO_any a len cap m L n W h HM.out SM.out
        rwa [legO_not hth] at this)
      clear c1 hth hn
      go_enter Tryz.func3, Tryz.ntmps3
      go_upto_region 6 with (first | (first
                                         | (go_at_call 4; (with_reducible refine (AW.out _).mono ?_); rintro e w1 ⟨rfl, hb⟩; have BX := Lib.hid (BX.out.keep hb); clear z0 z1; have z0 := BX.out.c0; have z1 := BX.out.c1; clear hb)
                                         | (go_at_call 5; (with_reducible refine (refshortF_any _ _ _ _ _ _ BX.out.row).mono ?_); rintro e w1 ⟨rfl, hb⟩; rw [C0.out]; have BX := Lib.hid (BX.out.keep hb); clear z0 z1; have z0 := BX.out.c0; have z1 := BX.out.c1; clear hb)
                                         | (go_at_call 14; (with_reducible refine (HR.out _ BX.out.row).mono ?_); rintro e w1 ⟨rfl, hb⟩; have BX := Lib.hid (BX.out.keep hb); clear z0 z1; have z0 := BX.out.c0; have z1 := BX.out.c1; clear hb)) | (first
                                                     | (go_at_call 6; ((with_reducible refine (CA.out _ BX.out.row).mono ?_); rintro e w2 ⟨ao, lo, co, rfl, hro, hb, -⟩; have BX := Lib.hid (BX.out.keep hb); have IR := Lib.hid hro; clear z0 z1; have z0 := BX.out.c0; have z1 := BX.out.c1; clear hb hro))
                                                     | (go_at_call 7; (with_reducible refine (HR.out _ BX.out.row).mono ?_); rintro e w3 ⟨rfl, hb⟩; have BX := Lib.hid (BX.out.keep hb); have IR := Lib.hid (IR.out.below hb); clear z0 z1; have z0 := BX.out.c0; have z1 := BX.out.c1; clear hb)
                                                     | (go_at_call 8; (with_reducible refine (CB.out _ BX.out.row).mono ?_); rintro e w4 ⟨rfl, hb⟩; have BX := Lib.hid (BX.out.keep hb); clear z0 z1; have z0 := BX.out.c0; have z1 := BX.out.c1; clear hb)
                                                     | (go_at_call 9; (with_reducible refine (CL.out _ BX.out.row).mono ?_); rintro e w5 ⟨rfl, hb⟩; have BX := Lib.hid (BX.out.keep hb); clear z0 z1; have z0 := BX.out.c0; have z1 := BX.out.c1; clear hb)))
      obtain rfl : 0 = lo := IR.out.hlen
      go_wp2_with (first
                      | (go_at_call 6; ((with_reducible refine (CA.out _ BX.out.row).mono ?_); rintro e w2 ⟨ao, lo, co, rfl, hro, hb, -⟩; have BX := Lib.hid (BX.out.keep hb); have IR := Lib.hid hro; clear z0 z1; have z0 := BX.out.c0; have z1 := BX.out.c1; clear hb hro))
                      | (go_at_call 7; (with_reducible refine (HR.out _ BX.out.row).mono ?_); rintro e w3 ⟨rfl, hb⟩; have BX := Lib.hid (BX.out.keep hb); have IR := Lib.hid (IR.out.below hb); clear z0 z1; have z0 := BX.out.c0; have z1 := BX.out.c1; clear hb)
                      | (go_at_call 8; (with_reducible refine (CB.out _ BX.out.row).mono ?_); rintro e w4 ⟨rfl, hb⟩; have BX := Lib.hid (BX.out.keep hb); clear z0 z1; have z0 := BX.out.c0; have z1 := BX.out.c1; clear hb)
                      | (go_at_call 9; (with_reducible refine (CL.out _ BX.out.row).mono ?_); rintro e w5 ⟨rfl, hb⟩; have BX := Lib.hid (BX.out.keep hb); clear z0 z1; have z0 := BX.out.c0; have z1 := BX.out.c1; clear hb))
      go_ret
      exact ⟨rfl, BX.out.below⟩
    | true =>
      have HR : Hid (∀ W, NodeRow W a len cap L → Calls Tryz.prog 7 #[forV a len cap m] W fun e w' => e = .returned (.bool true) ∧ Below W.heap.size W w') := Lib.hid (fun W h => by
        have := refrightN_any a len cap m L W h
        rwa [c1] at this)
      have hr := Lib.hid c1
      have hlc : Hid ((coreL L).length = len) := Lib.hid (by rw [coreL_len, HL.out])
      have CA : Hid (∀ W, NodeRow W a len cap L → Calls Tryz.prog 6 #[forV a len cap m] W (OrdNew W (barL (coreL L)))) := Lib.hid (fun W h => by
        have := allB_any a len cap m L W h HM.out SM.out
        rwa [show allB m (coreL L) = barL (coreL L) by unfold allB; rw [c1]; rfl] at this)
      have HBL : Hid ((barL (coreL L)).length = barC (coreL L) len) := Lib.hid (by rw [barC_len, hlc.out])
      clear c1
      go_enter Tryz.func3, Tryz.ntmps3
      go_upto_region 10 with (first | (first
                                          | (go_at_call 4; (with_reducible refine (AW.out _).mono ?_); rintro e w1 ⟨rfl, hb⟩; have BX := Lib.hid (BX.out.keep hb); clear z0 z1; have z0 := BX.out.c0; have z1 := BX.out.c1; clear hb)
                                          | (go_at_call 5; (with_reducible refine (refshortF_any _ _ _ _ _ _ BX.out.row).mono ?_); rintro e w1 ⟨rfl, hb⟩; rw [C0.out]; have BX := Lib.hid (BX.out.keep hb); clear z0 z1; have z0 := BX.out.c0; have z1 := BX.out.c1; clear hb)
                                          | (go_at_call 14; (with_reducible refine (HR.out _ BX.out.row).mono ?_); rintro e w1 ⟨rfl, hb⟩; have BX := Lib.hid (BX.out.keep hb); clear z0 z1; have z0 := BX.out.c0; have z1 := BX.out.c1; clear hb)) | (first
                                                      | (go_at_call 6; ((with_reducible refine (CA.out _ BX.out.row).mono ?_); rintro e w2 ⟨ao, lo, co, rfl, hro, hb, -⟩; have BX := Lib.hid (BX.out.keep hb); have IR := Lib.hid hro; clear z0 z1; have z0 := BX.out.c0; have z1 := BX.out.c1; clear hb hro))
                                                      | (go_at_call 7; (with_reducible refine (HR.out _ BX.out.row).mono ?_); rintro e w3 ⟨rfl, hb⟩; have BX := Lib.hid (BX.out.keep hb); have IR := Lib.hid (IR.out.below hb); clear z0 z1; have z0 := BX.out.c0; have z1 := BX.out.c1; clear hb)
                                                      | (go_at_call 8; (with_reducible refine (CB.out _ BX.out.row).mono ?_); rintro e w4 ⟨rfl, hb⟩; have BX := Lib.hid (BX.out.keep hb); clear z0 z1; have z0 := BX.out.c0; have z1 := BX.out.c1; clear hb)
                                                      | (go_at_call 9; (with_reducible refine (CL.out _ BX.out.row).mono ?_); rintro e w5 ⟨rfl, hb⟩; have BX := Lib.hid (BX.out.keep hb); clear z0 z1; have z0 := BX.out.c0; have z1 := BX.out.c1; clear hb)))
      have HX : Hid (∀ W, Below w3.heap.size w3 W → Box w W w.heap.size a len cap m L (coreL L)) := Lib.hid (fun W hb => BX.out.keep hb)
      have HI : Hid (∀ W, Below w3.heap.size w3 W → IntRow W ao lo co (barL (coreL L))) := Lib.hid (fun W hb => IR.out.below hb)
      obtain rfl : lo = barC (coreL L) len := by rw [← IR.out.hlen, HBL.out]
      have hlo := IR.out.len64
      clear BX IR z0 z1 HR CA AW C0
      go_loopw [6, 7] (fun t i wr => ∃ k : Nat, k ≤ len ∧ t = .int .i64 (barC (coreL L) k : Nat) ∧ i = .int .i64 k ∧ Hid (Below w3.heap.size w3 wr)) (fun _ i _ => len - (intOf i).toNat)
      case atStart => exact ⟨0, Nat.zero_le _, rfl, rfl, Lib.hid (Below.refl _ _)⟩
      case round =>
        obtain ⟨k, hk, rfl, rfl, HB⟩ := hrel
        have BX := Lib.hid (HX.out _ HB.out)
        have z0 := BX.out.c0
        have z1 := BX.out.c1
        by_cases hlt : k < len
        · obtain ⟨t, ht⟩ : ∃ t, barF (coreL L) k = t := ⟨_, rfl⟩
          have HT := Lib.hid ht
          have CB : Hid (∀ W, NodeRow W a len cap L → Calls Tryz.prog 10 #[forV a len cap m, .int .i64 k] W fun e w' => e = .returned (.bool t) ∧ Below W.heap.size W w') := Lib.hid (fun W h => by
            have := refbar14_any a len cap m L k W h SM.out hr.out hlt
            rwa [ht] at this)
          clear ht
          cases t with
          | false =>
            have HST := Lib.hid (barC_no HT.out)
            go_wp2_with (go_at_call 10; (with_reducible refine (CB.out _ BX.out.row).mono ?_); rintro e w4 ⟨rfl, hb⟩; have HB := Lib.hid (HB.out.trans (hb.mono HB.out.size)); clear hb z0 z1)
            go_roundw
            case rel => exact ⟨k + 1, by omega, by rw [HST.out], by go_num, HB⟩
            case measure => simp [intOf]; omega
          | true =>
            have HST := Lib.hid (barC_yes HT.out)
            have HAT := Lib.hid (barC_at (by rw [hlc.out]; exact hlt) HT.out)
            obtain ⟨c, hc⟩ : ∃ c, barC (coreL L) k = c := ⟨_, rfl⟩
            obtain ⟨lo, hlo2⟩ : ∃ lo, barC (coreL L) len = lo := ⟨_, rfl⟩
            rw [hlo2] at HBL hlo HI ⊢
            rw [hc] at HST HAT ⊢
            have hcl : c < lo := by rw [← HBL.out]; exact (List.getElem?_eq_some_iff.1 HAT.out).1
            go_upto_region 13 with (go_at_call 10; (with_reducible refine (CB.out _ BX.out.row).mono ?_); rintro e w4 ⟨rfl, hb⟩; have HB := Lib.hid (HB.out.trans (hb.mono HB.out.size)); clear hb z0 z1)
            obtain ⟨b, off, z, rfl, hb, hz, hcz, -⟩ := (HI.out _ HB.out).get hcl
            obtain rfl : (k : Int) = z := Option.some.inj (HAT.out.symm.trans hz)
            clear hz hb
            go_wp2
            go_roundw
            case rel => exact ⟨k + 1, by omega, by rw [HST.out]; go_num, by go_num, HB⟩
            case measure => simp [intOf]; omega
        · obtain rfl : k = len := by omega
          obtain ⟨lo, hlo2⟩ : ∃ lo, barC (coreL L) k = lo := ⟨_, rfl⟩
          rw [hlo2] at HBL hlo HI ⊢
          clear hlo2 HI
          by_cases h0 : n < 0 ∨ (k : Int) ≤ n
          · have hth : thereF m (coreL L) n = false := by
              cases hq : thereF m (coreL L) n with
              | false => rfl
              | true =>
                obtain ⟨_, q, rfl, hq2⟩ := there_nat hq
                rw [hlc.out] at hq2
                omega
            have CB : Hid (∀ W, NodeRow W a k cap L → Calls Tryz.prog 8 #[forV a k cap m, .int .i64 n] W fun e w' => e = .returned (.bool false) ∧ Below W.heap.size W w') := Lib.hid (fun W h => by
              have := barO_any a k cap m L n W h HM.out SM.out
              rwa [show barO m (coreL L) n = false by unfold barO; rw [hth]; rfl] at this)
            have CL : Hid (∀ W, NodeRow W a k cap L → Calls Tryz.prog 9 #[forV a k cap m, .int .i64 n] W fun e w' => e = .returned (.int .i64 (-1)) ∧ Below W.heap.size W w') := Lib.hid (fun W h => by
              have := legO_any a k cap m L n W h HM.out SM.out
              rwa [legO_not hth] at this)
            clear hth
            rcases h0 with h0 | h0
            all_goals
              go_wp2_with (first
                              | (go_at_call 6; ((with_reducible refine (CA.out _ BX.out.row).mono ?_); rintro e w2 ⟨ao, lo, co, rfl, hro, hb, -⟩; have BX := Lib.hid (BX.out.keep hb); have IR := Lib.hid hro; clear z0 z1; have z0 := BX.out.c0; have z1 := BX.out.c1; clear hb hro))
                              | (go_at_call 7; (with_reducible refine (HR.out _ BX.out.row).mono ?_); rintro e w3 ⟨rfl, hb⟩; have BX := Lib.hid (BX.out.keep hb); have IR := Lib.hid (IR.out.below hb); clear z0 z1; have z0 := BX.out.c0; have z1 := BX.out.c1; clear hb)
                              | (go_at_call 8; (with_reducible refine (CB.out _ BX.out.row).mono ?_); rintro e w4 ⟨rfl, hb⟩; have BX := Lib.hid (BX.out.keep hb); clear z0 z1; have z0 := BX.out.c0; have z1 := BX.out.c1; clear hb)
                              | (go_at_call 9; (with_reducible refine (CL.out _ BX.out.row).mono ?_); rintro e w5 ⟨rfl, hb⟩; have BX := Lib.hid (BX.out.keep hb); clear z0 z1; have z0 := BX.out.c0; have z1 := BX.out.c1; clear hb))
              go_ret
              exact ⟨rfl, BX.out.below⟩
          · obtain ⟨X, rfl⟩ : ∃ X : Nat, n = X := ⟨n.toNat, by omega⟩
            have hXl : X < k := by omega
            have hXc : X < (coreL L).length := by rw [hlc.out]; exact hXl
            obtain ⟨t, ht⟩ : ∃ t, barF (coreL L) X = t := ⟨_, rfl⟩
            obtain ⟨lg, hlg⟩ : ∃ z, legF (coreL L) X = z := ⟨_, rfl⟩
            have hx0 : ¬ ((X : Int) < 0) := by omega
            have hx1 : ¬ ((k : Int) ≤ (X : Int)) := by omega
            clear h0
            go_upto_region 20 with fail
            have E0 := Ext.cell z0 BX.out.lt
            have E1 := Ext.cell z1 BX.out.lt
            have K1 : Hid (∀ Y : Ext wr, Calls Tryz.prog 8 #[forV a k cap m, .int .i64 X] Y.v fun e w' => e = .returned (.bool t) ∧ Below Y.v.heap.size Y.v w') := Lib.hid (fun Y => by
              have := barO_any a k cap m L X Y.v (HX.out _ (HB.out.trans (Y.below.mono HB.out.size))).row HM.out SM.out
              rwa [barO_nat hr.out hXc, ht] at this)
            have K2 : Hid (∀ Y : Ext wr, Calls Tryz.prog 10 #[forV a k cap m, .int .i64 X] Y.v fun e w' => e = .returned (.bool t) ∧ Below Y.v.heap.size Y.v w') := Lib.hid (fun Y => by
              have := refbar14_any a k cap m L X Y.v (HX.out _ (HB.out.trans (Y.below.mono HB.out.size))).row SM.out hr.out hXl
              rwa [ht] at this)
            have K3 : Hid (∀ Y : Ext wr, Calls Tryz.prog 9 #[forV a k cap m, .int .i64 X] Y.v fun e w' => e = .returned (.int .i64 lg) ∧ Below Y.v.heap.size Y.v w') := Lib.hid (fun Y => by
              have := legO_any a k cap m L X Y.v (HX.out _ (HB.out.trans (Y.below.mono HB.out.size))).row HM.out SM.out
              rwa [legO_nat hr.out hXc, hlg] at this)
            have K4 : Hid (∀ Y : Ext wr, Calls Tryz.prog 11 #[forV a k cap m, .int .i64 X] Y.v fun e w' => e = .returned (.int .i64 lg) ∧ Below Y.v.heap.size Y.v w') := Lib.hid (fun Y => by
              have := refleg14_any a k cap m L X Y.v (HX.out _ (HB.out.trans (Y.below.mono HB.out.size))).row hr.out hXl
              rwa [hlg] at this)
            have htt : (t == t) = true := by simp
            have hll : (lg == lg) = true := by simp
            clear BX z0 z1 ht hlg hXc
            refine wp_region_ext (by kernel_rfl) (by kernel_rfl) ?_
            repeat (go_big_quiet_step (first
              | (go_at_call 8; with_reducible exact Ext.call_below (K1.out _))
              | (go_at_call 10; with_reducible exact Ext.call_below (K2.out _))
              | (go_at_call 9; with_reducible exact Ext.call_below (K3.out _))
              | (go_at_call 11; with_reducible exact Ext.call_below (K4.out _))))
            refine wpQuiet_nil ?_
            intro w' hw'
            obtain ⟨⟨w8, hb8⟩, hw''⟩ := hw'
            dsimp only at hw''
            subst hw''
            have HB8 := Lib.hid (HX.out _ (HB.out.trans (hb8.mono HB.out.size))).below
            clear E0 E1 K1 K2 K3 K4 hb8
            go_wp2
            go_ret
            exact ⟨rfl, HB8.out⟩
end Go.Proofs.YtnjoimedilonnaaGreat
