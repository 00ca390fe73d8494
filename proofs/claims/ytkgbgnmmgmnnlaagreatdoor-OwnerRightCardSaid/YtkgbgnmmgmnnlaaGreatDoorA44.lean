/- Texts joined in build order: OwnerRightLaw. -/
import Derived.Test.YtkgbgnmmgmnnlaaGreatDoorA41
import Derived.Test.YtkgbgnmmgmnnlaaGreatDoorA39
import Derived.Test.YtkgbgnmmgmnnlaaGreatDoorA43
import Derived.Test.YtkgbgnmmgmnnlaaGreatDoorA04
import Derived.Deep.RegionHeld3
import Derived.Deep.DeepCutAuto
namespace Go.Proofs.YtkgbgnmmgmnnlaaGreatDoor
open Go.RowKit
set_option maxHeartbeats 16000000 in
set_option maxRecDepth 100000 in
theorem ownerRight_walk (a : Option Addr) (len cap : Nat) (m : Int) (L : List NodeD) (n : Int) (w : World) (h : NodeRow w a len cap L) (hm : In64 m) (hn : In64 n) (hg : ErrVar w) :
    Calls Tryz.prog 3 #[forV a len cap m, .int .i64 n] w fun e w' => e = .returned (.bool true) ∧ Below w.heap.size w w' := by
  have AW := Lib.hid (fun W h => awake13_any W h)
  have BX := Lib.hid (Box.start (m := m) h)
  have hl0 := h.len64
  have HL := Lib.hid h.hlen
  have HM := Lib.hid hm
  have HG := Lib.hid hg
  have z0 := BX.out.c0
  have z1 := BX.out.c1
  clear h hm hg
  cases c0 : shortF L with
  | false =>
    have C0 := Lib.hid c0
    clear c0
    go_enter Tryz.func3, Tryz.ntmps3
    go_wp2_with (first
                    | (go_at_call 9; (with_reducible refine (AW.out _ (HG.out.keep BX.out.below)).mono ?_); rintro e w1 ⟨rfl, hb⟩; have BX := Lib.hid (BX.out.keep hb); clear z0 z1; have z0 := BX.out.c0; have z1 := BX.out.c1; clear hb)
                    | (go_at_call 10; (with_reducible refine (refshortF_any _ _ _ _ _ _ BX.out.row).mono ?_); rintro e w1 ⟨rfl, hb⟩; rw [C0.out]; have BX := Lib.hid (BX.out.keep hb); clear z0 z1; have z0 := BX.out.c0; have z1 := BX.out.c1; clear hb)
                    | (go_at_call 19; (with_reducible refine (HR.out _ BX.out.row).mono ?_); rintro e w1 ⟨rfl, hb⟩; have BX := Lib.hid (BX.out.keep hb); clear z0 z1; have z0 := BX.out.c0; have z1 := BX.out.c1; clear hb))
    go_ret
    exact ⟨rfl, BX.out.below⟩
  | true =>
    have C0 := Lib.hid c0
    have SM := Lib.hid (small_of_short c0)
    clear c0
    have hlen : len ≤ 1000 := by rw [← HL.out]; exact SM.out.1
    cases c1 : rightF m (coreL L) with
    | false =>
      have HR : Hid (∀ W, NodeRow W a len cap L → Calls Tryz.prog 12 #[forV a len cap m] W fun e w' => e = .returned (.bool false) ∧ Below W.heap.size W w') := Lib.hid (fun W h => by
        have := refrightN_any a len cap m L W h
        rwa [c1] at this)
      have hth : thereF m (coreL L) n = false := by unfold thereF; rw [c1]; rfl
      have CA : Hid (∀ W, NodeRow W a len cap L → Calls Tryz.prog 11 #[forV a len cap m] W (OrdNew W [])) := Lib.hid (fun W h => by
        have := allO_any a len cap m L W h HM.out SM.out
        rwa [show allO m (coreL L) = [] by unfold allO; rw [c1]; rfl] at this)
      have CO : Hid (∀ W, NodeRow W a len cap L → Calls Tryz.prog 13 #[forV a len cap m, .int .i64 n] W fun e w' => e = .returned (.int .i64 (-1)) ∧ Below W.heap.size W w') := Lib.hid (fun W h => by
        have := ofO_any a len cap m L n W h HM.out SM.out
        rwa [show ofO m (coreL L) n = -1 by unfold ofO; rw [hth]; rfl] at this)
      have CM : Hid (∀ W, NodeRow W a len cap L → Calls Tryz.prog 14 #[forV a len cap m, .int .i64 n] W (OrdPost W [])) := Lib.hid (fun W h => by
        have := membersO_any a len cap m L n W h HM.out SM.out
        rwa [show membersO m (coreL L) n = [] by unfold membersO; rw [hth]; rfl] at this)
      clear c1 hth hn
      go_enter Tryz.func3, Tryz.ntmps3
      go_upto_region 6 with (first | (first
                                         | (go_at_call 9; (with_reducible refine (AW.out _ (HG.out.keep BX.out.below)).mono ?_); rintro e w1 ⟨rfl, hb⟩; have BX := Lib.hid (BX.out.keep hb); clear z0 z1; have z0 := BX.out.c0; have z1 := BX.out.c1; clear hb)
                                         | (go_at_call 10; (with_reducible refine (refshortF_any _ _ _ _ _ _ BX.out.row).mono ?_); rintro e w1 ⟨rfl, hb⟩; rw [C0.out]; have BX := Lib.hid (BX.out.keep hb); clear z0 z1; have z0 := BX.out.c0; have z1 := BX.out.c1; clear hb)
                                         | (go_at_call 19; (with_reducible refine (HR.out _ BX.out.row).mono ?_); rintro e w1 ⟨rfl, hb⟩; have BX := Lib.hid (BX.out.keep hb); clear z0 z1; have z0 := BX.out.c0; have z1 := BX.out.c1; clear hb)) | (first
                                                     | (go_at_call 11; ((with_reducible refine (CA.out _ BX.out.row).mono ?_); rintro e w2 ⟨ao, lo, co, rfl, hro, hb, -⟩; have BX := Lib.hid (BX.out.keep hb); have IR := Lib.hid hro; clear z0 z1; have z0 := BX.out.c0; have z1 := BX.out.c1; clear hb hro))
                                                     | (go_at_call 12; (with_reducible refine (HR.out _ BX.out.row).mono ?_); rintro e w3 ⟨rfl, hb⟩; have BX := Lib.hid (BX.out.keep hb); have IR := Lib.hid (IR.out.below hb); clear z0 z1; have z0 := BX.out.c0; have z1 := BX.out.c1; clear hb)
                                                     | (go_at_call 13; (with_reducible refine (CO.out _ BX.out.row).mono ?_); rintro e w4 ⟨rfl, hb⟩; have BX := Lib.hid (BX.out.keep hb); have IR := Lib.hid (IR.out.below hb); clear z0 z1; have z0 := BX.out.c0; have z1 := BX.out.c1; clear hb)
                                                     | (go_at_call 14; (with_reducible refine (CM.out _ BX.out.row).mono ?_); rintro e w5 ⟨am, lm, cm, rfl, hrm, hb⟩; have BX := Lib.hid (BX.out.keep hb); have IM := Lib.hid hrm; clear z0 z1; have z0 := BX.out.c0; have z1 := BX.out.c1; clear hb hrm)))
      obtain rfl : 0 = lo := IR.out.hlen
      go_wp2_with (first
        | (go_at_call 14; (with_reducible refine (CM.out _ BX.out.row).mono ?_); rintro e w5 ⟨am, lm, cm, rfl, hrm, hb⟩; obtain rfl : 0 = lm := hrm.hlen; have BX := Lib.hid (BX.out.keep hb); clear z0 z1 hb hrm)
        | (first
              | (go_at_call 11; ((with_reducible refine (CA.out _ BX.out.row).mono ?_); rintro e w2 ⟨ao, lo, co, rfl, hro, hb, -⟩; have BX := Lib.hid (BX.out.keep hb); have IR := Lib.hid hro; clear z0 z1; have z0 := BX.out.c0; have z1 := BX.out.c1; clear hb hro))
              | (go_at_call 12; (with_reducible refine (HR.out _ BX.out.row).mono ?_); rintro e w3 ⟨rfl, hb⟩; have BX := Lib.hid (BX.out.keep hb); have IR := Lib.hid (IR.out.below hb); clear z0 z1; have z0 := BX.out.c0; have z1 := BX.out.c1; clear hb)
              | (go_at_call 13; (with_reducible refine (CO.out _ BX.out.row).mono ?_); rintro e w4 ⟨rfl, hb⟩; have BX := Lib.hid (BX.out.keep hb); have IR := Lib.hid (IR.out.below hb); clear z0 z1; have z0 := BX.out.c0; have z1 := BX.out.c1; clear hb)
              | (go_at_call 14; (with_reducible refine (CM.out _ BX.out.row).mono ?_); rintro e w5 ⟨am, lm, cm, rfl, hrm, hb⟩; have BX := Lib.hid (BX.out.keep hb); have IM := Lib.hid hrm; clear z0 z1; have z0 := BX.out.c0; have z1 := BX.out.c1; clear hb hrm)))
      go_ret
      exact ⟨rfl, BX.out.below⟩
    | true =>
      have HR : Hid (∀ W, NodeRow W a len cap L → Calls Tryz.prog 12 #[forV a len cap m] W fun e w' => e = .returned (.bool true) ∧ Below W.heap.size W w') := Lib.hid (fun W h => by
        have := refrightN_any a len cap m L W h
        rwa [c1] at this)
      have hr := Lib.hid c1
      have hlc : Hid ((coreL L).length = len) := Lib.hid (by rw [coreL_len, HL.out])
      have CA : Hid (∀ W, NodeRow W a len cap L → Calls Tryz.prog 11 #[forV a len cap m] W (OrdNew W (ownL (coreL L)))) := Lib.hid (fun W h => by
        have := allO_any a len cap m L W h HM.out SM.out
        rwa [show allO m (coreL L) = ownL (coreL L) by unfold allO; rw [c1]; rfl] at this)
      clear c1
      go_enter Tryz.func3, Tryz.ntmps3
      go_upto_region 6 with (first | (first
                                         | (go_at_call 9; (with_reducible refine (AW.out _ (HG.out.keep BX.out.below)).mono ?_); rintro e w1 ⟨rfl, hb⟩; have BX := Lib.hid (BX.out.keep hb); clear z0 z1; have z0 := BX.out.c0; have z1 := BX.out.c1; clear hb)
                                         | (go_at_call 10; (with_reducible refine (refshortF_any _ _ _ _ _ _ BX.out.row).mono ?_); rintro e w1 ⟨rfl, hb⟩; rw [C0.out]; have BX := Lib.hid (BX.out.keep hb); clear z0 z1; have z0 := BX.out.c0; have z1 := BX.out.c1; clear hb)
                                         | (go_at_call 19; (with_reducible refine (HR.out _ BX.out.row).mono ?_); rintro e w1 ⟨rfl, hb⟩; have BX := Lib.hid (BX.out.keep hb); clear z0 z1; have z0 := BX.out.c0; have z1 := BX.out.c1; clear hb)) | (first
                                                     | (go_at_call 11; ((with_reducible refine (CA.out _ BX.out.row).mono ?_); rintro e w2 ⟨ao, lo, co, rfl, hro, hb, -⟩; have BX := Lib.hid (BX.out.keep hb); have IR := Lib.hid hro; clear z0 z1; have z0 := BX.out.c0; have z1 := BX.out.c1; clear hb hro))
                                                     | (go_at_call 12; (with_reducible refine (HR.out _ BX.out.row).mono ?_); rintro e w3 ⟨rfl, hb⟩; have BX := Lib.hid (BX.out.keep hb); have IR := Lib.hid (IR.out.below hb); clear z0 z1; have z0 := BX.out.c0; have z1 := BX.out.c1; clear hb)
                                                     | (go_at_call 13; (with_reducible refine (CO.out _ BX.out.row).mono ?_); rintro e w4 ⟨rfl, hb⟩; have BX := Lib.hid (BX.out.keep hb); have IR := Lib.hid (IR.out.below hb); clear z0 z1; have z0 := BX.out.c0; have z1 := BX.out.c1; clear hb)
                                                     | (go_at_call 14; (with_reducible refine (CM.out _ BX.out.row).mono ?_); rintro e w5 ⟨am, lm, cm, rfl, hrm, hb⟩; have BX := Lib.hid (BX.out.keep hb); have IM := Lib.hid hrm; clear z0 z1; have z0 := BX.out.c0; have z1 := BX.out.c1; clear hb hrm)))
      obtain rfl : lo = len := by have := IR.out.hlen; rw [ownL_len, hlc.out] at this; exact this.symm
      go_upto_region 10 with (first
                                 | (go_at_call 11; ((with_reducible refine (CA.out _ BX.out.row).mono ?_); rintro e w2 ⟨ao, lo, co, rfl, hro, hb, -⟩; have BX := Lib.hid (BX.out.keep hb); have IR := Lib.hid hro; clear z0 z1; have z0 := BX.out.c0; have z1 := BX.out.c1; clear hb hro))
                                 | (go_at_call 12; (with_reducible refine (HR.out _ BX.out.row).mono ?_); rintro e w3 ⟨rfl, hb⟩; have BX := Lib.hid (BX.out.keep hb); have IR := Lib.hid (IR.out.below hb); clear z0 z1; have z0 := BX.out.c0; have z1 := BX.out.c1; clear hb)
                                 | (go_at_call 13; (with_reducible refine (CO.out _ BX.out.row).mono ?_); rintro e w4 ⟨rfl, hb⟩; have BX := Lib.hid (BX.out.keep hb); have IR := Lib.hid (IR.out.below hb); clear z0 z1; have z0 := BX.out.c0; have z1 := BX.out.c1; clear hb)
                                 | (go_at_call 14; (with_reducible refine (CM.out _ BX.out.row).mono ?_); rintro e w5 ⟨am, lm, cm, rfl, hrm, hb⟩; have BX := Lib.hid (BX.out.keep hb); have IM := Lib.hid hrm; clear z0 z1; have z0 := BX.out.c0; have z1 := BX.out.c1; clear hb hrm))
      have HX : Hid (∀ W, Below w3.heap.size w3 W → Box w W w.heap.size a lo cap m L (coreL L)) := Lib.hid (fun W hb => BX.out.keep hb)
      have HI : Hid (∀ W, Below w3.heap.size w3 W → IntRow W ao lo co (ownL (coreL L))) := Lib.hid (fun W hb => IR.out.below hb)
      clear BX IR z0 z1 HR CA AW HG
      go_wp2
      go_loopw [6] (fun i wr => ∃ k : Nat, k ≤ lo ∧ i = .int .i64 k ∧ Hid (Below w3.heap.size w3 wr)) (fun i _ => lo - (intOf i).toNat)
      case atStart => exact ⟨0, Nat.zero_le _, rfl, Lib.hid (Below.refl _ _)⟩
      case round =>
        obtain ⟨k, hk, rfl, HB⟩ := hrel
        have BX := Lib.hid (HX.out _ HB.out)
        have IR := Lib.hid (HI.out _ HB.out)
        have z0 := BX.out.c0
        have z1 := BX.out.c1
        by_cases hlt : k < lo
        · obtain ⟨bo, oo, z, rfl, hbo, hz, hcz, -⟩ := IR.out.get hlt
          obtain rfl : ownF (coreL L) k = z := by
            rw [ownL_get (by rw [hlc.out]; exact hlt)] at hz
            exact Option.some.inj hz
          obtain ⟨z, hzz⟩ : ∃ z, ownF (coreL L) k = z := ⟨_, rfl⟩
          rw [hzz] at hcz
          have E0 := Ext.cell z0 BX.out.lt
          have E1 := Ext.cell z1 BX.out.lt
          have EZ := Ext.cell hcz hbo
          have CX : Hid (∀ X : Ext wr, Calls Tryz.prog 15 #[forV a lo cap m, .int .i64 k] X.v fun e w' => e = .returned (.int .i64 z) ∧ Below X.v.heap.size X.v w') := Lib.hid (fun X => by
            rw [← hzz]
            exact refof13_any a lo cap m L k X.v (HX.out _ (HB.out.trans (X.below.mono HB.out.size))).row SM.out hr.out hlt)
          clear hz hbo hcz z0 z1 hzz BX IR
          go_upto_region 13 with fail
          refine wp_region_ext (by kernel_rfl) (by kernel_rfl) ?_
          repeat (go_big_quiet_step (first | (go_at_call 15; with_reducible exact Ext.call_below (CX.out _))))
          refine wpQuiet_nil ?_
          intro w' hw'
          obtain ⟨⟨w8, hb8⟩, hw''⟩ := hw'
          dsimp only at hw''
          subst hw''
          have HB8 := Lib.hid (HB.out.trans (hb8.mono HB.out.size))
          clear E0 E1 EZ CX hb8
          go_wp2
          go_roundw
          case rel => exact ⟨k + 1, by omega, by go_num, HB8⟩
          case measure => simp [intOf]; omega
        · clear HI
          by_cases h0 : n < 0 ∨ (lo : Int) ≤ n
          · have hth : thereF m (coreL L) n = false := by
              cases hq : thereF m (coreL L) n with
              | false => rfl
              | true =>
                obtain ⟨_, q, rfl, hq2⟩ := there_nat hq
                rw [hlc.out] at hq2
                omega
            have CO : Hid (∀ W, NodeRow W a lo cap L → Calls Tryz.prog 13 #[forV a lo cap m, .int .i64 n] W fun e w' => e = .returned (.int .i64 (-1)) ∧ Below W.heap.size W w') := Lib.hid (fun W h => by
              have := ofO_any a lo cap m L n W h HM.out SM.out
              rwa [show ofO m (coreL L) n = -1 by unfold ofO; rw [hth]; rfl] at this)
            have CM : Hid (∀ W, NodeRow W a lo cap L → Calls Tryz.prog 14 #[forV a lo cap m, .int .i64 n] W (OrdPost W [])) := Lib.hid (fun W h => by
              have := membersO_any a lo cap m L n W h HM.out SM.out
              rwa [show membersO m (coreL L) n = [] by unfold membersO; rw [hth]; rfl] at this)
            clear hth
            rcases h0 with h0 | h0
            all_goals
              go_wp2_with (first
                | (go_at_call 14; (with_reducible refine (CM.out _ BX.out.row).mono ?_); rintro e w5 ⟨am, lm, cm, rfl, hrm, hb⟩; obtain rfl : 0 = lm := hrm.hlen; have BX := Lib.hid (BX.out.keep hb); clear z0 z1 hb hrm)
                | (first
                      | (go_at_call 11; ((with_reducible refine (CA.out _ BX.out.row).mono ?_); rintro e w2 ⟨ao, lo, co, rfl, hro, hb, -⟩; have BX := Lib.hid (BX.out.keep hb); have IR := Lib.hid hro; clear z0 z1; have z0 := BX.out.c0; have z1 := BX.out.c1; clear hb hro))
                      | (go_at_call 12; (with_reducible refine (HR.out _ BX.out.row).mono ?_); rintro e w3 ⟨rfl, hb⟩; have BX := Lib.hid (BX.out.keep hb); have IR := Lib.hid (IR.out.below hb); clear z0 z1; have z0 := BX.out.c0; have z1 := BX.out.c1; clear hb)
                      | (go_at_call 13; (with_reducible refine (CO.out _ BX.out.row).mono ?_); rintro e w4 ⟨rfl, hb⟩; have BX := Lib.hid (BX.out.keep hb); have IR := Lib.hid (IR.out.below hb); clear z0 z1; have z0 := BX.out.c0; have z1 := BX.out.c1; clear hb)
                      | (go_at_call 14; (with_reducible refine (CM.out _ BX.out.row).mono ?_); rintro e w5 ⟨am, lm, cm, rfl, hrm, hb⟩; have BX := Lib.hid (BX.out.keep hb); have IM := Lib.hid hrm; clear z0 z1; have z0 := BX.out.c0; have z1 := BX.out.c1; clear hb hrm)))
              go_ret
              exact ⟨rfl, BX.out.below⟩
          · obtain ⟨X, rfl⟩ : ∃ X : Nat, n = X := ⟨n.toNat, by omega⟩
            have hXl : X < lo := by omega
            have hXc : X < (coreL L).length := by rw [hlc.out]; exact hXl
            obtain ⟨bx, ox, x, hab, hbx, hx, hat, -⟩ := BX.out.row.get hXl
            obtain ⟨bo, oo, z, rfl, hbo, hz, hcz, -⟩ := IR.out.get hXl
            obtain rfl : ownF (coreL L) X = z := by
              rw [ownL_get hXc] at hz
              exact Option.some.inj hz
            obtain ⟨z, hzz⟩ : ∃ z, ownF (coreL L) X = z := ⟨_, rfl⟩
            rw [hzz] at hcz
            have CZ := Lib.hid (stays hcz hbo)
            have HBO := Lib.hid hbo
            have CO : Hid (∀ W, NodeRow W a lo cap L → Calls Tryz.prog 13 #[forV a lo cap m, .int .i64 X] W fun e w' => e = .returned (.int .i64 z) ∧ Below W.heap.size W w') := Lib.hid (fun W h => by
              have := ofO_any a lo cap m L X W h HM.out SM.out
              rwa [show ofO m (coreL L) X = z by unfold ofO; rw [thereF_of hr.out hXc, if_pos rfl, Int.toNat_natCast]; exact hzz] at this)
            obtain ⟨l, hl⟩ : ∃ l, memO (coreL L) X = l := ⟨_, rfl⟩
            have CM : Hid (∀ W, NodeRow W a lo cap L → Calls Tryz.prog 14 #[forV a lo cap m, .int .i64 X] W (OrdPost W l)) := Lib.hid (fun W h => by
              have := membersO_any a lo cap m L X W h HM.out SM.out
              rwa [show membersO m (coreL L) X = l by unfold membersO; rw [thereF_of hr.out hXc, if_pos rfl, Int.toNat_natCast]; exact hl] at this)
            have CN : Hid (∀ W, NodeRow W a lo cap L → Calls Tryz.prog 18 #[forV a lo cap m, .int .i64 X] W (OrdPost W l)) := Lib.hid (fun W h => by
              rw [← hl]
              exact refmembers13_any a lo cap m L X W h SM.out hr.out hXl)
            have CT : Hid (∀ (W : World) (a1 a2 : Option Addr) (l1 l2 c1 c2 : Nat), IntRow W a1 l1 c1 l → IntRow W a2 l2 c2 l → Calls Tryz.prog 17 #[.slice a1 l1 c1, .slice a2 l2 c2] W fun e w' => e = .returned (.bool true) ∧ ∃ n, w' = W.drewN n) := Lib.hid (fun W a1 a2 l1 l2 c1 c2 h1 h2 => by
              have := refints_any a1 a2 l1 c1 l2 c2 l l W h1 h2
              rwa [decide_eq_true rfl] at this)
            have CF : Hid (∀ W, NodeRow W a lo cap L → Calls Tryz.prog 16 #[forV a lo cap m, .int .i64 X] W fun e w' => e = .returned (.bool (decide (x.core.kind = 1) && formC x.core)) ∧ Below W.heap.size W w') := Lib.hid (fun W h => refform13_any a lo cap m L X x W h hx)
            have HXC := Lib.hid (coreL_get hx)
            have HLE := Lib.hid hl
            clear hx hat hbx hab hz hcz hbo hzz hl hXc IR
            cases hf : (decide (x.core.kind = 1) && formC x.core) with
            | false =>
              rw [hf] at CF
              obtain rfl : l = [] := by rw [← HLE.out]; exact mem_nil hr.out HXC.out hf
              clear hf h0 CN CT
              go_upto_region 18 with (go_at_call 16; (with_reducible refine (CF.out _ BX.out.row).mono ?_); rintro e w6 ⟨rfl, hb⟩; have BX := Lib.hid (BX.out.keep hb); have HB6 := Lib.hid hb; clear z0 z1 hb)
              (
                have HXB : Hid (∀ W, Below w6.heap.size w6 W → Box w W w.heap.size a lo cap m L (coreL L)) := Lib.hid (fun W hb => BX.out.keep hb)
                have LT := Lib.hid BX.out.lt
                have LT2 : Hid (bo < w6.heap.size) := Lib.hid (Nat.lt_of_lt_of_le HBO.out HB6.out.size)
                have SV : w6.cell? ⟨w.heap.size, 0, none⟩ = some (.slice a lo cap) ∧ w6.cell? ⟨w.heap.size, 1, none⟩ = some (.int .i64 m) ∧ w6.cell? ⟨bo, oo + X, none⟩ = some (.int .i64 z) ∧ Below w6.heap.size w6 w6 := ⟨BX.out.c0, BX.out.c1, CZ.out _ HB6.out, Below.refl _ _⟩
                clear BX CF
                go_cut [4] (fun t wx => True ∧ t = .bool true ∧ Hid (Below w6.heap.size w6 wx))
                case first =>
                  go_region_held3 (fun w' => w'.cell? ⟨w.heap.size, 0, none⟩ = some (.slice a lo cap) ∧ w'.cell? ⟨w.heap.size, 1, none⟩ = some (.int .i64 m) ∧ w'.cell? ⟨bo, oo + X, none⟩ = some (.int .i64 z) ∧ Below w6.heap.size w6 w')
                    (with_reducible first | (refine keep3 LT.out LT.out LT2.out SV ?_; first | exact HWX.out | exact HWX.out.drew | exact (Below.refl _ _).drew) | assumption)
                    (first
                      | (go_at_call 13; (with_reducible refine (CO.out _ (HXB.out _ (kept3 ‹_ ∧ _ ∧ _ ∧ Below _ _ _›)).row).mono ?_); rintro e w7 ⟨rfl, hb⟩; have HWX := Lib.hid ((kept3 ‹_ ∧ _ ∧ _ ∧ Below _ _ _›).trans (hb.mono (kept3 ‹_ ∧ _ ∧ _ ∧ Below _ _ _›).size)); clear hb)
                      | (go_at_call 14; (with_reducible refine (CM.out _ (HXB.out _ (kept3 ‹_ ∧ _ ∧ _ ∧ Below _ _ _›)).row).mono ?_); rintro e w8 ⟨am, lm, cm, rfl, hrm, hb⟩; have HWX := Lib.hid ((kept3 ‹_ ∧ _ ∧ _ ∧ Below _ _ _›).trans (hb.mono (kept3 ‹_ ∧ _ ∧ _ ∧ Below _ _ _›).size)); (first | (obtain rfl : 0 = lm := hrm.hlen) | skip); have IM := Lib.hid hrm; clear hb hrm)
                      | (go_at_call 18; (with_reducible refine (CN.out _ (HXB.out _ (kept3 ‹_ ∧ _ ∧ _ ∧ Below _ _ _›)).row).mono ?_); rintro e w9 ⟨an, ln, cn, rfl, hrn, hb⟩; have HWX := Lib.hid ((kept3 ‹_ ∧ _ ∧ _ ∧ Below _ _ _›).trans (hb.mono (kept3 ‹_ ∧ _ ∧ _ ∧ Below _ _ _›).size)); (first | (have IM := Lib.hid (IM.out.below hb)) | (have IM := Lib.hid ((IM.out.drewN 1).below hb))); have IN := Lib.hid hrn; clear hb hrn)
                      | (go_at_call 17; (first | (with_reducible refine (CT.out _ _ _ _ _ _ _ IM.out IN.out).mono ?_) | (with_reducible refine (CT.out _ _ _ _ _ _ _ (IM.out.drewN 1) (IN.out.drewN 1)).mono ?_)); rintro e w10 ⟨rfl, n10, rfl⟩; have HWX := Lib.hid (below_drewN (kept3 ‹_ ∧ _ ∧ _ ∧ Below _ _ _›) n10)))
                  all_goals
                    go_wp2_with fail
                    go_meet
                    first
                      | exact ⟨trivial, rfl, HWX⟩
                      | exact ⟨trivial, rfl, Lib.hid HWX.out.drew⟩
                case rest =>
                  obtain ⟨-, rfl, HWX⟩ := hcut
                  have HBE := Lib.hid (HXB.out _ HWX.out).below
                  clear SV HXB
                  go_wp2
                  go_ret
                  exact ⟨rfl, HBE.out⟩)
            | true =>
              rw [hf] at CF
              clear hf h0
              go_upto_region 19 with (go_at_call 16; (with_reducible refine (CF.out _ BX.out.row).mono ?_); rintro e w6 ⟨rfl, hb⟩; have BX := Lib.hid (BX.out.keep hb); have HB6 := Lib.hid hb; clear z0 z1 hb)
              (
                have HXB : Hid (∀ W, Below w6.heap.size w6 W → Box w W w.heap.size a lo cap m L (coreL L)) := Lib.hid (fun W hb => BX.out.keep hb)
                have LT := Lib.hid BX.out.lt
                have LT2 : Hid (bo < w6.heap.size) := Lib.hid (Nat.lt_of_lt_of_le HBO.out HB6.out.size)
                have SV : w6.cell? ⟨w.heap.size, 0, none⟩ = some (.slice a lo cap) ∧ w6.cell? ⟨w.heap.size, 1, none⟩ = some (.int .i64 m) ∧ w6.cell? ⟨bo, oo + X, none⟩ = some (.int .i64 z) ∧ Below w6.heap.size w6 w6 := ⟨BX.out.c0, BX.out.c1, CZ.out _ HB6.out, Below.refl _ _⟩
                clear BX CF
                go_cut [4] (fun t wx => True ∧ t = .bool true ∧ Hid (Below w6.heap.size w6 wx))
                case first =>
                  go_region_held3 (fun w' => w'.cell? ⟨w.heap.size, 0, none⟩ = some (.slice a lo cap) ∧ w'.cell? ⟨w.heap.size, 1, none⟩ = some (.int .i64 m) ∧ w'.cell? ⟨bo, oo + X, none⟩ = some (.int .i64 z) ∧ Below w6.heap.size w6 w')
                    (with_reducible first | (refine keep3 LT.out LT.out LT2.out SV ?_; first | exact HWX.out | exact HWX.out.drew | exact (Below.refl _ _).drew) | assumption)
                    (first
                      | (go_at_call 13; (with_reducible refine (CO.out _ (HXB.out _ (kept3 ‹_ ∧ _ ∧ _ ∧ Below _ _ _›)).row).mono ?_); rintro e w7 ⟨rfl, hb⟩; have HWX := Lib.hid ((kept3 ‹_ ∧ _ ∧ _ ∧ Below _ _ _›).trans (hb.mono (kept3 ‹_ ∧ _ ∧ _ ∧ Below _ _ _›).size)); clear hb)
                      | (go_at_call 14; (with_reducible refine (CM.out _ (HXB.out _ (kept3 ‹_ ∧ _ ∧ _ ∧ Below _ _ _›)).row).mono ?_); rintro e w8 ⟨am, lm, cm, rfl, hrm, hb⟩; have HWX := Lib.hid ((kept3 ‹_ ∧ _ ∧ _ ∧ Below _ _ _›).trans (hb.mono (kept3 ‹_ ∧ _ ∧ _ ∧ Below _ _ _›).size)); (first | (obtain rfl : 0 = lm := hrm.hlen) | skip); have IM := Lib.hid hrm; clear hb hrm)
                      | (go_at_call 18; (with_reducible refine (CN.out _ (HXB.out _ (kept3 ‹_ ∧ _ ∧ _ ∧ Below _ _ _›)).row).mono ?_); rintro e w9 ⟨an, ln, cn, rfl, hrn, hb⟩; have HWX := Lib.hid ((kept3 ‹_ ∧ _ ∧ _ ∧ Below _ _ _›).trans (hb.mono (kept3 ‹_ ∧ _ ∧ _ ∧ Below _ _ _›).size)); (first | (have IM := Lib.hid (IM.out.below hb)) | (have IM := Lib.hid ((IM.out.drewN 1).below hb))); have IN := Lib.hid hrn; clear hb hrn)
                      | (go_at_call 17; (first | (with_reducible refine (CT.out _ _ _ _ _ _ _ IM.out IN.out).mono ?_) | (with_reducible refine (CT.out _ _ _ _ _ _ _ (IM.out.drewN 1) (IN.out.drewN 1)).mono ?_)); rintro e w10 ⟨rfl, n10, rfl⟩; have HWX := Lib.hid (below_drewN (kept3 ‹_ ∧ _ ∧ _ ∧ Below _ _ _›) n10)))
                  all_goals
                    go_wp2_with fail
                    go_meet
                    first
                      | exact ⟨trivial, rfl, HWX⟩
                      | exact ⟨trivial, rfl, Lib.hid HWX.out.drew⟩
                case rest =>
                  obtain ⟨-, rfl, HWX⟩ := hcut
                  have HBE := Lib.hid (HXB.out _ HWX.out).below
                  clear SV HXB
                  go_wp2
                  go_ret
                  exact ⟨rfl, HBE.out⟩)
end Go.Proofs.YtkgbgnmmgmnnlaaGreatDoor
