/- Texts joined in build order: AbleBackLaw. -/
import Derived.Test.YtnjoimedilonnaaGreatDoorA45
import Derived.Test.YtnjoimedilonnaaGreatDoorA44
import Derived.Test.YtnjoimedilonnaaGreatDoorA39
import Derived.Test.YtnjoimedilonnaaGreatDoorA40
namespace Go.Proofs.YtnjoimedilonnaaGreatDoor
open Go.RowKit
theorem allB_right {m : Int} {F : List Core} (h : rightF m F = true) : allB m F = barL F := by unfold allB; rw [if_pos h]
set_option maxHeartbeats 16000000 in
set_option maxRecDepth 100000 in
theorem ableBack_walk (a : Option Addr) (len cap : Nat) (m : Int) (L : List NodeD) (x : Int) (w : World) (h : NodeRow w a len cap L) (hm : In64 m) (hx : 0 ≤ x ∧ x ≤ 255) (hg : ErrVar w) :
    Calls Tryz.prog 5 #[forV a len cap m, .int .u8 x] w fun e w' => e = .returned (.bool true) ∧ Below w.heap.size w w' := by
  have AW := Lib.hid (fun W => awake14_any W)
  have BX := Lib.hid (Box.start (m := m) h)
  have hl0 := h.len64
  have HL := Lib.hid h.hlen
  have HM := Lib.hid hm
  have HG := Lib.hid hg
  have z0 := BX.out.c0
  have z1 := BX.out.c1
  clear h hm hg
  cases c0 : shortF L with
  | false =>
    have C0 := Lib.hid c0
    clear c0
    go_enter Tryz.func5, Tryz.ntmps5
    go_wp2_with (first
                    | (go_at_call 6; (with_reducible refine (AW.out _).mono ?_); rintro e w1 ⟨rfl, hb⟩; have BX := Lib.hid (BX.out.keep hb); clear z0 z1; have z0 := BX.out.c0; have z1 := BX.out.c1; clear hb)
                    | (go_at_call 7; (with_reducible refine (refshortF_any _ _ _ _ _ _ BX.out.row).mono ?_); rintro e w1 ⟨rfl, hb⟩; rw [C0.out]; have BX := Lib.hid (BX.out.keep hb); clear z0 z1; have z0 := BX.out.c0; have z1 := BX.out.c1; clear hb)
                    | (go_at_call 8; (with_reducible refine (HR.out _ BX.out.row).mono ?_); rintro e w1 ⟨rfl, hb⟩; have BX := Lib.hid (BX.out.keep hb); clear z0 z1; have z0 := BX.out.c0; have z1 := BX.out.c1; clear hb))
    go_ret
    exact ⟨rfl, BX.out.below⟩
  | true =>
    have C0 := Lib.hid c0
    have SM := Lib.hid (small_of_short c0)
    clear c0
    have hlen : len ≤ 1000 := by rw [← HL.out]; exact SM.out.1
    cases c1 : rightF m (coreL L) with
    | false =>
      have HR : Hid (∀ W, NodeRow W a len cap L → Calls Tryz.prog 8 #[forV a len cap m] W fun e w' => e = .returned (.bool false) ∧ Below W.heap.size W w') := Lib.hid (fun W h => by
        have := rightF_any a len cap m L W h HM.out SM.out
        rwa [c1] at this)
      clear c1
      go_enter Tryz.func5, Tryz.ntmps5
      go_wp2_with (first
                      | (go_at_call 6; (with_reducible refine (AW.out _).mono ?_); rintro e w1 ⟨rfl, hb⟩; have BX := Lib.hid (BX.out.keep hb); clear z0 z1; have z0 := BX.out.c0; have z1 := BX.out.c1; clear hb)
                      | (go_at_call 7; (with_reducible refine (refshortF_any _ _ _ _ _ _ BX.out.row).mono ?_); rintro e w1 ⟨rfl, hb⟩; rw [C0.out]; have BX := Lib.hid (BX.out.keep hb); clear z0 z1; have z0 := BX.out.c0; have z1 := BX.out.c1; clear hb)
                      | (go_at_call 8; (with_reducible refine (HR.out _ BX.out.row).mono ?_); rintro e w1 ⟨rfl, hb⟩; have BX := Lib.hid (BX.out.keep hb); clear z0 z1; have z0 := BX.out.c0; have z1 := BX.out.c1; clear hb))
      go_ret
      exact ⟨rfl, BX.out.below⟩
    | true =>
      have HR : Hid (∀ W, NodeRow W a len cap L → Calls Tryz.prog 8 #[forV a len cap m] W fun e w' => e = .returned (.bool true) ∧ Below W.heap.size W w') := Lib.hid (fun W h => by
        have := rightF_any a len cap m L W h HM.out SM.out
        rwa [c1] at this)
      have hr := Lib.hid c1
      have hlc : Hid ((coreL L).length = len) := Lib.hid (by rw [coreL_len, HL.out])
      have hlp : 0 < len := by
        have := right_len c1
        rwa [hlc.out] at this
      have CA : Hid (∀ W, NodeRow W a len cap L → Calls Tryz.prog 17 #[forV a len cap m] W (OrdNew W (barL (coreL L)))) := Lib.hid (fun W h => by
        have := allB_any a len cap m L W h HM.out SM.out
        rwa [allB_right c1] at this)
      have HBL : Hid ((barL (coreL L)).length = barC (coreL L) len) := Lib.hid (by rw [barC_len, hlc.out])
      clear c1
      go_enter Tryz.func5, Tryz.ntmps5
      go_upto_region 8 with (first
        | (first
              | (go_at_call 6; (with_reducible refine (AW.out _).mono ?_); rintro e w1 ⟨rfl, hb⟩; have BX := Lib.hid (BX.out.keep hb); clear z0 z1; have z0 := BX.out.c0; have z1 := BX.out.c1; clear hb)
              | (go_at_call 7; (with_reducible refine (refshortF_any _ _ _ _ _ _ BX.out.row).mono ?_); rintro e w1 ⟨rfl, hb⟩; rw [C0.out]; have BX := Lib.hid (BX.out.keep hb); clear z0 z1; have z0 := BX.out.c0; have z1 := BX.out.c1; clear hb)
              | (go_at_call 8; (with_reducible refine (HR.out _ BX.out.row).mono ?_); rintro e w1 ⟨rfl, hb⟩; have BX := Lib.hid (BX.out.keep hb); clear z0 z1; have z0 := BX.out.c0; have z1 := BX.out.c1; clear hb))
        | (go_at_call 17; ((with_reducible refine (CA.out _ BX.out.row).mono ?_); rintro e w2 ⟨ao, lo, co, rfl, hro, hb, -⟩; have BX := Lib.hid (BX.out.keep hb); have IR := Lib.hid hro; clear z0 z1 hb hro)))
      have HX : Hid (∀ W, Below w2.heap.size w2 W → Box w W w.heap.size a len cap m L (coreL L)) := Lib.hid (fun W hb => BX.out.keep hb)
      have HI : Hid (∀ W, Below w2.heap.size w2 W → IntRow W ao lo co (barL (coreL L))) := Lib.hid (fun W hb => IR.out.below hb)
      obtain rfl : lo = barC (coreL L) len := by rw [← IR.out.hlen, HBL.out]
      have hlo := IR.out.len64
      clear BX IR HR AW C0 CA
      go_loopw [6, 7] (fun t i wr => ∃ k : Nat, k ≤ len ∧ t = .int .i64 (barC (coreL L) k : Nat) ∧ i = .int .i64 k ∧ Hid (Below w2.heap.size w2 wr)) (fun _ i _ => len - (intOf i).toNat)
      case atStart => exact ⟨0, Nat.zero_le _, rfl, rfl, Lib.hid (Below.refl _ _)⟩
      case round =>
        obtain ⟨k, hk, rfl, rfl, HB⟩ := hrel
        have BX := Lib.hid (HX.out _ HB.out)
        have z0 := BX.out.c0
        have z1 := BX.out.c1
        by_cases hlt : k < len
        · obtain ⟨t, ht⟩ : ∃ t, barF (coreL L) k = t := ⟨_, rfl⟩
          have HT := Lib.hid ht
          have CB : Hid (∀ W, NodeRow W a len cap L → Calls Tryz.prog 12 #[forV a len cap m, .int .i64 k] W fun e w' => e = .returned (.bool t) ∧ Below W.heap.size W w') := Lib.hid (fun W h => by
            have := barO_any a len cap m L k W h HM.out SM.out
            rwa [barO_nat hr.out (by rw [hlc.out]; exact hlt), ht] at this)
          clear ht
          cases t with
          | false =>
            have HST := Lib.hid (barC_no HT.out)
            go_wp2_with (go_at_call 12; (with_reducible refine (CB.out _ BX.out.row).mono ?_); rintro e w4 ⟨rfl, hb⟩; have HB := Lib.hid (HB.out.trans (hb.mono HB.out.size)); clear hb z0 z1)
            go_roundw
            case rel => exact ⟨k + 1, by omega, by rw [HST.out], by go_num, HB⟩
            case measure => simp [intOf]; omega
          | true =>
            have HST := Lib.hid (barC_yes HT.out)
            have HAT := Lib.hid (barC_at (by rw [hlc.out]; exact hlt) HT.out)
            obtain ⟨c, hc⟩ : ∃ c, barC (coreL L) k = c := ⟨_, rfl⟩
            obtain ⟨lo, hlo2⟩ : ∃ lo, barC (coreL L) len = lo := ⟨_, rfl⟩
            rw [hlo2] at HBL hlo HI ⊢
            rw [hc] at HST HAT ⊢
            have hcl : c < lo := by rw [← HBL.out]; exact (List.getElem?_eq_some_iff.1 HAT.out).1
            go_upto_region 11 with (go_at_call 12; (with_reducible refine (CB.out _ BX.out.row).mono ?_); rintro e w4 ⟨rfl, hb⟩; have HB := Lib.hid (HB.out.trans (hb.mono HB.out.size)); clear hb z0 z1)
            obtain ⟨b, off, z, rfl, hb, hz, hcz, -⟩ := (HI.out _ HB.out).get hcl
            obtain rfl : (k : Int) = z := Option.some.inj (HAT.out.symm.trans hz)
            clear hz hb
            go_wp2
            go_roundw
            case rel => exact ⟨k + 1, by omega, by rw [HST.out]; go_num, by go_num, HB⟩
            case measure => simp [intOf]; omega
        · obtain rfl : k = len := by omega
          obtain ⟨lo, hlo2⟩ : ∃ lo, barC (coreL L) k = lo := ⟨_, rfl⟩
          rw [hlo2] at HBL hlo HI ⊢
          clear hlo2
          obtain ⟨X, hX⟩ : ∃ X : Nat, x % (k : Int) = X := ⟨(x % (k : Int)).toNat, by have := Int.emod_nonneg x (show (k : Int) ≠ 0 by omega); omega⟩
          have hXl : X < k := by have := Int.emod_lt_of_pos x (show (0 : Int) < k by omega); omega
          have hX64 : Hid (In64 (X : Int)) := Lib.hid ⟨by omega, by omega⟩
          obtain ⟨b, off, y, rfl, hb, hy, hat, hok⟩ := BX.out.row.get hXl
          have c4 := hat.c4
          have HYC := Lib.hid (coreL_get hy)
          obtain ⟨V, hV⟩ : ∃ V, valA y.core.attrs disT = V := ⟨_, rfl⟩
          obtain ⟨q, hq⟩ : ∃ q, hasA y.core.attrs disT = q := ⟨_, rfl⟩
          have CG := Lib.hid (get14 hok)
          rw [hV, hq] at CG
          have HQ := Lib.hid hq
          obtain ⟨F2, N2, e2, hS2⟩ : ∃ F2 N2 e2, setZ m (coreL L) X disT ⟨#[120]⟩ = (F2, N2, e2) := ⟨_, _, _, rfl⟩
          have HS := Lib.hid hS2
          have CS : Hid (∀ W, NodeRow W (some ⟨b, off, none⟩) k cap L → ErrVar W → Calls Tryz.prog 9 #[forV (some ⟨b, off, none⟩) k cap m, .int .i64 X, .string ⟨#[100, 105, 115, 97, 98, 108, 101, 100]⟩, .string ⟨#[120]⟩] W (MvPost W m (F2, N2, e2))) := Lib.hid (fun W h1 h2 => by
            have := mset_any _ k cap m L X ⟨#[100, 105, 115, 97, 98, 108, 101, 100]⟩ ⟨#[120]⟩ W h1 HM.out hX64.out (by decide) (by decide) SM.out h2
            rwa [disK, hS2] at this)
          clear hy hat hok hb hV hq hS2
          cases q with
          | true =>
            go_wp2_with (first
                            | (go_at_call 13; (with_reducible refine (CG.out _ (Below.refl _ _)).mono ?_); rintro e w3 ⟨rfl, hb⟩; have BX := Lib.hid (BX.out.keep hb); have HB := Lib.hid (HB.out.trans (hb.mono HB.out.size)); clear hb z0 z1 c4; have z0 := BX.out.c0; have z1 := BX.out.c1)
                            | (go_at_call 9; (with_reducible refine (CS.out _ BX.out.row (HG.out.keep BX.out.below)).mono ?_); rintro e w5 ⟨a2, len2, cap2, M2, va, vl, vc, rfl, hr2, hc2, hs2, -, hb2, -⟩; have BX := Lib.hid (BX.out.keep hb2); have BY := Lib.hid (MBox.new (m := m) BX.out.below hr2 hc2).box; have BX := Lib.hid (BX.out.keep (below_box w5 (forB a2 len2 cap2 m))); have HB := Lib.hid ((HB.out.trans (hb2.mono HB.out.size)).trans ((below_box w5 (forB a2 len2 cap2 m)).mono (HB.out.trans (hb2.mono HB.out.size)).size)); have HS2 := Lib.hid hs2; clear z0 z1 hr2 hc2 hs2 hb2; have z0 := BX.out.c0; have z1 := BX.out.c1; have y0 := BY.out.c0; have y1 := BY.out.c1))
            go_ret
            exact ⟨rfl, BX.out.below⟩
          | false =>
            by_cases he : e2 = 0
            · subst he
              obtain ⟨G, N1, N3, h1, h2, h3, h4, h5⟩ := back14 hr.out HYC.out (v := ⟨#[120]⟩) (by rw [HS.out]) HQ.out
              rw [HS.out] at h1
              injection h1 with h1 h6
              injection h6 with h6 _
              subst h1
              subst h6
              have CB : Hid (∀ W M2 a2 len2 cap2, NodeRow W a2 len2 cap2 M2 → coreL M2 = F2 → smallF M2 → Calls Tryz.prog 12 #[forV a2 len2 cap2 m, .int .i64 X] W fun e w' => e = .returned (.bool true) ∧ Below W.heap.size W w') := Lib.hid (fun W M2 a2 len2 cap2 h hc hs => by
                have := barO_any a2 len2 cap2 m M2 X W h HM.out hs
                rw [hc] at this
                rwa [barO_nat h2 (by rw [h3, hlc.out]; exact hXl), h4] at this)
              have CU : Hid (∀ W M2 a2 len2 cap2, NodeRow W a2 len2 cap2 M2 → coreL M2 = F2 → smallF M2 → ErrVar W → Calls Tryz.prog 16 #[forV a2 len2 cap2 m, .int .i64 X, .string ⟨#[100, 105, 115, 97, 98, 108, 101, 100]⟩] W (MvPost W m (coreL L, N3, 0))) := Lib.hid (fun W M2 a2 len2 cap2 h hc hs hg => by
                have := munset_any a2 len2 cap2 m M2 X ⟨#[100, 105, 115, 97, 98, 108, 101, 100]⟩ W h HM.out hX64.out (by decide) hs hg
                rwa [disK, hc, h5] at this)
              have CA : Hid (∀ W M2 a2 len2 cap2, NodeRow W a2 len2 cap2 M2 → coreL M2 = coreL L → smallF M2 → Calls Tryz.prog 17 #[forV a2 len2 cap2 m] W (OrdNew W (barL (coreL L)))) := Lib.hid (fun W M2 a2 len2 cap2 h hc hs => by
                have := allB_any a2 len2 cap2 m M2 W h HM.out hs
                rwa [hc, allB_right hr.out] at this)
              have CT : Hid (∀ (W : World) (a1 a2 : Option Addr) (l1 l2 c1 c2 : Nat), IntRow W a1 l1 c1 (barL (coreL L)) → IntRow W a2 l2 c2 (barL (coreL L)) → Calls Tryz.prog 18 #[.slice a1 l1 c1, .slice a2 l2 c2] W fun e w' => e = .returned (.bool true) ∧ ∃ n, w' = W.drewN n) := Lib.hid (fun W a1 a2 l1 l2 c1 c2 h1 h2 => by
                have := refints_any a1 a2 l1 c1 l2 c2 _ _ W h1 h2
                rwa [decide_eq_true rfl] at this)
              clear h2 h3 h4 h5
              go_upto_region 21 with (first
                                         | (go_at_call 13; (with_reducible refine (CG.out _ (Below.refl _ _)).mono ?_); rintro e w3 ⟨rfl, hb⟩; have BX := Lib.hid (BX.out.keep hb); have HB := Lib.hid (HB.out.trans (hb.mono HB.out.size)); clear hb z0 z1 c4; have z0 := BX.out.c0; have z1 := BX.out.c1)
                                         | (go_at_call 9; (with_reducible refine (CS.out _ BX.out.row (HG.out.keep BX.out.below)).mono ?_); rintro e w5 ⟨a2, len2, cap2, M2, va, vl, vc, rfl, hr2, hc2, hs2, -, hb2, -⟩; have BX := Lib.hid (BX.out.keep hb2); have BY := Lib.hid (MBox.new (m := m) BX.out.below hr2 hc2).box; have BX := Lib.hid (BX.out.keep (below_box w5 (forB a2 len2 cap2 m))); have HB := Lib.hid ((HB.out.trans (hb2.mono HB.out.size)).trans ((below_box w5 (forB a2 len2 cap2 m)).mono (HB.out.trans (hb2.mono HB.out.size)).size)); have HS2 := Lib.hid hs2; clear z0 z1 hr2 hc2 hs2 hb2; have z0 := BX.out.c0; have z1 := BX.out.c1; have y0 := BY.out.c0; have y1 := BY.out.c1))
              go_upto_region 22 with (go_at_call 16; (with_reducible refine (CU.out _ _ _ _ _ BY.out.row BY.out.core HS2.out (HG.out.keep BY.out.below)).mono ?_); rintro e w6 ⟨a4, len4, cap4, M4, va4, vl4, vc4, rfl, hr4, hc4, hs4, -, hb4, -⟩; have BX := Lib.hid (BX.out.keep hb4); have BY := Lib.hid (BY.out.keep hb4); have BZ := Lib.hid (MBox.new (m := m) BX.out.below hr4 hc4).box; have BX := Lib.hid (BX.out.keep (below_box w6 (forB a4 len4 cap4 m))); have BY := Lib.hid (BY.out.keep (below_box w6 (forB a4 len4 cap4 m))); have HB := Lib.hid ((HB.out.trans (hb4.mono HB.out.size)).trans ((below_box w6 (forB a4 len4 cap4 m)).mono (HB.out.trans (hb4.mono HB.out.size)).size)); have HS4 := Lib.hid hs4; clear z0 z1 y0 y1 hr4 hc4 hs4 hb4)
              have y0 := BY.out.c0
              have y1 := BY.out.c1
              have x0 := BZ.out.c0
              have x1 := BZ.out.c1
              have IR := Lib.hid (HI.out _ HB.out)
              go_wp2_with (first
                | (go_at_call 12; (with_reducible refine (CB.out _ _ _ _ _ BY.out.row BY.out.core HS2.out).mono ?_); rintro e w7 ⟨rfl, hb⟩; have BX := Lib.hid (BX.out.keep hb); have BZ := Lib.hid (BZ.out.keep hb); have IR := Lib.hid (IR.out.below hb); clear hb y0 y1 x0 x1; have x0 := BZ.out.c0; have x1 := BZ.out.c1)
                | (go_at_call 17; ((with_reducible refine (CA.out _ _ _ _ _ BZ.out.row BZ.out.core HS4.out).mono ?_); rintro e w8 ⟨a9, l9, c9, rfl, hr9, hb, -⟩; have BX := Lib.hid (BX.out.keep hb); have IR := Lib.hid (IR.out.below hb); have I9 := Lib.hid hr9; clear x0 x1 hb hr9))
                | (go_at_call 18; (with_reducible refine (CT.out _ _ _ _ _ _ _ I9.out IR.out).mono ?_); rintro e w10 ⟨rfl, n10, rfl⟩; have HE := Lib.hid (below_drewN BX.out.below n10)))
              go_ret
              exact ⟨rfl, HE.out⟩
            · have he2 : (e2 != 0) = true := bne_iff_ne.2 he
              clear he
              go_wp2_with (first
                              | (go_at_call 13; (with_reducible refine (CG.out _ (Below.refl _ _)).mono ?_); rintro e w3 ⟨rfl, hb⟩; have BX := Lib.hid (BX.out.keep hb); have HB := Lib.hid (HB.out.trans (hb.mono HB.out.size)); clear hb z0 z1 c4; have z0 := BX.out.c0; have z1 := BX.out.c1)
                              | (go_at_call 9; (with_reducible refine (CS.out _ BX.out.row (HG.out.keep BX.out.below)).mono ?_); rintro e w5 ⟨a2, len2, cap2, M2, va, vl, vc, rfl, hr2, hc2, hs2, -, hb2, -⟩; have BX := Lib.hid (BX.out.keep hb2); have BY := Lib.hid (MBox.new (m := m) BX.out.below hr2 hc2).box; have BX := Lib.hid (BX.out.keep (below_box w5 (forB a2 len2 cap2 m))); have HB := Lib.hid ((HB.out.trans (hb2.mono HB.out.size)).trans ((below_box w5 (forB a2 len2 cap2 m)).mono (HB.out.trans (hb2.mono HB.out.size)).size)); have HS2 := Lib.hid hs2; clear z0 z1 hr2 hc2 hs2 hb2; have z0 := BX.out.c0; have z1 := BX.out.c1; have y0 := BY.out.c0; have y1 := BY.out.c1))
              go_ret
              exact ⟨rfl, BX.out.below⟩
end Go.Proofs.YtnjoimedilonnaaGreatDoor
