/- Texts joined in build order: AbleNoneLaw. -/
import Derived.Test.YtnjoimedilonnaaB47
namespace Go.Proofs.Ytnjoimedilonnaa
open Go.RowKit
def anyD (F : List Core) (k : Nat) : Bool := (List.range k).any (disB F)
theorem anyD_step (F : List Core) (k : Nat) : anyD F (k + 1) = (anyD F k || disB F k) := by
  unfold anyD
  rw [List.range_succ, List.any_append]
  simp
theorem anyD_no {F : List Core} (h : anyD F F.length = false) : barL F = [] := none_is (fun i hi => by
  unfold anyD at h
  rw [List.any_eq_false] at h
  simpa using h i (List.mem_range.2 hi))
set_option maxHeartbeats 16000000 in
set_option maxRecDepth 100000 in
theorem ableNone_walk (_ : True) (a : Option Addr) (len cap : Nat) (m : Int) (L : List NodeD) (x : Int) (w : World) (h : NodeRow w a len cap L) (hm : In64 m) (hx : 0 ≤ x ∧ x ≤ 255) :
    Calls Try.prog 3 #[forV a len cap m, .int .u8 x] w fun e w' => e = .returned (.bool true) ∧ Below w.heap.size w w' := by
  have AW := Lib.hid (fun W => awake14_any W)
  have BX := Lib.hid (Box.start (m := m) h)
  have hl0 := h.len64
  have HL := Lib.hid h.hlen
  have HM := Lib.hid hm
  have z0 := BX.out.c0
  have z1 := BX.out.c1
  clear h hm
  cases c0 : shortF L with
  | false =>
    have C0 := Lib.hid c0
    clear c0
    go_enter Try.func3, Try.ntmps3
    go_wp2_with (first
                    | (go_at_call 4; (with_reducible refine (AW.out _).mono ?_); rintro e w1 ⟨rfl, hb⟩; have BX := Lib.hid (BX.out.keep hb); clear z0 z1; have z0 := BX.out.c0; have z1 := BX.out.c1; clear hb)
                    | (go_at_call 5; (with_reducible refine (refshortF_any _ _ _ _ _ _ BX.out.row).mono ?_); rintro e w1 ⟨rfl, hb⟩; rw [C0.out]; have BX := Lib.hid (BX.out.keep hb); clear z0 z1; have z0 := BX.out.c0; have z1 := BX.out.c1; clear hb)
                    | (go_at_call 6; (with_reducible refine (HR.out _ BX.out.row).mono ?_); rintro e w1 ⟨rfl, hb⟩; have BX := Lib.hid (BX.out.keep hb); clear z0 z1; have z0 := BX.out.c0; have z1 := BX.out.c1; clear hb))
    go_ret
    exact ⟨rfl, BX.out.below⟩
  | true =>
    have C0 := Lib.hid c0
    have SM := Lib.hid (small_of_short c0)
    clear c0
    have hlen : len ≤ 1000 := by rw [← HL.out]; exact SM.out.1
    cases c1 : rightF m (coreL L) with
    | false =>
      have HR : Hid (∀ W, NodeRow W a len cap L → Calls Try.prog 6 #[forV a len cap m] W fun e w' => e = .returned (.bool false) ∧ Below W.heap.size W w') := Lib.hid (fun W h => by
        have := rightF_any a len cap m L W h HM.out SM.out
        rwa [c1] at this)
      clear c1
      go_enter Try.func3, Try.ntmps3
      go_wp2_with (first
                      | (go_at_call 4; (with_reducible refine (AW.out _).mono ?_); rintro e w1 ⟨rfl, hb⟩; have BX := Lib.hid (BX.out.keep hb); clear z0 z1; have z0 := BX.out.c0; have z1 := BX.out.c1; clear hb)
                      | (go_at_call 5; (with_reducible refine (refshortF_any _ _ _ _ _ _ BX.out.row).mono ?_); rintro e w1 ⟨rfl, hb⟩; rw [C0.out]; have BX := Lib.hid (BX.out.keep hb); clear z0 z1; have z0 := BX.out.c0; have z1 := BX.out.c1; clear hb)
                      | (go_at_call 6; (with_reducible refine (HR.out _ BX.out.row).mono ?_); rintro e w1 ⟨rfl, hb⟩; have BX := Lib.hid (BX.out.keep hb); clear z0 z1; have z0 := BX.out.c0; have z1 := BX.out.c1; clear hb))
      go_ret
      exact ⟨rfl, BX.out.below⟩
    | true =>
      have HR : Hid (∀ W, NodeRow W a len cap L → Calls Try.prog 6 #[forV a len cap m] W fun e w' => e = .returned (.bool true) ∧ Below W.heap.size W w') := Lib.hid (fun W h => by
        have := rightF_any a len cap m L W h HM.out SM.out
        rwa [c1] at this)
      have hr := Lib.hid c1
      have hlc : Hid ((coreL L).length = len) := Lib.hid (by rw [coreL_len, HL.out])
      have hlp : 0 < len := by
        have := right_len c1
        rwa [hlc.out] at this
      clear c1
      go_enter Try.func3, Try.ntmps3
      go_upto_region 7 with (first
                                | (go_at_call 4; (with_reducible refine (AW.out _).mono ?_); rintro e w1 ⟨rfl, hb⟩; have BX := Lib.hid (BX.out.keep hb); clear z0 z1; have z0 := BX.out.c0; have z1 := BX.out.c1; clear hb)
                                | (go_at_call 5; (with_reducible refine (refshortF_any _ _ _ _ _ _ BX.out.row).mono ?_); rintro e w1 ⟨rfl, hb⟩; rw [C0.out]; have BX := Lib.hid (BX.out.keep hb); clear z0 z1; have z0 := BX.out.c0; have z1 := BX.out.c1; clear hb)
                                | (go_at_call 6; (with_reducible refine (HR.out _ BX.out.row).mono ?_); rintro e w1 ⟨rfl, hb⟩; have BX := Lib.hid (BX.out.keep hb); clear z0 z1; have z0 := BX.out.c0; have z1 := BX.out.c1; clear hb))
      have HX : Hid (∀ W, Below w1.heap.size w1 W → Box w W w.heap.size a len cap m L (coreL L)) := Lib.hid (fun W hb => BX.out.keep hb)
      clear BX z0 z1 HR AW C0
      obtain ⟨w2, hw2⟩ : ∃ w2, w1 = w2 := ⟨_, rfl⟩
      rw [hw2] at HX ⊢
      clear hw2
      go_loopw [5, 6] (fun s i wr => ∃ k : Nat, k ≤ len ∧ s = .bool (anyD (coreL L) k) ∧ i = .int .i64 k ∧ Hid (Below w2.heap.size w2 wr)) (fun _ i _ => len - (intOf i).toNat)
      case atStart => exact ⟨0, Nat.zero_le _, rfl, rfl, Lib.hid (Below.refl _ _)⟩
      case round =>
        obtain ⟨k, hk, rfl, rfl, HB⟩ := hrel
        have BX := Lib.hid (HX.out _ HB.out)
        have z0 := BX.out.c0
        have z1 := BX.out.c1
        by_cases hlt : k < len
        · obtain ⟨b, off, y, rfl, hb, hy, hat, hok⟩ := BX.out.row.get hlt
          have c4 := hat.c4
          obtain ⟨V, hV⟩ : ∃ V, valA y.core.attrs disT = V := ⟨_, rfl⟩
          obtain ⟨q, hq⟩ : ∃ q, hasA y.core.attrs disT = q := ⟨_, rfl⟩
          have CG := Lib.hid (get14 hok)
          rw [hV, hq] at CG
          have HST : Hid (anyD (coreL L) (k + 1) = (anyD (coreL L) k || q)) := Lib.hid (by rw [anyD_step, disB_at (coreL_get hy), hq])
          obtain ⟨s, hs⟩ : ∃ s, anyD (coreL L) k = s := ⟨_, rfl⟩
          rw [hs] at HST ⊢
          clear hy hat hok hb hV hq hs
          cases s with
          | true =>
            go_wp2_with (go_at_call 7; (with_reducible refine (CG.out _ (Below.refl _ _)).mono ?_); rintro e w3 ⟨rfl, hb⟩; have HB := Lib.hid (HB.out.trans (hb.mono HB.out.size)); clear hb)
            go_roundw
            case rel => exact ⟨k + 1, by omega, by rw [HST.out]; rfl, by go_num, HB⟩
            case measure => simp [intOf]; omega
          | false =>
            go_wp2_with (go_at_call 7; (with_reducible refine (CG.out _ (Below.refl _ _)).mono ?_); rintro e w3 ⟨rfl, hb⟩; have HB := Lib.hid (HB.out.trans (hb.mono HB.out.size)); clear hb)
            go_roundw
            case rel => exact ⟨k + 1, by omega, by rw [HST.out]; rfl, by go_num, HB⟩
            case measure => simp [intOf]; omega
        · obtain rfl : k = len := by omega
          cases hq : anyD (coreL L) k with
          | false =>
            have CA : Hid (∀ W, NodeRow W a k cap L → Calls Try.prog 8 #[forV a k cap m] W (OrdNew W [])) := Lib.hid (fun W h => by
              have := allB_any a k cap m L W h HM.out SM.out
              rwa [show allB m (coreL L) = [] by unfold allB; rw [if_pos hr.out]; exact anyD_no (by rw [hlc.out]; exact hq)] at this)
            clear hq
            go_wp2_with (go_at_call 8; ((with_reducible refine (CA.out _ BX.out.row).mono ?_); rintro e w4 ⟨ao, lo, co, rfl, hro, hb, -⟩; obtain rfl : 0 = lo := hro.hlen; have BX := Lib.hid (BX.out.keep hb); clear hb hro))
            go_ret
            exact ⟨rfl, BX.out.below⟩
          | true =>
            clear hq
            obtain ⟨X, hX⟩ : ∃ X : Nat, x % (k : Int) = X := ⟨(x % (k : Int)).toNat, by have := Int.emod_nonneg x (show (k : Int) ≠ 0 by omega); omega⟩
            have hXl : X < k := by have := Int.emod_lt_of_pos x (show (0 : Int) < k by omega); omega
            have hX64 : Hid (In64 (X : Int)) := Lib.hid ⟨by omega, by omega⟩
            obtain ⟨b, off, y, rfl, hb, hy, hat, hok⟩ := BX.out.row.get hXl
            have c4 := hat.c4
            have HYC := Lib.hid (coreL_get hy)
            obtain ⟨V, hV⟩ : ∃ V, valA y.core.attrs disT = V := ⟨_, rfl⟩
            obtain ⟨q, hq⟩ : ∃ q, hasA y.core.attrs disT = q := ⟨_, rfl⟩
            have CG := Lib.hid (get14 hok)
            rw [hV, hq] at CG
            have HDX : Hid (disB (coreL L) X = q) := Lib.hid (by rw [disB_at HYC.out, hq])
            obtain ⟨t, ht⟩ : ∃ t, barF (coreL L) X = t := ⟨_, rfl⟩
            have HT := Lib.hid ht
            have CB : Hid (∀ W, NodeRow W (some ⟨b, off, none⟩) k cap L → Calls Try.prog 9 #[forV (some ⟨b, off, none⟩) k cap m, .int .i64 X] W fun e w' => e = .returned (.bool t) ∧ Below W.heap.size W w') := Lib.hid (fun W h => by
              have := barO_any _ k cap m L X W h HM.out SM.out
              rwa [barO_nat hr.out (by rw [hlc.out]; exact hXl), ht] at this)
            clear hy hat hok hb hV hq ht
            cases q with
            | true =>
              obtain rfl : t = true := by rw [← HT.out]; exact bar_own HDX.out (dis_kind hr.out HDX.out)
              go_wp2_with (first
                | (go_at_call 7; (with_reducible refine (CG.out _ (Below.refl _ _)).mono ?_); rintro e w3 ⟨rfl, hb⟩; have BX := Lib.hid (BX.out.keep hb); clear hb z0 z1 c4; have z0 := BX.out.c0; have z1 := BX.out.c1)
                | (go_at_call 9; (with_reducible refine (CB.out _ BX.out.row).mono ?_); rintro e w4 ⟨rfl, hb⟩; have BX := Lib.hid (BX.out.keep hb); clear hb z0 z1; have z0 := BX.out.c0; have z1 := BX.out.c1))
              go_ret
              exact ⟨rfl, BX.out.below⟩
            | false =>
              cases t with
              | false =>
                go_wp2_with (first
                  | (go_at_call 7; (with_reducible refine (CG.out _ (Below.refl _ _)).mono ?_); rintro e w3 ⟨rfl, hb⟩; have BX := Lib.hid (BX.out.keep hb); clear hb z0 z1 c4; have z0 := BX.out.c0; have z1 := BX.out.c1)
                  | (go_at_call 9; (with_reducible refine (CB.out _ BX.out.row).mono ?_); rintro e w4 ⟨rfl, hb⟩; have BX := Lib.hid (BX.out.keep hb); clear hb z0 z1; have z0 := BX.out.c0; have z1 := BX.out.c1))
                go_ret
                exact ⟨rfl, BX.out.below⟩
              | true =>
                have HKX : y.core.kind = 1 := by
                  have := bar_kind HT.out
                  rwa [kindK_at HYC.out] at this
                obtain ⟨p, hp, hpf, hpd, hph⟩ := bar_other HDX.out HT.out
                rw [hlc.out] at hp
                have HPF := Lib.hid hpf
                have HPD := Lib.hid hpd
                have HPH := Lib.hid hph
                clear hpf hpd hph
                go_upto_region 18 with (first
                  | (go_at_call 7; (with_reducible refine (CG.out _ (Below.refl _ _)).mono ?_); rintro e w3 ⟨rfl, hb⟩; have BX := Lib.hid (BX.out.keep hb); have HB := Lib.hid (HB.out.trans (hb.mono HB.out.size)); clear hb z0 z1 c4; have z0 := BX.out.c0; have z1 := BX.out.c1)
                  | (go_at_call 9; (with_reducible refine (CB.out _ BX.out.row).mono ?_); rintro e w4 ⟨rfl, hb⟩; have BX := Lib.hid (BX.out.keep hb); have HB := Lib.hid (HB.out.trans (hb.mono HB.out.size)); clear hb z0 z1; have z0 := BX.out.c0; have z1 := BX.out.c1))
                have HB4 := HB
                clear z0 z1 BX CG CB
                go_loopw [12] (fun i wr => ∃ j : Nat, j ≤ p ∧ i = .int .i64 j ∧ Hid (Below w2.heap.size w2 wr)) (fun i _ => k - (intOf i).toNat)
                case atStart => exact ⟨0, Nat.zero_le _, rfl, HB4⟩
                case round =>
                  clear HB HB4
                  obtain ⟨j, hj, rfl, HB⟩ := hrel
                  have BX := Lib.hid (HX.out _ HB.out)
                  have z0 := BX.out.c0
                  have z1 := BX.out.c1
                  have hjl : j < k := by omega
                  obtain ⟨b2, off2, u, hab, hbu, hu, hatu, hoku⟩ := BX.out.row.get hjl
                  injection hab with hab
                  injection hab with hab1 hab2
                  subst hab1
                  subst hab2
                  have u4 := hatu.c4
                  have u1 := stays14 hatu.c1 hbu
                  have HUC := Lib.hid (coreL_get hu)
                  obtain ⟨V2, hV2⟩ : ∃ V, valA u.core.attrs disT = V := ⟨_, rfl⟩
                  obtain ⟨q2, hq2⟩ : ∃ q, hasA u.core.attrs disT = q := ⟨_, rfl⟩
                  have CG := Lib.hid (get14 hoku)
                  rw [hV2, hq2] at CG
                  have HDJ : Hid (disB (coreL L) j = q2) := Lib.hid (by rw [disB_at HUC.out, hq2])
                  have HFJ : Hid (fsetB (coreL L) j = (u.core.name.toList == [102, 105, 101, 108, 100, 115, 101, 116])) := Lib.hid (by unfold fsetB; rw [nameK_nat HUC.out]; rfl)
                  obtain ⟨t2, ht2⟩ : ∃ t, holdsF (coreL L) j X = t := ⟨_, rfl⟩
                  have HHJ := Lib.hid ht2
                  have CH : Hid (∀ W, NodeRow W (some ⟨b, off, none⟩) k cap L → Calls Try.prog 10 #[forV (some ⟨b, off, none⟩) k cap m, .int .i64 j, .int .i64 X] W fun e w' => e = .returned (.bool t2) ∧ Below W.heap.size W w') := Lib.hid (fun W h => by
                    have := holdsFn_any _ k cap m L j X W h HM.out ⟨by omega, by omega⟩ hX64.out SM.out
                    rwa [holdsZ_nat hr.out (by rw [hlc.out]; exact hjl) (by rw [hlc.out]; exact hXl), ht2] at this)
                  have U1 := Lib.hid u1
                  clear hu hatu hoku hbu hV2 hq2 ht2 u1
                  have NE : Hid (∀ q3 : Bool, (q2 && (u.core.name.toList == [102, 105, 101, 108, 100, 115, 101, 116]) && t2) = false → j + 1 ≤ p) := Lib.hid (fun _ h => by
                    rcases Nat.lt_or_ge j p with h1 | h1
                    · omega
                    · obtain rfl : j = p := by omega
                      rw [HPD.out] at HDJ
                      rw [HPF.out] at HFJ
                      rw [HPH.out] at HHJ
                      rw [← HDJ.out, ← HFJ.out, ← HHJ.out] at h
                      cases h)
                  cases q2 with
                  | false =>
                    have NE2 := NE.out false rfl
                    go_wp2_with (go_at_call 7; (with_reducible refine (CG.out _ (Below.refl _ _)).mono ?_); rintro e w3 ⟨rfl, hb⟩; have BX := Lib.hid (BX.out.keep hb); have HB := Lib.hid (HB.out.trans (hb.mono HB.out.size)); clear hb z0 z1 u4; have z0 := BX.out.c0; have z1 := BX.out.c1)
                    go_roundw
                    case rel => exact ⟨j + 1, NE2, by go_num, HB⟩
                    case measure => simp [intOf]; omega
                  | true =>
                    cases hfs : (u.core.name.toList == [102, 105, 101, 108, 100, 115, 101, 116]) with
                    | false =>
                      have NE2 := NE.out false (by rw [hfs]; rfl)
                      go_wp2_with (go_at_call 7; (with_reducible refine (CG.out _ (Below.refl _ _)).mono ?_); rintro e w3 ⟨rfl, hb⟩; have u1 := U1.out _ hb; have BX := Lib.hid (BX.out.keep hb); have HB := Lib.hid (HB.out.trans (hb.mono HB.out.size)); clear hb z0 z1 u4; have z0 := BX.out.c0; have z1 := BX.out.c1)
                      go_roundw
                      case rel => exact ⟨j + 1, NE2, by go_num, HB⟩
                      case measure => simp [intOf]; omega
                    | true =>
                      cases t2 with
                      | false =>
                        have NE2 := NE.out false (by rw [hfs]; rfl)
                        go_wp2_with (first
                          | (go_at_call 7; (with_reducible refine (CG.out _ (Below.refl _ _)).mono ?_); rintro e w3 ⟨rfl, hb⟩; have u1 := U1.out _ hb; have BX := Lib.hid (BX.out.keep hb); have HB := Lib.hid (HB.out.trans (hb.mono HB.out.size)); clear hb z0 z1 u4; have z0 := BX.out.c0; have z1 := BX.out.c1)
                          | (go_at_call 10; (with_reducible refine (CH.out _ BX.out.row).mono ?_); rintro e w4 ⟨rfl, hb⟩; have BX := Lib.hid (BX.out.keep hb); have HB := Lib.hid (HB.out.trans (hb.mono HB.out.size)); clear hb z0 z1 u1; have z0 := BX.out.c0; have z1 := BX.out.c1))
                        go_roundw
                        case rel => exact ⟨j + 1, NE2, by go_num, HB⟩
                        case measure => simp [intOf]; omega
                      | true =>
                        go_upto_region 22 with (first
                          | (go_at_call 7; (with_reducible refine (CG.out _ (Below.refl _ _)).mono ?_); rintro e w3 ⟨rfl, hb⟩; have u1 := U1.out _ hb; have BX := Lib.hid (BX.out.keep hb); clear hb z0 z1 u4; have z0 := BX.out.c0; have z1 := BX.out.c1)
                          | (go_at_call 10; (with_reducible refine (CH.out _ BX.out.row).mono ?_); rintro e w4 ⟨rfl, hb⟩; have BX := Lib.hid (BX.out.keep hb); clear hb z0 z1 u1; have z0 := BX.out.c0; have z1 := BX.out.c1))
                        obtain ⟨b3, off3, y', hab, -, hy', haty, -⟩ := BX.out.row.get hXl
                        injection hab with hab
                        injection hab with hab1 hab2
                        subst hab1
                        subst hab2
                        have y0 := haty.c0
                        have e1 : y'.core.kind = 1 := by
                          have h1 := coreL_get hy'
                          rw [HYC.out] at h1
                          rw [← Option.some.inj h1]
                          exact HKX
                        rw [e1] at y0
                        clear hy' haty
                        go_wp2
                        go_ret
                        exact ⟨rfl, BX.out.below⟩
end Go.Proofs.Ytnjoimedilonnaa
