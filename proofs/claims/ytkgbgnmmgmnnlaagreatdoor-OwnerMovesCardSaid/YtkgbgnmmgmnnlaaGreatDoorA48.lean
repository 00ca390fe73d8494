/- Texts joined in build order: OwnerMovesLaw. -/
import Derived.Test.YtkgbgnmmgmnnlaaGreatDoorA41
import Derived.Test.YtkgbgnmmgmnnlaaGreatDoorA39
import Derived.Test.YtkgbgnmmgmnnlaaGreatDoorA04
namespace Go.Proofs.YtkgbgnmmgmnnlaaGreatDoor
open Go.RowKit
theorem rem_in13 {m : Int} {F : List Core} (h : rightF m F = true) {n : Nat} (hn : n < F.length) (hp : parentK F n ≠ -1) : remZ m F n = (mvOut F n, if connF F n then tellN F n (note 2) else [], 0) := by
  unfold remZ outS
  rw [thereF_of h hn, if_pos rfl, if_neg hp, Int.toNat_natCast, if_neg hp]
  simp only [List.nil_append]
set_option maxHeartbeats 16000000 in
set_option maxRecDepth 100000 in
theorem ownerMoves_walk (a : Option Addr) (len cap : Nat) (m : Int) (L : List NodeD) (x : Int) (w : World) (h : NodeRow w a len cap L) (hm : In64 m) (hx : 0 ≤ x ∧ x ≤ 255) (hg : ErrVar w) :
    Calls Tryz.prog 8 #[forV a len cap m, .int .u8 x] w fun e w' => e = .returned (.bool true) ∧ Below w.heap.size w w' := by
  have AW := Lib.hid (fun W h => awake13_any W h)
  have BX := Lib.hid (Box.start (m := m) h)
  have hl0 := h.len64
  have HL := Lib.hid h.hlen
  have HM := Lib.hid hm
  have HH := Lib.hid h
  have HG := Lib.hid hg
  have z0 := BX.out.c0
  have z1 := BX.out.c1
  clear h hm hg
  cases c0 : shortF L with
  | false =>
    have C0 := Lib.hid c0
    clear c0
    go_enter Tryz.func8, Tryz.ntmps8
    go_wp2_with (first
                    | (go_at_call 9; (with_reducible refine (AW.out _ (HG.out.keep BX.out.below)).mono ?_); rintro e w1 ⟨rfl, hb⟩; have BX := Lib.hid (BX.out.keep hb); clear z0 z1; have z0 := BX.out.c0; have z1 := BX.out.c1; clear hb)
                    | (go_at_call 10; (with_reducible refine (refshortF_any _ _ _ _ _ _ BX.out.row).mono ?_); rintro e w1 ⟨rfl, hb⟩; rw [C0.out]; have BX := Lib.hid (BX.out.keep hb); clear z0 z1; have z0 := BX.out.c0; have z1 := BX.out.c1; clear hb)
                    | (go_at_call 19; (with_reducible refine (HR.out _ BX.out.row).mono ?_); rintro e w1 ⟨rfl, hb⟩; have BX := Lib.hid (BX.out.keep hb); clear z0 z1; have z0 := BX.out.c0; have z1 := BX.out.c1; clear hb))
    go_ret
    exact ⟨rfl, BX.out.below⟩
  | true =>
    have C0 := Lib.hid c0
    have SM := Lib.hid (small_of_short c0)
    clear c0
    cases c1 : rightF m (coreL L) with
    | false =>
      have HR : Hid (∀ W, NodeRow W a len cap L → Calls Tryz.prog 19 #[forV a len cap m] W fun e w' => e = .returned (.bool false) ∧ Below W.heap.size W w') := Lib.hid (fun W h => by
        have := rightF_any a len cap m L W h HM.out SM.out
        rwa [c1] at this)
      clear c1
      go_enter Tryz.func8, Tryz.ntmps8
      go_wp2_with (first
                      | (go_at_call 9; (with_reducible refine (AW.out _ (HG.out.keep BX.out.below)).mono ?_); rintro e w1 ⟨rfl, hb⟩; have BX := Lib.hid (BX.out.keep hb); clear z0 z1; have z0 := BX.out.c0; have z1 := BX.out.c1; clear hb)
                      | (go_at_call 10; (with_reducible refine (refshortF_any _ _ _ _ _ _ BX.out.row).mono ?_); rintro e w1 ⟨rfl, hb⟩; rw [C0.out]; have BX := Lib.hid (BX.out.keep hb); clear z0 z1; have z0 := BX.out.c0; have z1 := BX.out.c1; clear hb)
                      | (go_at_call 19; (with_reducible refine (HR.out _ BX.out.row).mono ?_); rintro e w1 ⟨rfl, hb⟩; have BX := Lib.hid (BX.out.keep hb); clear z0 z1; have z0 := BX.out.c0; have z1 := BX.out.c1; clear hb))
      go_ret
      exact ⟨rfl, BX.out.below⟩
    | true =>
      have HR : Hid (∀ W, NodeRow W a len cap L → Calls Tryz.prog 19 #[forV a len cap m] W fun e w' => e = .returned (.bool true) ∧ Below W.heap.size W w') := Lib.hid (fun W h => by
        have := rightF_any a len cap m L W h HM.out SM.out
        rwa [c1] at this)
      have hr := Lib.hid c1
      have hlc : Hid ((coreL L).length = len) := Lib.hid (by rw [coreL_len, HL.out])
      have hlp : 0 < len := by
        have := right_len c1
        rwa [hlc.out] at this
      clear c1
      have hlen : len ≤ 1000 := by rw [← HL.out]; exact SM.out.1
      obtain ⟨X, hX⟩ : ∃ X : Nat, x % (len : Int) = X := ⟨(x % (len : Int)).toNat, by have := Int.emod_nonneg x (show (len : Int) ≠ 0 by omega); omega⟩
      have hXl : X < len := by have := Int.emod_lt_of_pos x (show (0 : Int) < len by omega); omega
      have hX64 : Hid (In64 (X : Int)) := Lib.hid ⟨by omega, by omega⟩
      obtain ⟨b, off, nx, rfl, hb, hgx, hat, hok⟩ := HH.out.get hXl
      have HXC := Lib.hid (coreL_get hgx)
      have hpk : parentK (coreL L) X = nx.core.parent := parentK_get hgx
      clear hgx hat hok hb
      by_cases hp : nx.core.parent = -1
      · have GR : Hid (∀ W, NodeRow W (some ⟨b, off, none⟩) len cap L → ErrVar W → Calls Tryz.prog 29 #[forV (some ⟨b, off, none⟩) len cap m, .int .i64 X] W (MvPost W m (coreL L, [], 6))) := Lib.hid (fun W h1 h2 => by
          have := mremove_any _ len cap m L X W h1 HM.out hX64.out SM.out h2
          rwa [show remZ m (coreL L) X = (coreL L, [], 6) by unfold remZ; rw [thereF_of hr.out (by rw [hlc.out]; exact hXl), if_pos rfl, if_pos (by rw [hpk]; exact hp)]] at this)
        clear hp hpk
        go_enter Tryz.func8, Tryz.ntmps8
        go_upto_region 6 with (first
                                  | (go_at_call 9; (with_reducible refine (AW.out _ (HG.out.keep BX.out.below)).mono ?_); rintro e w1 ⟨rfl, hb⟩; have BX := Lib.hid (BX.out.keep hb); clear z0 z1; have z0 := BX.out.c0; have z1 := BX.out.c1; clear hb)
                                  | (go_at_call 10; (with_reducible refine (refshortF_any _ _ _ _ _ _ BX.out.row).mono ?_); rintro e w1 ⟨rfl, hb⟩; rw [C0.out]; have BX := Lib.hid (BX.out.keep hb); clear z0 z1; have z0 := BX.out.c0; have z1 := BX.out.c1; clear hb)
                                  | (go_at_call 19; (with_reducible refine (HR.out _ BX.out.row).mono ?_); rintro e w1 ⟨rfl, hb⟩; have BX := Lib.hid (BX.out.keep hb); clear z0 z1; have z0 := BX.out.c0; have z1 := BX.out.c1; clear hb))
        go_wp2_with (go_at_call 29; (with_reducible refine (GR.out _ BX.out.row (HG.out.keep BX.out.below)).mono ?_); rintro e w2 ⟨a2, len2, cap2, M2, va, vl, vc, rfl, -, -, -, -, hb2, -⟩; have BX := Lib.hid (BX.out.keep hb2); have BX := Lib.hid (BX.out.keep (below_box w2 (forB a2 len2 cap2 m))); clear z0 z1 hb2)
        go_ret
        exact ⟨rfl, BX.out.below⟩
      · obtain ⟨pp, hpp1, hpp2, ho⟩ := mvOut_out hr.out HXC.out hp
        have HGR : Hid (rightF m (mvOut (coreL L) X) = true) := Lib.hid ho.rightG
        obtain ⟨N2, GR⟩ : ∃ N2, Hid (∀ W, NodeRow W (some ⟨b, off, none⟩) len cap L → ErrVar W → Calls Tryz.prog 29 #[forV (some ⟨b, off, none⟩) len cap m, .int .i64 X] W (MvPost W m (mvOut (coreL L) X, N2, 0))) := ⟨_, Lib.hid (fun W h1 h2 => by
          have := mremove_any _ len cap m L X W h1 HM.out hX64.out SM.out h2
          rwa [rem_in13 hr.out (by rw [hlc.out]; exact hXl) (by rw [hpk]; exact hp)] at this)⟩
        clear hp hpk ho hpp1 hpp2
        go_enter Tryz.func8, Tryz.ntmps8
        go_upto_region 6 with (first
                                  | (go_at_call 9; (with_reducible refine (AW.out _ (HG.out.keep BX.out.below)).mono ?_); rintro e w1 ⟨rfl, hb⟩; have BX := Lib.hid (BX.out.keep hb); clear z0 z1; have z0 := BX.out.c0; have z1 := BX.out.c1; clear hb)
                                  | (go_at_call 10; (with_reducible refine (refshortF_any _ _ _ _ _ _ BX.out.row).mono ?_); rintro e w1 ⟨rfl, hb⟩; rw [C0.out]; have BX := Lib.hid (BX.out.keep hb); clear z0 z1; have z0 := BX.out.c0; have z1 := BX.out.c1; clear hb)
                                  | (go_at_call 19; (with_reducible refine (HR.out _ BX.out.row).mono ?_); rintro e w1 ⟨rfl, hb⟩; have BX := Lib.hid (BX.out.keep hb); clear z0 z1; have z0 := BX.out.c0; have z1 := BX.out.c1; clear hb))
        go_upto_region 9 with (go_at_call 29; (with_reducible refine (GR.out _ BX.out.row (HG.out.keep BX.out.below)).mono ?_); rintro e w2 ⟨a2, len2, cap2, M2, va, vl, vc, rfl, hr2, hc2, hs2, -, hb2, -⟩; have BX := Lib.hid (BX.out.keep hb2); have BG := Lib.hid (MBox.new (m := m) BX.out.below hr2 hc2).box; have BX := Lib.hid (BX.out.keep (below_box w2 (forB a2 len2 cap2 m))); have HS2 := Lib.hid hs2; clear z0 z1 hr2 hc2 hs2 hb2)
        obtain ⟨w3, hw3⟩ : ∃ w3, w2.alloc (forB a2 len2 cap2 m) = w3 := ⟨_, rfl⟩
        obtain ⟨q, hq⟩ : ∃ q, w2.heap.size = q := ⟨_, rfl⟩
        rw [hw3] at BX BG ⊢
        rw [hq] at BG ⊢
        have HX : Hid (∀ W, Below w3.heap.size w3 W → Box w W w.heap.size (some ⟨b, off, none⟩) len cap m L (coreL L)) := Lib.hid (fun W hb => BX.out.keep hb)
        have HY : Hid (∀ W, Below w3.heap.size w3 W → Box w W q a2 len2 cap2 m M2 (mvOut (coreL L) X)) := Lib.hid (fun W hb => BG.out.keep hb)
        clear BX BG hw3 hq AW HG HR GR
        go_wp2
        go_loopw [9] (fun i wr => ∃ k : Nat, k ≤ len ∧ i = .int .i64 k ∧ Hid (Below w3.heap.size w3 wr)) (fun i _ => len - (intOf i).toNat)
        case atStart => exact ⟨0, Nat.zero_le _, rfl, Lib.hid (Below.refl _ _)⟩
        case round =>
          obtain ⟨k, hk, rfl, HB⟩ := hrel
          have BX := Lib.hid (HX.out _ HB.out)
          have z0 := BX.out.c0
          have z1 := BX.out.c1
          by_cases hlt : k < len
          · obtain ⟨b2, off2, y, hab, hb2, hy, hat, hok⟩ := BX.out.row.get hlt
            injection hab with hab
            injection hab with hab1 hab2
            subst hab1
            subst hab2
            have c4 := hat.c4
            have C0K := Lib.hid (stays hat.c0 hb2)
            have HYC := Lib.hid (coreL_get hy)
            obtain ⟨V, hV⟩ : ∃ V, valA y.core.attrs formT = V := ⟨_, rfl⟩
            obtain ⟨hh, hhh⟩ : ∃ hh, hasA y.core.attrs formT = hh := ⟨_, rfl⟩
            have HHH := Lib.hid hhh
            have CG : Hid (Calls Tryz.prog 20 #[.slice y.aA y.aN y.aC, .string ⟨#[102, 111, 114, 109]⟩] wr fun e w' => e = .returned (.tuple #[.string V, .bool hh]) ∧ Below wr.heap.size wr w') := Lib.hid (by
              have := get13 hok ⟨#[102, 111, 114, 109]⟩ (by decide) formK wr (Below.refl _ _)
              rwa [hV, hhh] at this)
            clear hy hat hok hb2 hV hhh
            cases hh with
            | true =>
              go_wp2_with (go_at_call 20; (refine CG.out.mono ?_); rintro e w4 ⟨rfl, hb⟩; have HB4 := Lib.hid (HB.out.trans (hb.mono HB.out.size)); clear z0 z1 c4 hb)
              go_roundw
              case rel => exact ⟨k + 1, by omega, by go_num, HB4⟩
              case measure => simp [intOf]; omega
            | false =>
              go_upto_region 13 with (go_at_call 20; (refine CG.out.mono ?_); rintro e w4 ⟨rfl, hb⟩; have HB4 := Lib.hid (HB.out.trans (hb.mono HB.out.size)); have c0 := C0K.out _ hb; clear z0 z1 c4 hb)
              have BX := Lib.hid (HX.out _ HB4.out)
              have BY := Lib.hid (HY.out _ HB4.out)
              have z0 := BX.out.c0
              have z1 := BX.out.c1
              by_cases hkd : y.core.kind = 1
              · rw [hkd] at c0
                have hkc : k < (coreL L).length := by rw [hlc.out]; exact hlt
                have hXc : X < (coreL L).length := by rw [hlc.out]; exact hXl
                have AS := Lib.hid (out_asks hr.out HGR.out hXc hkc)
                have hkd2 : y.core.kind = 1 := hkd
                have HOF : Hid (ofO m (coreL L) k = nearF (coreL L) k) := Lib.hid (by
                  unfold ofO
                  rw [thereF_of hr.out hkc, if_pos rfl, Int.toNat_natCast]
                  exact own_near HYC.out hkd2 HHH.out)
                have HOG : Hid (ofO m (mvOut (coreL L) X) k = nearF (mvOut (coreL L) X) k) := Lib.hid (by
                  unfold ofO
                  rw [thereF_of HGR.out (by rw [out_len]; exact hkc), if_pos rfl, Int.toNat_natCast]
                  exact own_near_out HYC.out hkd2 HHH.out)
                obtain ⟨was, hwas⟩ : ∃ z, nearF (coreL L) k = z := ⟨_, rfl⟩
                obtain ⟨now, hnow⟩ : ∃ z, nearF (mvOut (coreL L) X) k = z := ⟨_, rfl⟩
                rw [hwas, hnow] at AS
                rw [hwas] at HOF
                rw [hnow] at HOG
                have E0 := Ext.cell z0 BX.out.lt
                have E1 := Ext.cell z1 BX.out.lt
                have G0 := Ext.cell BY.out.c0 BY.out.lt
                have G1 := Ext.cell BY.out.c1 BY.out.lt
                have CF : Hid (∀ Y : Ext w4, Calls Tryz.prog 13 #[forV (some ⟨b, off, none⟩) len cap m, .int .i64 k] Y.v fun e w' => e = .returned (.int .i64 was) ∧ Below Y.v.heap.size Y.v w') := Lib.hid (fun Y => by
                  have := ofO_any _ len cap m L k Y.v (HX.out _ (HB4.out.trans (Y.below.mono HB4.out.size))).row HM.out SM.out
                  rwa [HOF.out] at this)
                have CGG : Hid (∀ Y : Ext w4, Calls Tryz.prog 13 #[forV a2 len2 cap2 m, .int .i64 k] Y.v fun e w' => e = .returned (.int .i64 now) ∧ Below Y.v.heap.size Y.v w') := Lib.hid (fun Y => by
                  have BYY := HY.out _ (HB4.out.trans (Y.below.mono HB4.out.size))
                  have := ofO_any _ len2 cap2 m M2 k Y.v BYY.row HM.out HS2.out
                  rwa [BYY.core, HOG.out] at this)
                clear hkd hkd2 hwas hnow BX BY HOF HOG
                go_upto_region 14 with fail
                clear z0 z1
                refine wp_region_ext (by kernel_rfl) (by kernel_rfl) ?_
                repeat (go_big_quiet_step (first | (go_at_call 13; with_reducible exact Ext.call_below (CF.out _)) | (go_at_call 13; with_reducible exact Ext.call_below (CGG.out _))))
                refine wpQuiet_nil ?_
                intro w' hw'
                obtain ⟨⟨w8, hb8⟩, hw''⟩ := hw'
                dsimp only at hw''
                subst hw''
                have HB8 := Lib.hid (HB4.out.trans (hb8.mono HB4.out.size))
                have BX := Lib.hid (HX.out _ HB8.out)
                have z0 := BX.out.c0
                have z1 := BX.out.c1
                clear E0 E1 G0 G1 CF CGG hb8 c0
                have CH : Hid (∀ W, NodeRow W (some ⟨b, off, none⟩) len cap L → Calls Tryz.prog 22 #[forV (some ⟨b, off, none⟩) len cap m, .int .i64 X, .int .i64 k] W fun e w' => e = .returned (.bool (holdsZ m (coreL L) X k)) ∧ Below W.heap.size W w') := Lib.hid (fun W h => holdsFn_any _ len cap m L X k W h HM.out hX64.out ⟨by omega, by omega⟩ SM.out)
                rcases AS.out with ⟨h1, rfl⟩ | ⟨h1, rfl, rfl⟩ | ⟨P, hP, h1, rfl, h2, rfl⟩ | ⟨P, hP, h1, rfl, h2, rfl⟩
                · rw [h1] at CH
                  clear AS h1
                  go_wp2_with (go_at_call 22; (with_reducible refine (CH.out _ BX.out.row).mono ?_); rintro e w9 ⟨rfl, hb⟩; have HB9 := Lib.hid (HB8.out.trans (hb.mono HB8.out.size)); clear z0 z1 hb)
                  go_roundw
                  case rel => exact ⟨k + 1, by omega, by go_num, HB9⟩
                  case measure => simp [intOf]; omega
                · rw [h1] at CH
                  clear AS h1
                  go_wp2_with (go_at_call 22; (with_reducible refine (CH.out _ BX.out.row).mono ?_); rintro e w9 ⟨rfl, hb⟩; have HB9 := Lib.hid (HB8.out.trans (hb.mono HB8.out.size)); clear z0 z1 hb)
                  go_roundw
                  case rel => exact ⟨k + 1, by omega, by go_num, HB9⟩
                  case measure => simp [intOf]; omega
                all_goals
                  rw [h1] at CH
                  rw [hlc.out] at hP
                  have CH2 : Hid (∀ W, NodeRow W (some ⟨b, off, none⟩) len cap L → Calls Tryz.prog 22 #[forV (some ⟨b, off, none⟩) len cap m, .int .i64 X, .int .i64 P] W fun e w' => e = .returned (.bool (holdsZ m (coreL L) X P)) ∧ Below W.heap.size W w') := Lib.hid (fun W h => holdsFn_any _ len cap m L X P W h HM.out hX64.out ⟨by omega, by omega⟩ SM.out)
                  rw [h2] at CH2
                  have hpn : ((P : Int) != -1) = true := bne_iff_ne.2 (by omega)
                  clear AS h1 h2
                  go_wp2_with (first
                    | (go_at_call 22; (with_reducible refine (CH.out _ BX.out.row).mono ?_); rintro e w9 ⟨rfl, hb⟩; have BX := Lib.hid (BX.out.keep hb); have HB9 := Lib.hid (HB8.out.trans (hb.mono HB8.out.size)); clear z0 z1 hb; have z0 := BX.out.c0; have z1 := BX.out.c1)
                    | (go_at_call 22; (with_reducible refine (CH2.out _ BX.out.row).mono ?_); rintro e w10 ⟨rfl, hb⟩; have HB10 := Lib.hid (HB9.out.trans (hb.mono HB9.out.size)); clear z0 z1 hb))
                  go_roundw
                  case rel => exact ⟨k + 1, by omega, by go_num, HB10⟩
                  case measure => simp [intOf]; omega
              · have hk1 : (y.core.kind != 1) = true := bne_iff_ne.2 hkd
                clear hkd
                go_wp2
                go_roundw
                case rel => exact ⟨k + 1, by omega, by go_num, HB4⟩
                case measure => simp [intOf]; omega
          · go_wp2
            go_ret
            exact ⟨rfl, BX.out.below⟩
end Go.Proofs.YtkgbgnmmgmnnlaaGreatDoor
