/- Texts joined in build order: AbleMoreLaw. -/
import Derived.Test.YtnjoimedilonnaaGreatDoorA46
import Derived.Test.YtnjoimedilonnaaGreatDoorA05
import Derived.Deep.DeepCutAuto
namespace Go.Proofs.YtnjoimedilonnaaGreatDoor
open Go.RowKit
theorem set14 {m : Int} {F : List Core} (hr : rightF m F = true) {n : Nat} {x : Core} (hx : F[n]? = some x) {v : ByteArray} (h : (setZ m F n disT v).2.2 = 0) :
    ∃ G N1, setZ m F n disT v = (G, N1, 0) ∧ rightF m G = true ∧ G.length = F.length ∧ legF G n = legF F n ∧ ∀ i, barF G i = (barF F i || decide (i = n) || (fsetB F n && decide (kindK F i = 1) && holdsF F n i && (decide (legF F n = -1) || !holdsF F (legF F n).toNat i))) := by
  obtain ⟨hk, hs, hz, hG⟩ := setZ_yes hr hx h
  have hb := back_has hs
  exact ⟨_, _, hz, hG, chg_len, chg_legF _ _ _ _, fun i => more_is hx hk hb.1⟩
set_option maxHeartbeats 16000000 in
set_option maxRecDepth 100000 in
theorem ableMore_walk (a : Option Addr) (len cap : Nat) (m : Int) (L : List NodeD) (x : Int) (w : World) (h : NodeRow w a len cap L) (hm : In64 m) (hx : 0 ≤ x ∧ x ≤ 255) (hg : ErrVar w) :
    Calls Tryz.prog 3 #[forV a len cap m, .int .u8 x] w fun e w' => e = .returned (.bool true) ∧ Below w.heap.size w w' := by
  have AW := Lib.hid (fun W => awake14_any W)
  have BX := Lib.hid (Box.start (m := m) h)
  have hl0 := h.len64
  have HL := Lib.hid h.hlen
  have HM := Lib.hid hm
  have HG := Lib.hid hg
  have HH := Lib.hid h
  have z0 := BX.out.c0
  have z1 := BX.out.c1
  clear h hm hg
  cases c0 : shortF L with
  | false =>
    have C0 := Lib.hid c0
    clear c0
    go_enter Tryz.func3, Tryz.ntmps3
    go_wp2_with (first
                    | (go_at_call 6; (with_reducible refine (AW.out _).mono ?_); rintro e w1 ⟨rfl, hb⟩; have BX := Lib.hid (BX.out.keep hb); clear z0 z1; have z0 := BX.out.c0; have z1 := BX.out.c1; clear hb)
                    | (go_at_call 7; (with_reducible refine (refshortF_any _ _ _ _ _ _ BX.out.row).mono ?_); rintro e w1 ⟨rfl, hb⟩; rw [C0.out]; have BX := Lib.hid (BX.out.keep hb); clear z0 z1; have z0 := BX.out.c0; have z1 := BX.out.c1; clear hb)
                    | (go_at_call 8; (with_reducible refine (HR.out _ BX.out.row).mono ?_); rintro e w1 ⟨rfl, hb⟩; have BX := Lib.hid (BX.out.keep hb); clear z0 z1; have z0 := BX.out.c0; have z1 := BX.out.c1; clear hb))
    go_ret
    exact ⟨rfl, BX.out.below⟩
  | true =>
    have C0 := Lib.hid c0
    have SM := Lib.hid (small_of_short c0)
    clear c0
    have hlen : len ≤ 1000 := by rw [← HL.out]; exact SM.out.1
    cases c1 : rightF m (coreL L) with
    | false =>
      have HR : Hid (∀ W, NodeRow W a len cap L → Calls Tryz.prog 8 #[forV a len cap m] W fun e w' => e = .returned (.bool false) ∧ Below W.heap.size W w') := Lib.hid (fun W h => by
        have := rightF_any a len cap m L W h HM.out SM.out
        rwa [c1] at this)
      clear c1
      go_enter Tryz.func3, Tryz.ntmps3
      go_wp2_with (first
                      | (go_at_call 6; (with_reducible refine (AW.out _).mono ?_); rintro e w1 ⟨rfl, hb⟩; have BX := Lib.hid (BX.out.keep hb); clear z0 z1; have z0 := BX.out.c0; have z1 := BX.out.c1; clear hb)
                      | (go_at_call 7; (with_reducible refine (refshortF_any _ _ _ _ _ _ BX.out.row).mono ?_); rintro e w1 ⟨rfl, hb⟩; rw [C0.out]; have BX := Lib.hid (BX.out.keep hb); clear z0 z1; have z0 := BX.out.c0; have z1 := BX.out.c1; clear hb)
                      | (go_at_call 8; (with_reducible refine (HR.out _ BX.out.row).mono ?_); rintro e w1 ⟨rfl, hb⟩; have BX := Lib.hid (BX.out.keep hb); clear z0 z1; have z0 := BX.out.c0; have z1 := BX.out.c1; clear hb))
      go_ret
      exact ⟨rfl, BX.out.below⟩
    | true =>
      have HR : Hid (∀ W, NodeRow W a len cap L → Calls Tryz.prog 8 #[forV a len cap m] W fun e w' => e = .returned (.bool true) ∧ Below W.heap.size W w') := Lib.hid (fun W h => by
        have := rightF_any a len cap m L W h HM.out SM.out
        rwa [c1] at this)
      have hr := Lib.hid c1
      have hlc : Hid ((coreL L).length = len) := Lib.hid (by rw [coreL_len, HL.out])
      have hlp : 0 < len := by
        have := right_len c1
        rwa [hlc.out] at this
      clear c1
      obtain ⟨X, hX⟩ : ∃ X : Nat, x % (len : Int) = X := ⟨(x % (len : Int)).toNat, by have := Int.emod_nonneg x (show (len : Int) ≠ 0 by omega); omega⟩
      have hXl : X < len := by have := Int.emod_lt_of_pos x (show (0 : Int) < len by omega); omega
      have hX64 : Hid (In64 (X : Int)) := Lib.hid ⟨by omega, by omega⟩
      obtain ⟨b, off, y, rfl, hb, hy, hat, hok⟩ := HH.out.get hXl
      have HYC := Lib.hid (coreL_get hy)
      obtain ⟨F2, N2, e2, hS2⟩ : ∃ F2 N2 e2, setZ m (coreL L) X disT ⟨#[]⟩ = (F2, N2, e2) := ⟨_, _, _, rfl⟩
      have HS := Lib.hid hS2
      have CS : Hid (∀ W, NodeRow W (some ⟨b, off, none⟩) len cap L → ErrVar W → Calls Tryz.prog 9 #[forV (some ⟨b, off, none⟩) len cap m, .int .i64 X, .string ⟨#[100, 105, 115, 97, 98, 108, 101, 100]⟩, .string ⟨#[]⟩] W (MvPost W m (F2, N2, e2))) := Lib.hid (fun W h1 h2 => by
        have := mset_any _ len cap m L X ⟨#[100, 105, 115, 97, 98, 108, 101, 100]⟩ ⟨#[]⟩ W h1 HM.out hX64.out (by decide) (by decide) SM.out h2
        rwa [disK, hS2] at this)
      clear hat hok hb hS2
      have HB : Hid True := Lib.hid trivial
      by_cases he : e2 = 0
      · subst he
        obtain ⟨G, N1, h1, h2, h3, h4, h5⟩ := set14 hr.out HYC.out (v := ⟨#[]⟩) (by rw [HS.out])
        rw [HS.out] at h1
        injection h1 with h1 h6
        injection h6 with h6 _
        subst h1
        subst h6
        have H2 := Lib.hid h2
        have H3 := Lib.hid h3
        have H5 := Lib.hid h5
        obtain ⟨lg, hlg⟩ : ∃ lg, legF (coreL L) X = lg := ⟨_, rfl⟩
        have HLG := Lib.hid hlg
        have CL1 : Hid (∀ W, NodeRow W (some ⟨b, off, none⟩) len cap L → Calls Tryz.prog 10 #[forV (some ⟨b, off, none⟩) len cap m, .int .i64 X] W fun e w' => e = .returned (.int .i64 lg) ∧ Below W.heap.size W w') := Lib.hid (fun W h => by
          have := legO_any _ len cap m L X W h HM.out SM.out
          rwa [legO_nat hr.out (by rw [hlc.out]; exact hXl), hlg] at this)
        have CL2 : Hid (∀ W M2 a2 len2 cap2, NodeRow W a2 len2 cap2 M2 → coreL M2 = F2 → smallF M2 → Calls Tryz.prog 10 #[forV a2 len2 cap2 m, .int .i64 X] W fun e w' => e = .returned (.int .i64 lg) ∧ Below W.heap.size W w') := Lib.hid (fun W M2 a2 len2 cap2 h hc hs => by
          have := legO_any a2 len2 cap2 m M2 X W h HM.out hs
          rwa [hc, legO_nat h2 (by rw [h3, hlc.out]; exact hXl), h4, hlg] at this)
        have CB2 : Hid (∀ (W : World) (M2 : List NodeD) (a2 : Option Addr) (len2 cap2 i : Nat), NodeRow W a2 len2 cap2 M2 → coreL M2 = F2 → smallF M2 → i < len → Calls Tryz.prog 12 #[forV a2 len2 cap2 m, .int .i64 i] W fun e w' => e = .returned (.bool (barF F2 i)) ∧ Below W.heap.size W w') := Lib.hid (fun W M2 a2 len2 cap2 i h hc hs hi => by
          have := barO_any a2 len2 cap2 m M2 i W h HM.out hs
          rwa [hc, barO_nat h2 (by rw [h3, hlc.out]; exact hi)] at this)
        clear h2 h3 h4 h5 hlg
        go_enter Tryz.func3, Tryz.ntmps3
        go_upto_region 9 with (first
          | (first
                | (go_at_call 6; (with_reducible refine (AW.out _).mono ?_); rintro e w1 ⟨rfl, hb⟩; have BX := Lib.hid (BX.out.keep hb); clear z0 z1; have z0 := BX.out.c0; have z1 := BX.out.c1; clear hb)
                | (go_at_call 7; (with_reducible refine (refshortF_any _ _ _ _ _ _ BX.out.row).mono ?_); rintro e w1 ⟨rfl, hb⟩; rw [C0.out]; have BX := Lib.hid (BX.out.keep hb); clear z0 z1; have z0 := BX.out.c0; have z1 := BX.out.c1; clear hb)
                | (go_at_call 8; (with_reducible refine (HR.out _ BX.out.row).mono ?_); rintro e w1 ⟨rfl, hb⟩; have BX := Lib.hid (BX.out.keep hb); clear z0 z1; have z0 := BX.out.c0; have z1 := BX.out.c1; clear hb))
          | (go_at_call 9; (with_reducible refine (CS.out _ BX.out.row (HG.out.keep BX.out.below)).mono ?_); rintro e w5 ⟨a2, len2, cap2, M2, va, vl, vc, rfl, hr2, hc2, hs2, -, hb2, -⟩; have BX := Lib.hid (BX.out.keep hb2); have BY := Lib.hid (MBox.new (m := m) BX.out.below hr2 hc2).box; have BX := Lib.hid (BX.out.keep (below_box w5 (forB a2 len2 cap2 m))); have HS2 := Lib.hid hs2; clear z0 z1 hr2 hc2 hs2 hb2; have z0 := BX.out.c0; have z1 := BX.out.c1))
        go_upto_region 11 with (go_at_call 10; (with_reducible refine (CL1.out _ BX.out.row).mono ?_); rintro e w6 ⟨rfl, hb⟩; have BX := Lib.hid (BX.out.keep hb); have BY := Lib.hid (BY.out.keep hb); clear z0 z1 hb)
        have HX : Hid (∀ W, Below w6.heap.size w6 W → Box w W w.heap.size (some ⟨b, off, none⟩) len cap m L (coreL L)) := Lib.hid (fun W hb => BX.out.keep hb)
        have HY : Hid (∀ W, Below w6.heap.size w6 W → Box w W w5.heap.size a2 len2 cap2 m M2 F2) := Lib.hid (fun W hb => BY.out.keep hb)
        clear BX BY HR AW C0 CS CL1
        go_loopw [10] (fun i wr => ∃ k : Nat, k ≤ len ∧ i = .int .i64 k ∧ Hid (Below w6.heap.size w6 wr)) (fun i _ => len - (intOf i).toNat)
        case atStart => exact ⟨0, Nat.zero_le _, rfl, Lib.hid (Below.refl _ _)⟩
        case round =>
          obtain ⟨i, hi, rfl, HB⟩ := hrel
          have BX := Lib.hid (HX.out _ HB.out)
          have z0 := BX.out.c0
          have z1 := BX.out.c1
          by_cases hlt : i < len
          · obtain ⟨b1, off1, y1, hab, hb1, hy1, hat1, -⟩ := BX.out.row.get hXl
            injection hab with hab
            injection hab with hab1 hab2
            subst hab1
            subst hab2
            obtain rfl : y = y1 := Option.some.inj (hy.symm.trans hy1)
            obtain ⟨b2, off2, u, hab, hb2, hu, hatu, -⟩ := BX.out.row.get hlt
            injection hab with hab
            injection hab with hab1 hab2
            subst hab1
            subst hab2
            have c1 := hat1.c1
            have u0 := hatu.c0
            have hUC := coreL_get hu
            obtain ⟨fs, hfs⟩ : ∃ fs, (y.core.name.toList == [102, 105, 101, 108, 100, 115, 101, 116]) = fs := ⟨_, rfl⟩
            have hfs2 : fsetB (coreL L) X = fs := by unfold fsetB; rw [nameK_nat HYC.out]; exact hfs
            obtain ⟨kd, hkd⟩ : ∃ kd, (u.core.kind == 1) = kd := ⟨_, rfl⟩
            have hkd2 : decide (kindK (coreL L) (i : Int) = 1) = kd := by rw [kindK_at hUC, ← hkd]; rfl
            obtain ⟨q1, hq1⟩ : ∃ q, holdsF (coreL L) X i = q := ⟨_, rfl⟩
            obtain ⟨q2, hq2⟩ : ∃ q, holdsF (coreL L) lg.toNat i = q := ⟨_, rfl⟩
            obtain ⟨bf, hbf⟩ : ∃ q, barF (coreL L) i = q := ⟨_, rfl⟩
            obtain ⟨ln, hln⟩ : ∃ q, (lg == -1) = q := ⟨_, rfl⟩
            obtain ⟨un, hun⟩ : ∃ un, (fs && kd && q1 && (ln || !q2)) = un := ⟨_, rfl⟩
            have HBG : Hid (barF F2 i = (bf || decide (i = X) || un)) := Lib.hid (by
              rw [H5.out i, hfs2, hkd2, hq1, HLG.out, hq2, hbf, ← hun, ← hln]
              rfl)
            have CH1 : Hid (∀ W, NodeRow W (some ⟨b, off, none⟩) len cap L → Calls Tryz.prog 11 #[forV (some ⟨b, off, none⟩) len cap m, .int .i64 X, .int .i64 i] W fun e w' => e = .returned (.bool q1) ∧ Below W.heap.size W w') := Lib.hid (fun W h => by
              have := holdsFn_any _ len cap m L X i W h HM.out hX64.out ⟨by omega, by omega⟩ SM.out
              rwa [holdsZ_nat hr.out (by rw [hlc.out]; exact hXl) (by rw [hlc.out]; exact hlt), hq1] at this)
            have CH2a : Hid (ln = false → ∀ W, NodeRow W (some ⟨b, off, none⟩) len cap L → Calls Tryz.prog 11 #[forV (some ⟨b, off, none⟩) len cap m, .int .i64 lg, .int .i64 i] W fun e w' => e = .returned (.bool q2) ∧ Below W.heap.size W w') := Lib.hid (fun e0 W h => by
              rcases leg_is hr.out (show X < (coreL L).length by rw [hlc.out]; exact hXl) with h1 | ⟨j, h1, h2, _, _⟩
              · rw [HLG.out] at h1
                rw [h1] at hln
                rw [e0] at hln
                cases hln
              · rw [HLG.out] at h1
                subst h1
                have := holdsFn_any _ len cap m L j i W h HM.out ⟨by omega, by rw [hlc.out] at h2; omega⟩ ⟨by omega, by omega⟩ SM.out
                rw [holdsZ_nat hr.out h2 (by rw [hlc.out]; exact hlt)] at this
                rw [Int.toNat_natCast] at hq2
                rwa [hq2] at this)
            have CB1 : Hid (∀ W, NodeRow W (some ⟨b, off, none⟩) len cap L → Calls Tryz.prog 12 #[forV (some ⟨b, off, none⟩) len cap m, .int .i64 i] W fun e w' => e = .returned (.bool bf) ∧ Below W.heap.size W w') := Lib.hid (fun W h => by
              have := barO_any _ len cap m L i W h HM.out SM.out
              rwa [barO_nat hr.out (by rw [hlc.out]; exact hlt), hbf] at this)
            clear hat1 hatu hy1 hu hUC hq1 hq2 hbf hfs2 hkd2 hb1 hb2
            have HBC : Hid (Below wr.heap.size wr wr) := Lib.hid (Below.refl _ _)
            go_upto_region 13 with fail
            go_cut [11] (fun t wx => True ∧ t = .bool un ∧ Hid (Below wr.heap.size wr wx))
            case first =>
              cases fs with
              | false =>
                obtain rfl : false = un := hun
                go_wp2
                go_meet
                exact ⟨trivial, rfl, HBC⟩
              | true =>
                cases kd with
                | false =>
                  obtain rfl : false = un := hun
                  go_wp2
                  go_meet
                  exact ⟨trivial, rfl, HBC⟩
                | true =>
                  cases q1 with
                  | false =>
                    obtain rfl : false = un := hun
                    go_wp2_with (first
                                    | (go_at_call 11; (with_reducible refine (CH1.out _ BX.out.row).mono ?_); rintro e w7 ⟨rfl, hb⟩; have BX := Lib.hid (BX.out.keep hb); have HBC := Lib.hid (HBC.out.trans (hb.mono HBC.out.size)); clear hb z0 z1; have z0 := BX.out.c0; have z1 := BX.out.c1)
                                    | (go_at_call 11; (with_reducible refine (CH2.out _ BX.out.row).mono ?_); rintro e w8 ⟨rfl, hb⟩; have BX := Lib.hid (BX.out.keep hb); have HBC := Lib.hid (HBC.out.trans (hb.mono HBC.out.size)); clear hb z0 z1; have z0 := BX.out.c0; have z1 := BX.out.c1))
                    go_meet
                    exact ⟨trivial, rfl, HBC⟩
                  | true =>
                    cases ln with
                    | true =>
                      obtain rfl : true = un := hun
                      go_wp2_with (first
                                      | (go_at_call 11; (with_reducible refine (CH1.out _ BX.out.row).mono ?_); rintro e w7 ⟨rfl, hb⟩; have BX := Lib.hid (BX.out.keep hb); have HBC := Lib.hid (HBC.out.trans (hb.mono HBC.out.size)); clear hb z0 z1; have z0 := BX.out.c0; have z1 := BX.out.c1)
                                      | (go_at_call 11; (with_reducible refine (CH2.out _ BX.out.row).mono ?_); rintro e w8 ⟨rfl, hb⟩; have BX := Lib.hid (BX.out.keep hb); have HBC := Lib.hid (HBC.out.trans (hb.mono HBC.out.size)); clear hb z0 z1; have z0 := BX.out.c0; have z1 := BX.out.c1))
                      go_meet
                      exact ⟨trivial, rfl, HBC⟩
                    | false =>
                      have CH2 := Lib.hid (CH2a.out rfl)
                      clear CH2a
                      cases q2 with
                      | true =>
                        obtain rfl : false = un := hun
                        go_wp2_with (first
                                        | (go_at_call 11; (with_reducible refine (CH1.out _ BX.out.row).mono ?_); rintro e w7 ⟨rfl, hb⟩; have BX := Lib.hid (BX.out.keep hb); have HBC := Lib.hid (HBC.out.trans (hb.mono HBC.out.size)); clear hb z0 z1; have z0 := BX.out.c0; have z1 := BX.out.c1)
                                        | (go_at_call 11; (with_reducible refine (CH2.out _ BX.out.row).mono ?_); rintro e w8 ⟨rfl, hb⟩; have BX := Lib.hid (BX.out.keep hb); have HBC := Lib.hid (HBC.out.trans (hb.mono HBC.out.size)); clear hb z0 z1; have z0 := BX.out.c0; have z1 := BX.out.c1))
                        go_meet
                        exact ⟨trivial, rfl, HBC⟩
                      | false =>
                        obtain rfl : true = un := hun
                        go_wp2_with (first
                                        | (go_at_call 11; (with_reducible refine (CH1.out _ BX.out.row).mono ?_); rintro e w7 ⟨rfl, hb⟩; have BX := Lib.hid (BX.out.keep hb); have HBC := Lib.hid (HBC.out.trans (hb.mono HBC.out.size)); clear hb z0 z1; have z0 := BX.out.c0; have z1 := BX.out.c1)
                                        | (go_at_call 11; (with_reducible refine (CH2.out _ BX.out.row).mono ?_); rintro e w8 ⟨rfl, hb⟩; have BX := Lib.hid (BX.out.keep hb); have HBC := Lib.hid (HBC.out.trans (hb.mono HBC.out.size)); clear hb z0 z1; have z0 := BX.out.c0; have z1 := BX.out.c1))
                        go_meet
                        exact ⟨trivial, rfl, HBC⟩
            case rest =>
              obtain ⟨-, rfl, HBW⟩ := hcut
              have HB2 := Lib.hid (HB.out.trans (HBW.out.mono HB.out.size))
              have BX2 := HX.out _ HB2.out
              have BY2 := HY.out _ HB2.out
              have E0 := Ext.cell BX2.c0 BX2.lt
              have E1 := Ext.cell BX2.c1 BX2.lt
              have G0 := Ext.cell BY2.c0 BY2.lt
              have G1 := Ext.cell BY2.c1 BY2.lt
              obtain ⟨bg, hbg⟩ : ∃ q, barF F2 i = q := ⟨_, rfl⟩
              have hbv : (bf || decide (i = X) || un) = bg := by rw [← hbg, HBG.out]
              have KF : Hid (∀ Y : Ext wc, Calls Tryz.prog 12 #[forV (some ⟨b, off, none⟩) len cap m, .int .i64 i] Y.v fun e w' => e = .returned (.bool bf) ∧ Below Y.v.heap.size Y.v w') := Lib.hid (fun Y => CB1.out Y.v (BX2.keep Y.below).row)
              have KG : Hid (∀ Y : Ext wc, Calls Tryz.prog 12 #[forV a2 len2 cap2 m, .int .i64 i] Y.v fun e w' => e = .returned (.bool bg) ∧ Below Y.v.heap.size Y.v w') := Lib.hid (fun Y => by
                have := CB2.out Y.v M2 a2 len2 cap2 i (BY2.keep Y.below).row (BY2.keep Y.below).core HS2.out hlt
                rwa [hbg] at this)
              clear BX2 BY2 hbg z0 z1 c1 u0 BX HBC CH1 CH2a CB1 hln hun HBG hfs hkd
              cases bf with
              | true =>
                obtain rfl : true = bg := by rw [← hbv]; rfl
                (
                  go_upto_region 14 with fail
                  refine wp_region_ext (by kernel_rfl) (by kernel_rfl) ?_
                  repeat (go_big_quiet_step (first | (go_at_call 12; with_reducible exact Ext.call_below (KF.out _)) | (go_at_call 12; with_reducible exact Ext.call_below (KG.out _))))
                  refine wpQuiet_nil ?_
                  intro w' hw'
                  obtain ⟨⟨w8, hb8⟩, hw''⟩ := hw'
                  dsimp only at hw''
                  subst hw''
                  have HB9 := Lib.hid (HB2.out.trans (hb8.mono HB2.out.size))
                  clear E0 E1 G0 G1 KF KG hb8
                  go_wp2
                  go_roundw
                  case rel => exact ⟨i + 1, by omega, by go_num, HB9⟩
                  case measure => simp [intOf]; omega)
              | false =>
                by_cases hiX : i = X
                · have hie : ((i : Int) == (X : Int)) = true := by rw [hiX]; simp
                  obtain rfl : true = bg := by rw [← hbv, decide_eq_true hiX]; rfl
                  clear hiX
                  (
                    go_upto_region 14 with fail
                    refine wp_region_ext (by kernel_rfl) (by kernel_rfl) ?_
                    repeat (go_big_quiet_step (first | (go_at_call 12; with_reducible exact Ext.call_below (KF.out _)) | (go_at_call 12; with_reducible exact Ext.call_below (KG.out _))))
                    refine wpQuiet_nil ?_
                    intro w' hw'
                    obtain ⟨⟨w8, hb8⟩, hw''⟩ := hw'
                    dsimp only at hw''
                    subst hw''
                    have HB9 := Lib.hid (HB2.out.trans (hb8.mono HB2.out.size))
                    clear E0 E1 G0 G1 KF KG hb8
                    go_wp2
                    go_roundw
                    case rel => exact ⟨i + 1, by omega, by go_num, HB9⟩
                    case measure => simp [intOf]; omega)
                · have hie : ((i : Int) == (X : Int)) = false := beq_eq_false_iff_ne.2 (by omega)
                  obtain rfl : un = bg := by rw [← hbv, decide_eq_false hiX]; rfl
                  clear hiX
                  cases un with
                  | true => (
                              go_upto_region 14 with fail
                              refine wp_region_ext (by kernel_rfl) (by kernel_rfl) ?_
                              repeat (go_big_quiet_step (first | (go_at_call 12; with_reducible exact Ext.call_below (KF.out _)) | (go_at_call 12; with_reducible exact Ext.call_below (KG.out _))))
                              refine wpQuiet_nil ?_
                              intro w' hw'
                              obtain ⟨⟨w8, hb8⟩, hw''⟩ := hw'
                              dsimp only at hw''
                              subst hw''
                              have HB9 := Lib.hid (HB2.out.trans (hb8.mono HB2.out.size))
                              clear E0 E1 G0 G1 KF KG hb8
                              go_wp2
                              go_roundw
                              case rel => exact ⟨i + 1, by omega, by go_num, HB9⟩
                              case measure => simp [intOf]; omega)
                  | false => (
                               go_upto_region 14 with fail
                               refine wp_region_ext (by kernel_rfl) (by kernel_rfl) ?_
                               repeat (go_big_quiet_step (first | (go_at_call 12; with_reducible exact Ext.call_below (KF.out _)) | (go_at_call 12; with_reducible exact Ext.call_below (KG.out _))))
                               refine wpQuiet_nil ?_
                               intro w' hw'
                               obtain ⟨⟨w8, hb8⟩, hw''⟩ := hw'
                               dsimp only at hw''
                               subst hw''
                               have HB9 := Lib.hid (HB2.out.trans (hb8.mono HB2.out.size))
                               clear E0 E1 G0 G1 KF KG hb8
                               go_wp2
                               go_roundw
                               case rel => exact ⟨i + 1, by omega, by go_num, HB9⟩
                               case measure => simp [intOf]; omega)
          · obtain rfl : i = len := by omega
            have BY := Lib.hid (HY.out _ HB.out)
            have y0 := BY.out.c0
            have y1 := BY.out.c1
            go_wp2_with (go_at_call 10; (with_reducible refine (CL2.out _ _ _ _ _ BY.out.row BY.out.core HS2.out).mono ?_); rintro e w9 ⟨rfl, hb⟩; have BX := Lib.hid (BX.out.keep hb); clear hb z0 z1 y0 y1)
            go_ret
            exact ⟨by simp, BX.out.below⟩
      · have he2 : (e2 != 0) = true := bne_iff_ne.2 he
        clear he hy
        go_enter Tryz.func3, Tryz.ntmps3
        go_wp2_with (first
          | (first
                | (go_at_call 6; (with_reducible refine (AW.out _).mono ?_); rintro e w1 ⟨rfl, hb⟩; have BX := Lib.hid (BX.out.keep hb); clear z0 z1; have z0 := BX.out.c0; have z1 := BX.out.c1; clear hb)
                | (go_at_call 7; (with_reducible refine (refshortF_any _ _ _ _ _ _ BX.out.row).mono ?_); rintro e w1 ⟨rfl, hb⟩; rw [C0.out]; have BX := Lib.hid (BX.out.keep hb); clear z0 z1; have z0 := BX.out.c0; have z1 := BX.out.c1; clear hb)
                | (go_at_call 8; (with_reducible refine (HR.out _ BX.out.row).mono ?_); rintro e w1 ⟨rfl, hb⟩; have BX := Lib.hid (BX.out.keep hb); clear z0 z1; have z0 := BX.out.c0; have z1 := BX.out.c1; clear hb))
          | (go_at_call 9; (with_reducible refine (CS.out _ BX.out.row (HG.out.keep BX.out.below)).mono ?_); rintro e w5 ⟨a2, len2, cap2, M2, va, vl, vc, rfl, -, -, -, -, hb2, -⟩; have BX := Lib.hid (BX.out.keep hb2); have BX := Lib.hid (BX.out.keep (below_box w5 (forB a2 len2 cap2 m))); clear z0 z1 hb2))
        go_ret
        exact ⟨rfl, BX.out.below⟩
end Go.Proofs.YtnjoimedilonnaaGreatDoor
