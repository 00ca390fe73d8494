/- Texts joined in build order: OwnerNamedLaw. -/
import Derived.Test.YtkgbgnmmgmnnlaaGreatDoorA41
import Derived.Deep.RegionHeld3
import Derived.Deep.DeepCutAuto
namespace Go.Proofs.YtkgbgnmmgmnnlaaGreatDoor
open Go.RowKit
theorem root13 {a : Option Addr} {len cap : Nat} {m : Int} {L : List NodeD} {k : Nat} (hm : In64 m) (hs : smallF L) (hr : rightF m (coreL L) = true) (hk : k < len) (hl : (coreL L).length = len) (hl1 : len ≤ 1000) : ∀ W, NodeRow W a len cap L →
    Calls Tryz.prog 23 #[forV a len cap m, .int .i64 k] W fun e w' => e = .returned (.int .i64 (rootF (coreL L) k : Nat)) ∧ Below W.heap.size W w' := fun W h => by
  have := rootFn_any a len cap m L k W h hm ⟨by omega, by omega⟩ hs
  rwa [rootZ_eq hr (by rw [hl]; exact hk)] at this
set_option maxHeartbeats 16000000 in
set_option maxRecDepth 100000 in
theorem ownerNamed_walk (a : Option Addr) (len cap : Nat) (m : Int) (L : List NodeD) (x : Int) (w : World) (h : NodeRow w a len cap L) (hm : In64 m) (hx : 0 ≤ x ∧ x ≤ 255) (hg : ErrVar w) :
    Calls Tryz.prog 5 #[forV a len cap m, .int .u8 x] w fun e w' => e = .returned (.bool true) ∧ Below w.heap.size w w' := by
  have AW := Lib.hid (fun W h => awake13_any W h)
  have BX := Lib.hid (Box.start (m := m) h)
  have hl0 := h.len64
  have HL := Lib.hid h.hlen
  have HM := Lib.hid hm
  have HH := Lib.hid h
  have HG := Lib.hid hg
  have z0 := BX.out.c0
  have z1 := BX.out.c1
  clear h hm hg
  cases c0 : shortF L with
  | false =>
    have C0 := Lib.hid c0
    clear c0
    go_enter Tryz.func5, Tryz.ntmps5
    go_wp2_with (first
                    | (go_at_call 9; (with_reducible refine (AW.out _ (HG.out.keep BX.out.below)).mono ?_); rintro e w1 ⟨rfl, hb⟩; have BX := Lib.hid (BX.out.keep hb); clear z0 z1; have z0 := BX.out.c0; have z1 := BX.out.c1; clear hb)
                    | (go_at_call 10; (with_reducible refine (refshortF_any _ _ _ _ _ _ BX.out.row).mono ?_); rintro e w1 ⟨rfl, hb⟩; rw [C0.out]; have BX := Lib.hid (BX.out.keep hb); clear z0 z1; have z0 := BX.out.c0; have z1 := BX.out.c1; clear hb)
                    | (go_at_call 19; (with_reducible refine (HR.out _ BX.out.row).mono ?_); rintro e w1 ⟨rfl, hb⟩; have BX := Lib.hid (BX.out.keep hb); clear z0 z1; have z0 := BX.out.c0; have z1 := BX.out.c1; clear hb))
    go_ret
    exact ⟨rfl, BX.out.below⟩
  | true =>
    have C0 := Lib.hid c0
    have SM := Lib.hid (small_of_short c0)
    clear c0
    cases c1 : rightF m (coreL L) with
    | false =>
      have HR : Hid (∀ W, NodeRow W a len cap L → Calls Tryz.prog 19 #[forV a len cap m] W fun e w' => e = .returned (.bool false) ∧ Below W.heap.size W w') := Lib.hid (fun W h => by
        have := rightF_any a len cap m L W h HM.out SM.out
        rwa [c1] at this)
      clear c1
      go_enter Tryz.func5, Tryz.ntmps5
      go_wp2_with (first
                      | (go_at_call 9; (with_reducible refine (AW.out _ (HG.out.keep BX.out.below)).mono ?_); rintro e w1 ⟨rfl, hb⟩; have BX := Lib.hid (BX.out.keep hb); clear z0 z1; have z0 := BX.out.c0; have z1 := BX.out.c1; clear hb)
                      | (go_at_call 10; (with_reducible refine (refshortF_any _ _ _ _ _ _ BX.out.row).mono ?_); rintro e w1 ⟨rfl, hb⟩; rw [C0.out]; have BX := Lib.hid (BX.out.keep hb); clear z0 z1; have z0 := BX.out.c0; have z1 := BX.out.c1; clear hb)
                      | (go_at_call 19; (with_reducible refine (HR.out _ BX.out.row).mono ?_); rintro e w1 ⟨rfl, hb⟩; have BX := Lib.hid (BX.out.keep hb); clear z0 z1; have z0 := BX.out.c0; have z1 := BX.out.c1; clear hb))
      go_ret
      exact ⟨rfl, BX.out.below⟩
    | true =>
      have HR : Hid (∀ W, NodeRow W a len cap L → Calls Tryz.prog 19 #[forV a len cap m] W fun e w' => e = .returned (.bool true) ∧ Below W.heap.size W w') := Lib.hid (fun W h => by
        have := rightF_any a len cap m L W h HM.out SM.out
        rwa [c1] at this)
      have hr := Lib.hid c1
      have hlc : Hid ((coreL L).length = len) := Lib.hid (by rw [coreL_len, HL.out])
      have hlp : 0 < len := by
        have := right_len c1
        rwa [hlc.out] at this
      clear c1
      have hlen : len ≤ 1000 := by rw [← HL.out]; exact SM.out.1
      obtain ⟨X, hX⟩ : ∃ X : Nat, x % (len : Int) = X := ⟨(x % (len : Int)).toNat, by have := Int.emod_nonneg x (show (len : Int) ≠ 0 by omega); omega⟩
      have hXl : X < len := by have := Int.emod_lt_of_pos x (show (0 : Int) < len by omega); omega
      have hX64 : Hid (In64 (X : Int)) := Lib.hid ⟨by omega, by omega⟩
      obtain ⟨b, off, nx, rfl, hb, hgx, hat, hok⟩ := HH.out.get hXl
      have HXC := Lib.hid (coreL_get hgx)
      have C4 := Lib.hid (stays13 hat.c4 hb)
      have K0 := Lib.hid (stays13 hat.c0 hb)
      obtain ⟨VV, hVV⟩ : ∃ VV, valA nx.core.attrs formT = VV := ⟨_, rfl⟩
      obtain ⟨hh, hhh⟩ : ∃ hh, hasA nx.core.attrs formT = hh := ⟨_, rfl⟩
      have HHH := Lib.hid hhh
      have CG : Hid (∀ W, Below w.heap.size w W → Calls Tryz.prog 20 #[.slice nx.aA nx.aN nx.aC, .string ⟨#[102, 111, 114, 109]⟩] W fun e w' => e = .returned (.tuple #[.string VV, .bool hh]) ∧ Below W.heap.size W w') := Lib.hid (fun W hb => by
        have := attrget_any nx.aA nx.aN nx.aC nx.core.attrs ⟨#[102, 111, 114, 109]⟩ W (hok.attrs.below hb) (by decide)
        rwa [formK, hVV, hhh] at this)
      have CO : Hid (∀ W, NodeRow W (some ⟨b, off, none⟩) len cap L → Calls Tryz.prog 13 #[forV (some ⟨b, off, none⟩) len cap m, .int .i64 X] W fun e w' => e = .returned (.int .i64 (ownF (coreL L) X)) ∧ Below W.heap.size W w') := Lib.hid (fun W h => by
        have := ofO_any _ len cap m L X W h HM.out SM.out
        rwa [show ofO m (coreL L) X = ownF (coreL L) X by unfold ofO; rw [thereF_of hr.out (by rw [hlc.out]; exact hXl), if_pos rfl, Int.toNat_natCast]] at this)
      have CC : Hid (∀ W, NodeRow W (some ⟨b, off, none⟩) len cap L → Calls Tryz.prog 21 #[forV (some ⟨b, off, none⟩) len cap m, .int .i64 X] W fun e w' => e = .returned (.bool (linkF (coreL L) X)) ∧ Below W.heap.size W w') := Lib.hid (fun W h => by
        have := connFn_any _ len cap m L X W h HM.out hX64.out SM.out
        rwa [connZ_eq hr.out (by rw [hlc.out]; exact hXl), topZ_eq hr.out (by rw [hlc.out]; exact hXl)] at this)
      have CRX := Lib.hid (root13 (a := some ⟨b, off, none⟩) (cap := cap) HM.out SM.out hr.out hXl hlc.out hlen)
      have HKD : Hid (hh = true → nx.core.kind = 1) := Lib.hid (fun e => kind_of_attr hr.out HXC.out (hhh.trans e))
      have HWV : Hid (wantC nx.core = VV.toList) := Lib.hid (by unfold wantC; rw [hVV])
      have HVS : Hid (VV.size ≤ maxLen) := Lib.hid (by rw [← hVV]; exact val_le hok.attrs _)
      clear hgx hat hok hVV hhh hb
      cases hh with
      | false =>
        go_enter Tryz.func5, Tryz.ntmps5
        go_upto_region 6 with (first
                                  | (go_at_call 9; (with_reducible refine (AW.out _ (HG.out.keep BX.out.below)).mono ?_); rintro e w1 ⟨rfl, hb⟩; have BX := Lib.hid (BX.out.keep hb); clear z0 z1; have z0 := BX.out.c0; have z1 := BX.out.c1; clear hb)
                                  | (go_at_call 10; (with_reducible refine (refshortF_any _ _ _ _ _ _ BX.out.row).mono ?_); rintro e w1 ⟨rfl, hb⟩; rw [C0.out]; have BX := Lib.hid (BX.out.keep hb); clear z0 z1; have z0 := BX.out.c0; have z1 := BX.out.c1; clear hb)
                                  | (go_at_call 19; (with_reducible refine (HR.out _ BX.out.row).mono ?_); rintro e w1 ⟨rfl, hb⟩; have BX := Lib.hid (BX.out.keep hb); clear z0 z1; have z0 := BX.out.c0; have z1 := BX.out.c1; clear hb))
        have c4 := C4.out _ BX.out.below
        go_wp2_with (first
          | (go_at_call 20; (refine (CG.out _ BX.out.below).mono ?_); rintro e w1 ⟨rfl, hb⟩; have BX := Lib.hid (BX.out.keep hb); clear z0 z1 c4 hb))
        go_ret
        exact ⟨rfl, BX.out.below⟩
      | true =>
        have hkd := HKD.out rfl
        cases hlk : linkF (coreL L) X with
        | false =>
          rw [hlk] at CC
          clear hlk hkd
          go_enter Tryz.func5, Tryz.ntmps5
          go_upto_region 6 with (first
                                    | (go_at_call 9; (with_reducible refine (AW.out _ (HG.out.keep BX.out.below)).mono ?_); rintro e w1 ⟨rfl, hb⟩; have BX := Lib.hid (BX.out.keep hb); clear z0 z1; have z0 := BX.out.c0; have z1 := BX.out.c1; clear hb)
                                    | (go_at_call 10; (with_reducible refine (refshortF_any _ _ _ _ _ _ BX.out.row).mono ?_); rintro e w1 ⟨rfl, hb⟩; rw [C0.out]; have BX := Lib.hid (BX.out.keep hb); clear z0 z1; have z0 := BX.out.c0; have z1 := BX.out.c1; clear hb)
                                    | (go_at_call 19; (with_reducible refine (HR.out _ BX.out.row).mono ?_); rintro e w1 ⟨rfl, hb⟩; have BX := Lib.hid (BX.out.keep hb); clear z0 z1; have z0 := BX.out.c0; have z1 := BX.out.c1; clear hb))
          have c4 := C4.out _ BX.out.below
          go_wp2_with (first
            | (go_at_call 20; (refine (CG.out _ BX.out.below).mono ?_); rintro e w1 ⟨rfl, hb⟩; have BX := Lib.hid (BX.out.keep hb); clear z0 z1 c4; have z0 := BX.out.c0; have z1 := BX.out.c1; clear hb)
            | (go_at_call 21; (with_reducible refine (CC.out _ BX.out.row).mono ?_); rintro e w1 ⟨rfl, hb⟩; have BX := Lib.hid (BX.out.keep hb); clear z0 z1 hb))
          go_ret
          exact ⟨rfl, BX.out.below⟩
        | true =>
          rw [hlk] at CC
          have NA : Hid (NamedIs m (coreL L) X VV.toList) := Lib.hid (by rw [← HWV.out]; exact named_is hr.out HXC.out hkd HHH.out hlk)
          clear hlk hkd K0
          go_enter Tryz.func5, Tryz.ntmps5
          go_upto_region 6 with (first
                                    | (go_at_call 9; (with_reducible refine (AW.out _ (HG.out.keep BX.out.below)).mono ?_); rintro e w1 ⟨rfl, hb⟩; have BX := Lib.hid (BX.out.keep hb); clear z0 z1; have z0 := BX.out.c0; have z1 := BX.out.c1; clear hb)
                                    | (go_at_call 10; (with_reducible refine (refshortF_any _ _ _ _ _ _ BX.out.row).mono ?_); rintro e w1 ⟨rfl, hb⟩; rw [C0.out]; have BX := Lib.hid (BX.out.keep hb); clear z0 z1; have z0 := BX.out.c0; have z1 := BX.out.c1; clear hb)
                                    | (go_at_call 19; (with_reducible refine (HR.out _ BX.out.row).mono ?_); rintro e w1 ⟨rfl, hb⟩; have BX := Lib.hid (BX.out.keep hb); clear z0 z1; have z0 := BX.out.c0; have z1 := BX.out.c1; clear hb))
          have c4 := C4.out _ BX.out.below
          go_upto_region 10 with (first
            | (go_at_call 20; (refine (CG.out _ BX.out.below).mono ?_); rintro e w1 ⟨rfl, hb⟩; have BX := Lib.hid (BX.out.keep hb); clear z0 z1 c4; have z0 := BX.out.c0; have z1 := BX.out.c1; clear hb)
            | (go_at_call 21; (with_reducible refine (CC.out _ BX.out.row).mono ?_); rintro e w1 ⟨rfl, hb⟩; have BX := Lib.hid (BX.out.keep hb); clear z0 z1; have z0 := BX.out.c0; have z1 := BX.out.c1; clear hb)
            | (go_at_call 13; (with_reducible refine (CO.out _ BX.out.row).mono ?_); rintro e w2 ⟨rfl, hb⟩; have BX := Lib.hid (BX.out.keep hb); clear z0 z1; have z0 := BX.out.c0; have z1 := BX.out.c1; clear hb))
          clear CG CC C4 AW HG HR
          rcases NA.out with ⟨hO, hA⟩ | ⟨P, hO, hPl, hPh, hPi, hne, hPf, hPr, hA⟩
          · rw [hO]
            have hA := Lib.hid hA
            clear NA hO CO
            have HX : Hid (∀ W, Below w2.heap.size w2 W → Box w W w.heap.size (some ⟨b, off, none⟩) len cap m L (coreL L)) := Lib.hid (fun W hb => BX.out.keep hb)
            clear BX z0 z1
            go_wp2
            go_loopw [11] (fun i wr => ∃ k : Nat, k ≤ len ∧ i = .int .i64 k ∧ Hid (Below w2.heap.size w2 wr)) (fun i _ => len - (intOf i).toNat)
            case atStart => exact ⟨0, Nat.zero_le _, rfl, Lib.hid (Below.refl _ _)⟩
            case round =>
              obtain ⟨k, hk, rfl, HB⟩ := hrel
              have BX := Lib.hid (HX.out _ HB.out)
              have z0 := BX.out.c0
              have z1 := BX.out.c1
              by_cases hlt : k < len
              · obtain ⟨b2, off2, y, hab, hb2, hy, hat, hok⟩ := BX.out.row.get hlt
                injection hab with hab
                injection hab with hab1 hab2
                subst hab1
                subst hab2
                have c4 := hat.c4
                have C1 := Lib.hid (stays13 hat.c1 hb2)
                have HFB : Hid (formB (coreL L) k = (y.core.name.toList == [102, 111, 114, 109])) := Lib.hid (by rw [formB_at (coreL_get hy)]; rfl)
                have HIK : Hid (idF (coreL L) k = (valA y.core.attrs idT).toList) := Lib.hid (by rw [idF_at (coreL_get hy)]; rfl)
                obtain ⟨V, hV⟩ : ∃ V, valA y.core.attrs idT = V := ⟨_, rfl⟩
                obtain ⟨hh, hhh⟩ : ∃ hh, hasA y.core.attrs idT = hh := ⟨_, rfl⟩
                have CGK : Hid (Calls Tryz.prog 20 #[.slice y.aA y.aN y.aC, .string ⟨#[105, 100]⟩] wr fun e w' => e = .returned (.tuple #[.string V, .bool hh]) ∧ Below wr.heap.size wr w') := Lib.hid (by
                  have := get13 hok ⟨#[105, 100]⟩ (by decide) idK wr (Below.refl _ _)
                  rwa [hV, hhh] at this)
                rw [hV] at HIK
                have CRK := Lib.hid (root13 (a := some ⟨b, off, none⟩) (cap := cap) HM.out SM.out hr.out hlt hlc.out hlen)
                obtain ⟨RK, hRK⟩ : ∃ RK : Int, ((rootF (coreL L) k : Nat) : Int) = RK := ⟨_, rfl⟩
                rw [hRK] at CRK
                clear hy hat hok hb2 hV hhh
                cases hh with
                | false =>
                  go_upto_region 18 with (go_at_call 20; (refine CGK.out.mono ?_); rintro e w1 ⟨rfl, hb⟩; have HB1w : Hid (∀ W, Below w1.heap.size w1 W → Below wr.heap.size wr W) := Lib.hid (fun W h => hb.trans (h.mono hb.size)); have HB1 := Lib.hid (HB.out.trans (hb.mono HB.out.size)); clear z0 z1 c4 hb)
                  have HX1 : Hid (∀ W, Below w1.heap.size w1 W → Box w W w.heap.size (some ⟨b, off, none⟩) len cap m L (coreL L)) := Lib.hid (fun W hb => HX.out W (HB1.out.trans (hb.mono HB1.out.size)))
                  have BX := Lib.hid (HX1.out _ (Below.refl _ _))
                  have E0 := Ext.cell BX.out.c0 BX.out.lt
                  have E1 := Ext.cell BX.out.c1 BX.out.lt
                  have CK : Hid (∀ Y : Ext w1, Calls Tryz.prog 23 #[forV (some ⟨b, off, none⟩) len cap m, .int .i64 k] Y.v fun e w' => e = .returned (.int .i64 RK) ∧ Below Y.v.heap.size Y.v w') := Lib.hid (fun Y => CRK.out Y.v (HX1.out _ Y.below).row)
                  have CX : Hid (∀ Y : Ext w1, Calls Tryz.prog 23 #[forV (some ⟨b, off, none⟩) len cap m, .int .i64 (X : Int)] Y.v fun e w' => e = .returned (.int .i64 (rootF (coreL L) X : Nat)) ∧ Below Y.v.heap.size Y.v w') := Lib.hid (fun Y => CRX.out Y.v (HX1.out _ Y.below).row)
                  clear BX
                  refine wp_region_ext (by kernel_rfl) (by kernel_rfl) ?_
                  repeat (go_big_quiet_step (first | (go_at_call 23; with_reducible exact Ext.call_below (CK.out _)) | (go_at_call 23; with_reducible exact Ext.call_below (CX.out _))))
                  refine wpQuiet_nil ?_
                  intro w' hw'
                  obtain ⟨⟨w8, hb8⟩, hw''⟩ := hw'
                  dsimp only at hw''
                  subst hw''
                  have HWX := Lib.hid hb8
                  clear E0 E1 CK CX hb8
                  have HB2 := Lib.hid (HB1.out.trans (HWX.out.mono HB1.out.size))
                  go_wp2
                  go_roundw
                  case rel => exact ⟨k + 1, by omega, by go_num, HB2⟩
                  case measure => simp [intOf]; omega
                | true =>
                  cases hv : (V.toList == VV.toList) with
                  | false =>
                    go_upto_region 18 with (go_at_call 20; (refine CGK.out.mono ?_); rintro e w1 ⟨rfl, hb⟩; have HB1w : Hid (∀ W, Below w1.heap.size w1 W → Below wr.heap.size wr W) := Lib.hid (fun W h => hb.trans (h.mono hb.size)); have HB1 := Lib.hid (HB.out.trans (hb.mono HB.out.size)); clear z0 z1 c4 hb)
                    have HX1 : Hid (∀ W, Below w1.heap.size w1 W → Box w W w.heap.size (some ⟨b, off, none⟩) len cap m L (coreL L)) := Lib.hid (fun W hb => HX.out W (HB1.out.trans (hb.mono HB1.out.size)))
                    have BX := Lib.hid (HX1.out _ (Below.refl _ _))
                    have E0 := Ext.cell BX.out.c0 BX.out.lt
                    have E1 := Ext.cell BX.out.c1 BX.out.lt
                    have CK : Hid (∀ Y : Ext w1, Calls Tryz.prog 23 #[forV (some ⟨b, off, none⟩) len cap m, .int .i64 k] Y.v fun e w' => e = .returned (.int .i64 RK) ∧ Below Y.v.heap.size Y.v w') := Lib.hid (fun Y => CRK.out Y.v (HX1.out _ Y.below).row)
                    have CX : Hid (∀ Y : Ext w1, Calls Tryz.prog 23 #[forV (some ⟨b, off, none⟩) len cap m, .int .i64 (X : Int)] Y.v fun e w' => e = .returned (.int .i64 (rootF (coreL L) X : Nat)) ∧ Below Y.v.heap.size Y.v w') := Lib.hid (fun Y => CRX.out Y.v (HX1.out _ Y.below).row)
                    clear BX
                    refine wp_region_ext (by kernel_rfl) (by kernel_rfl) ?_
                    repeat (go_big_quiet_step (first | (go_at_call 23; with_reducible exact Ext.call_below (CK.out _)) | (go_at_call 23; with_reducible exact Ext.call_below (CX.out _))))
                    refine wpQuiet_nil ?_
                    intro w' hw'
                    obtain ⟨⟨w8, hb8⟩, hw''⟩ := hw'
                    dsimp only at hw''
                    subst hw''
                    have HWX := Lib.hid hb8
                    clear E0 E1 CK CX hb8
                    have HB2 := Lib.hid (HB1.out.trans (HWX.out.mono HB1.out.size))
                    go_wp2
                    go_roundw
                    case rel => exact ⟨k + 1, by omega, by go_num, HB2⟩
                    case measure => simp [intOf]; omega
                  | true =>
                    have HVE := Lib.hid (beq_iff_eq.1 hv)
                    cases hem : VV.toList.isEmpty with
                    | true =>
                      go_upto_region 18 with (go_at_call 20; (refine CGK.out.mono ?_); rintro e w1 ⟨rfl, hb⟩; have HB1w : Hid (∀ W, Below w1.heap.size w1 W → Below wr.heap.size wr W) := Lib.hid (fun W h => hb.trans (h.mono hb.size)); have HB1 := Lib.hid (HB.out.trans (hb.mono HB.out.size)); clear z0 z1 c4 hb)
                      have HX1 : Hid (∀ W, Below w1.heap.size w1 W → Box w W w.heap.size (some ⟨b, off, none⟩) len cap m L (coreL L)) := Lib.hid (fun W hb => HX.out W (HB1.out.trans (hb.mono HB1.out.size)))
                      have BX := Lib.hid (HX1.out _ (Below.refl _ _))
                      have E0 := Ext.cell BX.out.c0 BX.out.lt
                      have E1 := Ext.cell BX.out.c1 BX.out.lt
                      have CK : Hid (∀ Y : Ext w1, Calls Tryz.prog 23 #[forV (some ⟨b, off, none⟩) len cap m, .int .i64 k] Y.v fun e w' => e = .returned (.int .i64 RK) ∧ Below Y.v.heap.size Y.v w') := Lib.hid (fun Y => CRK.out Y.v (HX1.out _ Y.below).row)
                      have CX : Hid (∀ Y : Ext w1, Calls Tryz.prog 23 #[forV (some ⟨b, off, none⟩) len cap m, .int .i64 (X : Int)] Y.v fun e w' => e = .returned (.int .i64 (rootF (coreL L) X : Nat)) ∧ Below Y.v.heap.size Y.v w') := Lib.hid (fun Y => CRX.out Y.v (HX1.out _ Y.below).row)
                      clear BX
                      refine wp_region_ext (by kernel_rfl) (by kernel_rfl) ?_
                      repeat (go_big_quiet_step (first | (go_at_call 23; with_reducible exact Ext.call_below (CK.out _)) | (go_at_call 23; with_reducible exact Ext.call_below (CX.out _))))
                      refine wpQuiet_nil ?_
                      intro w' hw'
                      obtain ⟨⟨w8, hb8⟩, hw''⟩ := hw'
                      dsimp only at hw''
                      subst hw''
                      have HWX := Lib.hid hb8
                      clear E0 E1 CK CX hb8
                      have HB2 := Lib.hid (HB1.out.trans (HWX.out.mono HB1.out.size))
                      go_wp2
                      go_roundw
                      case rel => exact ⟨k + 1, by omega, by go_num, HB2⟩
                      case measure => simp [intOf]; omega
                    | false =>
                      by_cases hro : rootF (coreL L) k = rootF (coreL L) X
                      · have HRO := Lib.hid hro
                        have hrn : (RK != ((rootF (coreL L) X : Nat) : Int)) = false := by rw [← hRK, hro]; exact bne_self_eq_false _
                        clear hro
                        go_upto_region 18 with (go_at_call 20; (refine CGK.out.mono ?_); rintro e w1 ⟨rfl, hb⟩; have HB1w : Hid (∀ W, Below w1.heap.size w1 W → Below wr.heap.size wr W) := Lib.hid (fun W h => hb.trans (h.mono hb.size)); have HB1 := Lib.hid (HB.out.trans (hb.mono HB.out.size)); clear z0 z1 c4 hb)
                        have HX1 : Hid (∀ W, Below w1.heap.size w1 W → Box w W w.heap.size (some ⟨b, off, none⟩) len cap m L (coreL L)) := Lib.hid (fun W hb => HX.out W (HB1.out.trans (hb.mono HB1.out.size)))
                        have BX := Lib.hid (HX1.out _ (Below.refl _ _))
                        have E0 := Ext.cell BX.out.c0 BX.out.lt
                        have E1 := Ext.cell BX.out.c1 BX.out.lt
                        have CK : Hid (∀ Y : Ext w1, Calls Tryz.prog 23 #[forV (some ⟨b, off, none⟩) len cap m, .int .i64 k] Y.v fun e w' => e = .returned (.int .i64 RK) ∧ Below Y.v.heap.size Y.v w') := Lib.hid (fun Y => CRK.out Y.v (HX1.out _ Y.below).row)
                        have CX : Hid (∀ Y : Ext w1, Calls Tryz.prog 23 #[forV (some ⟨b, off, none⟩) len cap m, .int .i64 (X : Int)] Y.v fun e w' => e = .returned (.int .i64 (rootF (coreL L) X : Nat)) ∧ Below Y.v.heap.size Y.v w') := Lib.hid (fun Y => CRX.out Y.v (HX1.out _ Y.below).row)
                        clear BX
                        refine wp_region_ext (by kernel_rfl) (by kernel_rfl) ?_
                        repeat (go_big_quiet_step (first | (go_at_call 23; with_reducible exact Ext.call_below (CK.out _)) | (go_at_call 23; with_reducible exact Ext.call_below (CX.out _))))
                        refine wpQuiet_nil ?_
                        intro w' hw'
                        obtain ⟨⟨w8, hb8⟩, hw''⟩ := hw'
                        dsimp only at hw''
                        subst hw''
                        have HWX := Lib.hid hb8
                        clear E0 E1 CK CX hb8
                        have HB2 := Lib.hid (HB1.out.trans (HWX.out.mono HB1.out.size))
                        have BX := Lib.hid (HX.out _ HB2.out)
                        have z0 := BX.out.c0
                        have z1 := BX.out.c1
                        have c1 := C1.out _ (HB1w.out _ HWX.out)
                        cases hf : (y.core.name.toList == [102, 111, 114, 109]) with
                        | false =>
                          go_wp2
                          go_roundw
                          case rel => exact ⟨k + 1, by omega, by go_num, HB2⟩
                          case measure => simp [intOf]; omega
                        | true =>
                          obtain ⟨j, hj1, hj2, hj3, hj4⟩ := hA.out k (by rw [hlc.out]; exact hlt) (HIK.out.trans HVE.out) (fun e => by rw [e] at hem; cases hem) HRO.out (by rw [HFB.out, hf])
                          have CFI : Hid (∀ W, NodeRow W (some ⟨b, off, none⟩) len cap L → Calls Tryz.prog 25 #[forV (some ⟨b, off, none⟩) len cap m, .int .i64 k, .string VV] W fun e w' => e = .returned (.bool false) ∧ Below W.heap.size W w') := Lib.hid (fun W h => first13_no _ len cap m L k j VV W h HM.out SM.out hlt (by rw [← hlc.out]; exact hj1) hj2 hj3 hj4)
                          clear hj1 hj2 hj3 hj4
                          go_wp2_with (go_at_call 25; (with_reducible refine (CFI.out _ BX.out.row).mono ?_); rintro e w5 ⟨rfl, hb⟩; have HB5 := Lib.hid (HB2.out.trans (hb.mono HB2.out.size)); clear z0 z1 hb)
                          go_roundw
                          case rel => exact ⟨k + 1, by omega, by go_num, HB5⟩
                          case measure => simp [intOf]; omega
                      · have hrn : (RK != ((rootF (coreL L) X : Nat) : Int)) = true := bne_iff_ne.2 (fun e => hro (by omega))
                        clear hro
                        go_upto_region 18 with (go_at_call 20; (refine CGK.out.mono ?_); rintro e w1 ⟨rfl, hb⟩; have HB1w : Hid (∀ W, Below w1.heap.size w1 W → Below wr.heap.size wr W) := Lib.hid (fun W h => hb.trans (h.mono hb.size)); have HB1 := Lib.hid (HB.out.trans (hb.mono HB.out.size)); clear z0 z1 c4 hb)
                        have HX1 : Hid (∀ W, Below w1.heap.size w1 W → Box w W w.heap.size (some ⟨b, off, none⟩) len cap m L (coreL L)) := Lib.hid (fun W hb => HX.out W (HB1.out.trans (hb.mono HB1.out.size)))
                        have BX := Lib.hid (HX1.out _ (Below.refl _ _))
                        have E0 := Ext.cell BX.out.c0 BX.out.lt
                        have E1 := Ext.cell BX.out.c1 BX.out.lt
                        have CK : Hid (∀ Y : Ext w1, Calls Tryz.prog 23 #[forV (some ⟨b, off, none⟩) len cap m, .int .i64 k] Y.v fun e w' => e = .returned (.int .i64 RK) ∧ Below Y.v.heap.size Y.v w') := Lib.hid (fun Y => CRK.out Y.v (HX1.out _ Y.below).row)
                        have CX : Hid (∀ Y : Ext w1, Calls Tryz.prog 23 #[forV (some ⟨b, off, none⟩) len cap m, .int .i64 (X : Int)] Y.v fun e w' => e = .returned (.int .i64 (rootF (coreL L) X : Nat)) ∧ Below Y.v.heap.size Y.v w') := Lib.hid (fun Y => CRX.out Y.v (HX1.out _ Y.below).row)
                        clear BX
                        refine wp_region_ext (by kernel_rfl) (by kernel_rfl) ?_
                        repeat (go_big_quiet_step (first | (go_at_call 23; with_reducible exact Ext.call_below (CK.out _)) | (go_at_call 23; with_reducible exact Ext.call_below (CX.out _))))
                        refine wpQuiet_nil ?_
                        intro w' hw'
                        obtain ⟨⟨w8, hb8⟩, hw''⟩ := hw'
                        dsimp only at hw''
                        subst hw''
                        have HWX := Lib.hid hb8
                        clear E0 E1 CK CX hb8
                        have HB2 := Lib.hid (HB1.out.trans (HWX.out.mono HB1.out.size))
                        go_wp2
                        go_roundw
                        case rel => exact ⟨k + 1, by omega, by go_num, HB2⟩
                        case measure => simp [intOf]; omega
              · go_wp2
                go_ret
                exact ⟨rfl, BX.out.below⟩
          · rw [hO]
            have hA := Lib.hid hA
            clear NA hO CO
            have hPL : P < len := by rw [← hlc.out]; exact hPl
            obtain ⟨b2, off2, y, hab, hb2, hy, hat, hok⟩ := BX.out.row.get hPL
            injection hab with hab
            injection hab with hab1 hab2
            subst hab1
            subst hab2
            have c4 := hat.c4
            have C1 := Lib.hid (stays13 hat.c1 hb2)
            have hf : (y.core.name.toList == [102, 111, 114, 109]) = true := by rw [formB_at (coreL_get hy)] at hPf; exact hPf
            have CGP : Hid (Calls Tryz.prog 20 #[.slice y.aA y.aN y.aC, .string ⟨#[105, 100]⟩] w2 fun e w' => e = .returned (.tuple #[.string VV, .bool true]) ∧ Below w2.heap.size w2 w') := Lib.hid (by
              have := get13 hok ⟨#[105, 100]⟩ (by decide) idK w2 (Below.refl _ _)
              have e1 : hasA y.core.attrs idT = true := by rw [← hasId_at (coreL_get hy)]; exact hPh
              have e2 : valA y.core.attrs idT = VV := toList_inj (by have h := hPi; rw [idF_at (coreL_get hy)] at h; exact h)
              rwa [e1, e2] at this)
            have hPn : ((P : Int) != -1) = true := bne_iff_ne.2 (by omega)
            have hPm : ((P : Int) == -1) = false := beq_eq_false_iff_ne.2 (by omega)
            have hem : VV.toList.isEmpty = false := by rw [Bool.eq_false_iff]; exact fun h2 => hne (List.isEmpty_iff.1 h2)
            have CRK : Hid (∀ W, NodeRow W (some ⟨b, off, none⟩) len cap L → Calls Tryz.prog 23 #[forV (some ⟨b, off, none⟩) len cap m, .int .i64 P] W fun e w' => e = .returned (.int .i64 (rootF (coreL L) X : Nat)) ∧ Below W.heap.size W w') := Lib.hid (fun W h => by
              rw [← hPr]
              exact root13 HM.out SM.out hr.out hPL hlc.out hlen W h)
            have HX : Hid (∀ W, Below w2.heap.size w2 W → Box w W w.heap.size (some ⟨b, off, none⟩) len cap m L (coreL L)) := Lib.hid (fun W hb => BX.out.keep hb)
            have HB2L := Lib.hid hb2
            clear hy hat hok hb2 hPf hPh hPi hne hPr
            go_upto_region 12 with (go_at_call 20; (refine CGP.out.mono ?_); rintro e w1 ⟨rfl, hb⟩; have HB1 := Lib.hid hb; clear z0 z1 c4 hb)
            have HX1 : Hid (∀ W, Below w1.heap.size w1 W → Box w W w.heap.size (some ⟨b, off, none⟩) len cap m L (coreL L)) := Lib.hid (fun W hb => HX.out W (HB1.out.trans (hb.mono HB1.out.size)))
            have BX := Lib.hid (HX1.out _ (Below.refl _ _))
            have z0 := BX.out.c0
            have z1 := BX.out.c1
            have c1 := C1.out _ HB1.out
            have LT := Lib.hid BX.out.lt
            have LT2 : Hid (b < w1.heap.size) := Lib.hid (Nat.lt_of_lt_of_le HB2L.out HB1.out.size)
            have E0 := Ext.cell z0 LT.out
            have E1 := Ext.cell z1 LT.out
            have EC := Ext.cell c1 LT2.out
            have CK : Hid (∀ Y : Ext w1, Calls Tryz.prog 23 #[forV (some ⟨b, off, none⟩) len cap m, .int .i64 P] Y.v fun e w' => e = .returned (.int .i64 (rootF (coreL L) X : Nat)) ∧ Below Y.v.heap.size Y.v w') := Lib.hid (fun Y => CRK.out Y.v (HX1.out _ Y.below).row)
            have CX : Hid (∀ Y : Ext w1, Calls Tryz.prog 23 #[forV (some ⟨b, off, none⟩) len cap m, .int .i64 (X : Int)] Y.v fun e w' => e = .returned (.int .i64 (rootF (coreL L) X : Nat)) ∧ Below Y.v.heap.size Y.v w') := Lib.hid (fun Y => CRX.out Y.v (HX1.out _ Y.below).row)
            clear BX C1 c1 z0 z1
            refine wp_region_ext (by kernel_rfl) (by kernel_rfl) ?_
            repeat (go_big_quiet_step (first | (go_at_call 23; with_reducible exact Ext.call_below (CK.out _)) | (go_at_call 23; with_reducible exact Ext.call_below (CX.out _))))
            refine wpQuiet_nil ?_
            intro w' hw'
            obtain ⟨⟨w8, hb8⟩, hw''⟩ := hw'
            dsimp only at hw''
            subst hw''
            have HX : Hid (∀ W, Below w'.heap.size w' W → Box w W w.heap.size (some ⟨b, off, none⟩) len cap m L (coreL L)) := Lib.hid (fun W hb => HX1.out W (hb8.trans (hb.mono hb8.size)))
            clear HX1 HB1 LT LT2 CRK HB2L hf hem E0 E1 EC CK CX hb8
            go_wp2
            go_loopw [11] (fun i wr => ∃ k : Nat, k ≤ len ∧ i = .int .i64 k ∧ Hid (Below w'.heap.size w' wr)) (fun i _ => len - (intOf i).toNat)
            case atStart => exact ⟨0, Nat.zero_le _, rfl, Lib.hid (Below.refl _ _)⟩
            case round =>
              obtain ⟨k, hk, rfl, HB⟩ := hrel
              have BX := Lib.hid (HX.out _ HB.out)
              have z0 := BX.out.c0
              have z1 := BX.out.c1
              by_cases hlt : k < len
              · obtain ⟨b2, off2, y, hab, hb2, hy, hat, hok⟩ := BX.out.row.get hlt
                injection hab with hab
                injection hab with hab1 hab2
                subst hab1
                subst hab2
                have c4 := hat.c4
                have C1 := Lib.hid (stays13 hat.c1 hb2)
                have HFB : Hid (formB (coreL L) k = (y.core.name.toList == [102, 111, 114, 109])) := Lib.hid (by rw [formB_at (coreL_get hy)]; rfl)
                have HIK : Hid (idF (coreL L) k = (valA y.core.attrs idT).toList) := Lib.hid (by rw [idF_at (coreL_get hy)]; rfl)
                obtain ⟨V, hV⟩ : ∃ V, valA y.core.attrs idT = V := ⟨_, rfl⟩
                obtain ⟨hh, hhh⟩ : ∃ hh, hasA y.core.attrs idT = hh := ⟨_, rfl⟩
                have CGK : Hid (Calls Tryz.prog 20 #[.slice y.aA y.aN y.aC, .string ⟨#[105, 100]⟩] wr fun e w' => e = .returned (.tuple #[.string V, .bool hh]) ∧ Below wr.heap.size wr w') := Lib.hid (by
                  have := get13 hok ⟨#[105, 100]⟩ (by decide) idK wr (Below.refl _ _)
                  rwa [hV, hhh] at this)
                rw [hV] at HIK
                have CRK := Lib.hid (root13 (a := some ⟨b, off, none⟩) (cap := cap) HM.out SM.out hr.out hlt hlc.out hlen)
                obtain ⟨RK, hRK⟩ : ∃ RK : Int, ((rootF (coreL L) k : Nat) : Int) = RK := ⟨_, rfl⟩
                rw [hRK] at CRK
                clear hy hat hok hb2 hV hhh
                cases hh with
                | false =>
                  go_upto_region 18 with (go_at_call 20; (refine CGK.out.mono ?_); rintro e w1 ⟨rfl, hb⟩; have HB1 := Lib.hid (HB.out.trans (hb.mono HB.out.size)); clear z0 z1 c4 hb)
                  have HX1 : Hid (∀ W, Below w1.heap.size w1 W → Box w W w.heap.size (some ⟨b, off, none⟩) len cap m L (coreL L)) := Lib.hid (fun W hb => HX.out W (HB1.out.trans (hb.mono HB1.out.size)))
                  have BX := Lib.hid (HX1.out _ (Below.refl _ _))
                  have E0 := Ext.cell BX.out.c0 BX.out.lt
                  have E1 := Ext.cell BX.out.c1 BX.out.lt
                  have CK : Hid (∀ Y : Ext w1, Calls Tryz.prog 23 #[forV (some ⟨b, off, none⟩) len cap m, .int .i64 k] Y.v fun e w' => e = .returned (.int .i64 RK) ∧ Below Y.v.heap.size Y.v w') := Lib.hid (fun Y => CRK.out Y.v (HX1.out _ Y.below).row)
                  have CX : Hid (∀ Y : Ext w1, Calls Tryz.prog 23 #[forV (some ⟨b, off, none⟩) len cap m, .int .i64 (X : Int)] Y.v fun e w' => e = .returned (.int .i64 (rootF (coreL L) X : Nat)) ∧ Below Y.v.heap.size Y.v w') := Lib.hid (fun Y => CRX.out Y.v (HX1.out _ Y.below).row)
                  clear BX
                  refine wp_region_ext (by kernel_rfl) (by kernel_rfl) ?_
                  repeat (go_big_quiet_step (first | (go_at_call 23; with_reducible exact Ext.call_below (CK.out _)) | (go_at_call 23; with_reducible exact Ext.call_below (CX.out _))))
                  refine wpQuiet_nil ?_
                  intro w' hw'
                  obtain ⟨⟨w8, hb8⟩, hw''⟩ := hw'
                  dsimp only at hw''
                  subst hw''
                  have HWX := Lib.hid hb8
                  clear E0 E1 CK CX hb8
                  have HB2 := Lib.hid (HB1.out.trans (HWX.out.mono HB1.out.size))
                  go_wp2
                  go_roundw
                  case rel => exact ⟨k + 1, by omega, by go_num, HB2⟩
                  case measure => simp [intOf]; omega
                | true =>
                  cases hv : (V.toList == VV.toList) with
                  | false =>
                    go_upto_region 18 with (go_at_call 20; (refine CGK.out.mono ?_); rintro e w1 ⟨rfl, hb⟩; have HB1 := Lib.hid (HB.out.trans (hb.mono HB.out.size)); clear z0 z1 c4 hb)
                    have HX1 : Hid (∀ W, Below w1.heap.size w1 W → Box w W w.heap.size (some ⟨b, off, none⟩) len cap m L (coreL L)) := Lib.hid (fun W hb => HX.out W (HB1.out.trans (hb.mono HB1.out.size)))
                    have BX := Lib.hid (HX1.out _ (Below.refl _ _))
                    have E0 := Ext.cell BX.out.c0 BX.out.lt
                    have E1 := Ext.cell BX.out.c1 BX.out.lt
                    have CK : Hid (∀ Y : Ext w1, Calls Tryz.prog 23 #[forV (some ⟨b, off, none⟩) len cap m, .int .i64 k] Y.v fun e w' => e = .returned (.int .i64 RK) ∧ Below Y.v.heap.size Y.v w') := Lib.hid (fun Y => CRK.out Y.v (HX1.out _ Y.below).row)
                    have CX : Hid (∀ Y : Ext w1, Calls Tryz.prog 23 #[forV (some ⟨b, off, none⟩) len cap m, .int .i64 (X : Int)] Y.v fun e w' => e = .returned (.int .i64 (rootF (coreL L) X : Nat)) ∧ Below Y.v.heap.size Y.v w') := Lib.hid (fun Y => CRX.out Y.v (HX1.out _ Y.below).row)
                    clear BX
                    refine wp_region_ext (by kernel_rfl) (by kernel_rfl) ?_
                    repeat (go_big_quiet_step (first | (go_at_call 23; with_reducible exact Ext.call_below (CK.out _)) | (go_at_call 23; with_reducible exact Ext.call_below (CX.out _))))
                    refine wpQuiet_nil ?_
                    intro w' hw'
                    obtain ⟨⟨w8, hb8⟩, hw''⟩ := hw'
                    dsimp only at hw''
                    subst hw''
                    have HWX := Lib.hid hb8
                    clear E0 E1 CK CX hb8
                    have HB2 := Lib.hid (HB1.out.trans (HWX.out.mono HB1.out.size))
                    go_wp2
                    go_roundw
                    case rel => exact ⟨k + 1, by omega, by go_num, HB2⟩
                    case measure => simp [intOf]; omega
                  | true =>
                    have HVE := Lib.hid (beq_iff_eq.1 hv)
                    cases hem : VV.toList.isEmpty with
                    | true =>
                      go_upto_region 18 with (go_at_call 20; (refine CGK.out.mono ?_); rintro e w1 ⟨rfl, hb⟩; have HB1 := Lib.hid (HB.out.trans (hb.mono HB.out.size)); clear z0 z1 c4 hb)
                      have HX1 : Hid (∀ W, Below w1.heap.size w1 W → Box w W w.heap.size (some ⟨b, off, none⟩) len cap m L (coreL L)) := Lib.hid (fun W hb => HX.out W (HB1.out.trans (hb.mono HB1.out.size)))
                      have BX := Lib.hid (HX1.out _ (Below.refl _ _))
                      have E0 := Ext.cell BX.out.c0 BX.out.lt
                      have E1 := Ext.cell BX.out.c1 BX.out.lt
                      have CK : Hid (∀ Y : Ext w1, Calls Tryz.prog 23 #[forV (some ⟨b, off, none⟩) len cap m, .int .i64 k] Y.v fun e w' => e = .returned (.int .i64 RK) ∧ Below Y.v.heap.size Y.v w') := Lib.hid (fun Y => CRK.out Y.v (HX1.out _ Y.below).row)
                      have CX : Hid (∀ Y : Ext w1, Calls Tryz.prog 23 #[forV (some ⟨b, off, none⟩) len cap m, .int .i64 (X : Int)] Y.v fun e w' => e = .returned (.int .i64 (rootF (coreL L) X : Nat)) ∧ Below Y.v.heap.size Y.v w') := Lib.hid (fun Y => CRX.out Y.v (HX1.out _ Y.below).row)
                      clear BX
                      refine wp_region_ext (by kernel_rfl) (by kernel_rfl) ?_
                      repeat (go_big_quiet_step (first | (go_at_call 23; with_reducible exact Ext.call_below (CK.out _)) | (go_at_call 23; with_reducible exact Ext.call_below (CX.out _))))
                      refine wpQuiet_nil ?_
                      intro w' hw'
                      obtain ⟨⟨w8, hb8⟩, hw''⟩ := hw'
                      dsimp only at hw''
                      subst hw''
                      have HWX := Lib.hid hb8
                      clear E0 E1 CK CX hb8
                      have HB2 := Lib.hid (HB1.out.trans (HWX.out.mono HB1.out.size))
                      go_wp2
                      go_roundw
                      case rel => exact ⟨k + 1, by omega, by go_num, HB2⟩
                      case measure => simp [intOf]; omega
                    | false =>
                      by_cases hro : rootF (coreL L) k = rootF (coreL L) X
                      · have HRO := Lib.hid hro
                        have hrn : (RK != ((rootF (coreL L) X : Nat) : Int)) = false := by rw [← hRK, hro]; exact bne_self_eq_false _
                        clear hro
                        go_upto_region 18 with (go_at_call 20; (refine CGK.out.mono ?_); rintro e w1 ⟨rfl, hb⟩; have HB1 := Lib.hid (HB.out.trans (hb.mono HB.out.size)); clear z0 z1 c4 hb)
                        have HX1 : Hid (∀ W, Below w1.heap.size w1 W → Box w W w.heap.size (some ⟨b, off, none⟩) len cap m L (coreL L)) := Lib.hid (fun W hb => HX.out W (HB1.out.trans (hb.mono HB1.out.size)))
                        have BX := Lib.hid (HX1.out _ (Below.refl _ _))
                        have E0 := Ext.cell BX.out.c0 BX.out.lt
                        have E1 := Ext.cell BX.out.c1 BX.out.lt
                        have CK : Hid (∀ Y : Ext w1, Calls Tryz.prog 23 #[forV (some ⟨b, off, none⟩) len cap m, .int .i64 k] Y.v fun e w' => e = .returned (.int .i64 RK) ∧ Below Y.v.heap.size Y.v w') := Lib.hid (fun Y => CRK.out Y.v (HX1.out _ Y.below).row)
                        have CX : Hid (∀ Y : Ext w1, Calls Tryz.prog 23 #[forV (some ⟨b, off, none⟩) len cap m, .int .i64 (X : Int)] Y.v fun e w' => e = .returned (.int .i64 (rootF (coreL L) X : Nat)) ∧ Below Y.v.heap.size Y.v w') := Lib.hid (fun Y => CRX.out Y.v (HX1.out _ Y.below).row)
                        clear BX
                        refine wp_region_ext (by kernel_rfl) (by kernel_rfl) ?_
                        repeat (go_big_quiet_step (first | (go_at_call 23; with_reducible exact Ext.call_below (CK.out _)) | (go_at_call 23; with_reducible exact Ext.call_below (CX.out _))))
                        refine wpQuiet_nil ?_
                        intro w' hw'
                        obtain ⟨⟨w8, hb8⟩, hw''⟩ := hw'
                        dsimp only at hw''
                        subst hw''
                        have HWX := Lib.hid hb8
                        clear E0 E1 CK CX hb8
                        have HB2 := Lib.hid (HB1.out.trans (HWX.out.mono HB1.out.size))
                        have BX := Lib.hid (HX.out _ HB2.out)
                        have z0 := BX.out.c0
                        have z1 := BX.out.c1
                        have CA : Hid (∀ W, NodeRow W (some ⟨b, off, none⟩) len cap L → Calls Tryz.prog 24 #[forV (some ⟨b, off, none⟩) len cap m, .int .i64 k, .int .i64 P] W fun e w' => e = .returned (.bool false) ∧ Below W.heap.size W w') := Lib.hid (fun W h => by
                          have := aheadFn_any _ len cap m L k P W h HM.out ⟨by omega, by omega⟩ ⟨by omega, by omega⟩ SM.out
                          rwa [hA.out k (by rw [hlc.out]; exact hlt) (HIK.out.trans HVE.out) HRO.out] at this)
                        go_wp2_with (go_at_call 24; (with_reducible refine (CA.out _ BX.out.row).mono ?_); rintro e w5 ⟨rfl, hb⟩; have HB5 := Lib.hid (HB2.out.trans (hb.mono HB2.out.size)); clear z0 z1 hb)
                        go_roundw
                        case rel => exact ⟨k + 1, by omega, by go_num, HB5⟩
                        case measure => simp [intOf]; omega
                      · have hrn : (RK != ((rootF (coreL L) X : Nat) : Int)) = true := bne_iff_ne.2 (fun e => hro (by omega))
                        clear hro
                        go_upto_region 18 with (go_at_call 20; (refine CGK.out.mono ?_); rintro e w1 ⟨rfl, hb⟩; have HB1 := Lib.hid (HB.out.trans (hb.mono HB.out.size)); clear z0 z1 c4 hb)
                        have HX1 : Hid (∀ W, Below w1.heap.size w1 W → Box w W w.heap.size (some ⟨b, off, none⟩) len cap m L (coreL L)) := Lib.hid (fun W hb => HX.out W (HB1.out.trans (hb.mono HB1.out.size)))
                        have BX := Lib.hid (HX1.out _ (Below.refl _ _))
                        have E0 := Ext.cell BX.out.c0 BX.out.lt
                        have E1 := Ext.cell BX.out.c1 BX.out.lt
                        have CK : Hid (∀ Y : Ext w1, Calls Tryz.prog 23 #[forV (some ⟨b, off, none⟩) len cap m, .int .i64 k] Y.v fun e w' => e = .returned (.int .i64 RK) ∧ Below Y.v.heap.size Y.v w') := Lib.hid (fun Y => CRK.out Y.v (HX1.out _ Y.below).row)
                        have CX : Hid (∀ Y : Ext w1, Calls Tryz.prog 23 #[forV (some ⟨b, off, none⟩) len cap m, .int .i64 (X : Int)] Y.v fun e w' => e = .returned (.int .i64 (rootF (coreL L) X : Nat)) ∧ Below Y.v.heap.size Y.v w') := Lib.hid (fun Y => CRX.out Y.v (HX1.out _ Y.below).row)
                        clear BX
                        refine wp_region_ext (by kernel_rfl) (by kernel_rfl) ?_
                        repeat (go_big_quiet_step (first | (go_at_call 23; with_reducible exact Ext.call_below (CK.out _)) | (go_at_call 23; with_reducible exact Ext.call_below (CX.out _))))
                        refine wpQuiet_nil ?_
                        intro w' hw'
                        obtain ⟨⟨w8, hb8⟩, hw''⟩ := hw'
                        dsimp only at hw''
                        subst hw''
                        have HWX := Lib.hid hb8
                        clear E0 E1 CK CX hb8
                        have HB2 := Lib.hid (HB1.out.trans (HWX.out.mono HB1.out.size))
                        go_wp2
                        go_roundw
                        case rel => exact ⟨k + 1, by omega, by go_num, HB2⟩
                        case measure => simp [intOf]; omega
              · go_wp2
                go_ret
                exact ⟨rfl, BX.out.below⟩
end Go.Proofs.YtkgbgnmmgmnnlaaGreatDoor
