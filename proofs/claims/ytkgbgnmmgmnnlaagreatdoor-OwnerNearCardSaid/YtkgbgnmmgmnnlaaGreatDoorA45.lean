/- Texts joined in build order: OwnerNearLaw. -/
import Derived.Test.YtkgbgnmmgmnnlaaGreatDoorA41
import Derived.Test.YtkgbgnmmgmnnlaaGreatDoorA21
namespace Go.Proofs.YtkgbgnmmgmnnlaaGreatDoor
open Go.RowKit
set_option maxHeartbeats 16000000 in
set_option maxRecDepth 100000 in
theorem ownerNear_walk (a : Option Addr) (len cap : Nat) (m : Int) (L : List NodeD) (x : Int) (w : World) (h : NodeRow w a len cap L) (hm : In64 m) (hx : 0 ≤ x ∧ x ≤ 255) (hg : ErrVar w) :
    Calls Tryz.prog 4 #[forV a len cap m, .int .u8 x] w fun e w' => e = .returned (.bool true) ∧ Below w.heap.size w w' := by
  have AW := Lib.hid (fun W h => awake13_any W h)
  have BX := Lib.hid (Box.start (m := m) h)
  have hl0 := h.len64
  have HL := Lib.hid h.hlen
  have HM := Lib.hid hm
  have HH := Lib.hid h
  have HG := Lib.hid hg
  have z0 := BX.out.c0
  have z1 := BX.out.c1
  clear h hm hg
  cases c0 : shortF L with
  | false =>
    have C0 := Lib.hid c0
    clear c0
    go_enter Tryz.func4, Tryz.ntmps4
    go_wp2_with (first
                    | (go_at_call 9; (with_reducible refine (AW.out _ (HG.out.keep BX.out.below)).mono ?_); rintro e w1 ⟨rfl, hb⟩; have BX := Lib.hid (BX.out.keep hb); clear z0 z1; have z0 := BX.out.c0; have z1 := BX.out.c1; clear hb)
                    | (go_at_call 10; (with_reducible refine (refshortF_any _ _ _ _ _ _ BX.out.row).mono ?_); rintro e w1 ⟨rfl, hb⟩; rw [C0.out]; have BX := Lib.hid (BX.out.keep hb); clear z0 z1; have z0 := BX.out.c0; have z1 := BX.out.c1; clear hb)
                    | (go_at_call 19; (with_reducible refine (HR.out _ BX.out.row).mono ?_); rintro e w1 ⟨rfl, hb⟩; have BX := Lib.hid (BX.out.keep hb); clear z0 z1; have z0 := BX.out.c0; have z1 := BX.out.c1; clear hb))
    go_ret
    exact ⟨rfl, BX.out.below⟩
  | true =>
    have C0 := Lib.hid c0
    have SM := Lib.hid (small_of_short c0)
    clear c0
    cases c1 : rightF m (coreL L) with
    | false =>
      have HR : Hid (∀ W, NodeRow W a len cap L → Calls Tryz.prog 19 #[forV a len cap m] W fun e w' => e = .returned (.bool false) ∧ Below W.heap.size W w') := Lib.hid (fun W h => by
        have := rightF_any a len cap m L W h HM.out SM.out
        rwa [c1] at this)
      clear c1
      go_enter Tryz.func4, Tryz.ntmps4
      go_wp2_with (first
                      | (go_at_call 9; (with_reducible refine (AW.out _ (HG.out.keep BX.out.below)).mono ?_); rintro e w1 ⟨rfl, hb⟩; have BX := Lib.hid (BX.out.keep hb); clear z0 z1; have z0 := BX.out.c0; have z1 := BX.out.c1; clear hb)
                      | (go_at_call 10; (with_reducible refine (refshortF_any _ _ _ _ _ _ BX.out.row).mono ?_); rintro e w1 ⟨rfl, hb⟩; rw [C0.out]; have BX := Lib.hid (BX.out.keep hb); clear z0 z1; have z0 := BX.out.c0; have z1 := BX.out.c1; clear hb)
                      | (go_at_call 19; (with_reducible refine (HR.out _ BX.out.row).mono ?_); rintro e w1 ⟨rfl, hb⟩; have BX := Lib.hid (BX.out.keep hb); clear z0 z1; have z0 := BX.out.c0; have z1 := BX.out.c1; clear hb))
      go_ret
      exact ⟨rfl, BX.out.below⟩
    | true =>
      have HR : Hid (∀ W, NodeRow W a len cap L → Calls Tryz.prog 19 #[forV a len cap m] W fun e w' => e = .returned (.bool true) ∧ Below W.heap.size W w') := Lib.hid (fun W h => by
        have := rightF_any a len cap m L W h HM.out SM.out
        rwa [c1] at this)
      have hr := Lib.hid c1
      have hlc : Hid ((coreL L).length = len) := Lib.hid (by rw [coreL_len, HL.out])
      have hlp : 0 < len := by
        have := right_len c1
        rwa [hlc.out] at this
      clear c1
      have hlen : len ≤ 1000 := by rw [← HL.out]; exact SM.out.1
      obtain ⟨X, hX⟩ : ∃ X : Nat, x % (len : Int) = X := ⟨(x % (len : Int)).toNat, by have := Int.emod_nonneg x (show (len : Int) ≠ 0 by omega); omega⟩
      have hXl : X < len := by have := Int.emod_lt_of_pos x (show (0 : Int) < len by omega); omega
      have hX64 : Hid (In64 (X : Int)) := Lib.hid ⟨by omega, by omega⟩
      obtain ⟨b, off, nx, rfl, hb, hgx, hat, hok⟩ := HH.out.get hXl
      have HXC := Lib.hid (coreL_get hgx)
      have C4 := Lib.hid (stays13 hat.c4 hb)
      have K0 := Lib.hid (stays13 hat.c0 hb)
      obtain ⟨VV, hVV⟩ : ∃ VV, valA nx.core.attrs formT = VV := ⟨_, rfl⟩
      obtain ⟨hh, hhh⟩ : ∃ hh, hasA nx.core.attrs formT = hh := ⟨_, rfl⟩
      have HHH := Lib.hid hhh
      have CG : Hid (∀ W, Below w.heap.size w W → Calls Tryz.prog 20 #[.slice nx.aA nx.aN nx.aC, .string ⟨#[102, 111, 114, 109]⟩] W fun e w' => e = .returned (.tuple #[.string VV, .bool hh]) ∧ Below W.heap.size W w') := Lib.hid (fun W hb => by
        have := attrget_any nx.aA nx.aN nx.aC nx.core.attrs ⟨#[102, 111, 114, 109]⟩ W (hok.attrs.below hb) (by decide)
        rwa [formK, hVV, hhh] at this)
      have CO : Hid (∀ W, NodeRow W (some ⟨b, off, none⟩) len cap L → Calls Tryz.prog 13 #[forV (some ⟨b, off, none⟩) len cap m, .int .i64 X] W fun e w' => e = .returned (.int .i64 (ownF (coreL L) X)) ∧ Below W.heap.size W w') := Lib.hid (fun W h => by
        have := ofO_any _ len cap m L X W h HM.out SM.out
        rwa [show ofO m (coreL L) X = ownF (coreL L) X by unfold ofO; rw [thereF_of hr.out (by rw [hlc.out]; exact hXl), if_pos rfl, Int.toNat_natCast]] at this)
      have CC : Hid (∀ W, NodeRow W (some ⟨b, off, none⟩) len cap L → Calls Tryz.prog 21 #[forV (some ⟨b, off, none⟩) len cap m, .int .i64 X] W fun e w' => e = .returned (.bool (linkF (coreL L) X)) ∧ Below W.heap.size W w') := Lib.hid (fun W h => by
        have := connFn_any _ len cap m L X W h HM.out hX64.out SM.out
        rwa [connZ_eq hr.out (by rw [hlc.out]; exact hXl), topZ_eq hr.out (by rw [hlc.out]; exact hXl)] at this)
      clear hgx hat hok hVV hhh hb
      by_cases hk : nx.core.kind = 1
      · rw [hk] at K0
        obtain ⟨lk, hlk⟩ : ∃ lk, linkF (coreL L) X = lk := ⟨_, rfl⟩
        have HLK := Lib.hid hlk
        rw [hlk] at CC
        cases hc : (hh && lk) with
        | true =>
          obtain ⟨rfl, rfl⟩ : hh = true ∧ lk = true := by simpa using hc
          clear hc hlk hk
          go_enter Tryz.func4, Tryz.ntmps4
          go_upto_region 6 with (first
                                    | (go_at_call 9; (with_reducible refine (AW.out _ (HG.out.keep BX.out.below)).mono ?_); rintro e w1 ⟨rfl, hb⟩; have BX := Lib.hid (BX.out.keep hb); clear z0 z1; have z0 := BX.out.c0; have z1 := BX.out.c1; clear hb)
                                    | (go_at_call 10; (with_reducible refine (refshortF_any _ _ _ _ _ _ BX.out.row).mono ?_); rintro e w1 ⟨rfl, hb⟩; rw [C0.out]; have BX := Lib.hid (BX.out.keep hb); clear z0 z1; have z0 := BX.out.c0; have z1 := BX.out.c1; clear hb)
                                    | (go_at_call 19; (with_reducible refine (HR.out _ BX.out.row).mono ?_); rintro e w1 ⟨rfl, hb⟩; have BX := Lib.hid (BX.out.keep hb); clear z0 z1; have z0 := BX.out.c0; have z1 := BX.out.c1; clear hb))
          have c4 := C4.out _ BX.out.below
          go_wp2_with (first
            | (go_at_call 20; (refine (CG.out _ BX.out.below).mono ?_); rintro e w1 ⟨rfl, hb⟩; have BX := Lib.hid (BX.out.keep hb); clear z0 z1 c4; have z0 := BX.out.c0; have z1 := BX.out.c1; have k0 := K0.out _ BX.out.below; clear hb)
            | (go_at_call 21; (with_reducible refine (CC.out _ BX.out.row).mono ?_); rintro e w1 ⟨rfl, hb⟩; have BX := Lib.hid (BX.out.keep hb); clear z0 z1 k0; have z0 := BX.out.c0; have z1 := BX.out.c1; have k0 := K0.out _ BX.out.below; clear hb))
          go_ret
          exact ⟨rfl, BX.out.below⟩
        | false =>
          have HO : Hid (ownF (coreL L) X = nearF (coreL L) X) := Lib.hid (by
            rw [ownF_at HXC.out]
            unfold ownC asksC
            rw [if_pos hk, HHH.out, HLK.out, hc]
            rfl)
          have NA := Lib.hid (near_asks hr.out (show X < (coreL L).length by rw [hlc.out]; exact hXl))
          rw [HO.out] at CO
          cases hh with
          | true =>
            obtain rfl : lk = false := by simpa using hc
            (
              clear hc hlk hk
              go_enter Tryz.func4, Tryz.ntmps4
              go_upto_region 6 with (first
                                        | (go_at_call 9; (with_reducible refine (AW.out _ (HG.out.keep BX.out.below)).mono ?_); rintro e w1 ⟨rfl, hb⟩; have BX := Lib.hid (BX.out.keep hb); clear z0 z1; have z0 := BX.out.c0; have z1 := BX.out.c1; clear hb)
                                        | (go_at_call 10; (with_reducible refine (refshortF_any _ _ _ _ _ _ BX.out.row).mono ?_); rintro e w1 ⟨rfl, hb⟩; rw [C0.out]; have BX := Lib.hid (BX.out.keep hb); clear z0 z1; have z0 := BX.out.c0; have z1 := BX.out.c1; clear hb)
                                        | (go_at_call 19; (with_reducible refine (HR.out _ BX.out.row).mono ?_); rintro e w1 ⟨rfl, hb⟩; have BX := Lib.hid (BX.out.keep hb); clear z0 z1; have z0 := BX.out.c0; have z1 := BX.out.c1; clear hb))
              have c4 := C4.out _ BX.out.below
              go_upto_region 10 with (first
                | (go_at_call 20; (refine (CG.out _ BX.out.below).mono ?_); rintro e w1 ⟨rfl, hb⟩; have BX := Lib.hid (BX.out.keep hb); clear z0 z1 c4; have z0 := BX.out.c0; have z1 := BX.out.c1; have k0 := K0.out _ BX.out.below; clear hb)
                | (go_at_call 21; (with_reducible refine (CC.out _ BX.out.row).mono ?_); rintro e w1 ⟨rfl, hb⟩; have BX := Lib.hid (BX.out.keep hb); clear z0 z1 k0; have z0 := BX.out.c0; have z1 := BX.out.c1; have k0 := K0.out _ BX.out.below; clear hb)
                | (go_at_call 13; (with_reducible refine (CO.out _ BX.out.row).mono ?_); rintro e w2 ⟨rfl, hb⟩; have BX := Lib.hid (BX.out.keep hb); clear z0 z1 k0; have z0 := BX.out.c0; have z1 := BX.out.c1; clear hb))
              have HX : Hid (∀ W, Below w2.heap.size w2 W → Box w W w.heap.size (some ⟨b, off, none⟩) len cap m L (coreL L)) := Lib.hid (fun W hb => BX.out.keep hb)
              clear BX z0 z1 CG CC C4 K0 AW HG
              go_wp2
              go_loopw [9] (fun i wr => ∃ k : Nat, k ≤ len ∧ i = .int .i64 k ∧ Hid (Below w2.heap.size w2 wr)) (fun i _ => len - (intOf i).toNat)
              case atStart => exact ⟨0, Nat.zero_le _, rfl, Lib.hid (Below.refl _ _)⟩
              case round =>
                obtain ⟨k, hk, rfl, HB⟩ := hrel
                have BX := Lib.hid (HX.out _ HB.out)
                have z0 := BX.out.c0
                have z1 := BX.out.c1
                by_cases hlt : k < len
                · obtain ⟨b2, off2, y, hab, hb2, hy, hat, -⟩ := BX.out.row.get hlt
                  injection hab with hab
                  injection hab with hab1 hab2
                  subst hab1
                  subst hab2
                  have c1 := hat.c1
                  have HFB : Hid (formB (coreL L) k = (y.core.name.toList == [102, 111, 114, 109])) := Lib.hid (by rw [formB_at (coreL_get hy)]; rfl)
                  have HK64 : Hid (In64 (k : Int)) := Lib.hid ⟨by omega, by omega⟩
                  clear hy hat hb2
                  cases hf : (y.core.name.toList == [102, 111, 114, 109]) with
                  | false =>
                    go_wp2
                    go_roundw
                    case rel => exact ⟨k + 1, by omega, by go_num, HB⟩
                    case measure => simp [intOf]; omega
                  | true =>
                    by_cases hkx : k = X
                    · have hn1 : ((k : Int) != (X : Int)) = false := by rw [hkx]; exact bne_self_eq_false _
                      clear hkx
                      go_wp2
                      go_roundw
                      case rel => exact ⟨k + 1, by omega, by go_num, HB⟩
                      case measure => simp [intOf]; omega
                    · have hn1 : ((k : Int) != (X : Int)) = true := bne_iff_ne.2 (by omega)
                      have HNE := Lib.hid hkx
                      cases ho : holdsZ m (coreL L) k X with
                      | false =>
                        have CH : Hid (∀ W, NodeRow W (some ⟨b, off, none⟩) len cap L → Calls Tryz.prog 22 #[forV (some ⟨b, off, none⟩) len cap m, .int .i64 k, .int .i64 X] W fun e w' => e = .returned (.bool false) ∧ Below W.heap.size W w') := Lib.hid (fun W h => by
                          have := holdsFn_any _ len cap m L k X W h HM.out HK64.out hX64.out SM.out
                          rwa [ho] at this)
                        clear hkx ho
                        go_wp2_with (go_at_call 22; (with_reducible refine (CH.out _ BX.out.row).mono ?_); rintro e w3 ⟨rfl, hb⟩; have BX := Lib.hid (BX.out.keep hb); have HB3 := Lib.hid (HB.out.trans (hb.mono HB.out.size)); clear z0 z1 c1 hb; have z0 := BX.out.c0; have z1 := BX.out.c1)
                        go_roundw
                        case rel => exact ⟨k + 1, by omega, by go_num, HB3⟩
                        case measure => simp [intOf]; omega
                      | true =>
                        obtain ⟨P, hPl, hP, hOP⟩ : ∃ P : Nat, P < len ∧ nearF (coreL L) X = P ∧ holdsZ m (coreL L) k P = true := by
                          rcases NA.out with ⟨h1, h2⟩ | ⟨p, h1, h2, h3, h4, h5, h6⟩
                          · have := h2 k (by rw [hlc.out]; exact hlt) (by rw [HFB.out, hf]) hkx
                            rw [ho] at this
                            cases this
                          · exact ⟨p, by rw [← hlc.out]; exact h2, h1, h6 k (by rw [hlc.out]; exact hlt) (by rw [HFB.out, hf]) hkx ho⟩
                        have CH : Hid (∀ W, NodeRow W (some ⟨b, off, none⟩) len cap L → Calls Tryz.prog 22 #[forV (some ⟨b, off, none⟩) len cap m, .int .i64 k, .int .i64 X] W fun e w' => e = .returned (.bool true) ∧ Below W.heap.size W w') := Lib.hid (fun W h => by
                          have := holdsFn_any _ len cap m L k X W h HM.out HK64.out hX64.out SM.out
                          rwa [ho] at this)
                        have CH2 : Hid (∀ W, NodeRow W (some ⟨b, off, none⟩) len cap L → Calls Tryz.prog 22 #[forV (some ⟨b, off, none⟩) len cap m, .int .i64 k, .int .i64 P] W fun e w' => e = .returned (.bool true) ∧ Below W.heap.size W w') := Lib.hid (fun W h => by
                          have := holdsFn_any _ len cap m L k P W h HM.out HK64.out ⟨by omega, by omega⟩ SM.out
                          rwa [hOP] at this)
                        rw [hP]
                        have hpn : ((P : Int) == -1) = false := beq_eq_false_iff_ne.2 (by omega)
                        clear hkx ho hP hOP
                        go_wp2_with (first
                          | (go_at_call 22; (with_reducible refine (CH.out _ BX.out.row).mono ?_); rintro e w3 ⟨rfl, hb⟩; have BX := Lib.hid (BX.out.keep hb); have HB3 := Lib.hid (HB.out.trans (hb.mono HB.out.size)); clear z0 z1 c1 hb; have z0 := BX.out.c0; have z1 := BX.out.c1)
                          | (go_at_call 22; (with_reducible refine (CH2.out _ BX.out.row).mono ?_); rintro e w4 ⟨rfl, hb⟩; have BX := Lib.hid (BX.out.keep hb); have HB4 := Lib.hid (HB3.out.trans (hb.mono HB3.out.size)); clear z0 z1 hb; have z0 := BX.out.c0; have z1 := BX.out.c1))
                        go_roundw
                        case rel => exact ⟨k + 1, by omega, by go_num, HB4⟩
                        case measure => simp [intOf]; omega
                · rcases NA.out with ⟨h1, -⟩ | ⟨P, h1, h2, h3, h4, h5, -⟩
                  · rw [h1]
                    clear h1
                    go_wp2
                    go_ret
                    exact ⟨rfl, BX.out.below⟩
                  · rw [h1]
                    have hPl : P < len := by rw [← hlc.out]; exact h2
                    obtain ⟨b2, off2, y, hab, hb2, hy, hat, -⟩ := BX.out.row.get hPl
                    injection hab with hab
                    injection hab with hab1 hab2
                    subst hab1
                    subst hab2
                    have c1 := hat.c1
                    have hf : (y.core.name.toList == [102, 111, 114, 109]) = true := by rw [formB_at (coreL_get hy)] at h3; exact h3
                    have hpn : ((P : Int) == -1) = false := beq_eq_false_iff_ne.2 (by omega)
                    have hn1 : ((P : Int) != (X : Int)) = true := bne_iff_ne.2 (by omega)
                    have CH : Hid (∀ W, NodeRow W (some ⟨b, off, none⟩) len cap L → Calls Tryz.prog 22 #[forV (some ⟨b, off, none⟩) len cap m, .int .i64 P, .int .i64 X] W fun e w' => e = .returned (.bool true) ∧ Below W.heap.size W w') := Lib.hid (fun W h => by
                      have := holdsFn_any _ len cap m L P X W h HM.out ⟨by omega, by omega⟩ hX64.out SM.out
                      rwa [h5] at this)
                    clear hy hat hb2 h1 h2 h3 h4 h5
                    go_wp2_with (go_at_call 22; (with_reducible refine (CH.out _ BX.out.row).mono ?_); rintro e w3 ⟨rfl, hb⟩; have BX := Lib.hid (BX.out.keep hb); clear z0 z1 c1 hb)
                    go_ret
                    exact ⟨rfl, BX.out.below⟩)
          | false => (
                       clear hc hlk hk
                       go_enter Tryz.func4, Tryz.ntmps4
                       go_upto_region 6 with (first
                                                 | (go_at_call 9; (with_reducible refine (AW.out _ (HG.out.keep BX.out.below)).mono ?_); rintro e w1 ⟨rfl, hb⟩; have BX := Lib.hid (BX.out.keep hb); clear z0 z1; have z0 := BX.out.c0; have z1 := BX.out.c1; clear hb)
                                                 | (go_at_call 10; (with_reducible refine (refshortF_any _ _ _ _ _ _ BX.out.row).mono ?_); rintro e w1 ⟨rfl, hb⟩; rw [C0.out]; have BX := Lib.hid (BX.out.keep hb); clear z0 z1; have z0 := BX.out.c0; have z1 := BX.out.c1; clear hb)
                                                 | (go_at_call 19; (with_reducible refine (HR.out _ BX.out.row).mono ?_); rintro e w1 ⟨rfl, hb⟩; have BX := Lib.hid (BX.out.keep hb); clear z0 z1; have z0 := BX.out.c0; have z1 := BX.out.c1; clear hb))
                       have c4 := C4.out _ BX.out.below
                       go_upto_region 10 with (first
                         | (go_at_call 20; (refine (CG.out _ BX.out.below).mono ?_); rintro e w1 ⟨rfl, hb⟩; have BX := Lib.hid (BX.out.keep hb); clear z0 z1 c4; have z0 := BX.out.c0; have z1 := BX.out.c1; have k0 := K0.out _ BX.out.below; clear hb)
                         | (go_at_call 21; (with_reducible refine (CC.out _ BX.out.row).mono ?_); rintro e w1 ⟨rfl, hb⟩; have BX := Lib.hid (BX.out.keep hb); clear z0 z1 k0; have z0 := BX.out.c0; have z1 := BX.out.c1; have k0 := K0.out _ BX.out.below; clear hb)
                         | (go_at_call 13; (with_reducible refine (CO.out _ BX.out.row).mono ?_); rintro e w2 ⟨rfl, hb⟩; have BX := Lib.hid (BX.out.keep hb); clear z0 z1 k0; have z0 := BX.out.c0; have z1 := BX.out.c1; clear hb))
                       have HX : Hid (∀ W, Below w2.heap.size w2 W → Box w W w.heap.size (some ⟨b, off, none⟩) len cap m L (coreL L)) := Lib.hid (fun W hb => BX.out.keep hb)
                       clear BX z0 z1 CG CC C4 K0 AW HG
                       go_wp2
                       go_loopw [9] (fun i wr => ∃ k : Nat, k ≤ len ∧ i = .int .i64 k ∧ Hid (Below w2.heap.size w2 wr)) (fun i _ => len - (intOf i).toNat)
                       case atStart => exact ⟨0, Nat.zero_le _, rfl, Lib.hid (Below.refl _ _)⟩
                       case round =>
                         obtain ⟨k, hk, rfl, HB⟩ := hrel
                         have BX := Lib.hid (HX.out _ HB.out)
                         have z0 := BX.out.c0
                         have z1 := BX.out.c1
                         by_cases hlt : k < len
                         · obtain ⟨b2, off2, y, hab, hb2, hy, hat, -⟩ := BX.out.row.get hlt
                           injection hab with hab
                           injection hab with hab1 hab2
                           subst hab1
                           subst hab2
                           have c1 := hat.c1
                           have HFB : Hid (formB (coreL L) k = (y.core.name.toList == [102, 111, 114, 109])) := Lib.hid (by rw [formB_at (coreL_get hy)]; rfl)
                           have HK64 : Hid (In64 (k : Int)) := Lib.hid ⟨by omega, by omega⟩
                           clear hy hat hb2
                           cases hf : (y.core.name.toList == [102, 111, 114, 109]) with
                           | false =>
                             go_wp2
                             go_roundw
                             case rel => exact ⟨k + 1, by omega, by go_num, HB⟩
                             case measure => simp [intOf]; omega
                           | true =>
                             by_cases hkx : k = X
                             · have hn1 : ((k : Int) != (X : Int)) = false := by rw [hkx]; exact bne_self_eq_false _
                               clear hkx
                               go_wp2
                               go_roundw
                               case rel => exact ⟨k + 1, by omega, by go_num, HB⟩
                               case measure => simp [intOf]; omega
                             · have hn1 : ((k : Int) != (X : Int)) = true := bne_iff_ne.2 (by omega)
                               have HNE := Lib.hid hkx
                               cases ho : holdsZ m (coreL L) k X with
                               | false =>
                                 have CH : Hid (∀ W, NodeRow W (some ⟨b, off, none⟩) len cap L → Calls Tryz.prog 22 #[forV (some ⟨b, off, none⟩) len cap m, .int .i64 k, .int .i64 X] W fun e w' => e = .returned (.bool false) ∧ Below W.heap.size W w') := Lib.hid (fun W h => by
                                   have := holdsFn_any _ len cap m L k X W h HM.out HK64.out hX64.out SM.out
                                   rwa [ho] at this)
                                 clear hkx ho
                                 go_wp2_with (go_at_call 22; (with_reducible refine (CH.out _ BX.out.row).mono ?_); rintro e w3 ⟨rfl, hb⟩; have BX := Lib.hid (BX.out.keep hb); have HB3 := Lib.hid (HB.out.trans (hb.mono HB.out.size)); clear z0 z1 c1 hb; have z0 := BX.out.c0; have z1 := BX.out.c1)
                                 go_roundw
                                 case rel => exact ⟨k + 1, by omega, by go_num, HB3⟩
                                 case measure => simp [intOf]; omega
                               | true =>
                                 obtain ⟨P, hPl, hP, hOP⟩ : ∃ P : Nat, P < len ∧ nearF (coreL L) X = P ∧ holdsZ m (coreL L) k P = true := by
                                   rcases NA.out with ⟨h1, h2⟩ | ⟨p, h1, h2, h3, h4, h5, h6⟩
                                   · have := h2 k (by rw [hlc.out]; exact hlt) (by rw [HFB.out, hf]) hkx
                                     rw [ho] at this
                                     cases this
                                   · exact ⟨p, by rw [← hlc.out]; exact h2, h1, h6 k (by rw [hlc.out]; exact hlt) (by rw [HFB.out, hf]) hkx ho⟩
                                 have CH : Hid (∀ W, NodeRow W (some ⟨b, off, none⟩) len cap L → Calls Tryz.prog 22 #[forV (some ⟨b, off, none⟩) len cap m, .int .i64 k, .int .i64 X] W fun e w' => e = .returned (.bool true) ∧ Below W.heap.size W w') := Lib.hid (fun W h => by
                                   have := holdsFn_any _ len cap m L k X W h HM.out HK64.out hX64.out SM.out
                                   rwa [ho] at this)
                                 have CH2 : Hid (∀ W, NodeRow W (some ⟨b, off, none⟩) len cap L → Calls Tryz.prog 22 #[forV (some ⟨b, off, none⟩) len cap m, .int .i64 k, .int .i64 P] W fun e w' => e = .returned (.bool true) ∧ Below W.heap.size W w') := Lib.hid (fun W h => by
                                   have := holdsFn_any _ len cap m L k P W h HM.out HK64.out ⟨by omega, by omega⟩ SM.out
                                   rwa [hOP] at this)
                                 rw [hP]
                                 have hpn : ((P : Int) == -1) = false := beq_eq_false_iff_ne.2 (by omega)
                                 clear hkx ho hP hOP
                                 go_wp2_with (first
                                   | (go_at_call 22; (with_reducible refine (CH.out _ BX.out.row).mono ?_); rintro e w3 ⟨rfl, hb⟩; have BX := Lib.hid (BX.out.keep hb); have HB3 := Lib.hid (HB.out.trans (hb.mono HB.out.size)); clear z0 z1 c1 hb; have z0 := BX.out.c0; have z1 := BX.out.c1)
                                   | (go_at_call 22; (with_reducible refine (CH2.out _ BX.out.row).mono ?_); rintro e w4 ⟨rfl, hb⟩; have BX := Lib.hid (BX.out.keep hb); have HB4 := Lib.hid (HB3.out.trans (hb.mono HB3.out.size)); clear z0 z1 hb; have z0 := BX.out.c0; have z1 := BX.out.c1))
                                 go_roundw
                                 case rel => exact ⟨k + 1, by omega, by go_num, HB4⟩
                                 case measure => simp [intOf]; omega
                         · rcases NA.out with ⟨h1, -⟩ | ⟨P, h1, h2, h3, h4, h5, -⟩
                           · rw [h1]
                             clear h1
                             go_wp2
                             go_ret
                             exact ⟨rfl, BX.out.below⟩
                           · rw [h1]
                             have hPl : P < len := by rw [← hlc.out]; exact h2
                             obtain ⟨b2, off2, y, hab, hb2, hy, hat, -⟩ := BX.out.row.get hPl
                             injection hab with hab
                             injection hab with hab1 hab2
                             subst hab1
                             subst hab2
                             have c1 := hat.c1
                             have hf : (y.core.name.toList == [102, 111, 114, 109]) = true := by rw [formB_at (coreL_get hy)] at h3; exact h3
                             have hpn : ((P : Int) == -1) = false := beq_eq_false_iff_ne.2 (by omega)
                             have hn1 : ((P : Int) != (X : Int)) = true := bne_iff_ne.2 (by omega)
                             have CH : Hid (∀ W, NodeRow W (some ⟨b, off, none⟩) len cap L → Calls Tryz.prog 22 #[forV (some ⟨b, off, none⟩) len cap m, .int .i64 P, .int .i64 X] W fun e w' => e = .returned (.bool true) ∧ Below W.heap.size W w') := Lib.hid (fun W h => by
                               have := holdsFn_any _ len cap m L P X W h HM.out ⟨by omega, by omega⟩ hX64.out SM.out
                               rwa [h5] at this)
                             clear hy hat hb2 h1 h2 h3 h4 h5
                             go_wp2_with (go_at_call 22; (with_reducible refine (CH.out _ BX.out.row).mono ?_); rintro e w3 ⟨rfl, hb⟩; have BX := Lib.hid (BX.out.keep hb); clear z0 z1 c1 hb)
                             go_ret
                             exact ⟨rfl, BX.out.below⟩)
      · have hk1 : (nx.core.kind != 1) = true := bne_iff_ne.2 hk
        have hk2 : (nx.core.kind == 1) = false := beq_eq_false_iff_ne.2 hk
        have HO : Hid (ownF (coreL L) X = -1) := Lib.hid (by
          rw [ownF_at HXC.out]
          unfold ownC
          rw [if_neg hk])
        rw [HO.out] at CO
        clear hk
        go_enter Tryz.func4, Tryz.ntmps4
        go_upto_region 6 with (first
                                  | (go_at_call 9; (with_reducible refine (AW.out _ (HG.out.keep BX.out.below)).mono ?_); rintro e w1 ⟨rfl, hb⟩; have BX := Lib.hid (BX.out.keep hb); clear z0 z1; have z0 := BX.out.c0; have z1 := BX.out.c1; clear hb)
                                  | (go_at_call 10; (with_reducible refine (refshortF_any _ _ _ _ _ _ BX.out.row).mono ?_); rintro e w1 ⟨rfl, hb⟩; rw [C0.out]; have BX := Lib.hid (BX.out.keep hb); clear z0 z1; have z0 := BX.out.c0; have z1 := BX.out.c1; clear hb)
                                  | (go_at_call 19; (with_reducible refine (HR.out _ BX.out.row).mono ?_); rintro e w1 ⟨rfl, hb⟩; have BX := Lib.hid (BX.out.keep hb); clear z0 z1; have z0 := BX.out.c0; have z1 := BX.out.c1; clear hb))
        have c4 := C4.out _ BX.out.below
        go_wp2_with (first
          | (go_at_call 20; (refine (CG.out _ BX.out.below).mono ?_); rintro e w1 ⟨rfl, hb⟩; have BX := Lib.hid (BX.out.keep hb); clear z0 z1 c4; have z0 := BX.out.c0; have z1 := BX.out.c1; have k0 := K0.out _ BX.out.below; clear hb)
          | (go_at_call 13; (with_reducible refine (CO.out _ BX.out.row).mono ?_); rintro e w1 ⟨rfl, hb⟩; have BX := Lib.hid (BX.out.keep hb); clear hb))
        go_ret
        exact ⟨rfl, BX.out.below⟩
end Go.Proofs.YtkgbgnmmgmnnlaaGreatDoor
