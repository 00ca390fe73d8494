/- Texts joined in build order: OwnerPartsLaw. -/
import Derived.Test.YtkgbgnmmgmnnlaaGreatDoorE45
import Derived.Test.YtkgbgnmmgmnnlaaGreatDoorE44
import Derived.Test.YtkgbgnmmgmnnlaaGreatDoorE05
import Derived.Test.YtkgbgnmmgmnnlaaGreatDoorE04
import Derived.Deep.DeepCutAuto
namespace Go.Proofs.YtkgbgnmmgmnnlaaGreatDoor
open Go.RowKit
theorem box60 (w : World) : ∃ W, w.alloc (.cells #[.int .i64 0, .int .i64 0, .int .i64 0, .int .i64 0, .int .i64 0, .int .i64 0, .int .i64 0, .int .i64 0, .int .i64 0, .int .i64 0, .int .i64 0, .int .i64 0, .int .i64 0, .int .i64 0, .int .i64 0, .int .i64 0, .int .i64 0, .int .i64 0, .int .i64 0, .int .i64 0, .int .i64 0, .int .i64 0, .int .i64 0, .int .i64 0, .int .i64 0, .int .i64 0, .int .i64 0, .int .i64 0, .int .i64 0, .int .i64 0, .int .i64 0, .int .i64 0, .int .i64 0, .int .i64 0, .int .i64 0, .int .i64 0, .int .i64 0, .int .i64 0, .int .i64 0, .int .i64 0, .int .i64 0, .int .i64 0, .int .i64 0, .int .i64 0, .int .i64 0, .int .i64 0, .int .i64 0, .int .i64 0, .int .i64 0, .int .i64 0, .int .i64 0, .int .i64 0, .int .i64 0, .int .i64 0, .int .i64 0, .int .i64 0, .int .i64 0, .int .i64 0, .int .i64 0, .int .i64 0] 41) = W ∧ ORow encI W w.heap.size (List.replicate 60 0) ∧ Below w.heap.size w W := by
  have h := CBox.new w #[.int .i64 0, .int .i64 0, .int .i64 0, .int .i64 0, .int .i64 0, .int .i64 0, .int .i64 0, .int .i64 0, .int .i64 0, .int .i64 0, .int .i64 0, .int .i64 0, .int .i64 0, .int .i64 0, .int .i64 0, .int .i64 0, .int .i64 0, .int .i64 0, .int .i64 0, .int .i64 0, .int .i64 0, .int .i64 0, .int .i64 0, .int .i64 0, .int .i64 0, .int .i64 0, .int .i64 0, .int .i64 0, .int .i64 0, .int .i64 0, .int .i64 0, .int .i64 0, .int .i64 0, .int .i64 0, .int .i64 0, .int .i64 0, .int .i64 0, .int .i64 0, .int .i64 0, .int .i64 0, .int .i64 0, .int .i64 0, .int .i64 0, .int .i64 0, .int .i64 0, .int .i64 0, .int .i64 0, .int .i64 0, .int .i64 0, .int .i64 0, .int .i64 0, .int .i64 0, .int .i64 0, .int .i64 0, .int .i64 0, .int .i64 0, .int .i64 0, .int .i64 0, .int .i64 0, .int .i64 0] 41
  refine ⟨_, rfl, ⟨h.lt, fun i x hx => ?_, h.f⟩, box_below _ _⟩
  have hi := (List.getElem?_eq_some_iff.1 hx).1
  rw [List.length_replicate] at hi
  rw [List.getElem?_replicate, if_pos hi] at hx
  obtain rfl := Option.some.inj hx
  refine h.c i _ ?_
  show (List.replicate 60 (Value.int .i64 0))[i]? = some (encI 0)
  rw [List.getElem?_replicate, if_pos hi]
theorem Times.relist {F : List Core} {W : World} {q len x : Nat} {l l2 T : List Int} (h : Times F W q len x l 0 T) : Times F W q len x l2 0 T := ⟨h.row, h.hl, fun n hn => by rw [h.at_ n hn, List.take_zero, List.take_zero]⟩
theorem Times.start {F : List Core} {W : World} {q len : Nat} (h : ORow encI W q (List.replicate 60 0)) (hl : len ≤ 60) : Times F W q len 0 [] 0 (List.replicate 60 0) := ⟨h, List.length_replicate .., fun n hn => by
  rw [List.getElem?_replicate, if_pos (by omega), List.take_zero, if_neg (by simp)]
  unfold cntP
  rw [if_neg (by omega)]
  rfl⟩
set_option maxHeartbeats 16000000 in
set_option maxRecDepth 100000 in
theorem ownerParts_walk (a : Option Addr) (len cap : Nat) (m : Int) (L : List NodeD) (w : World) (h : NodeRow w a len cap L) (hm : In64 m) (hg : ErrVar w) :
    Calls Tryz.prog 6 #[forV a len cap m] w fun e w' => e = .returned (.bool true) ∧ Below w.heap.size w w' := by
  have AW := Lib.hid (fun W h => awake13_any W h)
  have BX := Lib.hid (Box.start (m := m) h)
  have hl0 := h.len64
  have HL := Lib.hid h.hlen
  have HM := Lib.hid hm
  have HH := Lib.hid h
  have HG := Lib.hid hg
  have z0 := BX.out.c0
  have z1 := BX.out.c1
  clear h hm hg
  cases c0 : shortF L with
  | false =>
    have C0 := Lib.hid c0
    clear c0
    go_enter Tryz.func6, Tryz.ntmps6
    go_wp2_with (first
                    | (go_at_call 9; (with_reducible refine (AW.out _ (HG.out.keep BX.out.below)).mono ?_); rintro e w1 ⟨rfl, hb⟩; have BX := Lib.hid (BX.out.keep hb); clear z0 z1; have z0 := BX.out.c0; have z1 := BX.out.c1; clear hb)
                    | (go_at_call 10; (with_reducible refine (refshortF_any _ _ _ _ _ _ BX.out.row).mono ?_); rintro e w1 ⟨rfl, hb⟩; rw [C0.out]; have BX := Lib.hid (BX.out.keep hb); clear z0 z1; have z0 := BX.out.c0; have z1 := BX.out.c1; clear hb)
                    | (go_at_call 19; (with_reducible refine (HR.out _ BX.out.row).mono ?_); rintro e w1 ⟨rfl, hb⟩; have BX := Lib.hid (BX.out.keep hb); clear z0 z1; have z0 := BX.out.c0; have z1 := BX.out.c1; clear hb))
    go_ret
    exact ⟨rfl, BX.out.below⟩
  | true =>
    have C0 := Lib.hid c0
    have SM := Lib.hid (small_of_short c0)
    clear c0
    cases c1 : rightF m (coreL L) with
    | false =>
      have HR : Hid (∀ W, NodeRow W a len cap L → Calls Tryz.prog 19 #[forV a len cap m] W fun e w' => e = .returned (.bool false) ∧ Below W.heap.size W w') := Lib.hid (fun W h => by
        have := rightF_any a len cap m L W h HM.out SM.out
        rwa [c1] at this)
      clear c1
      go_enter Tryz.func6, Tryz.ntmps6
      go_wp2_with (first
                      | (go_at_call 9; (with_reducible refine (AW.out _ (HG.out.keep BX.out.below)).mono ?_); rintro e w1 ⟨rfl, hb⟩; have BX := Lib.hid (BX.out.keep hb); clear z0 z1; have z0 := BX.out.c0; have z1 := BX.out.c1; clear hb)
                      | (go_at_call 10; (with_reducible refine (refshortF_any _ _ _ _ _ _ BX.out.row).mono ?_); rintro e w1 ⟨rfl, hb⟩; rw [C0.out]; have BX := Lib.hid (BX.out.keep hb); clear z0 z1; have z0 := BX.out.c0; have z1 := BX.out.c1; clear hb)
                      | (go_at_call 19; (with_reducible refine (HR.out _ BX.out.row).mono ?_); rintro e w1 ⟨rfl, hb⟩; have BX := Lib.hid (BX.out.keep hb); clear z0 z1; have z0 := BX.out.c0; have z1 := BX.out.c1; clear hb))
      go_ret
      exact ⟨rfl, BX.out.below⟩
    | true =>
      have HR : Hid (∀ W, NodeRow W a len cap L → Calls Tryz.prog 19 #[forV a len cap m] W fun e w' => e = .returned (.bool true) ∧ Below W.heap.size W w') := Lib.hid (fun W h => by
        have := rightF_any a len cap m L W h HM.out SM.out
        rwa [c1] at this)
      have hr := Lib.hid c1
      have hlc : Hid ((coreL L).length = len) := Lib.hid (by rw [coreL_len, HL.out])
      have hlp : 0 < len := by
        have := right_len c1
        rwa [hlc.out] at this
      clear c1
      have hlen : len ≤ 1000 := by rw [← HL.out]; exact SM.out.1
      have hlen60 : len ≤ 60 := by
        have := C0.out
        unfold shortF at this
        simp only [Bool.and_eq_true, decide_eq_true_eq] at this
        rw [← HL.out]
        exact this.1
      go_enter Tryz.func6, Tryz.ntmps6
      go_upto_region 6 with (first
                                | (go_at_call 9; (with_reducible refine (AW.out _ (HG.out.keep BX.out.below)).mono ?_); rintro e w1 ⟨rfl, hb⟩; have BX := Lib.hid (BX.out.keep hb); clear z0 z1; have z0 := BX.out.c0; have z1 := BX.out.c1; clear hb)
                                | (go_at_call 10; (with_reducible refine (refshortF_any _ _ _ _ _ _ BX.out.row).mono ?_); rintro e w1 ⟨rfl, hb⟩; rw [C0.out]; have BX := Lib.hid (BX.out.keep hb); clear z0 z1; have z0 := BX.out.c0; have z1 := BX.out.c1; clear hb)
                                | (go_at_call 19; (with_reducible refine (HR.out _ BX.out.row).mono ?_); rintro e w1 ⟨rfl, hb⟩; have BX := Lib.hid (BX.out.keep hb); clear z0 z1; have z0 := BX.out.c0; have z1 := BX.out.c1; clear hb))
      obtain ⟨w5, hw5, hrow, hb5⟩ := box60 w1
      rw [hw5]
      obtain ⟨q, hq⟩ : ∃ q, w1.heap.size = q := ⟨_, rfl⟩
      have HX : Hid (∀ W, Below w1.heap.size w1 W → Box w W w.heap.size a len cap m L (coreL L)) := Lib.hid (fun W hb => BX.out.keep hb)
      have HQ := Lib.hid hq
      have HB5 := Lib.hid hb5
      rw [hq] at hrow ⊢
      have TM0 : Hid (Times (coreL L) w5 q len 0 [] 0 (List.replicate 60 0)) := Lib.hid (Times.start hrow hlen60)
      clear hw5 hrow hb5 hq BX z0 z1 AW HG HR
      go_wp2
      go_loopw [4] (fun i wr => ∃ (x : Nat) (T : List Int), x ≤ len ∧ i = .int .i64 x ∧ Hid (Below w1.heap.size w1 wr) ∧ Hid (Times (coreL L) wr q len x [] 0 T)) (fun i _ => len - (intOf i).toNat)
      case atStart => exact ⟨0, _, Nat.zero_le _, rfl, HB5, TM0⟩
      case round =>
        clear TM0 HB5
        obtain ⟨x, T, hx, rfl, HB, TM⟩ := hrel
        have BX := Lib.hid (HX.out _ HB.out)
        have z0 := BX.out.c0
        have z1 := BX.out.c1
        by_cases hlt : x < len
        · have hxc : x < (coreL L).length := by rw [hlc.out]; exact hlt
          obtain ⟨l, hl⟩ : ∃ l, memO (coreL L) x = l := ⟨_, rfl⟩
          have HLE := Lib.hid hl
          have CM : Hid (∀ W, NodeRow W a len cap L → Calls Tryz.prog 14 #[forV a len cap m, .int .i64 x] W (OrdNew W l)) := Lib.hid (fun W h => by
            have := membersNew_any a len cap m L x W h HM.out SM.out
            rwa [show membersO m (coreL L) x = l by unfold membersO; rw [thereF_of hr.out hxc, if_pos rfl, Int.toNat_natCast]; exact hl] at this)
          have HXL := Lib.hid hxc
          clear hl hxc
          go_upto_region 10 with (go_at_call 14; (with_reducible refine (CM.out _ BX.out.row).mono ?_); rintro e w2 ⟨am, lm, cm, rfl, hrm, hb, hnew⟩; have BX := Lib.hid (BX.out.keep hb); have IR := Lib.hid hrm; have TM2 := Lib.hid (TM.out.keep hb); have HNE : Hid (∀ b o, am = some ⟨b, o, none⟩ → some b ≠ some q) := Lib.hid (fun b o e e2 => by have := hnew b o e; have := TM.out.row.lt; injection e2 with e2; omega); have HB2 := Lib.hid (HB.out.trans (hb.mono HB.out.size)); clear z0 z1 hrm hb hnew)
          have z0 := BX.out.c0
          have z1 := BX.out.c1
          have hlm64 := IR.out.len64
          have LTX := Lib.hid hlt
          go_cut [40] (fun t wx => True ∧ t = .bool false ∧ Hid (Below w2.heap.size w2 wx))
          case first =>
            by_cases hlm : 0 < lm
            · obtain ⟨bl, ol, zz, rfl, hbl, hzz, hczz, -⟩ := IR.out.get hlm
              obtain ⟨b1, off1, y, hab, hb1, hy, hat, -⟩ := BX.out.row.get hlt
              have hfb : formB (coreL L) x = true := by
                have h1 := List.mem_of_getElem? hzz
                rw [← HLE.out] at h1
                obtain ⟨n, _, _, h4⟩ := (mem_mem hr.out HXL.out).1 h1
                exact own_form h4
              rw [formB_at (coreL_get hy)] at hfb
              have hf : (y.core.name.toList == [102, 111, 114, 109]) = true := hfb
              have c1 := hat.c1
              subst hab
              clear hy hat hfb hb1 hbl hzz hczz
              go_wp2
              go_meet
              exact ⟨trivial, rfl, Lib.hid (Below.refl _ _)⟩
            · obtain rfl : lm = 0 := by omega
              go_wp2
              go_meet
              exact ⟨trivial, rfl, Lib.hid (Below.refl _ _)⟩
          case rest =>
            obtain ⟨-, rfl, HWX⟩ := hcut
            have HB3 := Lib.hid (HB2.out.trans (HWX.out.mono HB2.out.size))
            have TM3 : Hid (Times (coreL L) wc q len x l 0 T) := Lib.hid (TM2.out.keep HWX.out).relist
            have IR3 := Lib.hid (IR.out.below HWX.out)
            clear BX IR TM2 HB2 HWX z0 z1 TM HB CM
            go_wp2
            go_loopw [6] (fun i wr => ∃ (k : Nat) (T : List Int), k ≤ lm ∧ i = .int .i64 k ∧ Hid (Below w1.heap.size w1 wr) ∧ Hid (Times (coreL L) wr q len x l k T) ∧ Hid (IntRow wr am lm cm l)) (fun i _ => lm - (intOf i).toNat)
            case atStart => exact ⟨0, _, Nat.zero_le _, rfl, HB3, TM3, IR3⟩
            case round =>
              clear HB3 TM3 IR3
              obtain ⟨k, T, hk, rfl, HB, TM, IR⟩ := hrel
              by_cases hkl : k < lm
              · obtain ⟨bl, ol, z, rfl, hbl, hz, hcz, -⟩ := IR.out.get hkl
                obtain ⟨n, rfl, hnc, hno⟩ := (mem_mem hr.out HXL.out).1 (by rw [HLE.out]; exact List.mem_of_getElem? hz)
                have hnl : n < len := by rw [← hlc.out]; exact hnc
                have HLK := Lib.hid hz
                have HSTEP : Hid (T[n]? = some 0 ∧ ∀ W, Times (coreL L) W q len x l k T → Times (coreL L) (W.setCell ⟨q, n, none⟩ (.int .i64 1)) q len x l (k + 1) (T.set n 1)) := Lib.hid (by
                  refine ⟨?_, fun W hW => ?_⟩
                  · have h := TM.out
                    rw [← HLE.out] at h
                    exact (h.step hr.out hlc.out.symm hlen60 HXL.out (by rw [HLE.out]; exact hz)).1
                  · rw [← HLE.out] at hW ⊢
                    exact (hW.step hr.out hlc.out.symm hlen60 HXL.out (by rw [HLE.out]; exact hz)).2.2)
                have BX := Lib.hid (HX.out _ HB.out)
                have z0 := BX.out.c0
                have z1 := BX.out.c1
                have E0 := Ext.cell z0 BX.out.lt
                have E1 := Ext.cell z1 BX.out.lt
                have EZ := Ext.cell hcz hbl
                have CZ := Lib.hid (stays hcz hbl)
                have HBL := Lib.hid hbl
                obtain ⟨R, hR⟩ : ∃ R, rootF (coreL L) x = R := ⟨_, rfl⟩
                have KO : Hid (∀ Y : Ext wr, Calls Tryz.prog 13 #[forV a len cap m, .int .i64 n] Y.v fun e w' => e = .returned (.int .i64 x) ∧ Below Y.v.heap.size Y.v w') := Lib.hid (fun Y => by
                  have := ofO_any a len cap m L n Y.v (HX.out _ (HB.out.trans (Y.below.mono HB.out.size))).row HM.out SM.out
                  rwa [show ofO m (coreL L) n = x by unfold ofO; rw [thereF_of hr.out hnc, if_pos rfl, Int.toNat_natCast]; exact hno] at this)
                have KR : Hid (∀ Y : Ext wr, Calls Tryz.prog 23 #[forV a len cap m, .int .i64 n] Y.v fun e w' => e = .returned (.int .i64 (R : Nat)) ∧ Below Y.v.heap.size Y.v w') := Lib.hid (fun Y => by
                  have := rootFn_any a len cap m L n Y.v (HX.out _ (HB.out.trans (Y.below.mono HB.out.size))).row HM.out ⟨by omega, by omega⟩ SM.out
                  rwa [rootZ_eq hr.out hnc, ← (own_root hr.out hnc hno).2, hR] at this)
                have KX : Hid (∀ Y : Ext wr, Calls Tryz.prog 23 #[forV a len cap m, .int .i64 x] Y.v fun e w' => e = .returned (.int .i64 (R : Nat)) ∧ Below Y.v.heap.size Y.v w') := Lib.hid (fun Y => by
                  have := rootFn_any a len cap m L x Y.v (HX.out _ (HB.out.trans (Y.below.mono HB.out.size))).row HM.out ⟨by omega, by omega⟩ SM.out
                  rwa [rootZ_eq hr.out HXL.out, hR] at this)
                have hd1 : decide ((n : Int) < 0) = false := decide_eq_false (by omega)
                have hd2 : decide ((len : Int) ≤ (n : Int)) = false := decide_eq_false (by omega)
                have hd3 : decide (len ≤ n) = false := decide_eq_false (by omega)
                clear hz hnc hno hR hcz hbl z0 z1
                go_upto_region 15 with fail
                refine wp_region_ext (by kernel_rfl) (by kernel_rfl) ?_
                repeat (go_big_quiet_step (first | (go_at_call 13; with_reducible exact Ext.call_below (KO.out _)) | (go_at_call 23; with_reducible exact Ext.call_below (KR.out _)) | (go_at_call 23; with_reducible exact Ext.call_below (KX.out _))))
                refine wpQuiet_nil ?_
                intro w' hw'
                obtain ⟨⟨w8, hb8⟩, hw''⟩ := hw'
                dsimp only at hw''
                subst hw''
                have HB8 := Lib.hid (HB.out.trans (hb8.mono HB.out.size))
                have TM8 := Lib.hid (TM.out.keep hb8)
                have IR8 := Lib.hid (IR.out.below hb8)
                have cz := CZ.out _ hb8
                clear E0 E1 EZ KO KR KX hb8 hd1 hd2 hd3 BX
                have hTc := TM8.out.row.cell n _ HSTEP.out.1
                have hTf := TM8.out.row.free n
                unfold encI at hTc
                have hn60 : n < 60 := by omega
                have hn60' : (n : Int) < 60 := by omega
                go_upto_region 18 with fail
                clear hTc hTf cz
                obtain ⟨w9, hw9⟩ : ∃ W, w'.setCell ⟨q, n, none⟩ (.int .i64 1) = W := ⟨_, rfl⟩
                have TM9 := Lib.hid (HSTEP.out.2 _ TM8.out)
                have IR9 := Lib.hid (IR8.out.stay (grown_put (w := w') (p := ⟨q, n, none⟩) (u := .int .i64 1)) HNE.out)
                have HB9 := Lib.hid (HB8.out.setCell (p := ⟨q, n, none⟩) (by show w1.heap.size ≤ q; rw [HQ.out]; exact Nat.le_refl _) (.int .i64 1))
                rw [hw9] at TM9 IR9 HB9 ⊢
                clear hw9 HB8 TM8 IR8 HB TM IR
                have BX := Lib.hid (HX.out _ HB9.out)
                have E0 := Ext.cell BX.out.c0 BX.out.lt
                have E1 := Ext.cell BX.out.c1 BX.out.lt
                cases k with
                | zero =>
                  refine wp_region_ext (by kernel_rfl) (by kernel_rfl) ?_
                  repeat (go_big_quiet_step (fail))
                  refine wpQuiet_nil ?_
                  intro w' hw'
                  obtain ⟨⟨w8, hb8⟩, hw''⟩ := hw'
                  dsimp only at hw''
                  subst hw''
                  have HBA := Lib.hid (HB9.out.trans (hb8.mono HB9.out.size))
                  have TMA := Lib.hid (TM9.out.keep hb8)
                  have IRA := Lib.hid (IR9.out.below hb8)
                  clear E0 E1 hb8
                  go_wp2
                  go_roundw
                  case rel => exact ⟨0 + 1, _, by omega, by go_num, HBA, TMA, IRA⟩
                  case measure => simp [intOf]; omega
                | succ k =>
                  obtain ⟨bl2, ol2, z, hab, hbl2, hz, hcz, -⟩ := IR9.out.get (show k < lm by omega)
                  injection hab with hab
                  injection hab with hab1 hab2
                  subst hab1
                  subst hab2
                  obtain ⟨bl3, ol3, z3, hab, -, hz3, hcz3, -⟩ := IR9.out.get hkl
                  injection hab with hab
                  injection hab with hab1 hab2
                  subst hab1
                  subst hab2
                  obtain rfl : Int.ofNat n = z3 := Option.some.inj (HLK.out.symm.trans hz3)
                  obtain ⟨n0, rfl, hn0, -⟩ := (mem_mem hr.out HXL.out).1 (by rw [HLE.out]; exact List.mem_of_getElem? hz)
                  have hah : aheadZ m (coreL L) n0 n = true := mem_ahead hr.out HXL.out (by rw [HLE.out]; exact hz) (by rw [HLE.out]; exact HLK.out)
                  rw [hlc.out] at hn0
                  have EZ := Ext.cell hcz hbl2
                  have EY := Ext.cell hcz3 hbl2
                  have KA : Hid (∀ Y : Ext w9, Calls Tryz.prog 24 #[forV a len cap m, .int .i64 n0, .int .i64 n] Y.v fun e w' => e = .returned (.bool true) ∧ Below Y.v.heap.size Y.v w') := Lib.hid (fun Y => by
                    have := aheadFn_any a len cap m L n0 n Y.v (HX.out _ (HB9.out.trans (Y.below.mono HB9.out.size))).row HM.out ⟨by omega, by omega⟩ ⟨by omega, by omega⟩ SM.out
                    rwa [hah] at this)
                  have hsub : IntKind.i64.wrap (((k + 1 : Nat) : Int) - 1) = (k : Int) := by rw [IntKind.wrap_i64]; omega
                  have hk0 : decide ((0 : Int) < ((k + 1 : Nat) : Int)) = true := decide_eq_true (by omega)
                  clear hz hz3 hah hcz hcz3 hbl2
                  refine wp_region_ext (by kernel_rfl) (by kernel_rfl) ?_
                  repeat (go_big_quiet_step (first | (go_at_call 24; with_reducible exact Ext.call_below (KA.out _))))
                  refine wpQuiet_nil ?_
                  intro w' hw'
                  obtain ⟨⟨w8, hb8⟩, hw''⟩ := hw'
                  dsimp only at hw''
                  subst hw''
                  have HBA := Lib.hid (HB9.out.trans (hb8.mono HB9.out.size))
                  have TMA := Lib.hid (TM9.out.keep hb8)
                  have IRA := Lib.hid (IR9.out.below hb8)
                  clear E0 E1 EZ EY KA hb8
                  go_wp2
                  go_roundw
                  case rel => exact ⟨k + 1 + 1, _, by omega, by go_num, HBA, TMA, IRA⟩
                  case measure => simp [intOf]; omega
              · have hkk : l.length = k := by rw [IR.out.hlen]; omega
                have TMN : Hid (Times (coreL L) wr q len (x + 1) [] 0 T) := Lib.hid (by
                  have h := TM.out
                  rw [← hkk, ← HLE.out] at h
                  exact h.next hr.out hlc.out.symm HXL.out [])
                go_wp2
                go_roundw
                case rel => exact ⟨x + 1, T, by have := LTX.out; omega, by go_num, HB, TMN⟩
                case measure => have := LTX.out; simp [intOf]; omega
        · have hxx : x = len := by omega
          subst hxx
          have TML : Hid (∀ n : Nat, n < x → T[n]? = some (if ownF (coreL L) n = -1 then 0 else 1)) := Lib.hid (fun n hn => by
            have h := TM.out
            rw [← hlc.out] at h hn
            exact h.last hr.out hn)
          have HXW : Hid (∀ W, Below wr.heap.size wr W → Box w W w.heap.size a x cap m L (coreL L)) := Lib.hid (fun W hb => HX.out W (HB.out.trans (hb.mono HB.out.size)))
          have HTW : Hid (∀ W, Below wr.heap.size wr W → ORow encI W q T) := Lib.hid (fun W hb => TM.out.row.keep hb)
          clear BX HB TM
          go_wp2
          clear z0 z1
          go_loopw [7] (fun i wv => ∃ n : Nat, n ≤ x ∧ i = .int .i64 n ∧ Hid (Below wr.heap.size wr wv)) (fun i _ => x - (intOf i).toNat)
          case atStart => exact ⟨0, Nat.zero_le _, rfl, Lib.hid (Below.refl _ _)⟩
          case round =>
            obtain ⟨n, hn, rfl, HB⟩ := hrel
            have BX := Lib.hid (HXW.out _ HB.out)
            have z0 := BX.out.c0
            have z1 := BX.out.c1
            by_cases hnl : n < x
            · have hnc : n < (coreL L).length := by rw [hlc.out]; exact hnl
              have hT := TML.out n hnl
              have hn60 : n < 60 := by omega
              have hn60' : (n : Int) < 60 := by omega
              have CO : Hid (∀ W, NodeRow W a x cap L → Calls Tryz.prog 13 #[forV a x cap m, .int .i64 n] W fun e w' => e = .returned (.int .i64 (ownF (coreL L) n)) ∧ Below W.heap.size W w') := Lib.hid (fun W h => by
                have := ofO_any a x cap m L n W h HM.out SM.out
                rwa [show ofO m (coreL L) n = ownF (coreL L) n by unfold ofO; rw [thereF_of hr.out hnc, if_pos rfl, Int.toNat_natCast]] at this)
              by_cases ho : ownF (coreL L) n = -1
              · rw [if_pos ho] at hT
                rw [ho] at CO
                have HT := Lib.hid hT
                clear ho hT
                go_upto_region 24 with (go_at_call 13; (with_reducible refine (CO.out _ BX.out.row).mono ?_); rintro e w4 ⟨rfl, hb⟩; have HB4 := Lib.hid (HB.out.trans (hb.mono HB.out.size)); clear z0 z1 hb)
                have hTc := (HTW.out _ HB4.out).cell n _ HT.out
                unfold encI at hTc
                go_wp2
                go_roundw
                case rel => exact ⟨n + 1, by omega, by go_num, HB4⟩
                case measure => simp [intOf]; omega
              · rw [if_neg ho] at hT
                have HT := Lib.hid hT
                obtain ⟨P, hP⟩ : ∃ P : Nat, ownF (coreL L) n = P := ⟨(ownF (coreL L) n).toNat, by have := ownF_lt hr.out n; omega⟩
                have hPl := (own_root hr.out hnc hP).1
                have HM1 : Hid (hasZ (memO (coreL L) P) (n : Int) = 1) := Lib.hid (hasZ_one (mem_nodup hr.out hPl) ((mem_mem hr.out hPl).2 ⟨n, rfl, hnc, hP⟩))
                have CM : Hid (∀ W, NodeRow W a x cap L → Calls Tryz.prog 14 #[forV a x cap m, .int .i64 P] W (OrdPost W (memO (coreL L) P))) := Lib.hid (fun W h => by
                  have := membersO_any a x cap m L P W h HM.out SM.out
                  rwa [show membersO m (coreL L) P = memO (coreL L) P by unfold membersO; rw [thereF_of hr.out hPl, if_pos rfl, Int.toNat_natCast]] at this)
                have CH : Hid (∀ (W : World) a2 l2 c2, IntRow W a2 l2 c2 (memO (coreL L) P) → Calls Tryz.prog 26 #[.slice a2 l2 c2, .int .i64 n] W fun e w' => e = .returned (.int .i64 1) ∧ W = w') := Lib.hid (fun W a2 l2 c2 h => by
                  have := refhas_any a2 l2 c2 _ (n : Int) W h
                  rwa [HM1.out] at this)
                rw [hP] at CO
                have hpn : ((P : Int) != -1) = true := bne_iff_ne.2 (by omega)
                clear ho hT hP hPl
                go_upto_region 24 with (go_at_call 13; (with_reducible refine (CO.out _ BX.out.row).mono ?_); rintro e w4 ⟨rfl, hb⟩; have HB4 := Lib.hid (HB.out.trans (hb.mono HB.out.size)); have BX := Lib.hid (BX.out.keep hb); clear z0 z1 hb)
                have z0 := BX.out.c0
                have z1 := BX.out.c1
                have hTc := (HTW.out _ HB4.out).cell n _ HT.out
                unfold encI at hTc
                go_wp2_with (first
                  | (go_at_call 14; (with_reducible refine (CM.out _ BX.out.row).mono ?_); rintro e w5 ⟨a2, l2, c2, rfl, hrm, hb⟩; have IR := Lib.hid hrm; have HB5 := Lib.hid (HB4.out.trans (hb.mono HB4.out.size)); clear z0 z1 hTc hrm hb)
                  | (go_at_call 26; (with_reducible refine (CH.out _ _ _ _ IR.out).mono ?_); rintro e w6 ⟨rfl, rfl⟩))
                go_roundw
                case rel => exact ⟨n + 1, by omega, by go_num, HB5⟩
                case measure => simp [intOf]; omega
            · go_wp2
              go_ret
              exact ⟨rfl, BX.out.below⟩
end Go.Proofs.YtkgbgnmmgmnnlaaGreatDoor
