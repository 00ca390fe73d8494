/- Texts joined in build order: OwnerBackLaw. -/
import Derived.Test.YtkgbgnmmgmnnlaaGreatDoorA41
import Derived.Test.YtkgbgnmmgmnnlaaGreatDoorA39
import Derived.Test.YtkgbgnmmgmnnlaaGreatDoorA38
import Derived.Test.YtkgbgnmmgmnnlaaGreatDoorA04
import Derived.Deep.RegionHeld3
import Derived.Deep.DeepCutAuto
namespace Go.Proofs.YtkgbgnmmgmnnlaaGreatDoor
open Go.RowKit
set_option maxHeartbeats 16000000 in
set_option maxRecDepth 100000 in
theorem ownerBack_walk (a : Option Addr) (len cap : Nat) (m : Int) (L : List NodeD) (x : Int) (s v : ByteArray) (w : World) (h : NodeRow w a len cap L) (hm : In64 m) (hx : 0 ≤ x ∧ x ≤ 255) (hsz : s.size ≤ maxLen) (hvz : v.size ≤ maxLen) (hg : ErrVar w) :
    Calls Tryz.prog 7 #[forV a len cap m, .int .u8 x, .string s, .string v] w fun e w' => e = .returned (.bool true) ∧ Below w.heap.size w w' := by
  have AW := Lib.hid (fun W h => awake13_any W h)
  have BX := Lib.hid (Box.start (m := m) h)
  have hl0 := h.len64
  have HL := Lib.hid h.hlen
  have HM := Lib.hid hm
  have HH := Lib.hid h
  have HG := Lib.hid hg
  have z0 := BX.out.c0
  have z1 := BX.out.c1
  clear h hm hg
  cases c0 : shortF L with
  | false =>
    have C0 := Lib.hid c0
    clear c0
    go_enter Tryz.func7, Tryz.ntmps7
    go_wp2_with (first
                    | (go_at_call 9; (with_reducible refine (AW.out _ (HG.out.keep BX.out.below)).mono ?_); rintro e w1 ⟨rfl, hb⟩; have BX := Lib.hid (BX.out.keep hb); clear z0 z1; have z0 := BX.out.c0; have z1 := BX.out.c1; clear hb)
                    | (go_at_call 10; (with_reducible refine (refshortF_any _ _ _ _ _ _ BX.out.row).mono ?_); rintro e w1 ⟨rfl, hb⟩; rw [C0.out]; have BX := Lib.hid (BX.out.keep hb); clear z0 z1; have z0 := BX.out.c0; have z1 := BX.out.c1; clear hb)
                    | (go_at_call 19; (with_reducible refine (HR.out _ BX.out.row).mono ?_); rintro e w1 ⟨rfl, hb⟩; have BX := Lib.hid (BX.out.keep hb); clear z0 z1; have z0 := BX.out.c0; have z1 := BX.out.c1; clear hb))
    go_ret
    exact ⟨rfl, BX.out.below⟩
  | true =>
    have C0 := Lib.hid c0
    have SM := Lib.hid (small_of_short c0)
    clear c0
    cases c1 : rightF m (coreL L) with
    | false =>
      have HR : Hid (∀ W, NodeRow W a len cap L → Calls Tryz.prog 19 #[forV a len cap m] W fun e w' => e = .returned (.bool false) ∧ Below W.heap.size W w') := Lib.hid (fun W h => by
        have := rightF_any a len cap m L W h HM.out SM.out
        rwa [c1] at this)
      clear c1
      go_enter Tryz.func7, Tryz.ntmps7
      go_wp2_with (first
                      | (go_at_call 9; (with_reducible refine (AW.out _ (HG.out.keep BX.out.below)).mono ?_); rintro e w1 ⟨rfl, hb⟩; have BX := Lib.hid (BX.out.keep hb); clear z0 z1; have z0 := BX.out.c0; have z1 := BX.out.c1; clear hb)
                      | (go_at_call 10; (with_reducible refine (refshortF_any _ _ _ _ _ _ BX.out.row).mono ?_); rintro e w1 ⟨rfl, hb⟩; rw [C0.out]; have BX := Lib.hid (BX.out.keep hb); clear z0 z1; have z0 := BX.out.c0; have z1 := BX.out.c1; clear hb)
                      | (go_at_call 19; (with_reducible refine (HR.out _ BX.out.row).mono ?_); rintro e w1 ⟨rfl, hb⟩; have BX := Lib.hid (BX.out.keep hb); clear z0 z1; have z0 := BX.out.c0; have z1 := BX.out.c1; clear hb))
      go_ret
      exact ⟨rfl, BX.out.below⟩
    | true =>
      have HR : Hid (∀ W, NodeRow W a len cap L → Calls Tryz.prog 19 #[forV a len cap m] W fun e w' => e = .returned (.bool true) ∧ Below W.heap.size W w') := Lib.hid (fun W h => by
        have := rightF_any a len cap m L W h HM.out SM.out
        rwa [c1] at this)
      have hr := Lib.hid c1
      have hlc : Hid ((coreL L).length = len) := Lib.hid (by rw [coreL_len, HL.out])
      have hlp : 0 < len := by
        have := right_len c1
        rwa [hlc.out] at this
      clear c1
      have hlen : len ≤ 1000 := by rw [← HL.out]; exact SM.out.1
      obtain ⟨X, hX⟩ : ∃ X : Nat, x % (len : Int) = X := ⟨(x % (len : Int)).toNat, by have := Int.emod_nonneg x (show (len : Int) ≠ 0 by omega); omega⟩
      have hXl : X < len := by have := Int.emod_lt_of_pos x (show (0 : Int) < len by omega); omega
      have hX64 : Hid (In64 (X : Int)) := Lib.hid ⟨by omega, by omega⟩
      obtain ⟨b, off, nx, rfl, hb, hgx, hat, hok⟩ := HH.out.get hXl
      have HXC := Lib.hid (coreL_get hgx)
      have HSZ := Lib.hid hsz
      have HVZ := Lib.hid hvz
      clear hgx hat hok hb hsz hvz
      by_cases hs3 : 300 < s.size
      · go_enter Tryz.func7, Tryz.ntmps7
        go_wp2_with (first
                        | (go_at_call 9; (with_reducible refine (AW.out _ (HG.out.keep BX.out.below)).mono ?_); rintro e w1 ⟨rfl, hb⟩; have BX := Lib.hid (BX.out.keep hb); clear z0 z1; have z0 := BX.out.c0; have z1 := BX.out.c1; clear hb)
                        | (go_at_call 10; (with_reducible refine (refshortF_any _ _ _ _ _ _ BX.out.row).mono ?_); rintro e w1 ⟨rfl, hb⟩; rw [C0.out]; have BX := Lib.hid (BX.out.keep hb); clear z0 z1; have z0 := BX.out.c0; have z1 := BX.out.c1; clear hb)
                        | (go_at_call 19; (with_reducible refine (HR.out _ BX.out.row).mono ?_); rintro e w1 ⟨rfl, hb⟩; have BX := Lib.hid (BX.out.keep hb); clear z0 z1; have z0 := BX.out.c0; have z1 := BX.out.c1; clear hb))
        go_ret
        exact ⟨rfl, BX.out.below⟩
      by_cases hv3 : 300 < v.size
      · go_enter Tryz.func7, Tryz.ntmps7
        go_wp2_with (first
                        | (go_at_call 9; (with_reducible refine (AW.out _ (HG.out.keep BX.out.below)).mono ?_); rintro e w1 ⟨rfl, hb⟩; have BX := Lib.hid (BX.out.keep hb); clear z0 z1; have z0 := BX.out.c0; have z1 := BX.out.c1; clear hb)
                        | (go_at_call 10; (with_reducible refine (refshortF_any _ _ _ _ _ _ BX.out.row).mono ?_); rintro e w1 ⟨rfl, hb⟩; rw [C0.out]; have BX := Lib.hid (BX.out.keep hb); clear z0 z1; have z0 := BX.out.c0; have z1 := BX.out.c1; clear hb)
                        | (go_at_call 19; (with_reducible refine (HR.out _ BX.out.row).mono ?_); rintro e w1 ⟨rfl, hb⟩; have BX := Lib.hid (BX.out.keep hb); clear z0 z1; have z0 := BX.out.c0; have z1 := BX.out.c1; clear hb))
        go_ret
        exact ⟨rfl, BX.out.below⟩
      cases hs1 : decide ((setZ m (coreL L) X formT ⟨#[]⟩).2.2 = 0) with
      | false =>
        obtain ⟨F2, N2, e2, hS2⟩ : ∃ F2 N2 e2, setZ m (coreL L) X formT ⟨#[]⟩ = (F2, N2, e2) := ⟨_, _, _, rfl⟩
        have he2 : (e2 == 0) = false := by
          rw [hS2] at hs1
          exact beq_eq_false_iff_ne.2 (of_decide_eq_false hs1)
        have CS1 : Hid (∀ W, NodeRow W (some ⟨b, off, none⟩) len cap L → ErrVar W → Calls Tryz.prog 27 #[forV (some ⟨b, off, none⟩) len cap m, .int .i64 X, .string ⟨#[102, 111, 114, 109]⟩, .string ⟨#[]⟩] W (MvPost W m (F2, N2, e2))) := Lib.hid (fun W h1 h2 => by
          have := mset_any _ len cap m L X ⟨#[102, 111, 114, 109]⟩ ⟨#[]⟩ W h1 HM.out hX64.out (by decide) (by decide) SM.out h2
          rwa [formK, hS2] at this)
        clear hs1 hS2
        go_enter Tryz.func7, Tryz.ntmps7
        go_upto_region 6 with (first
                                  | (go_at_call 9; (with_reducible refine (AW.out _ (HG.out.keep BX.out.below)).mono ?_); rintro e w1 ⟨rfl, hb⟩; have BX := Lib.hid (BX.out.keep hb); clear z0 z1; have z0 := BX.out.c0; have z1 := BX.out.c1; clear hb)
                                  | (go_at_call 10; (with_reducible refine (refshortF_any _ _ _ _ _ _ BX.out.row).mono ?_); rintro e w1 ⟨rfl, hb⟩; rw [C0.out]; have BX := Lib.hid (BX.out.keep hb); clear z0 z1; have z0 := BX.out.c0; have z1 := BX.out.c1; clear hb)
                                  | (go_at_call 19; (with_reducible refine (HR.out _ BX.out.row).mono ?_); rintro e w1 ⟨rfl, hb⟩; have BX := Lib.hid (BX.out.keep hb); clear z0 z1; have z0 := BX.out.c0; have z1 := BX.out.c1; clear hb))
        go_upto_region 14 with (go_at_call 27; (with_reducible refine (CS1.out _ BX.out.row (HG.out.keep BX.out.below)).mono ?_); rintro e w2 ⟨a2, len2, cap2, M2, va, vl, vc, rfl, -, -, -, -, hb2, -⟩; have BX := Lib.hid (BX.out.keep hb2); have BX := Lib.hid (BX.out.keep (below_box w2 (forB a2 len2 cap2 m))); clear z0 z1 hb2; have z0 := BX.out.c0; have z1 := BX.out.c1)
        (
          cases hs2 : decide ((setZ m (coreL L) X s.toList v).2.2 = 0) with
          | false =>
            obtain ⟨F7, N7, e7, hS7⟩ : ∃ F7 N7 e7, setZ m (coreL L) X s.toList v = (F7, N7, e7) := ⟨_, _, _, rfl⟩
            have he7 : (e7 != 0) = true := by
              rw [hS7] at hs2
              exact bne_iff_ne.2 (of_decide_eq_false hs2)
            have CS2 : Hid (∀ W, NodeRow W (some ⟨b, off, none⟩) len cap L → ErrVar W → Calls Tryz.prog 27 #[forV (some ⟨b, off, none⟩) len cap m, .int .i64 X, .string s, .string v] W (MvPost W m (F7, N7, e7))) := Lib.hid (fun W h1 h2 => by
              have := mset_any _ len cap m L X s v W h1 HM.out hX64.out HSZ.out HVZ.out SM.out h2
              rwa [hS7] at this)
            clear hs2 hS7
            go_wp2_with (go_at_call 27; (with_reducible refine (CS2.out _ BX.out.row (HG.out.keep BX.out.below)).mono ?_); rintro e v2 ⟨a7, len7, cap7, M7, va7, vl7, vc7, rfl, -, -, -, -, hb7, -⟩; have BX := Lib.hid (BX.out.keep hb7); have BX := Lib.hid (BX.out.keep (below_box v2 (forB a7 len7 cap7 m))); clear z0 z1 hb7)
            go_ret
            exact ⟨rfl, BX.out.below⟩
          | true =>
            have hs3 := of_decide_eq_true hs2
            obtain ⟨hk7, he7, hz7, hG7⟩ := setZ_yes hr.out HXC.out hs3
            have HO7 : Hid (smallL s.toList ≠ formT → smallL s.toList ≠ idT → ownL (chgF (coreL L) X (setA nx.core.attrs s.toList v)) = ownL (coreL L)) := Lib.hid (fun h1 h2 => by
              obtain ⟨G, h3, h4, h5⟩ := other13 hr.out HXC.out hs3 h1 h2
              rw [hz7] at h3
              have h6 : chgF (coreL L) X (setA nx.core.attrs s.toList v) = G := congrArg Prod.fst h3
              rw [h6]
              exact h5)
            obtain ⟨B7, hB7⟩ : ∃ B, chgF (coreL L) X (setA nx.core.attrs s.toList v) = B := ⟨_, rfl⟩
            obtain ⟨N7, hN7⟩ : ∃ N, chgN X s.toList nx.core.attrs (setA nx.core.attrs s.toList v) = N := ⟨_, rfl⟩
            have HNM : Hid (N7.name.toList = smallL s.toList) := Lib.hid (by rw [← hN7]; exact toList_ofL _)
            rw [hB7, hN7] at hz7
            rw [hB7] at hG7 HO7
            have HRB := Lib.hid hG7
            have CS2 : Hid (∀ W, NodeRow W (some ⟨b, off, none⟩) len cap L → ErrVar W → Calls Tryz.prog 27 #[forV (some ⟨b, off, none⟩) len cap m, .int .i64 X, .string s, .string v] W (MvPost W m (B7, [N7], 0))) := Lib.hid (fun W h1 h2 => by
              have := mset_any _ len cap m L X s v W h1 HM.out hX64.out HSZ.out HVZ.out SM.out h2
              rwa [hz7] at this)
            clear hs2 hs3 hk7 he7 hz7 hG7 hB7 hN7
            go_upto_region 15 with (go_at_call 27; (with_reducible refine (CS2.out _ BX.out.row (HG.out.keep BX.out.below)).mono ?_); rintro e v2 ⟨a7, len7, cap7, M7, va7, vl7, vc7, rfl, hr7, hc7, hs7, hn7, hb7, -⟩; have BX := Lib.hid (BX.out.keep hb7); have BB := Lib.hid (MBox.new (m := m) BX.out.below hr7 hc7).box; have BX := Lib.hid (BX.out.keep (below_box v2 (forB a7 len7 cap7 m))); have HS7 := Lib.hid hs7; have HN7 := Lib.hid (hn7.below (below_box v2 (forB a7 len7 cap7 m))); clear z0 z1 hr7 hc7 hs7 hn7 hb7)
            obtain ⟨rfl, bn, on, rfl, hbn, hcn⟩ := HN7.out.one
            have n4 := hcn 4 _ rfl
            clear hcn hbn
            have z0 := BX.out.c0
            have z1 := BX.out.c1
            cases hf7 : (N7.name.toList == [102, 111, 114, 109]) with
            | true =>
              go_wp2
              go_ret
              exact ⟨rfl, BX.out.below⟩
            | false =>
              cases hi7 : (N7.name.toList == [105, 100]) with
              | true =>
                go_wp2
                go_ret
                exact ⟨rfl, BX.out.below⟩
              | false =>
                have HOE := HO7.out (by rw [← HNM.out]; exact beq_eq_false_iff_ne.1 hf7) (by rw [← HNM.out]; exact beq_eq_false_iff_ne.1 hi7)
                go_upto_region 17 with fail
                clear z0 z1 n4 hf7 hi7
                obtain ⟨w6, hw6⟩ : ∃ w6, v2.alloc (forB a7 len7 cap7 m) = w6 := ⟨_, rfl⟩
                obtain ⟨q7, hq7⟩ : ∃ q, v2.heap.size = q := ⟨_, rfl⟩
                rw [hw6] at BX BB ⊢
                rw [hq7] at BB ⊢
                have HXB : Hid (∀ W, Below w6.heap.size w6 W → Box w W w.heap.size (some ⟨b, off, none⟩) len cap m L (coreL L)) := Lib.hid (fun W hb => BX.out.keep hb)
                have HYB : Hid (∀ W, Below w6.heap.size w6 W → Box w W q7 a7 len7 cap7 m M7 B7) := Lib.hid (fun W hb => BB.out.keep hb)
                have LT := Lib.hid BX.out.lt
                have LT2 := Lib.hid BB.out.lt
                have SV : w6.cell? ⟨w.heap.size, 0, none⟩ = some (.slice (some ⟨b, off, none⟩) len cap) ∧ w6.cell? ⟨w.heap.size, 1, none⟩ = some (.int .i64 m) ∧ w6.cell? ⟨q7, 0, none⟩ = some (.slice a7 len7 cap7) ∧ w6.cell? ⟨q7, 1, none⟩ = some (.int .i64 m) ∧ Below w6.heap.size w6 w6 := ⟨BX.out.c0, BX.out.c1, BB.out.c0, BB.out.c1, Below.refl _ _⟩
                obtain ⟨l, hl⟩ : ∃ l, ownL (coreL L) = l := ⟨_, rfl⟩
                have CAF : Hid (∀ W, NodeRow W (some ⟨b, off, none⟩) len cap L → Calls Tryz.prog 11 #[forV (some ⟨b, off, none⟩) len cap m] W (OrdNew W l)) := Lib.hid (fun W h => by
                  have := allO_any _ len cap m L W h HM.out SM.out
                  rwa [show allO m (coreL L) = l by unfold allO; rw [if_pos hr.out]; exact hl] at this)
                have CAB : Hid (∀ W, NodeRow W a7 len7 cap7 M7 → coreL M7 = B7 → Calls Tryz.prog 11 #[forV a7 len7 cap7 m] W (OrdNew W l)) := Lib.hid (fun W h hc => by
                  have := allO_any _ len7 cap7 m M7 W h HM.out HS7.out
                  rw [hc] at this
                  rwa [show allO m B7 = l by unfold allO; rw [if_pos HRB.out, HOE]; exact hl] at this)
                have CT : Hid (∀ (W : World) (a1 a2 : Option Addr) (l1 l2 c1 c2 : Nat), IntRow W a1 l1 c1 l → IntRow W a2 l2 c2 l → Calls Tryz.prog 17 #[.slice a1 l1 c1, .slice a2 l2 c2] W fun e w' => e = .returned (.bool true) ∧ ∃ n, w' = W.drewN n) := Lib.hid (fun W a1 a2 l1 l2 c1 c2 h1 h2 => by
                  have := refints_any a1 a2 l1 c1 l2 c2 l l W h1 h2
                  rwa [decide_eq_true rfl] at this)
                clear BX BB hw6 hq7 hl HOE HO7 CS2
                go_cut [8] (fun t wx => True ∧ t = .bool true ∧ Hid (Below w6.heap.size w6 wx))
                case first =>
                  go_region_held3 (fun w' => w'.cell? ⟨w.heap.size, 0, none⟩ = some (.slice (some ⟨b, off, none⟩) len cap) ∧ w'.cell? ⟨w.heap.size, 1, none⟩ = some (.int .i64 m) ∧ w'.cell? ⟨q7, 0, none⟩ = some (.slice a7 len7 cap7) ∧ w'.cell? ⟨q7, 1, none⟩ = some (.int .i64 m) ∧ Below w6.heap.size w6 w')
                    (with_reducible first | (refine keep4 LT.out LT.out LT2.out LT2.out SV ?_; first | exact HWX.out | exact HWX.out.drew | exact (Below.refl _ _).drew) | assumption)
                    (first
                      | (go_at_call 11; (with_reducible refine (CAF.out _ (HXB.out _ (kept4 ‹_ ∧ _ ∧ _ ∧ _ ∧ Below _ _ _›)).row).mono ?_); rintro e w8 ⟨am, lm, cm, rfl, hrm, hb, -⟩; have HWX := Lib.hid ((kept4 ‹_ ∧ _ ∧ _ ∧ _ ∧ Below _ _ _›).trans (hb.mono (kept4 ‹_ ∧ _ ∧ _ ∧ _ ∧ Below _ _ _›).size)); have IM := Lib.hid hrm; clear hb hrm)
                      | (go_at_call 11; (with_reducible refine (CAB.out _ (HYB.out _ (kept4 ‹_ ∧ _ ∧ _ ∧ _ ∧ Below _ _ _›)).row (HYB.out _ (kept4 ‹_ ∧ _ ∧ _ ∧ _ ∧ Below _ _ _›)).core).mono ?_); rintro e w9 ⟨an, ln, cn, rfl, hrn, hb, -⟩; have HWX := Lib.hid ((kept4 ‹_ ∧ _ ∧ _ ∧ _ ∧ Below _ _ _›).trans (hb.mono (kept4 ‹_ ∧ _ ∧ _ ∧ _ ∧ Below _ _ _›).size)); (first | (have IM := Lib.hid (IM.out.below hb)) | (have IM := Lib.hid ((IM.out.drewN 1).below hb))); have IN := Lib.hid hrn; clear hb hrn)
                      | (go_at_call 17; (first | (with_reducible refine (CT.out _ _ _ _ _ _ _ IM.out IN.out).mono ?_) | (with_reducible refine (CT.out _ _ _ _ _ _ _ (IM.out.drewN 1) (IN.out.drewN 1)).mono ?_)); rintro e w10 ⟨rfl, n10, rfl⟩; have HWX := Lib.hid (below_drewN (kept4 ‹_ ∧ _ ∧ _ ∧ _ ∧ Below _ _ _›) n10)))
                  all_goals
                    go_wp2_with fail
                    go_meet
                    first
                      | exact ⟨trivial, rfl, HWX⟩
                      | exact ⟨trivial, rfl, Lib.hid HWX.out.drew⟩
                case rest =>
                  obtain ⟨-, rfl, HWX⟩ := hcut
                  have HBE := Lib.hid (HXB.out _ HWX.out).below
                  clear SV HXB
                  go_wp2
                  go_ret
                  exact ⟨rfl, HBE.out⟩)
      | true =>
        obtain ⟨FG, FH, N2, hB⟩ := back13 hr.out HXC.out (of_decide_eq_true hs1)
        obtain ⟨N1, hset⟩ := hB.set
        have CS1 : Hid (∀ W, NodeRow W (some ⟨b, off, none⟩) len cap L → ErrVar W → Calls Tryz.prog 27 #[forV (some ⟨b, off, none⟩) len cap m, .int .i64 X, .string ⟨#[102, 111, 114, 109]⟩, .string ⟨#[]⟩] W (MvPost W m (FG, N1, 0))) := Lib.hid (fun W h1 h2 => by
          have := mset_any _ len cap m L X ⟨#[102, 111, 114, 109]⟩ ⟨#[]⟩ W h1 HM.out hX64.out (by decide) (by decide) SM.out h2
          rwa [formK, hset] at this)
        have CU1 : Hid (∀ W a2 len2 cap2 M2, NodeRow W a2 len2 cap2 M2 → coreL M2 = FG → smallF M2 → ErrVar W → Calls Tryz.prog 28 #[forV a2 len2 cap2 m, .int .i64 X, .string ⟨#[102, 111, 114, 109]⟩] W (MvPost W m (FH, N2, 0))) := Lib.hid (fun W a2 len2 cap2 M2 h1 hc hs h2 => by
          have := munset_any a2 len2 cap2 m M2 X ⟨#[102, 111, 114, 109]⟩ W h1 HM.out hX64.out (by decide) hs h2
          rwa [formK, hc, hB.uns] at this)
        have hXc : X < (coreL L).length := by rw [hlc.out]; exact hXl
        obtain ⟨z, hz⟩ : ∃ z, nearF (coreL L) X = z := ⟨_, rfl⟩
        obtain ⟨lk, hlk⟩ : ∃ lk, linkF (coreL L) X = lk := ⟨_, rfl⟩
        have HOG : Hid (ofO m FG X = if lk then -1 else z) := Lib.hid (by
          unfold ofO
          rw [thereF_of hB.rG (by rw [hB.lG]; exact hXc), if_pos rfl, Int.toNat_natCast, hB.oG, hlk, hz])
        have HOH : Hid (ofO m FH X = z) := Lib.hid (by
          unfold ofO
          rw [thereF_of hB.rH (by rw [hB.lH]; exact hXc), if_pos rfl, Int.toNat_natCast, hB.oH, hz])
        have HNA : Hid (z = -1 ∨ ∃ P : Nat, z = P ∧ P < len ∧ holdsZ m FH P X = true) := Lib.hid (by
          rcases near_asks hB.rH (show X < FH.length by rw [hB.lH]; exact hXc) with ⟨h1, _⟩ | ⟨P, h1, h2, _, _, h5, _⟩
          · exact .inl (by rw [← hz, ← hB.nH, h1])
          · exact .inr ⟨P, by rw [← hz, ← hB.nH, h1], by rw [hB.lH, hlc.out] at h2; exact h2, h5⟩)
        have CC : Hid (∀ W, NodeRow W (some ⟨b, off, none⟩) len cap L → Calls Tryz.prog 21 #[forV (some ⟨b, off, none⟩) len cap m, .int .i64 X] W fun e w' => e = .returned (.bool lk) ∧ Below W.heap.size W w') := Lib.hid (fun W h => by
          have := connFn_any _ len cap m L X W h HM.out hX64.out SM.out
          rwa [connZ_eq hr.out hXc, topZ_eq hr.out hXc, show (kindK (coreL L) (topF (coreL L) X : Nat) == 0) = lk from hlk] at this)
        clear hs1 hB hset hXc hz hlk
        go_enter Tryz.func7, Tryz.ntmps7
        go_upto_region 6 with (first
                                  | (go_at_call 9; (with_reducible refine (AW.out _ (HG.out.keep BX.out.below)).mono ?_); rintro e w1 ⟨rfl, hb⟩; have BX := Lib.hid (BX.out.keep hb); clear z0 z1; have z0 := BX.out.c0; have z1 := BX.out.c1; clear hb)
                                  | (go_at_call 10; (with_reducible refine (refshortF_any _ _ _ _ _ _ BX.out.row).mono ?_); rintro e w1 ⟨rfl, hb⟩; rw [C0.out]; have BX := Lib.hid (BX.out.keep hb); clear z0 z1; have z0 := BX.out.c0; have z1 := BX.out.c1; clear hb)
                                  | (go_at_call 19; (with_reducible refine (HR.out _ BX.out.row).mono ?_); rintro e w1 ⟨rfl, hb⟩; have BX := Lib.hid (BX.out.keep hb); clear z0 z1; have z0 := BX.out.c0; have z1 := BX.out.c1; clear hb))
        go_upto_region 8 with (go_at_call 27; (with_reducible refine (CS1.out _ BX.out.row (HG.out.keep BX.out.below)).mono ?_); rintro e w2 ⟨a2, len2, cap2, M2, va, vl, vc, rfl, hr2, hc2, hs2, -, hb2, -⟩; have BX := Lib.hid (BX.out.keep hb2); have BY := Lib.hid (MBox.new (m := m) BX.out.below hr2 hc2).box; have BX := Lib.hid (BX.out.keep (below_box w2 (forB a2 len2 cap2 m))); have HS2 := Lib.hid hs2; clear z0 z1 hr2 hc2 hs2 hb2; have z0 := BX.out.c0; have z1 := BX.out.c1; have y0 := BY.out.c0; have y1 := BY.out.c1)
        go_upto_region 9 with (go_at_call 28; (with_reducible refine (CU1.out _ _ _ _ _ BY.out.row BY.out.core HS2.out (HG.out.keep BY.out.below)).mono ?_); rintro e w4 ⟨a4, len4, cap4, M4, va4, vl4, vc4, rfl, hr4, hc4, hs4, -, hb4, -⟩; have BX := Lib.hid (BX.out.keep hb4); have BY := Lib.hid (BY.out.keep hb4); have BZ := Lib.hid (MBox.new (m := m) BX.out.below hr4 hc4).box; have BX := Lib.hid (BX.out.keep (below_box w4 (forB a4 len4 cap4 m))); have BY := Lib.hid (BY.out.keep (below_box w4 (forB a4 len4 cap4 m))); have HS4 := Lib.hid hs4; clear z0 z1 y0 y1 hr4 hc4 hs4 hb4)
        obtain ⟨w5, hw5⟩ : ∃ w5, w4.alloc (forB a4 len4 cap4 m) = w5 := ⟨_, rfl⟩
        obtain ⟨q5, hq5⟩ : ∃ q, w4.heap.size = q := ⟨_, rfl⟩
        obtain ⟨q2, hq2⟩ : ∃ q, w2.heap.size = q := ⟨_, rfl⟩
        rw [hw5] at BX BY BZ ⊢
        rw [hq5] at BZ ⊢
        rw [hq2] at BY ⊢
        have E0 := Ext.cell BX.out.c0 BX.out.lt
        have E1 := Ext.cell BX.out.c1 BX.out.lt
        have G0 := Ext.cell BY.out.c0 BY.out.lt
        have G1 := Ext.cell BY.out.c1 BY.out.lt
        have H0 := Ext.cell BZ.out.c0 BZ.out.lt
        have H1 := Ext.cell BZ.out.c1 BZ.out.lt
        have KC : Hid (∀ Y : Ext w5, Calls Tryz.prog 21 #[forV (some ⟨b, off, none⟩) len cap m, .int .i64 X] Y.v fun e w' => e = .returned (.bool lk) ∧ Below Y.v.heap.size Y.v w') := Lib.hid (fun Y => CC.out Y.v (BX.out.keep Y.below).row)
        have KG : Hid (∀ Y : Ext w5, Calls Tryz.prog 13 #[forV a2 len2 cap2 m, .int .i64 X] Y.v fun e w' => e = .returned (.int .i64 (if lk then -1 else z)) ∧ Below Y.v.heap.size Y.v w') := Lib.hid (fun Y => by
          have BYY := BY.out.keep Y.below
          have := ofO_any _ len2 cap2 m M2 X Y.v BYY.row HM.out HS2.out
          rwa [BYY.core, HOG.out] at this)
        have COH : Hid (∀ W, NodeRow W a4 len4 cap4 M4 → coreL M4 = FH → Calls Tryz.prog 13 #[forV a4 len4 cap4 m, .int .i64 X] W fun e w' => e = .returned (.int .i64 z) ∧ Below W.heap.size W w') := Lib.hid (fun W h hc => by
          have := ofO_any _ len4 cap4 m M4 X W h HM.out HS4.out
          rwa [hc, HOH.out] at this)
        have KH : Hid (∀ Y : Ext w5, Calls Tryz.prog 13 #[forV a4 len4 cap4 m, .int .i64 X] Y.v fun e w' => e = .returned (.int .i64 z) ∧ Below Y.v.heap.size Y.v w') := Lib.hid (fun Y => COH.out Y.v (BZ.out.keep Y.below).row (BZ.out.keep Y.below).core)
        have HX5 : Hid (∀ W, Below w5.heap.size w5 W → Box w W w.heap.size (some ⟨b, off, none⟩) len cap m L (coreL L)) := Lib.hid (fun W hb => BX.out.keep hb)
        have HZ5 : Hid (∀ W, Below w5.heap.size w5 W → Box w W q5 a4 len4 cap4 m M4 FH) := Lib.hid (fun W hb => BZ.out.keep hb)
        clear BX BY BZ hw5 hq5 hq2 HOG HOH CC CS1 CU1
        have b13w : Hid True := Lib.hid trivial
        cases lk with
        | true => (
                    refine wp_region_ext (by kernel_rfl) (by kernel_rfl) ?_
                    repeat (go_big_quiet_step (first | (go_at_call 21; with_reducible exact Ext.call_below (KC.out _)) | (go_at_call 13; with_reducible exact Ext.call_below (KG.out _)) | (go_at_call 13; with_reducible exact Ext.call_below (KH.out _))))
                    refine wpQuiet_nil ?_
                    intro w' hw'
                    obtain ⟨⟨w8, hb8⟩, hw''⟩ := hw'
                    dsimp only at hw''
                    subst hw''
                    have BX := Lib.hid (HX5.out _ hb8)
                    have BZ := Lib.hid (HZ5.out _ hb8)
                    clear E0 E1 G0 G1 H0 H1 KC KG KH hb8 HX5 HZ5 b13w
                    have z0 := BX.out.c0
                    have z1 := BX.out.c1
                    have y0 := BZ.out.c0
                    have y1 := BZ.out.c1
                    rcases HNA.out with rfl | ⟨P, rfl, hPl, hPh⟩
                    · go_upto_region 14 with (go_at_call 13; (with_reducible refine (COH.out _ BZ.out.row BZ.out.core).mono ?_); rintro e v1 ⟨rfl, hb⟩; have BX := Lib.hid (BX.out.keep hb); clear z0 z1 y0 y1 hb; have z0 := BX.out.c0; have z1 := BX.out.c1)
                      clear BZ HNA COH
                      (
                        cases hs2 : decide ((setZ m (coreL L) X s.toList v).2.2 = 0) with
                        | false =>
                          obtain ⟨F7, N7, e7, hS7⟩ : ∃ F7 N7 e7, setZ m (coreL L) X s.toList v = (F7, N7, e7) := ⟨_, _, _, rfl⟩
                          have he7 : (e7 != 0) = true := by
                            rw [hS7] at hs2
                            exact bne_iff_ne.2 (of_decide_eq_false hs2)
                          have CS2 : Hid (∀ W, NodeRow W (some ⟨b, off, none⟩) len cap L → ErrVar W → Calls Tryz.prog 27 #[forV (some ⟨b, off, none⟩) len cap m, .int .i64 X, .string s, .string v] W (MvPost W m (F7, N7, e7))) := Lib.hid (fun W h1 h2 => by
                            have := mset_any _ len cap m L X s v W h1 HM.out hX64.out HSZ.out HVZ.out SM.out h2
                            rwa [hS7] at this)
                          clear hs2 hS7
                          go_wp2_with (go_at_call 27; (with_reducible refine (CS2.out _ BX.out.row (HG.out.keep BX.out.below)).mono ?_); rintro e v2 ⟨a7, len7, cap7, M7, va7, vl7, vc7, rfl, -, -, -, -, hb7, -⟩; have BX := Lib.hid (BX.out.keep hb7); have BX := Lib.hid (BX.out.keep (below_box v2 (forB a7 len7 cap7 m))); clear z0 z1 hb7)
                          go_ret
                          exact ⟨rfl, BX.out.below⟩
                        | true =>
                          have hs3 := of_decide_eq_true hs2
                          obtain ⟨hk7, he7, hz7, hG7⟩ := setZ_yes hr.out HXC.out hs3
                          have HO7 : Hid (smallL s.toList ≠ formT → smallL s.toList ≠ idT → ownL (chgF (coreL L) X (setA nx.core.attrs s.toList v)) = ownL (coreL L)) := Lib.hid (fun h1 h2 => by
                            obtain ⟨G, h3, h4, h5⟩ := other13 hr.out HXC.out hs3 h1 h2
                            rw [hz7] at h3
                            have h6 : chgF (coreL L) X (setA nx.core.attrs s.toList v) = G := congrArg Prod.fst h3
                            rw [h6]
                            exact h5)
                          obtain ⟨B7, hB7⟩ : ∃ B, chgF (coreL L) X (setA nx.core.attrs s.toList v) = B := ⟨_, rfl⟩
                          obtain ⟨N7, hN7⟩ : ∃ N, chgN X s.toList nx.core.attrs (setA nx.core.attrs s.toList v) = N := ⟨_, rfl⟩
                          have HNM : Hid (N7.name.toList = smallL s.toList) := Lib.hid (by rw [← hN7]; exact toList_ofL _)
                          rw [hB7, hN7] at hz7
                          rw [hB7] at hG7 HO7
                          have HRB := Lib.hid hG7
                          have CS2 : Hid (∀ W, NodeRow W (some ⟨b, off, none⟩) len cap L → ErrVar W → Calls Tryz.prog 27 #[forV (some ⟨b, off, none⟩) len cap m, .int .i64 X, .string s, .string v] W (MvPost W m (B7, [N7], 0))) := Lib.hid (fun W h1 h2 => by
                            have := mset_any _ len cap m L X s v W h1 HM.out hX64.out HSZ.out HVZ.out SM.out h2
                            rwa [hz7] at this)
                          clear hs2 hs3 hk7 he7 hz7 hG7 hB7 hN7
                          go_upto_region 15 with (go_at_call 27; (with_reducible refine (CS2.out _ BX.out.row (HG.out.keep BX.out.below)).mono ?_); rintro e v2 ⟨a7, len7, cap7, M7, va7, vl7, vc7, rfl, hr7, hc7, hs7, hn7, hb7, -⟩; have BX := Lib.hid (BX.out.keep hb7); have BB := Lib.hid (MBox.new (m := m) BX.out.below hr7 hc7).box; have BX := Lib.hid (BX.out.keep (below_box v2 (forB a7 len7 cap7 m))); have HS7 := Lib.hid hs7; have HN7 := Lib.hid (hn7.below (below_box v2 (forB a7 len7 cap7 m))); clear z0 z1 hr7 hc7 hs7 hn7 hb7)
                          obtain ⟨rfl, bn, on, rfl, hbn, hcn⟩ := HN7.out.one
                          have n4 := hcn 4 _ rfl
                          clear hcn hbn
                          have z0 := BX.out.c0
                          have z1 := BX.out.c1
                          cases hf7 : (N7.name.toList == [102, 111, 114, 109]) with
                          | true =>
                            go_wp2
                            go_ret
                            exact ⟨rfl, BX.out.below⟩
                          | false =>
                            cases hi7 : (N7.name.toList == [105, 100]) with
                            | true =>
                              go_wp2
                              go_ret
                              exact ⟨rfl, BX.out.below⟩
                            | false =>
                              have HOE := HO7.out (by rw [← HNM.out]; exact beq_eq_false_iff_ne.1 hf7) (by rw [← HNM.out]; exact beq_eq_false_iff_ne.1 hi7)
                              go_upto_region 17 with fail
                              clear z0 z1 n4 hf7 hi7
                              obtain ⟨w6, hw6⟩ : ∃ w6, v2.alloc (forB a7 len7 cap7 m) = w6 := ⟨_, rfl⟩
                              obtain ⟨q7, hq7⟩ : ∃ q, v2.heap.size = q := ⟨_, rfl⟩
                              rw [hw6] at BX BB ⊢
                              rw [hq7] at BB ⊢
                              have HXB : Hid (∀ W, Below w6.heap.size w6 W → Box w W w.heap.size (some ⟨b, off, none⟩) len cap m L (coreL L)) := Lib.hid (fun W hb => BX.out.keep hb)
                              have HYB : Hid (∀ W, Below w6.heap.size w6 W → Box w W q7 a7 len7 cap7 m M7 B7) := Lib.hid (fun W hb => BB.out.keep hb)
                              have LT := Lib.hid BX.out.lt
                              have LT2 := Lib.hid BB.out.lt
                              have SV : w6.cell? ⟨w.heap.size, 0, none⟩ = some (.slice (some ⟨b, off, none⟩) len cap) ∧ w6.cell? ⟨w.heap.size, 1, none⟩ = some (.int .i64 m) ∧ w6.cell? ⟨q7, 0, none⟩ = some (.slice a7 len7 cap7) ∧ w6.cell? ⟨q7, 1, none⟩ = some (.int .i64 m) ∧ Below w6.heap.size w6 w6 := ⟨BX.out.c0, BX.out.c1, BB.out.c0, BB.out.c1, Below.refl _ _⟩
                              obtain ⟨l, hl⟩ : ∃ l, ownL (coreL L) = l := ⟨_, rfl⟩
                              have CAF : Hid (∀ W, NodeRow W (some ⟨b, off, none⟩) len cap L → Calls Tryz.prog 11 #[forV (some ⟨b, off, none⟩) len cap m] W (OrdNew W l)) := Lib.hid (fun W h => by
                                have := allO_any _ len cap m L W h HM.out SM.out
                                rwa [show allO m (coreL L) = l by unfold allO; rw [if_pos hr.out]; exact hl] at this)
                              have CAB : Hid (∀ W, NodeRow W a7 len7 cap7 M7 → coreL M7 = B7 → Calls Tryz.prog 11 #[forV a7 len7 cap7 m] W (OrdNew W l)) := Lib.hid (fun W h hc => by
                                have := allO_any _ len7 cap7 m M7 W h HM.out HS7.out
                                rw [hc] at this
                                rwa [show allO m B7 = l by unfold allO; rw [if_pos HRB.out, HOE]; exact hl] at this)
                              have CT : Hid (∀ (W : World) (a1 a2 : Option Addr) (l1 l2 c1 c2 : Nat), IntRow W a1 l1 c1 l → IntRow W a2 l2 c2 l → Calls Tryz.prog 17 #[.slice a1 l1 c1, .slice a2 l2 c2] W fun e w' => e = .returned (.bool true) ∧ ∃ n, w' = W.drewN n) := Lib.hid (fun W a1 a2 l1 l2 c1 c2 h1 h2 => by
                                have := refints_any a1 a2 l1 c1 l2 c2 l l W h1 h2
                                rwa [decide_eq_true rfl] at this)
                              clear BX BB hw6 hq7 hl HOE HO7 CS2
                              go_cut [8] (fun t wx => True ∧ t = .bool true ∧ Hid (Below w6.heap.size w6 wx))
                              case first =>
                                go_region_held3 (fun w' => w'.cell? ⟨w.heap.size, 0, none⟩ = some (.slice (some ⟨b, off, none⟩) len cap) ∧ w'.cell? ⟨w.heap.size, 1, none⟩ = some (.int .i64 m) ∧ w'.cell? ⟨q7, 0, none⟩ = some (.slice a7 len7 cap7) ∧ w'.cell? ⟨q7, 1, none⟩ = some (.int .i64 m) ∧ Below w6.heap.size w6 w')
                                  (with_reducible first | (refine keep4 LT.out LT.out LT2.out LT2.out SV ?_; first | exact HWX.out | exact HWX.out.drew | exact (Below.refl _ _).drew) | assumption)
                                  (first
                                    | (go_at_call 11; (with_reducible refine (CAF.out _ (HXB.out _ (kept4 ‹_ ∧ _ ∧ _ ∧ _ ∧ Below _ _ _›)).row).mono ?_); rintro e w8 ⟨am, lm, cm, rfl, hrm, hb, -⟩; have HWX := Lib.hid ((kept4 ‹_ ∧ _ ∧ _ ∧ _ ∧ Below _ _ _›).trans (hb.mono (kept4 ‹_ ∧ _ ∧ _ ∧ _ ∧ Below _ _ _›).size)); have IM := Lib.hid hrm; clear hb hrm)
                                    | (go_at_call 11; (with_reducible refine (CAB.out _ (HYB.out _ (kept4 ‹_ ∧ _ ∧ _ ∧ _ ∧ Below _ _ _›)).row (HYB.out _ (kept4 ‹_ ∧ _ ∧ _ ∧ _ ∧ Below _ _ _›)).core).mono ?_); rintro e w9 ⟨an, ln, cn, rfl, hrn, hb, -⟩; have HWX := Lib.hid ((kept4 ‹_ ∧ _ ∧ _ ∧ _ ∧ Below _ _ _›).trans (hb.mono (kept4 ‹_ ∧ _ ∧ _ ∧ _ ∧ Below _ _ _›).size)); (first | (have IM := Lib.hid (IM.out.below hb)) | (have IM := Lib.hid ((IM.out.drewN 1).below hb))); have IN := Lib.hid hrn; clear hb hrn)
                                    | (go_at_call 17; (first | (with_reducible refine (CT.out _ _ _ _ _ _ _ IM.out IN.out).mono ?_) | (with_reducible refine (CT.out _ _ _ _ _ _ _ (IM.out.drewN 1) (IN.out.drewN 1)).mono ?_)); rintro e w10 ⟨rfl, n10, rfl⟩; have HWX := Lib.hid (below_drewN (kept4 ‹_ ∧ _ ∧ _ ∧ _ ∧ Below _ _ _›) n10)))
                                all_goals
                                  go_wp2_with fail
                                  go_meet
                                  first
                                    | exact ⟨trivial, rfl, HWX⟩
                                    | exact ⟨trivial, rfl, Lib.hid HWX.out.drew⟩
                              case rest =>
                                obtain ⟨-, rfl, HWX⟩ := hcut
                                have HBE := Lib.hid (HXB.out _ HWX.out).below
                                clear SV HXB
                                go_wp2
                                go_ret
                                exact ⟨rfl, HBE.out⟩)
                    · have hpn : ((P : Int) != -1) = true := bne_iff_ne.2 (by omega)
                      have CH : Hid (∀ W, NodeRow W a4 len4 cap4 M4 → coreL M4 = FH → Calls Tryz.prog 22 #[forV a4 len4 cap4 m, .int .i64 P, .int .i64 X] W fun e w' => e = .returned (.bool true) ∧ Below W.heap.size W w') := Lib.hid (fun W h hc => by
                        have := holdsFn_any _ len4 cap4 m M4 P X W h HM.out ⟨by omega, by omega⟩ hX64.out HS4.out
                        rwa [hc, hPh] at this)
                      clear hPh
                      go_upto_region 14 with (first
                        | (go_at_call 13; (with_reducible refine (COH.out _ BZ.out.row BZ.out.core).mono ?_); rintro e v1 ⟨rfl, hb⟩; have BX := Lib.hid (BX.out.keep hb); have BZ := Lib.hid (BZ.out.keep hb); clear z0 z1 y0 y1 hb; have z0 := BX.out.c0; have z1 := BX.out.c1; have y0 := BZ.out.c0; have y1 := BZ.out.c1)
                        | (go_at_call 22; (with_reducible refine (CH.out _ BZ.out.row BZ.out.core).mono ?_); rintro e v1 ⟨rfl, hb⟩; have BX := Lib.hid (BX.out.keep hb); clear z0 z1 y0 y1 hb; have z0 := BX.out.c0; have z1 := BX.out.c1))
                      clear BZ HNA COH CH hpn
                      (
                        cases hs2 : decide ((setZ m (coreL L) X s.toList v).2.2 = 0) with
                        | false =>
                          obtain ⟨F7, N7, e7, hS7⟩ : ∃ F7 N7 e7, setZ m (coreL L) X s.toList v = (F7, N7, e7) := ⟨_, _, _, rfl⟩
                          have he7 : (e7 != 0) = true := by
                            rw [hS7] at hs2
                            exact bne_iff_ne.2 (of_decide_eq_false hs2)
                          have CS2 : Hid (∀ W, NodeRow W (some ⟨b, off, none⟩) len cap L → ErrVar W → Calls Tryz.prog 27 #[forV (some ⟨b, off, none⟩) len cap m, .int .i64 X, .string s, .string v] W (MvPost W m (F7, N7, e7))) := Lib.hid (fun W h1 h2 => by
                            have := mset_any _ len cap m L X s v W h1 HM.out hX64.out HSZ.out HVZ.out SM.out h2
                            rwa [hS7] at this)
                          clear hs2 hS7
                          go_wp2_with (go_at_call 27; (with_reducible refine (CS2.out _ BX.out.row (HG.out.keep BX.out.below)).mono ?_); rintro e v2 ⟨a7, len7, cap7, M7, va7, vl7, vc7, rfl, -, -, -, -, hb7, -⟩; have BX := Lib.hid (BX.out.keep hb7); have BX := Lib.hid (BX.out.keep (below_box v2 (forB a7 len7 cap7 m))); clear z0 z1 hb7)
                          go_ret
                          exact ⟨rfl, BX.out.below⟩
                        | true =>
                          have hs3 := of_decide_eq_true hs2
                          obtain ⟨hk7, he7, hz7, hG7⟩ := setZ_yes hr.out HXC.out hs3
                          have HO7 : Hid (smallL s.toList ≠ formT → smallL s.toList ≠ idT → ownL (chgF (coreL L) X (setA nx.core.attrs s.toList v)) = ownL (coreL L)) := Lib.hid (fun h1 h2 => by
                            obtain ⟨G, h3, h4, h5⟩ := other13 hr.out HXC.out hs3 h1 h2
                            rw [hz7] at h3
                            have h6 : chgF (coreL L) X (setA nx.core.attrs s.toList v) = G := congrArg Prod.fst h3
                            rw [h6]
                            exact h5)
                          obtain ⟨B7, hB7⟩ : ∃ B, chgF (coreL L) X (setA nx.core.attrs s.toList v) = B := ⟨_, rfl⟩
                          obtain ⟨N7, hN7⟩ : ∃ N, chgN X s.toList nx.core.attrs (setA nx.core.attrs s.toList v) = N := ⟨_, rfl⟩
                          have HNM : Hid (N7.name.toList = smallL s.toList) := Lib.hid (by rw [← hN7]; exact toList_ofL _)
                          rw [hB7, hN7] at hz7
                          rw [hB7] at hG7 HO7
                          have HRB := Lib.hid hG7
                          have CS2 : Hid (∀ W, NodeRow W (some ⟨b, off, none⟩) len cap L → ErrVar W → Calls Tryz.prog 27 #[forV (some ⟨b, off, none⟩) len cap m, .int .i64 X, .string s, .string v] W (MvPost W m (B7, [N7], 0))) := Lib.hid (fun W h1 h2 => by
                            have := mset_any _ len cap m L X s v W h1 HM.out hX64.out HSZ.out HVZ.out SM.out h2
                            rwa [hz7] at this)
                          clear hs2 hs3 hk7 he7 hz7 hG7 hB7 hN7
                          go_upto_region 15 with (go_at_call 27; (with_reducible refine (CS2.out _ BX.out.row (HG.out.keep BX.out.below)).mono ?_); rintro e v2 ⟨a7, len7, cap7, M7, va7, vl7, vc7, rfl, hr7, hc7, hs7, hn7, hb7, -⟩; have BX := Lib.hid (BX.out.keep hb7); have BB := Lib.hid (MBox.new (m := m) BX.out.below hr7 hc7).box; have BX := Lib.hid (BX.out.keep (below_box v2 (forB a7 len7 cap7 m))); have HS7 := Lib.hid hs7; have HN7 := Lib.hid (hn7.below (below_box v2 (forB a7 len7 cap7 m))); clear z0 z1 hr7 hc7 hs7 hn7 hb7)
                          obtain ⟨rfl, bn, on, rfl, hbn, hcn⟩ := HN7.out.one
                          have n4 := hcn 4 _ rfl
                          clear hcn hbn
                          have z0 := BX.out.c0
                          have z1 := BX.out.c1
                          cases hf7 : (N7.name.toList == [102, 111, 114, 109]) with
                          | true =>
                            go_wp2
                            go_ret
                            exact ⟨rfl, BX.out.below⟩
                          | false =>
                            cases hi7 : (N7.name.toList == [105, 100]) with
                            | true =>
                              go_wp2
                              go_ret
                              exact ⟨rfl, BX.out.below⟩
                            | false =>
                              have HOE := HO7.out (by rw [← HNM.out]; exact beq_eq_false_iff_ne.1 hf7) (by rw [← HNM.out]; exact beq_eq_false_iff_ne.1 hi7)
                              go_upto_region 17 with fail
                              clear z0 z1 n4 hf7 hi7
                              obtain ⟨w6, hw6⟩ : ∃ w6, v2.alloc (forB a7 len7 cap7 m) = w6 := ⟨_, rfl⟩
                              obtain ⟨q7, hq7⟩ : ∃ q, v2.heap.size = q := ⟨_, rfl⟩
                              rw [hw6] at BX BB ⊢
                              rw [hq7] at BB ⊢
                              have HXB : Hid (∀ W, Below w6.heap.size w6 W → Box w W w.heap.size (some ⟨b, off, none⟩) len cap m L (coreL L)) := Lib.hid (fun W hb => BX.out.keep hb)
                              have HYB : Hid (∀ W, Below w6.heap.size w6 W → Box w W q7 a7 len7 cap7 m M7 B7) := Lib.hid (fun W hb => BB.out.keep hb)
                              have LT := Lib.hid BX.out.lt
                              have LT2 := Lib.hid BB.out.lt
                              have SV : w6.cell? ⟨w.heap.size, 0, none⟩ = some (.slice (some ⟨b, off, none⟩) len cap) ∧ w6.cell? ⟨w.heap.size, 1, none⟩ = some (.int .i64 m) ∧ w6.cell? ⟨q7, 0, none⟩ = some (.slice a7 len7 cap7) ∧ w6.cell? ⟨q7, 1, none⟩ = some (.int .i64 m) ∧ Below w6.heap.size w6 w6 := ⟨BX.out.c0, BX.out.c1, BB.out.c0, BB.out.c1, Below.refl _ _⟩
                              obtain ⟨l, hl⟩ : ∃ l, ownL (coreL L) = l := ⟨_, rfl⟩
                              have CAF : Hid (∀ W, NodeRow W (some ⟨b, off, none⟩) len cap L → Calls Tryz.prog 11 #[forV (some ⟨b, off, none⟩) len cap m] W (OrdNew W l)) := Lib.hid (fun W h => by
                                have := allO_any _ len cap m L W h HM.out SM.out
                                rwa [show allO m (coreL L) = l by unfold allO; rw [if_pos hr.out]; exact hl] at this)
                              have CAB : Hid (∀ W, NodeRow W a7 len7 cap7 M7 → coreL M7 = B7 → Calls Tryz.prog 11 #[forV a7 len7 cap7 m] W (OrdNew W l)) := Lib.hid (fun W h hc => by
                                have := allO_any _ len7 cap7 m M7 W h HM.out HS7.out
                                rw [hc] at this
                                rwa [show allO m B7 = l by unfold allO; rw [if_pos HRB.out, HOE]; exact hl] at this)
                              have CT : Hid (∀ (W : World) (a1 a2 : Option Addr) (l1 l2 c1 c2 : Nat), IntRow W a1 l1 c1 l → IntRow W a2 l2 c2 l → Calls Tryz.prog 17 #[.slice a1 l1 c1, .slice a2 l2 c2] W fun e w' => e = .returned (.bool true) ∧ ∃ n, w' = W.drewN n) := Lib.hid (fun W a1 a2 l1 l2 c1 c2 h1 h2 => by
                                have := refints_any a1 a2 l1 c1 l2 c2 l l W h1 h2
                                rwa [decide_eq_true rfl] at this)
                              clear BX BB hw6 hq7 hl HOE HO7 CS2
                              go_cut [8] (fun t wx => True ∧ t = .bool true ∧ Hid (Below w6.heap.size w6 wx))
                              case first =>
                                go_region_held3 (fun w' => w'.cell? ⟨w.heap.size, 0, none⟩ = some (.slice (some ⟨b, off, none⟩) len cap) ∧ w'.cell? ⟨w.heap.size, 1, none⟩ = some (.int .i64 m) ∧ w'.cell? ⟨q7, 0, none⟩ = some (.slice a7 len7 cap7) ∧ w'.cell? ⟨q7, 1, none⟩ = some (.int .i64 m) ∧ Below w6.heap.size w6 w')
                                  (with_reducible first | (refine keep4 LT.out LT.out LT2.out LT2.out SV ?_; first | exact HWX.out | exact HWX.out.drew | exact (Below.refl _ _).drew) | assumption)
                                  (first
                                    | (go_at_call 11; (with_reducible refine (CAF.out _ (HXB.out _ (kept4 ‹_ ∧ _ ∧ _ ∧ _ ∧ Below _ _ _›)).row).mono ?_); rintro e w8 ⟨am, lm, cm, rfl, hrm, hb, -⟩; have HWX := Lib.hid ((kept4 ‹_ ∧ _ ∧ _ ∧ _ ∧ Below _ _ _›).trans (hb.mono (kept4 ‹_ ∧ _ ∧ _ ∧ _ ∧ Below _ _ _›).size)); have IM := Lib.hid hrm; clear hb hrm)
                                    | (go_at_call 11; (with_reducible refine (CAB.out _ (HYB.out _ (kept4 ‹_ ∧ _ ∧ _ ∧ _ ∧ Below _ _ _›)).row (HYB.out _ (kept4 ‹_ ∧ _ ∧ _ ∧ _ ∧ Below _ _ _›)).core).mono ?_); rintro e w9 ⟨an, ln, cn, rfl, hrn, hb, -⟩; have HWX := Lib.hid ((kept4 ‹_ ∧ _ ∧ _ ∧ _ ∧ Below _ _ _›).trans (hb.mono (kept4 ‹_ ∧ _ ∧ _ ∧ _ ∧ Below _ _ _›).size)); (first | (have IM := Lib.hid (IM.out.below hb)) | (have IM := Lib.hid ((IM.out.drewN 1).below hb))); have IN := Lib.hid hrn; clear hb hrn)
                                    | (go_at_call 17; (first | (with_reducible refine (CT.out _ _ _ _ _ _ _ IM.out IN.out).mono ?_) | (with_reducible refine (CT.out _ _ _ _ _ _ _ (IM.out.drewN 1) (IN.out.drewN 1)).mono ?_)); rintro e w10 ⟨rfl, n10, rfl⟩; have HWX := Lib.hid (below_drewN (kept4 ‹_ ∧ _ ∧ _ ∧ _ ∧ Below _ _ _›) n10)))
                                all_goals
                                  go_wp2_with fail
                                  go_meet
                                  first
                                    | exact ⟨trivial, rfl, HWX⟩
                                    | exact ⟨trivial, rfl, Lib.hid HWX.out.drew⟩
                              case rest =>
                                obtain ⟨-, rfl, HWX⟩ := hcut
                                have HBE := Lib.hid (HXB.out _ HWX.out).below
                                clear SV HXB
                                go_wp2
                                go_ret
                                exact ⟨rfl, HBE.out⟩))
        | false => (
                     refine wp_region_ext (by kernel_rfl) (by kernel_rfl) ?_
                     repeat (go_big_quiet_step (first | (go_at_call 21; with_reducible exact Ext.call_below (KC.out _)) | (go_at_call 13; with_reducible exact Ext.call_below (KG.out _)) | (go_at_call 13; with_reducible exact Ext.call_below (KH.out _))))
                     refine wpQuiet_nil ?_
                     intro w' hw'
                     obtain ⟨⟨w8, hb8⟩, hw''⟩ := hw'
                     dsimp only at hw''
                     subst hw''
                     have BX := Lib.hid (HX5.out _ hb8)
                     have BZ := Lib.hid (HZ5.out _ hb8)
                     clear E0 E1 G0 G1 H0 H1 KC KG KH hb8 HX5 HZ5 b13w
                     have z0 := BX.out.c0
                     have z1 := BX.out.c1
                     have y0 := BZ.out.c0
                     have y1 := BZ.out.c1
                     rcases HNA.out with rfl | ⟨P, rfl, hPl, hPh⟩
                     · go_upto_region 14 with (go_at_call 13; (with_reducible refine (COH.out _ BZ.out.row BZ.out.core).mono ?_); rintro e v1 ⟨rfl, hb⟩; have BX := Lib.hid (BX.out.keep hb); clear z0 z1 y0 y1 hb; have z0 := BX.out.c0; have z1 := BX.out.c1)
                       clear BZ HNA COH
                       (
                         cases hs2 : decide ((setZ m (coreL L) X s.toList v).2.2 = 0) with
                         | false =>
                           obtain ⟨F7, N7, e7, hS7⟩ : ∃ F7 N7 e7, setZ m (coreL L) X s.toList v = (F7, N7, e7) := ⟨_, _, _, rfl⟩
                           have he7 : (e7 != 0) = true := by
                             rw [hS7] at hs2
                             exact bne_iff_ne.2 (of_decide_eq_false hs2)
                           have CS2 : Hid (∀ W, NodeRow W (some ⟨b, off, none⟩) len cap L → ErrVar W → Calls Tryz.prog 27 #[forV (some ⟨b, off, none⟩) len cap m, .int .i64 X, .string s, .string v] W (MvPost W m (F7, N7, e7))) := Lib.hid (fun W h1 h2 => by
                             have := mset_any _ len cap m L X s v W h1 HM.out hX64.out HSZ.out HVZ.out SM.out h2
                             rwa [hS7] at this)
                           clear hs2 hS7
                           go_wp2_with (go_at_call 27; (with_reducible refine (CS2.out _ BX.out.row (HG.out.keep BX.out.below)).mono ?_); rintro e v2 ⟨a7, len7, cap7, M7, va7, vl7, vc7, rfl, -, -, -, -, hb7, -⟩; have BX := Lib.hid (BX.out.keep hb7); have BX := Lib.hid (BX.out.keep (below_box v2 (forB a7 len7 cap7 m))); clear z0 z1 hb7)
                           go_ret
                           exact ⟨rfl, BX.out.below⟩
                         | true =>
                           have hs3 := of_decide_eq_true hs2
                           obtain ⟨hk7, he7, hz7, hG7⟩ := setZ_yes hr.out HXC.out hs3
                           have HO7 : Hid (smallL s.toList ≠ formT → smallL s.toList ≠ idT → ownL (chgF (coreL L) X (setA nx.core.attrs s.toList v)) = ownL (coreL L)) := Lib.hid (fun h1 h2 => by
                             obtain ⟨G, h3, h4, h5⟩ := other13 hr.out HXC.out hs3 h1 h2
                             rw [hz7] at h3
                             have h6 : chgF (coreL L) X (setA nx.core.attrs s.toList v) = G := congrArg Prod.fst h3
                             rw [h6]
                             exact h5)
                           obtain ⟨B7, hB7⟩ : ∃ B, chgF (coreL L) X (setA nx.core.attrs s.toList v) = B := ⟨_, rfl⟩
                           obtain ⟨N7, hN7⟩ : ∃ N, chgN X s.toList nx.core.attrs (setA nx.core.attrs s.toList v) = N := ⟨_, rfl⟩
                           have HNM : Hid (N7.name.toList = smallL s.toList) := Lib.hid (by rw [← hN7]; exact toList_ofL _)
                           rw [hB7, hN7] at hz7
                           rw [hB7] at hG7 HO7
                           have HRB := Lib.hid hG7
                           have CS2 : Hid (∀ W, NodeRow W (some ⟨b, off, none⟩) len cap L → ErrVar W → Calls Tryz.prog 27 #[forV (some ⟨b, off, none⟩) len cap m, .int .i64 X, .string s, .string v] W (MvPost W m (B7, [N7], 0))) := Lib.hid (fun W h1 h2 => by
                             have := mset_any _ len cap m L X s v W h1 HM.out hX64.out HSZ.out HVZ.out SM.out h2
                             rwa [hz7] at this)
                           clear hs2 hs3 hk7 he7 hz7 hG7 hB7 hN7
                           go_upto_region 15 with (go_at_call 27; (with_reducible refine (CS2.out _ BX.out.row (HG.out.keep BX.out.below)).mono ?_); rintro e v2 ⟨a7, len7, cap7, M7, va7, vl7, vc7, rfl, hr7, hc7, hs7, hn7, hb7, -⟩; have BX := Lib.hid (BX.out.keep hb7); have BB := Lib.hid (MBox.new (m := m) BX.out.below hr7 hc7).box; have BX := Lib.hid (BX.out.keep (below_box v2 (forB a7 len7 cap7 m))); have HS7 := Lib.hid hs7; have HN7 := Lib.hid (hn7.below (below_box v2 (forB a7 len7 cap7 m))); clear z0 z1 hr7 hc7 hs7 hn7 hb7)
                           obtain ⟨rfl, bn, on, rfl, hbn, hcn⟩ := HN7.out.one
                           have n4 := hcn 4 _ rfl
                           clear hcn hbn
                           have z0 := BX.out.c0
                           have z1 := BX.out.c1
                           cases hf7 : (N7.name.toList == [102, 111, 114, 109]) with
                           | true =>
                             go_wp2
                             go_ret
                             exact ⟨rfl, BX.out.below⟩
                           | false =>
                             cases hi7 : (N7.name.toList == [105, 100]) with
                             | true =>
                               go_wp2
                               go_ret
                               exact ⟨rfl, BX.out.below⟩
                             | false =>
                               have HOE := HO7.out (by rw [← HNM.out]; exact beq_eq_false_iff_ne.1 hf7) (by rw [← HNM.out]; exact beq_eq_false_iff_ne.1 hi7)
                               go_upto_region 17 with fail
                               clear z0 z1 n4 hf7 hi7
                               obtain ⟨w6, hw6⟩ : ∃ w6, v2.alloc (forB a7 len7 cap7 m) = w6 := ⟨_, rfl⟩
                               obtain ⟨q7, hq7⟩ : ∃ q, v2.heap.size = q := ⟨_, rfl⟩
                               rw [hw6] at BX BB ⊢
                               rw [hq7] at BB ⊢
                               have HXB : Hid (∀ W, Below w6.heap.size w6 W → Box w W w.heap.size (some ⟨b, off, none⟩) len cap m L (coreL L)) := Lib.hid (fun W hb => BX.out.keep hb)
                               have HYB : Hid (∀ W, Below w6.heap.size w6 W → Box w W q7 a7 len7 cap7 m M7 B7) := Lib.hid (fun W hb => BB.out.keep hb)
                               have LT := Lib.hid BX.out.lt
                               have LT2 := Lib.hid BB.out.lt
                               have SV : w6.cell? ⟨w.heap.size, 0, none⟩ = some (.slice (some ⟨b, off, none⟩) len cap) ∧ w6.cell? ⟨w.heap.size, 1, none⟩ = some (.int .i64 m) ∧ w6.cell? ⟨q7, 0, none⟩ = some (.slice a7 len7 cap7) ∧ w6.cell? ⟨q7, 1, none⟩ = some (.int .i64 m) ∧ Below w6.heap.size w6 w6 := ⟨BX.out.c0, BX.out.c1, BB.out.c0, BB.out.c1, Below.refl _ _⟩
                               obtain ⟨l, hl⟩ : ∃ l, ownL (coreL L) = l := ⟨_, rfl⟩
                               have CAF : Hid (∀ W, NodeRow W (some ⟨b, off, none⟩) len cap L → Calls Tryz.prog 11 #[forV (some ⟨b, off, none⟩) len cap m] W (OrdNew W l)) := Lib.hid (fun W h => by
                                 have := allO_any _ len cap m L W h HM.out SM.out
                                 rwa [show allO m (coreL L) = l by unfold allO; rw [if_pos hr.out]; exact hl] at this)
                               have CAB : Hid (∀ W, NodeRow W a7 len7 cap7 M7 → coreL M7 = B7 → Calls Tryz.prog 11 #[forV a7 len7 cap7 m] W (OrdNew W l)) := Lib.hid (fun W h hc => by
                                 have := allO_any _ len7 cap7 m M7 W h HM.out HS7.out
                                 rw [hc] at this
                                 rwa [show allO m B7 = l by unfold allO; rw [if_pos HRB.out, HOE]; exact hl] at this)
                               have CT : Hid (∀ (W : World) (a1 a2 : Option Addr) (l1 l2 c1 c2 : Nat), IntRow W a1 l1 c1 l → IntRow W a2 l2 c2 l → Calls Tryz.prog 17 #[.slice a1 l1 c1, .slice a2 l2 c2] W fun e w' => e = .returned (.bool true) ∧ ∃ n, w' = W.drewN n) := Lib.hid (fun W a1 a2 l1 l2 c1 c2 h1 h2 => by
                                 have := refints_any a1 a2 l1 c1 l2 c2 l l W h1 h2
                                 rwa [decide_eq_true rfl] at this)
                               clear BX BB hw6 hq7 hl HOE HO7 CS2
                               go_cut [8] (fun t wx => True ∧ t = .bool true ∧ Hid (Below w6.heap.size w6 wx))
                               case first =>
                                 go_region_held3 (fun w' => w'.cell? ⟨w.heap.size, 0, none⟩ = some (.slice (some ⟨b, off, none⟩) len cap) ∧ w'.cell? ⟨w.heap.size, 1, none⟩ = some (.int .i64 m) ∧ w'.cell? ⟨q7, 0, none⟩ = some (.slice a7 len7 cap7) ∧ w'.cell? ⟨q7, 1, none⟩ = some (.int .i64 m) ∧ Below w6.heap.size w6 w')
                                   (with_reducible first | (refine keep4 LT.out LT.out LT2.out LT2.out SV ?_; first | exact HWX.out | exact HWX.out.drew | exact (Below.refl _ _).drew) | assumption)
                                   (first
                                     | (go_at_call 11; (with_reducible refine (CAF.out _ (HXB.out _ (kept4 ‹_ ∧ _ ∧ _ ∧ _ ∧ Below _ _ _›)).row).mono ?_); rintro e w8 ⟨am, lm, cm, rfl, hrm, hb, -⟩; have HWX := Lib.hid ((kept4 ‹_ ∧ _ ∧ _ ∧ _ ∧ Below _ _ _›).trans (hb.mono (kept4 ‹_ ∧ _ ∧ _ ∧ _ ∧ Below _ _ _›).size)); have IM := Lib.hid hrm; clear hb hrm)
                                     | (go_at_call 11; (with_reducible refine (CAB.out _ (HYB.out _ (kept4 ‹_ ∧ _ ∧ _ ∧ _ ∧ Below _ _ _›)).row (HYB.out _ (kept4 ‹_ ∧ _ ∧ _ ∧ _ ∧ Below _ _ _›)).core).mono ?_); rintro e w9 ⟨an, ln, cn, rfl, hrn, hb, -⟩; have HWX := Lib.hid ((kept4 ‹_ ∧ _ ∧ _ ∧ _ ∧ Below _ _ _›).trans (hb.mono (kept4 ‹_ ∧ _ ∧ _ ∧ _ ∧ Below _ _ _›).size)); (first | (have IM := Lib.hid (IM.out.below hb)) | (have IM := Lib.hid ((IM.out.drewN 1).below hb))); have IN := Lib.hid hrn; clear hb hrn)
                                     | (go_at_call 17; (first | (with_reducible refine (CT.out _ _ _ _ _ _ _ IM.out IN.out).mono ?_) | (with_reducible refine (CT.out _ _ _ _ _ _ _ (IM.out.drewN 1) (IN.out.drewN 1)).mono ?_)); rintro e w10 ⟨rfl, n10, rfl⟩; have HWX := Lib.hid (below_drewN (kept4 ‹_ ∧ _ ∧ _ ∧ _ ∧ Below _ _ _›) n10)))
                                 all_goals
                                   go_wp2_with fail
                                   go_meet
                                   first
                                     | exact ⟨trivial, rfl, HWX⟩
                                     | exact ⟨trivial, rfl, Lib.hid HWX.out.drew⟩
                               case rest =>
                                 obtain ⟨-, rfl, HWX⟩ := hcut
                                 have HBE := Lib.hid (HXB.out _ HWX.out).below
                                 clear SV HXB
                                 go_wp2
                                 go_ret
                                 exact ⟨rfl, HBE.out⟩)
                     · have hpn : ((P : Int) != -1) = true := bne_iff_ne.2 (by omega)
                       have CH : Hid (∀ W, NodeRow W a4 len4 cap4 M4 → coreL M4 = FH → Calls Tryz.prog 22 #[forV a4 len4 cap4 m, .int .i64 P, .int .i64 X] W fun e w' => e = .returned (.bool true) ∧ Below W.heap.size W w') := Lib.hid (fun W h hc => by
                         have := holdsFn_any _ len4 cap4 m M4 P X W h HM.out ⟨by omega, by omega⟩ hX64.out HS4.out
                         rwa [hc, hPh] at this)
                       clear hPh
                       go_upto_region 14 with (first
                         | (go_at_call 13; (with_reducible refine (COH.out _ BZ.out.row BZ.out.core).mono ?_); rintro e v1 ⟨rfl, hb⟩; have BX := Lib.hid (BX.out.keep hb); have BZ := Lib.hid (BZ.out.keep hb); clear z0 z1 y0 y1 hb; have z0 := BX.out.c0; have z1 := BX.out.c1; have y0 := BZ.out.c0; have y1 := BZ.out.c1)
                         | (go_at_call 22; (with_reducible refine (CH.out _ BZ.out.row BZ.out.core).mono ?_); rintro e v1 ⟨rfl, hb⟩; have BX := Lib.hid (BX.out.keep hb); clear z0 z1 y0 y1 hb; have z0 := BX.out.c0; have z1 := BX.out.c1))
                       clear BZ HNA COH CH hpn
                       (
                         cases hs2 : decide ((setZ m (coreL L) X s.toList v).2.2 = 0) with
                         | false =>
                           obtain ⟨F7, N7, e7, hS7⟩ : ∃ F7 N7 e7, setZ m (coreL L) X s.toList v = (F7, N7, e7) := ⟨_, _, _, rfl⟩
                           have he7 : (e7 != 0) = true := by
                             rw [hS7] at hs2
                             exact bne_iff_ne.2 (of_decide_eq_false hs2)
                           have CS2 : Hid (∀ W, NodeRow W (some ⟨b, off, none⟩) len cap L → ErrVar W → Calls Tryz.prog 27 #[forV (some ⟨b, off, none⟩) len cap m, .int .i64 X, .string s, .string v] W (MvPost W m (F7, N7, e7))) := Lib.hid (fun W h1 h2 => by
                             have := mset_any _ len cap m L X s v W h1 HM.out hX64.out HSZ.out HVZ.out SM.out h2
                             rwa [hS7] at this)
                           clear hs2 hS7
                           go_wp2_with (go_at_call 27; (with_reducible refine (CS2.out _ BX.out.row (HG.out.keep BX.out.below)).mono ?_); rintro e v2 ⟨a7, len7, cap7, M7, va7, vl7, vc7, rfl, -, -, -, -, hb7, -⟩; have BX := Lib.hid (BX.out.keep hb7); have BX := Lib.hid (BX.out.keep (below_box v2 (forB a7 len7 cap7 m))); clear z0 z1 hb7)
                           go_ret
                           exact ⟨rfl, BX.out.below⟩
                         | true =>
                           have hs3 := of_decide_eq_true hs2
                           obtain ⟨hk7, he7, hz7, hG7⟩ := setZ_yes hr.out HXC.out hs3
                           have HO7 : Hid (smallL s.toList ≠ formT → smallL s.toList ≠ idT → ownL (chgF (coreL L) X (setA nx.core.attrs s.toList v)) = ownL (coreL L)) := Lib.hid (fun h1 h2 => by
                             obtain ⟨G, h3, h4, h5⟩ := other13 hr.out HXC.out hs3 h1 h2
                             rw [hz7] at h3
                             have h6 : chgF (coreL L) X (setA nx.core.attrs s.toList v) = G := congrArg Prod.fst h3
                             rw [h6]
                             exact h5)
                           obtain ⟨B7, hB7⟩ : ∃ B, chgF (coreL L) X (setA nx.core.attrs s.toList v) = B := ⟨_, rfl⟩
                           obtain ⟨N7, hN7⟩ : ∃ N, chgN X s.toList nx.core.attrs (setA nx.core.attrs s.toList v) = N := ⟨_, rfl⟩
                           have HNM : Hid (N7.name.toList = smallL s.toList) := Lib.hid (by rw [← hN7]; exact toList_ofL _)
                           rw [hB7, hN7] at hz7
                           rw [hB7] at hG7 HO7
                           have HRB := Lib.hid hG7
                           have CS2 : Hid (∀ W, NodeRow W (some ⟨b, off, none⟩) len cap L → ErrVar W → Calls Tryz.prog 27 #[forV (some ⟨b, off, none⟩) len cap m, .int .i64 X, .string s, .string v] W (MvPost W m (B7, [N7], 0))) := Lib.hid (fun W h1 h2 => by
                             have := mset_any _ len cap m L X s v W h1 HM.out hX64.out HSZ.out HVZ.out SM.out h2
                             rwa [hz7] at this)
                           clear hs2 hs3 hk7 he7 hz7 hG7 hB7 hN7
                           go_upto_region 15 with (go_at_call 27; (with_reducible refine (CS2.out _ BX.out.row (HG.out.keep BX.out.below)).mono ?_); rintro e v2 ⟨a7, len7, cap7, M7, va7, vl7, vc7, rfl, hr7, hc7, hs7, hn7, hb7, -⟩; have BX := Lib.hid (BX.out.keep hb7); have BB := Lib.hid (MBox.new (m := m) BX.out.below hr7 hc7).box; have BX := Lib.hid (BX.out.keep (below_box v2 (forB a7 len7 cap7 m))); have HS7 := Lib.hid hs7; have HN7 := Lib.hid (hn7.below (below_box v2 (forB a7 len7 cap7 m))); clear z0 z1 hr7 hc7 hs7 hn7 hb7)
                           obtain ⟨rfl, bn, on, rfl, hbn, hcn⟩ := HN7.out.one
                           have n4 := hcn 4 _ rfl
                           clear hcn hbn
                           have z0 := BX.out.c0
                           have z1 := BX.out.c1
                           cases hf7 : (N7.name.toList == [102, 111, 114, 109]) with
                           | true =>
                             go_wp2
                             go_ret
                             exact ⟨rfl, BX.out.below⟩
                           | false =>
                             cases hi7 : (N7.name.toList == [105, 100]) with
                             | true =>
                               go_wp2
                               go_ret
                               exact ⟨rfl, BX.out.below⟩
                             | false =>
                               have HOE := HO7.out (by rw [← HNM.out]; exact beq_eq_false_iff_ne.1 hf7) (by rw [← HNM.out]; exact beq_eq_false_iff_ne.1 hi7)
                               go_upto_region 17 with fail
                               clear z0 z1 n4 hf7 hi7
                               obtain ⟨w6, hw6⟩ : ∃ w6, v2.alloc (forB a7 len7 cap7 m) = w6 := ⟨_, rfl⟩
                               obtain ⟨q7, hq7⟩ : ∃ q, v2.heap.size = q := ⟨_, rfl⟩
                               rw [hw6] at BX BB ⊢
                               rw [hq7] at BB ⊢
                               have HXB : Hid (∀ W, Below w6.heap.size w6 W → Box w W w.heap.size (some ⟨b, off, none⟩) len cap m L (coreL L)) := Lib.hid (fun W hb => BX.out.keep hb)
                               have HYB : Hid (∀ W, Below w6.heap.size w6 W → Box w W q7 a7 len7 cap7 m M7 B7) := Lib.hid (fun W hb => BB.out.keep hb)
                               have LT := Lib.hid BX.out.lt
                               have LT2 := Lib.hid BB.out.lt
                               have SV : w6.cell? ⟨w.heap.size, 0, none⟩ = some (.slice (some ⟨b, off, none⟩) len cap) ∧ w6.cell? ⟨w.heap.size, 1, none⟩ = some (.int .i64 m) ∧ w6.cell? ⟨q7, 0, none⟩ = some (.slice a7 len7 cap7) ∧ w6.cell? ⟨q7, 1, none⟩ = some (.int .i64 m) ∧ Below w6.heap.size w6 w6 := ⟨BX.out.c0, BX.out.c1, BB.out.c0, BB.out.c1, Below.refl _ _⟩
                               obtain ⟨l, hl⟩ : ∃ l, ownL (coreL L) = l := ⟨_, rfl⟩
                               have CAF : Hid (∀ W, NodeRow W (some ⟨b, off, none⟩) len cap L → Calls Tryz.prog 11 #[forV (some ⟨b, off, none⟩) len cap m] W (OrdNew W l)) := Lib.hid (fun W h => by
                                 have := allO_any _ len cap m L W h HM.out SM.out
                                 rwa [show allO m (coreL L) = l by unfold allO; rw [if_pos hr.out]; exact hl] at this)
                               have CAB : Hid (∀ W, NodeRow W a7 len7 cap7 M7 → coreL M7 = B7 → Calls Tryz.prog 11 #[forV a7 len7 cap7 m] W (OrdNew W l)) := Lib.hid (fun W h hc => by
                                 have := allO_any _ len7 cap7 m M7 W h HM.out HS7.out
                                 rw [hc] at this
                                 rwa [show allO m B7 = l by unfold allO; rw [if_pos HRB.out, HOE]; exact hl] at this)
                               have CT : Hid (∀ (W : World) (a1 a2 : Option Addr) (l1 l2 c1 c2 : Nat), IntRow W a1 l1 c1 l → IntRow W a2 l2 c2 l → Calls Tryz.prog 17 #[.slice a1 l1 c1, .slice a2 l2 c2] W fun e w' => e = .returned (.bool true) ∧ ∃ n, w' = W.drewN n) := Lib.hid (fun W a1 a2 l1 l2 c1 c2 h1 h2 => by
                                 have := refints_any a1 a2 l1 c1 l2 c2 l l W h1 h2
                                 rwa [decide_eq_true rfl] at this)
                               clear BX BB hw6 hq7 hl HOE HO7 CS2
                               go_cut [8] (fun t wx => True ∧ t = .bool true ∧ Hid (Below w6.heap.size w6 wx))
                               case first =>
                                 go_region_held3 (fun w' => w'.cell? ⟨w.heap.size, 0, none⟩ = some (.slice (some ⟨b, off, none⟩) len cap) ∧ w'.cell? ⟨w.heap.size, 1, none⟩ = some (.int .i64 m) ∧ w'.cell? ⟨q7, 0, none⟩ = some (.slice a7 len7 cap7) ∧ w'.cell? ⟨q7, 1, none⟩ = some (.int .i64 m) ∧ Below w6.heap.size w6 w')
                                   (with_reducible first | (refine keep4 LT.out LT.out LT2.out LT2.out SV ?_; first | exact HWX.out | exact HWX.out.drew | exact (Below.refl _ _).drew) | assumption)
                                   (first
                                     | (go_at_call 11; (with_reducible refine (CAF.out _ (HXB.out _ (kept4 ‹_ ∧ _ ∧ _ ∧ _ ∧ Below _ _ _›)).row).mono ?_); rintro e w8 ⟨am, lm, cm, rfl, hrm, hb, -⟩; have HWX := Lib.hid ((kept4 ‹_ ∧ _ ∧ _ ∧ _ ∧ Below _ _ _›).trans (hb.mono (kept4 ‹_ ∧ _ ∧ _ ∧ _ ∧ Below _ _ _›).size)); have IM := Lib.hid hrm; clear hb hrm)
                                     | (go_at_call 11; (with_reducible refine (CAB.out _ (HYB.out _ (kept4 ‹_ ∧ _ ∧ _ ∧ _ ∧ Below _ _ _›)).row (HYB.out _ (kept4 ‹_ ∧ _ ∧ _ ∧ _ ∧ Below _ _ _›)).core).mono ?_); rintro e w9 ⟨an, ln, cn, rfl, hrn, hb, -⟩; have HWX := Lib.hid ((kept4 ‹_ ∧ _ ∧ _ ∧ _ ∧ Below _ _ _›).trans (hb.mono (kept4 ‹_ ∧ _ ∧ _ ∧ _ ∧ Below _ _ _›).size)); (first | (have IM := Lib.hid (IM.out.below hb)) | (have IM := Lib.hid ((IM.out.drewN 1).below hb))); have IN := Lib.hid hrn; clear hb hrn)
                                     | (go_at_call 17; (first | (with_reducible refine (CT.out _ _ _ _ _ _ _ IM.out IN.out).mono ?_) | (with_reducible refine (CT.out _ _ _ _ _ _ _ (IM.out.drewN 1) (IN.out.drewN 1)).mono ?_)); rintro e w10 ⟨rfl, n10, rfl⟩; have HWX := Lib.hid (below_drewN (kept4 ‹_ ∧ _ ∧ _ ∧ _ ∧ Below _ _ _›) n10)))
                                 all_goals
                                   go_wp2_with fail
                                   go_meet
                                   first
                                     | exact ⟨trivial, rfl, HWX⟩
                                     | exact ⟨trivial, rfl, Lib.hid HWX.out.drew⟩
                               case rest =>
                                 obtain ⟨-, rfl, HWX⟩ := hcut
                                 have HBE := Lib.hid (HXB.out _ HWX.out).below
                                 clear SV HXB
                                 go_wp2
                                 go_ret
                                 exact ⟨rfl, HBE.out⟩))
end Go.Proofs.YtkgbgnmmgmnnlaaGreatDoor
