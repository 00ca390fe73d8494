/- Texts joined in build order: Ref14Bar. -/
import Derived.Test.YtnjoimedilonnaaGreatC41
import Derived.Test.YtnjoimedilonnaaGreatC28
import Derived.Test.YtnjoimedilonnaaGreatC36
import Derived.Test.YtnjoimedilonnaaGreatC40
import Derived.Test.YtnjoimedilonnaaGreatC09
namespace Go.Proofs.YtnjoimedilonnaaGreat
open Go.RowKit
theorem stays14r {W : World} {b o : Nat} {v : Option Value} (h : W.cell? ⟨b, o, none⟩ = v) (hb : b < W.heap.size) : ∀ X, Below W.heap.size W X → X.cell? ⟨b, o, none⟩ = v := fun _ hx => (hx.cell (p := ⟨b, o, none⟩) hb).trans h
set_option maxHeartbeats 4000000 in
set_option maxRecDepth 100000 in
theorem refdis14_any (a : Option Addr) (len cap : Nat) (m : Int) (L : List NodeD) (n : Nat) (w : World) (h : NodeRow w a len cap L) (hr : rightF m (coreL L) = true) (hn : n < len) :
    Calls Tryz.prog 20 #[forV a len cap m, .int .i64 n] w fun e w' => e = .returned (.bool (disB (coreL L) n)) ∧ Below w.heap.size w w' := by
  have hl0 := h.len64
  have BX := Lib.hid (Box.start (m := m) h)
  have z0 := BX.out.c0
  have z1 := BX.out.c1
  obtain ⟨b, off, x, rfl, hb, hx, hat, hok⟩ := BX.out.row.get hn
  have c4 := hat.c4
  have CT : Hid (Calls Tryz.prog 36 #[.slice x.aA x.aN x.aC, .string ⟨#[100, 105, 115, 97, 98, 108, 101, 100]⟩] (w.alloc (forB (some ⟨b, off, none⟩) len cap m)) fun e w' => e = .returned (.int .i64 (atL x.core.attrs disT)) ∧ (w.alloc (forB (some ⟨b, off, none⟩) len cap m)) = w') := Lib.hid (by
    have := refat_any x.aA x.aN x.aC x.core.attrs ⟨#[100, 105, 115, 97, 98, 108, 101, 100]⟩ _ hok.attrs
    rwa [disK] at this)
  have HD : Hid (decide (0 ≤ atL x.core.attrs disT) = disB (coreL L) n) := Lib.hid (by
    rw [disB_at (coreL_get hx)]
    rcases value_at (right_attrs hr (coreL_get hx)) (l := disT) (by decide) (by decide) with ⟨h1, h2, _⟩ | ⟨k, y, h1, _, h3, _⟩
    · rw [h1, h2]; decide
    · rw [h1, h3, decide_eq_true (by omega)])
  obtain ⟨z, hz⟩ : ∃ z, atL x.core.attrs disT = z := ⟨_, rfl⟩
  rw [hz] at CT HD
  clear h hx hat hok hb hr hz
  go_enter Tryz.func20, Tryz.ntmps20
  go_wp2_with (go_at_call 36; (refine CT.out.mono ?_); rintro e w1 ⟨rfl, rfl⟩)
  go_ret
  exact ⟨by rw [← HD.out]; rfl, BX.out.below⟩
set_option maxHeartbeats 8000000 in
set_option maxRecDepth 100000 in
theorem refleg14_any (a : Option Addr) (len cap : Nat) (m : Int) (L : List NodeD) (n : Nat) (w : World) (h : NodeRow w a len cap L) (hr : rightF m (coreL L) = true) (hn : n < len) :
    Calls Tryz.prog 11 #[forV a len cap m, .int .i64 n] w fun e w' => e = .returned (.int .i64 (legF (coreL L) n)) ∧ Below w.heap.size w w' := by
  have HCL : Hid ((coreL L).length = len) := Lib.hid (by rw [coreL_len, h.hlen])
  have hlen := h.len64
  have BX := Lib.hid (Box.start (m := m) h)
  have z0 := BX.out.c0
  have z1 := BX.out.c1
  obtain ⟨b, off, x, rfl, hb, hx, hat, hok⟩ := BX.out.row.get hn
  have c6 := hat.c6
  have HXC := Lib.hid (coreL_get hx)
  have HK := Lib.hid hok.kids
  have hkn := hok.kids.len64
  have HKL := Lib.hid hok.kids.hlen
  have NUM : Hid (∀ z ∈ x.core.kids, ∃ i : Nat, z = i ∧ i < len) := Lib.hid (fun z hz => by
    obtain ⟨u, h1, _⟩ := (right_node hr (coreL_get hx)).kids z hz
    obtain ⟨g1, g2, _⟩ := getC_some h1
    exact ⟨z.toNat, by omega, by rw [← HCL.out]; exact g2⟩)
  clear h hx hat hok hb hr
  go_enter Tryz.func11, Tryz.ntmps11
  go_upto_region 3 with fail
  obtain ⟨w1, hw1⟩ : ∃ w1, w.alloc (forB (some ⟨b, off, none⟩) len cap m) = w1 := ⟨_, rfl⟩
  rw [hw1] at BX HK ⊢
  clear c6 z0 z1 hw1
  have HX : Hid (∀ W, Below w1.heap.size w1 W → Box w W w.heap.size (some ⟨b, off, none⟩) len cap m L (coreL L)) := Lib.hid (fun W hb => BX.out.keep hb)
  clear BX
  go_loopw [6] (fun i wr => ∃ k : Nat, k ≤ x.kN ∧ i = .int .i64 k ∧ Hid (∀ (j : Nat) z, j < k → x.core.kids[j]? = some z → (nameK (coreL L) z == legT) = false) ∧ Hid (Below w1.heap.size w1 wr)) (fun i _ => x.kN - (intOf i).toNat)
  case atStart => exact ⟨0, Nat.zero_le _, rfl, Lib.hid (fun j z hj => absurd hj (by omega)), Lib.hid (Below.refl _ _)⟩
  case round =>
    obtain ⟨k, hk, rfl, HA, HB⟩ := hrel
    have BX := Lib.hid (HX.out _ HB.out)
    have z0 := BX.out.c0
    have z1 := BX.out.c1
    by_cases hlt : k < x.kN
    · obtain ⟨b2, off2, z, hkA, hb2, hz, hcz, -⟩ := (HK.out.below HB.out).get hlt
      obtain ⟨i, rfl, hi⟩ := NUM.out z (List.mem_of_getElem? hz)
      obtain ⟨b3, off3, y, hab, hb3, hy, haty, -⟩ := BX.out.row.get hi
      injection hab with hab
      injection hab with hab1 hab2
      subst hab1
      subst hab2
      have c1 := haty.c1
      have HZ := Lib.hid hz
      have HYN := Lib.hid (nameK_nat (coreL_get hy))
      rw [hkA]
      obtain ⟨q, hq⟩ : ∃ q, (y.core.name.toList == [108, 101, 103, 101, 110, 100]) = q := ⟨_, rfl⟩
      have HQ : Hid ((nameK (coreL L) (i : Int) == legT) = q) := Lib.hid (by rw [HYN.out]; exact hq)
      have E0 := Ext.cell z0 BX.out.lt
      have E1 := Ext.cell z1 BX.out.lt
      have EC := Ext.cell c1 hb3
      have EZ := Ext.cell hcz hb2
      have HCZ := Lib.hid (stays14r hcz hb2)
      clear hy haty hz hb2 hb3 c1 hcz z0 z1
      go_upto_region 5 with fail
      refine wp_region_ext (by kernel_rfl) (by kernel_rfl) ?_
      repeat (go_big_quiet_step (fail))
      refine wpQuiet_nil ?_
      intro w' hw'
      obtain ⟨⟨w8, hb8⟩, hw''⟩ := hw'
      dsimp only at hw''
      subst hw''
      have HB8 := Lib.hid (HB.out.trans (hb8.mono HB.out.size))
      have cz := HCZ.out _ hb8
      clear E0 E1 EC EZ hb8 HB HCZ
      have BX := Lib.hid (HX.out _ HB8.out)
      cases q with
      | true =>
        have HR := Lib.hid (legF_found HXC.out HA.out HZ.out HQ.out)
        go_wp2
        go_ret
        exact ⟨ret_int HR.out.symm, BX.out.below⟩
      | false =>
        go_wp2
        go_roundw
        case rel => exact ⟨k + 1, by omega, by go_num, Lib.hid (fun j z hj hz => by
          rcases Nat.lt_or_ge j k with h1 | h1
          · exact HA.out j z h1 hz
          · obtain rfl : j = k := by omega
            rw [HZ.out] at hz
            injection hz with hz
            subst hz
            exact HQ.out), HB8⟩
        case measure => simp [intOf]; omega
    · obtain rfl : k = x.kN := by omega
      have HR := Lib.hid (legF_not HXC.out (by rw [HKL.out]; exact HA.out))
      go_wp2
      go_ret
      exact ⟨ret_int HR.out.symm, BX.out.below⟩
theorem has_holds14 {F : List Core} {a b : Nat} : decide (0 < hasZ (ordQ F a) (b : Int)) = holdsF F a b := by
  unfold holdsF ordQ
  by_cases h : b ∈ ordF F a
  · rw [decide_eq_true h]
    exact decide_eq_true (hasZ_pos (List.mem_map.2 ⟨b, h, rfl⟩))
  · rw [decide_eq_false h]
    refine decide_eq_false ?_
    rw [hasZ_zero (fun hm => by
      obtain ⟨c, hc, he⟩ := List.mem_map.1 hm
      have : c = b := by
        have : (c : Int) = (b : Int) := he
        omega
      exact h (this ▸ hc))]
    omega
set_option maxHeartbeats 16000000 in
set_option maxRecDepth 100000 in
theorem refbar14_any (a : Option Addr) (len cap : Nat) (m : Int) (L : List NodeD) (n : Nat) (w : World) (h : NodeRow w a len cap L) (hs : smallF L) (hr : rightF m (coreL L) = true) (hn : n < len) :
    Calls Tryz.prog 10 #[forV a len cap m, .int .i64 n] w fun e w' => e = .returned (.bool (barF (coreL L) n)) ∧ Below w.heap.size w w' := by
  have HCL : Hid ((coreL L).length = len) := Lib.hid (by rw [coreL_len, h.hlen])
  have hlen := h.len64
  have hl1k : len ≤ 1000 := by rw [← h.hlen]; exact hs.1
  have BX := Lib.hid (Box.start (m := m) h)
  have z0 := BX.out.c0
  have z1 := BX.out.c1
  obtain ⟨b, off, x, rfl, hb, hx, hat, hok⟩ := BX.out.row.get hn
  have c0 := hat.c0
  have HXC := Lib.hid (coreL_get hx)
  have HRT := Lib.hid hr
  have HS := Lib.hid hs
  have HBF := Lib.hid (barF_shut (coreL L) n)
  rw [kindK_at HXC.out] at HBF
  clear h hx hat hok hb hs hr
  by_cases hk : x.core.kind = 1
  · have hk1 : (x.core.kind != 1) = false := by rw [hk]; rfl
    rw [decide_eq_true hk, Bool.true_and] at HBF
    obtain ⟨dn, hdn⟩ : ∃ q, disB (coreL L) n = q := ⟨_, rfl⟩
    have CD : Hid (∀ W, NodeRow W (some ⟨b, off, none⟩) len cap L → Calls Tryz.prog 20 #[forV (some ⟨b, off, none⟩) len cap m, .int .i64 n] W fun e w' => e = .returned (.bool dn) ∧ Below W.heap.size W w') := Lib.hid (fun W h => by
      have := refdis14_any _ len cap m L n W h HRT.out hn
      rwa [hdn] at this)
    rw [hdn] at HBF
    have HB : Hid (Below (w.alloc (forB (some ⟨b, off, none⟩) len cap m)).heap.size (w.alloc (forB (some ⟨b, off, none⟩) len cap m)) (w.alloc (forB (some ⟨b, off, none⟩) len cap m))) := Lib.hid (Below.refl _ _)
    clear hk hdn
    cases dn with
    | true =>
      have HR : Hid (barF (coreL L) n = true) := Lib.hid (by rw [HBF.out]; rfl)
      go_enter Tryz.func10, Tryz.ntmps10
      go_wp2_with (first
                      | (go_at_call 20; (with_reducible refine (CD.out _ BX.out.row).mono ?_); rintro e w4 ⟨rfl, hb⟩; have BX := Lib.hid (BX.out.keep hb); have HB := Lib.hid (HB.out.trans (hb.mono HB.out.size)); clear hb z0 z1; have z0 := BX.out.c0; have z1 := BX.out.c1)
                      | (go_at_call 21; (with_reducible refine (CH.out _ BX.out.row).mono ?_); rintro e w5 ⟨rfl, hb⟩; have BX := Lib.hid (BX.out.keep hb); have HB := Lib.hid (HB.out.trans (hb.mono HB.out.size)); clear hb z0 z1; have z0 := BX.out.c0; have z1 := BX.out.c1)
                      | (go_at_call 11; (with_reducible refine (CL.out _ BX.out.row).mono ?_); rintro e w6 ⟨rfl, hb⟩; have BX := Lib.hid (BX.out.keep hb); have HB := Lib.hid (HB.out.trans (hb.mono HB.out.size)); clear hb z0 z1; have z0 := BX.out.c0; have z1 := BX.out.c1)
                      | (go_at_call 21; (with_reducible refine (CH2.out _ BX.out.row).mono ?_); rintro e w7 ⟨rfl, hb⟩; have BX := Lib.hid (BX.out.keep hb); have HB := Lib.hid (HB.out.trans (hb.mono HB.out.size)); clear hb z0 z1; have z0 := BX.out.c0; have z1 := BX.out.c1))
      go_ret
      exact ⟨ret_bool HR.out.symm, BX.out.below⟩
    | false =>
      rw [Bool.false_or] at HBF
      go_enter Tryz.func10, Tryz.ntmps10
      go_upto_region 6 with (first
                                | (go_at_call 20; (with_reducible refine (CD.out _ BX.out.row).mono ?_); rintro e w4 ⟨rfl, hb⟩; have BX := Lib.hid (BX.out.keep hb); have HB := Lib.hid (HB.out.trans (hb.mono HB.out.size)); clear hb z0 z1; have z0 := BX.out.c0; have z1 := BX.out.c1)
                                | (go_at_call 21; (with_reducible refine (CH.out _ BX.out.row).mono ?_); rintro e w5 ⟨rfl, hb⟩; have BX := Lib.hid (BX.out.keep hb); have HB := Lib.hid (HB.out.trans (hb.mono HB.out.size)); clear hb z0 z1; have z0 := BX.out.c0; have z1 := BX.out.c1)
                                | (go_at_call 11; (with_reducible refine (CL.out _ BX.out.row).mono ?_); rintro e w6 ⟨rfl, hb⟩; have BX := Lib.hid (BX.out.keep hb); have HB := Lib.hid (HB.out.trans (hb.mono HB.out.size)); clear hb z0 z1; have z0 := BX.out.c0; have z1 := BX.out.c1)
                                | (go_at_call 21; (with_reducible refine (CH2.out _ BX.out.row).mono ?_); rintro e w7 ⟨rfl, hb⟩; have BX := Lib.hid (BX.out.keep hb); have HB := Lib.hid (HB.out.trans (hb.mono HB.out.size)); clear hb z0 z1; have z0 := BX.out.c0; have z1 := BX.out.c1))
      have HX : Hid (∀ W, Below w4.heap.size w4 W → Box w W w.heap.size (some ⟨b, off, none⟩) len cap m L (coreL L)) := Lib.hid (fun W hb => BX.out.keep hb)
      clear BX z0 z1 c0 HB CD
      go_loopw [5] (fun i wr => ∃ p : Nat, p ≤ len ∧ i = .int .i64 p ∧ Hid (∀ j, j < p → barsF (coreL L) j n = false) ∧ Hid (Below w4.heap.size w4 wr)) (fun i _ => len - (intOf i).toNat)
      case atStart => exact ⟨0, Nat.zero_le _, rfl, Lib.hid (fun j hj => absurd hj (by omega)), Lib.hid (Below.refl _ _)⟩
      case round =>
        obtain ⟨p, hp, rfl, HA, HB⟩ := hrel
        have BX := Lib.hid (HX.out _ HB.out)
        have z0 := BX.out.c0
        have z1 := BX.out.c1
        by_cases hlt : p < len
        · obtain ⟨b2, off2, y, hab, hb2, hy, haty, -⟩ := BX.out.row.get hlt
          injection hab with hab
          injection hab with hab1 hab2
          subst hab1
          subst hab2
          have y1 := haty.c1
          obtain ⟨fs, hfs⟩ : ∃ fs, (y.core.name.toList == [102, 105, 101, 108, 100, 115, 101, 116]) = fs := ⟨_, rfl⟩
          have hfs2 : fsetB (coreL L) p = fs := by unfold fsetB; rw [nameK_nat (coreL_get hy)]; exact hfs
          obtain ⟨dp, hdp⟩ : ∃ q, disB (coreL L) p = q := ⟨_, rfl⟩
          obtain ⟨hp1, hhp⟩ : ∃ q, holdsF (coreL L) p n = q := ⟨_, rfl⟩
          obtain ⟨lg, hlg⟩ : ∃ q, legF (coreL L) p = q := ⟨_, rfl⟩
          obtain ⟨hp2, hhp2⟩ : ∃ q, holdsF (coreL L) lg.toNat n = q := ⟨_, rfl⟩
          have HV : Hid (barsF (coreL L) p n = (fs && dp && decide (p ≠ n) && hp1 && (decide (lg = -1) || !hp2))) := Lib.hid (by
            unfold barsF
            rw [hfs2, hdp, hhp, hlg, hhp2])
          have CD : Hid (∀ W, NodeRow W (some ⟨b, off, none⟩) len cap L → Calls Tryz.prog 20 #[forV (some ⟨b, off, none⟩) len cap m, .int .i64 p] W fun e w' => e = .returned (.bool dp) ∧ Below W.heap.size W w') := Lib.hid (fun W h => by
            have := refdis14_any _ len cap m L p W h HRT.out hlt
            rwa [hdp] at this)
          have CH : Hid (∀ W, NodeRow W (some ⟨b, off, none⟩) len cap L → Calls Tryz.prog 21 #[forV (some ⟨b, off, none⟩) len cap m, .int .i64 p, .int .i64 n] W fun e w' => e = .returned (.bool hp1) ∧ Below W.heap.size W w') := Lib.hid (fun W h => by
            have := refholds_any _ len cap m L HRT.out HS.out.1 p n W h hlt
            rwa [has_holds14, hhp] at this)
          have CL : Hid (∀ W, NodeRow W (some ⟨b, off, none⟩) len cap L → Calls Tryz.prog 11 #[forV (some ⟨b, off, none⟩) len cap m, .int .i64 p] W fun e w' => e = .returned (.int .i64 lg) ∧ Below W.heap.size W w') := Lib.hid (fun W h => by
            have := refleg14_any _ len cap m L p W h HRT.out hlt
            rwa [hlg] at this)
          have LEG : Hid (lg = -1 ∨ ∃ k : Nat, lg = k ∧ k < len) := Lib.hid (by
            rcases leg_is HRT.out (show p < (coreL L).length by rw [HCL.out]; exact hlt) with h1 | ⟨k, h1, h2, _, _⟩
            · exact .inl (by rw [← hlg, h1])
            · exact .inr ⟨k, by rw [← hlg, h1], by rw [← HCL.out]; exact h2⟩)
          have H2 := Lib.hid hhp2
          clear hy haty hfs2 hdp hhp hlg hhp2 hb2
          cases fs with
          | false =>
            have HQ : Hid (barsF (coreL L) p n = false) := Lib.hid (by rw [HV.out]; rfl)
            (
              go_wp2_with (first
                              | (go_at_call 20; (with_reducible refine (CD.out _ BX.out.row).mono ?_); rintro e w4 ⟨rfl, hb⟩; have BX := Lib.hid (BX.out.keep hb); have HB := Lib.hid (HB.out.trans (hb.mono HB.out.size)); clear hb z0 z1; have z0 := BX.out.c0; have z1 := BX.out.c1)
                              | (go_at_call 21; (with_reducible refine (CH.out _ BX.out.row).mono ?_); rintro e w5 ⟨rfl, hb⟩; have BX := Lib.hid (BX.out.keep hb); have HB := Lib.hid (HB.out.trans (hb.mono HB.out.size)); clear hb z0 z1; have z0 := BX.out.c0; have z1 := BX.out.c1)
                              | (go_at_call 11; (with_reducible refine (CL.out _ BX.out.row).mono ?_); rintro e w6 ⟨rfl, hb⟩; have BX := Lib.hid (BX.out.keep hb); have HB := Lib.hid (HB.out.trans (hb.mono HB.out.size)); clear hb z0 z1; have z0 := BX.out.c0; have z1 := BX.out.c1)
                              | (go_at_call 21; (with_reducible refine (CH2.out _ BX.out.row).mono ?_); rintro e w7 ⟨rfl, hb⟩; have BX := Lib.hid (BX.out.keep hb); have HB := Lib.hid (HB.out.trans (hb.mono HB.out.size)); clear hb z0 z1; have z0 := BX.out.c0; have z1 := BX.out.c1))
              go_roundw
              case rel => exact ⟨p + 1, by omega, by go_num, Lib.hid (fun j hj => by
                rcases Nat.lt_or_ge j p with h1 | h1
                · exact HA.out j h1
                · obtain rfl : j = p := by omega
                  exact HQ.out), HB⟩
              case measure => simp [intOf]; omega)
          | true =>
            cases dp with
            | false =>
              have HQ : Hid (barsF (coreL L) p n = false) := Lib.hid (by rw [HV.out]; rfl)
              (
                go_wp2_with (first
                                | (go_at_call 20; (with_reducible refine (CD.out _ BX.out.row).mono ?_); rintro e w4 ⟨rfl, hb⟩; have BX := Lib.hid (BX.out.keep hb); have HB := Lib.hid (HB.out.trans (hb.mono HB.out.size)); clear hb z0 z1; have z0 := BX.out.c0; have z1 := BX.out.c1)
                                | (go_at_call 21; (with_reducible refine (CH.out _ BX.out.row).mono ?_); rintro e w5 ⟨rfl, hb⟩; have BX := Lib.hid (BX.out.keep hb); have HB := Lib.hid (HB.out.trans (hb.mono HB.out.size)); clear hb z0 z1; have z0 := BX.out.c0; have z1 := BX.out.c1)
                                | (go_at_call 11; (with_reducible refine (CL.out _ BX.out.row).mono ?_); rintro e w6 ⟨rfl, hb⟩; have BX := Lib.hid (BX.out.keep hb); have HB := Lib.hid (HB.out.trans (hb.mono HB.out.size)); clear hb z0 z1; have z0 := BX.out.c0; have z1 := BX.out.c1)
                                | (go_at_call 21; (with_reducible refine (CH2.out _ BX.out.row).mono ?_); rintro e w7 ⟨rfl, hb⟩; have BX := Lib.hid (BX.out.keep hb); have HB := Lib.hid (HB.out.trans (hb.mono HB.out.size)); clear hb z0 z1; have z0 := BX.out.c0; have z1 := BX.out.c1))
                go_roundw
                case rel => exact ⟨p + 1, by omega, by go_num, Lib.hid (fun j hj => by
                  rcases Nat.lt_or_ge j p with h1 | h1
                  · exact HA.out j h1
                  · obtain rfl : j = p := by omega
                    exact HQ.out), HB⟩
                case measure => simp [intOf]; omega)
            | true =>
              by_cases hpn : p = n
              · have HQ : Hid (barsF (coreL L) p n = false) := Lib.hid (by rw [HV.out, decide_eq_false (fun h => h hpn)]; rfl)
                have hpe : ((p : Int) == (n : Int)) = true := by rw [hpn]; simp
                clear hpn
                (
                  go_wp2_with (first
                                  | (go_at_call 20; (with_reducible refine (CD.out _ BX.out.row).mono ?_); rintro e w4 ⟨rfl, hb⟩; have BX := Lib.hid (BX.out.keep hb); have HB := Lib.hid (HB.out.trans (hb.mono HB.out.size)); clear hb z0 z1; have z0 := BX.out.c0; have z1 := BX.out.c1)
                                  | (go_at_call 21; (with_reducible refine (CH.out _ BX.out.row).mono ?_); rintro e w5 ⟨rfl, hb⟩; have BX := Lib.hid (BX.out.keep hb); have HB := Lib.hid (HB.out.trans (hb.mono HB.out.size)); clear hb z0 z1; have z0 := BX.out.c0; have z1 := BX.out.c1)
                                  | (go_at_call 11; (with_reducible refine (CL.out _ BX.out.row).mono ?_); rintro e w6 ⟨rfl, hb⟩; have BX := Lib.hid (BX.out.keep hb); have HB := Lib.hid (HB.out.trans (hb.mono HB.out.size)); clear hb z0 z1; have z0 := BX.out.c0; have z1 := BX.out.c1)
                                  | (go_at_call 21; (with_reducible refine (CH2.out _ BX.out.row).mono ?_); rintro e w7 ⟨rfl, hb⟩; have BX := Lib.hid (BX.out.keep hb); have HB := Lib.hid (HB.out.trans (hb.mono HB.out.size)); clear hb z0 z1; have z0 := BX.out.c0; have z1 := BX.out.c1))
                  go_roundw
                  case rel => exact ⟨p + 1, by omega, by go_num, Lib.hid (fun j hj => by
                    rcases Nat.lt_or_ge j p with h1 | h1
                    · exact HA.out j h1
                    · obtain rfl : j = p := by omega
                      exact HQ.out), HB⟩
                  case measure => simp [intOf]; omega)
              · have hpe : ((p : Int) == (n : Int)) = false := beq_eq_false_iff_ne.2 (by omega)
                rw [decide_eq_true hpn] at HV
                clear hpn
                cases hp1 with
                | false =>
                  have HQ : Hid (barsF (coreL L) p n = false) := Lib.hid (by rw [HV.out]; rfl)
                  (
                    go_wp2_with (first
                                    | (go_at_call 20; (with_reducible refine (CD.out _ BX.out.row).mono ?_); rintro e w4 ⟨rfl, hb⟩; have BX := Lib.hid (BX.out.keep hb); have HB := Lib.hid (HB.out.trans (hb.mono HB.out.size)); clear hb z0 z1; have z0 := BX.out.c0; have z1 := BX.out.c1)
                                    | (go_at_call 21; (with_reducible refine (CH.out _ BX.out.row).mono ?_); rintro e w5 ⟨rfl, hb⟩; have BX := Lib.hid (BX.out.keep hb); have HB := Lib.hid (HB.out.trans (hb.mono HB.out.size)); clear hb z0 z1; have z0 := BX.out.c0; have z1 := BX.out.c1)
                                    | (go_at_call 11; (with_reducible refine (CL.out _ BX.out.row).mono ?_); rintro e w6 ⟨rfl, hb⟩; have BX := Lib.hid (BX.out.keep hb); have HB := Lib.hid (HB.out.trans (hb.mono HB.out.size)); clear hb z0 z1; have z0 := BX.out.c0; have z1 := BX.out.c1)
                                    | (go_at_call 21; (with_reducible refine (CH2.out _ BX.out.row).mono ?_); rintro e w7 ⟨rfl, hb⟩; have BX := Lib.hid (BX.out.keep hb); have HB := Lib.hid (HB.out.trans (hb.mono HB.out.size)); clear hb z0 z1; have z0 := BX.out.c0; have z1 := BX.out.c1))
                    go_roundw
                    case rel => exact ⟨p + 1, by omega, by go_num, Lib.hid (fun j hj => by
                      rcases Nat.lt_or_ge j p with h1 | h1
                      · exact HA.out j h1
                      · obtain rfl : j = p := by omega
                        exact HQ.out), HB⟩
                    case measure => simp [intOf]; omega)
                | true =>
                  rcases LEG.out with rfl | ⟨k, rfl, hk⟩
                  · have HR : Hid (barF (coreL L) n = true) := Lib.hid (by
                      rw [HBF.out]
                      exact shut_iff.2 ⟨p, by rw [HCL.out]; exact hlt, by rw [HV.out]; rfl⟩)
                    go_wp2_with (first
                                    | (go_at_call 20; (with_reducible refine (CD.out _ BX.out.row).mono ?_); rintro e w4 ⟨rfl, hb⟩; have BX := Lib.hid (BX.out.keep hb); have HB := Lib.hid (HB.out.trans (hb.mono HB.out.size)); clear hb z0 z1; have z0 := BX.out.c0; have z1 := BX.out.c1)
                                    | (go_at_call 21; (with_reducible refine (CH.out _ BX.out.row).mono ?_); rintro e w5 ⟨rfl, hb⟩; have BX := Lib.hid (BX.out.keep hb); have HB := Lib.hid (HB.out.trans (hb.mono HB.out.size)); clear hb z0 z1; have z0 := BX.out.c0; have z1 := BX.out.c1)
                                    | (go_at_call 11; (with_reducible refine (CL.out _ BX.out.row).mono ?_); rintro e w6 ⟨rfl, hb⟩; have BX := Lib.hid (BX.out.keep hb); have HB := Lib.hid (HB.out.trans (hb.mono HB.out.size)); clear hb z0 z1; have z0 := BX.out.c0; have z1 := BX.out.c1)
                                    | (go_at_call 21; (with_reducible refine (CH2.out _ BX.out.row).mono ?_); rintro e w7 ⟨rfl, hb⟩; have BX := Lib.hid (BX.out.keep hb); have HB := Lib.hid (HB.out.trans (hb.mono HB.out.size)); clear hb z0 z1; have z0 := BX.out.c0; have z1 := BX.out.c1))
                    go_ret
                    exact ⟨ret_bool HR.out.symm, BX.out.below⟩
                  · have CH2 : Hid (∀ W, NodeRow W (some ⟨b, off, none⟩) len cap L → Calls Tryz.prog 21 #[forV (some ⟨b, off, none⟩) len cap m, .int .i64 k, .int .i64 n] W fun e w' => e = .returned (.bool hp2) ∧ Below W.heap.size W w') := Lib.hid (fun W h => by
                      have := refholds_any _ len cap m L HRT.out HS.out.1 k n W h hk
                      have h2 := H2.out
                      rw [Int.toNat_natCast] at h2
                      rwa [has_holds14, h2] at this)
                    have hk0 : ¬ ((k : Int) < 0) := by omega
                    rw [decide_eq_false (show ¬ ((k : Int) = -1) by omega), Bool.false_or] at HV
                    cases hp2 with
                    | true =>
                      have HQ : Hid (barsF (coreL L) p n = false) := Lib.hid (by rw [HV.out]; rfl)
                      (
                        go_wp2_with (first
                                        | (go_at_call 20; (with_reducible refine (CD.out _ BX.out.row).mono ?_); rintro e w4 ⟨rfl, hb⟩; have BX := Lib.hid (BX.out.keep hb); have HB := Lib.hid (HB.out.trans (hb.mono HB.out.size)); clear hb z0 z1; have z0 := BX.out.c0; have z1 := BX.out.c1)
                                        | (go_at_call 21; (with_reducible refine (CH.out _ BX.out.row).mono ?_); rintro e w5 ⟨rfl, hb⟩; have BX := Lib.hid (BX.out.keep hb); have HB := Lib.hid (HB.out.trans (hb.mono HB.out.size)); clear hb z0 z1; have z0 := BX.out.c0; have z1 := BX.out.c1)
                                        | (go_at_call 11; (with_reducible refine (CL.out _ BX.out.row).mono ?_); rintro e w6 ⟨rfl, hb⟩; have BX := Lib.hid (BX.out.keep hb); have HB := Lib.hid (HB.out.trans (hb.mono HB.out.size)); clear hb z0 z1; have z0 := BX.out.c0; have z1 := BX.out.c1)
                                        | (go_at_call 21; (with_reducible refine (CH2.out _ BX.out.row).mono ?_); rintro e w7 ⟨rfl, hb⟩; have BX := Lib.hid (BX.out.keep hb); have HB := Lib.hid (HB.out.trans (hb.mono HB.out.size)); clear hb z0 z1; have z0 := BX.out.c0; have z1 := BX.out.c1))
                        go_roundw
                        case rel => exact ⟨p + 1, by omega, by go_num, Lib.hid (fun j hj => by
                          rcases Nat.lt_or_ge j p with h1 | h1
                          · exact HA.out j h1
                          · obtain rfl : j = p := by omega
                            exact HQ.out), HB⟩
                        case measure => simp [intOf]; omega)
                    | false =>
                      have HR : Hid (barF (coreL L) n = true) := Lib.hid (by
                        rw [HBF.out]
                        exact shut_iff.2 ⟨p, by rw [HCL.out]; exact hlt, by rw [HV.out]; rfl⟩)
                      go_wp2_with (first
                                      | (go_at_call 20; (with_reducible refine (CD.out _ BX.out.row).mono ?_); rintro e w4 ⟨rfl, hb⟩; have BX := Lib.hid (BX.out.keep hb); have HB := Lib.hid (HB.out.trans (hb.mono HB.out.size)); clear hb z0 z1; have z0 := BX.out.c0; have z1 := BX.out.c1)
                                      | (go_at_call 21; (with_reducible refine (CH.out _ BX.out.row).mono ?_); rintro e w5 ⟨rfl, hb⟩; have BX := Lib.hid (BX.out.keep hb); have HB := Lib.hid (HB.out.trans (hb.mono HB.out.size)); clear hb z0 z1; have z0 := BX.out.c0; have z1 := BX.out.c1)
                                      | (go_at_call 11; (with_reducible refine (CL.out _ BX.out.row).mono ?_); rintro e w6 ⟨rfl, hb⟩; have BX := Lib.hid (BX.out.keep hb); have HB := Lib.hid (HB.out.trans (hb.mono HB.out.size)); clear hb z0 z1; have z0 := BX.out.c0; have z1 := BX.out.c1)
                                      | (go_at_call 21; (with_reducible refine (CH2.out _ BX.out.row).mono ?_); rintro e w7 ⟨rfl, hb⟩; have BX := Lib.hid (BX.out.keep hb); have HB := Lib.hid (HB.out.trans (hb.mono HB.out.size)); clear hb z0 z1; have z0 := BX.out.c0; have z1 := BX.out.c1))
                      go_ret
                      exact ⟨ret_bool HR.out.symm, BX.out.below⟩
        · obtain rfl : p = len := by omega
          have HR : Hid (barF (coreL L) n = false) := Lib.hid (by
            rw [HBF.out]
            cases hq : shutB (coreL L) n with
            | false => rfl
            | true =>
              obtain ⟨q, h1, h2⟩ := shut_iff.1 hq
              rw [HA.out q (by rw [HCL.out] at h1; exact h1)] at h2
              cases h2)
          go_wp2
          go_ret
          exact ⟨ret_bool HR.out.symm, BX.out.below⟩
  · have hk1 : (x.core.kind != 1) = true := bne_iff_ne.2 hk
    have HR : Hid (barF (coreL L) n = false) := Lib.hid (by rw [HBF.out, decide_eq_false hk]; rfl)
    clear hk
    go_enter Tryz.func10, Tryz.ntmps10
    go_wp2
    go_ret
    exact ⟨ret_bool HR.out.symm, BX.out.below⟩
end Go.Proofs.YtnjoimedilonnaaGreat
