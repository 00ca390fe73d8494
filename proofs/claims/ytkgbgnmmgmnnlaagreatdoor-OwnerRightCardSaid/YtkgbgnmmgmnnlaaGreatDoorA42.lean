/- Texts joined in build order: Ref13Of. -/
import Derived.Test.YtkgbgnmmgmnnlaaGreatDoorA40
import Derived.Test.YtkgbgnmmgmnnlaaGreatDoorA33
import Derived.Test.YtkgbgnmmgmnnlaaGreatDoorA22
import Derived.Test.YtkgbgnmmgmnnlaaGreatDoorA04
import Derived.Deep.RegionHeld3
import Derived.Deep.DeepCutAuto
namespace Go.Proofs.YtkgbgnmmgmnnlaaGreatDoor
open Go.RowKit
set_option maxHeartbeats 8000000 in
set_option maxRecDepth 100000 in
theorem refof13_any (a : Option Addr) (len cap : Nat) (m : Int) (L : List NodeD) (n : Nat) (w : World) (h : NodeRow w a len cap L) (hs : smallF L) (hr : rightF m (coreL L) = true) (hn : n < len) :
    Calls Tryz.prog 15 #[forV a len cap m, .int .i64 n] w fun e w' => e = .returned (.int .i64 (ownF (coreL L) n)) ∧ Below w.heap.size w w' := by
  have hl0 := h.len64
  have HCL : Hid ((coreL L).length = len) := Lib.hid (by rw [coreL_len, h.hlen])
  have hl1k : len ≤ 1000 := by rw [← h.hlen]; exact hs.1
  have BX := Lib.hid (Box.start (m := m) h)
  have z0 := BX.out.c0
  have z1 := BX.out.c1
  obtain ⟨b, off, x, rfl, hb, hx, hat, hok⟩ := BX.out.row.get hn
  have hxc := coreL_get hx
  have HXC := Lib.hid hxc
  have HRT := Lib.hid hr
  have HS := Lib.hid hs
  have HBF : Hid (∀ W, Below (w.alloc (forB (some ⟨b, off, none⟩) len cap m)).heap.size (w.alloc (forB (some ⟨b, off, none⟩) len cap m)) W → W.cell? ⟨b, off + n * 10 + 5, none⟩ = some (.int .i64 x.core.parent)) := Lib.hid (fun W h => (h.cell (p := ⟨b, off + n * 10 + 5, none⟩) hb).trans hat.c5)
  have c0 := hat.c0
  by_cases hk : x.core.kind = 1
  · rw [hk] at c0
    obtain ⟨V, hV⟩ : ∃ V, valA x.core.attrs formT = V := ⟨_, rfl⟩
    obtain ⟨hh, hhh⟩ : ∃ hh, hasA x.core.attrs formT = hh := ⟨_, rfl⟩
    have CV : Hid (∀ W, NodeRow W (some ⟨b, off, none⟩) len cap L → Calls Tryz.prog 36 #[forV (some ⟨b, off, none⟩) len cap m, .int .i64 n, .string ⟨#[102, 111, 114, 109]⟩] W fun e w' => e = .returned (.tuple #[.string V, .bool hh]) ∧ Below W.heap.size W w') := Lib.hid (fun W h => by
      have := refvalue13_any _ len cap m L n ⟨#[102, 111, 114, 109]⟩ formT x W h hr hx formK (by decide) (by decide)
      rwa [hV, hhh] at this)
    obtain ⟨lk, hlk⟩ : ∃ lk, linkF (coreL L) n = lk := ⟨_, rfl⟩
    have CC : Hid (∀ W, NodeRow W (some ⟨b, off, none⟩) len cap L → Calls Tryz.prog 37 #[forV (some ⟨b, off, none⟩) len cap m, .int .i64 n] W fun e w' => e = .returned (.bool lk) ∧ Below W.heap.size W w') := Lib.hid (fun W h => by
      have := refconn_any _ len cap m L n W hr h hn
      rwa [show (kindK (coreL L) (topF (coreL L) n : Nat) == 0) = lk from hlk] at this)
    have HOW : Hid (ownF (coreL L) n = if hh && lk then pickF (coreL L) (ordF (coreL L) (rootF (coreL L) n)) V.toList else nearF (coreL L) n) := Lib.hid (by
      rw [ownF_at hxc]
      unfold ownC asksC wantC
      rw [if_pos hk, hhh, hlk, hV])
    clear h hx hxc hat hok hb hr hs hk hV hhh hlk
    cases hc : (hh && lk) with
    | true =>
      obtain ⟨rfl, rfl⟩ : hh = true ∧ lk = true := by simpa using hc
      rw [hc, if_pos rfl] at HOW
      obtain ⟨R, hR⟩ : ∃ R, rootF (coreL L) n = R := ⟨_, rfl⟩
      have hRl : R < len := by rw [← hR, ← HCL.out]; exact rootF_lt2 HRT.out (by rw [HCL.out]; exact hn)
      obtain ⟨t, ht⟩ : ∃ t, ordF (coreL L) R = t := ⟨_, rfl⟩
      rw [hR, ht] at HOW
      have CU : Hid (∀ W, NodeRow W (some ⟨b, off, none⟩) len cap L → Calls Tryz.prog 39 #[forV (some ⟨b, off, none⟩) len cap m, .int .i64 n] W fun e w' => e = .returned (.int .i64 (R : Nat)) ∧ Below W.heap.size W w') := Lib.hid (fun W h => by
        rw [← hR]
        exact refrootF_any _ len cap m L n W HRT.out h hn)
      have CT : Hid (∀ W, NodeRow W (some ⟨b, off, none⟩) len cap L → Calls Tryz.prog 38 #[forV (some ⟨b, off, none⟩) len cap m, .int .i64 R] W (OrdPost W (natL t))) := Lib.hid (fun W h => by
        rw [← ht]
        exact reforder_any _ len cap m L HRT.out HS.out.1 R W h hRl)
      have HT : Hid (∀ i ∈ t, i < len) := Lib.hid (fun i hi => by
        rw [← HCL.out]
        rw [← ht] at hi
        exact ordF_lt HRT.out (by rw [HCL.out]; exact hRl) i hi)
      clear hR ht hc
      go_enter Tryz.func15, Tryz.ntmps15
      go_upto_region 5 with (first
        | (go_at_call 36; (with_reducible refine (CV.out _ BX.out.row).mono ?_); rintro e w1 ⟨rfl, hb⟩; have BX := Lib.hid (BX.out.keep hb); clear z0 z1; have z0 := BX.out.c0; have z1 := BX.out.c1; clear hb)
        | (go_at_call 37; (with_reducible refine (CC.out _ BX.out.row).mono ?_); rintro e w2 ⟨rfl, hb⟩; have BX := Lib.hid (BX.out.keep hb); clear z0 z1; have z0 := BX.out.c0; have z1 := BX.out.c1; clear hb))
      have LT := Lib.hid BX.out.lt
      have HXB : Hid (∀ W, Below w2.heap.size w2 W → Box w W w.heap.size (some ⟨b, off, none⟩) len cap m L (coreL L)) := Lib.hid (fun W hb => BX.out.keep hb)
      have SV : w2.cell? ⟨w.heap.size, 0, none⟩ = some (.slice (some ⟨b, off, none⟩) len cap) ∧ w2.cell? ⟨w.heap.size, 1, none⟩ = some (.int .i64 m) ∧ Below w2.heap.size w2 w2 := ⟨z0, z1, Below.refl _ _⟩
      clear z0 z1 BX CV CC HBF c0
      go_cut [7] (fun tr wx => True ∧ ∃ ta tl tc, tr = .slice ta tl tc ∧ Hid (IntRow wx ta tl tc (natL t)) ∧ Hid (Below w2.heap.size w2 wx))
      case first =>
        go_region_held3 (fun w' => w'.cell? ⟨w.heap.size, 0, none⟩ = some (.slice (some ⟨b, off, none⟩) len cap) ∧ w'.cell? ⟨w.heap.size, 1, none⟩ = some (.int .i64 m) ∧ Below w2.heap.size w2 w')
          (with_reducible first | (refine keep2 LT.out LT.out SV ?_; first | exact HWX.out | exact HWX.out.drew | exact (Below.refl _ _).drew) | assumption)
          (first
            | (go_at_call 39; (with_reducible refine (CU.out _ (HXB.out _ (kept2 ‹_ ∧ _ ∧ Below _ _ _›)).row).mono ?_); rintro e w3 ⟨rfl, hb⟩; have HWX := Lib.hid ((kept2 ‹_ ∧ _ ∧ Below _ _ _›).trans (hb.mono (kept2 ‹_ ∧ _ ∧ Below _ _ _›).size)); clear hb)
            | (go_at_call 38; (with_reducible refine (CT.out _ (HXB.out _ (kept2 ‹_ ∧ _ ∧ Below _ _ _›)).row).mono ?_); rintro e w3 ⟨ta, tl, tc, rfl, hti, hb⟩; have HWX := Lib.hid ((kept2 ‹_ ∧ _ ∧ Below _ _ _›).trans (hb.mono (kept2 ‹_ ∧ _ ∧ Below _ _ _›).size)); have IR := Lib.hid hti; clear hti hb))
        all_goals
          go_wp2_with fail
          go_meet
          first
            | exact ⟨trivial, _, _, _, rfl, IR, HWX⟩
            | exact ⟨trivial, _, _, _, rfl, Lib.hid (IR.out.drewN 1), Lib.hid HWX.out.drew⟩
      case rest =>
        obtain ⟨-, ta, tl, tc, rfl, IR, HWX⟩ := hcut
        have htl64 := IR.out.len64
        have HTL : Hid (t.length = tl) := Lib.hid (by have := IR.out.hlen; unfold natL at this; rwa [List.length_map] at this)
        have HX : Hid (∀ W, Below wc.heap.size wc W → Box w W w.heap.size (some ⟨b, off, none⟩) len cap m L (coreL L)) := Lib.hid (fun W hb => HXB.out W (HWX.out.trans (hb.mono HWX.out.size)))
        clear SV CU CT HXB HWX LT
        rcases nil_or V with ⟨rfl, hV0⟩ | ⟨hV1, hV2⟩
        · have HR : Hid (ownF (coreL L) n = -1) := Lib.hid (by
            rw [HOW.out]
            unfold pickF
            rw [if_pos hV0])
          clear hV0
          go_wp2
          go_loopw [8] (fun i wr => i = .int .i64 0 ∧ Hid (Below wc.heap.size wc wr)) (fun _ _ => 0)
          case atStart => exact ⟨rfl, Lib.hid (Below.refl _ _)⟩
          case round =>
            obtain ⟨rfl, HB⟩ := hrel
            have BX := Lib.hid (HX.out _ HB.out)
            by_cases htl : 0 < tl
            · go_wp2
              go_ret
              exact ⟨ret_int HR.out.symm, BX.out.below⟩
            · go_wp2
              go_ret
              exact ⟨ret_int HR.out.symm, BX.out.below⟩
        · go_wp2
          go_loopw [8] (fun i wr => ∃ k : Nat, k ≤ tl ∧ i = .int .i64 k ∧ Hid (Below wc.heap.size wc wr) ∧ Hid ((t.take k).find? (fun i => idF (coreL L) i == V.toList) = none)) (fun i _ => tl - (intOf i).toNat)
          case atStart => exact ⟨0, Nat.zero_le _, rfl, Lib.hid (Below.refl _ _), Lib.hid (by rw [List.take_zero]; rfl)⟩
          case round =>
            obtain ⟨k, hk, rfl, HB, HN⟩ := hrel
            have BX := Lib.hid (HX.out _ HB.out)
            have z0 := BX.out.c0
            have z1 := BX.out.c1
            by_cases hlt : k < tl
            · obtain ⟨bt, ot, z, rfl, hbt, hz, hcz, -⟩ := (IR.out.below HB.out).get hlt
              obtain ⟨i, hti, rfl⟩ := natL_get hz
              have hil := HT.out i (List.mem_of_getElem? hti)
              obtain ⟨b3, off3, y, hab, hb3, hy, hat, hok⟩ := BX.out.row.get hil
              injection hab with hab
              injection hab with hab1 hab2
              subst hab1
              subst hab2
              have HTI := Lib.hid hti
              have HYC := Lib.hid (coreL_get hy)
              have C1 := Lib.hid (stays hat.c1 hb3)
              have CZ := Lib.hid (stays hcz hbt)
              have E0 := Ext.cell z0 BX.out.lt
              have E1 := Ext.cell z1 BX.out.lt
              have EZ := Ext.cell hcz hbt
              have HLB := Lib.hid (show b < wr.heap.size from hb3)
              have HLT := Lib.hid (show bt < wr.heap.size from hbt)
              obtain ⟨V2, hV2e⟩ : ∃ V2, valA y.core.attrs idT = V2 := ⟨_, rfl⟩
              obtain ⟨h2, hh2⟩ : ∃ h2, hasA y.core.attrs idT = h2 := ⟨_, rfl⟩
              have HID : Hid (idF (coreL L) i = V2.toList) := Lib.hid (by rw [idF_at HYC.out]; unfold idC; rw [hV2e])
              have HHI : Hid (hasId (coreL L) i = h2) := Lib.hid (by rw [hasId_at HYC.out, hh2])
              have HFB : Hid (formB (coreL L) i = (y.core.name.toList == [102, 111, 114, 109])) := Lib.hid (by rw [formB_at HYC.out]; rfl)
              have CVI : Hid (∀ X : Ext wr, Calls Tryz.prog 36 #[forV (some ⟨b, off, none⟩) len cap m, .int .i64 (Int.ofNat i), .string ⟨#[105, 100]⟩] X.v fun e w' => e = .returned (.tuple #[.string V2, .bool h2]) ∧ Below X.v.heap.size X.v w') := Lib.hid (fun X => by
                have := refvalue13_any _ len cap m L i ⟨#[105, 100]⟩ idT y X.v (HX.out _ (HB.out.trans (X.below.mono HB.out.size))).row HRT.out hy idK (by decide) (by decide)
                rwa [hV2e, hh2] at this)
              clear hz hti hy hat hok hb3 hbt hcz hV2e hh2 z0 z1
              go_upto_region 9 with fail
              refine wp_region_ext (by kernel_rfl) (by kernel_rfl) ?_
              repeat (go_big_quiet_step (first | (go_at_call 36; exact Ext.call_below (CVI.out _))))
              refine wpQuiet_nil ?_
              intro w' hw'
              obtain ⟨⟨w8, hb8⟩, hw''⟩ := hw'
              dsimp only at hw''
              subst hw''
              have HB8 := Lib.hid hb8
              have HBW := Lib.hid (HB.out.trans (hb8.mono HB.out.size))
              have BX := Lib.hid (HX.out _ HBW.out)
              clear E0 E1 EZ CVI hb8
              cases hq : (h2 && (V2.toList == V.toList)) with
              | false =>
                have HN2 : Hid ((t.take (k + 1)).find? (fun i => idF (coreL L) i == V.toList) = none) := Lib.hid (by
                  rw [find_take HTI.out, HN.out, if_neg]
                  · rfl
                  · intro e
                    have h1 : h2 = true := by rw [← HHI.out]; exact has_of_id (by rw [e]; exact hV2)
                    rw [h1, ← HID.out, e] at hq
                    simp at hq)
                cases h2 with
                | false =>
                  clear hq
                  go_wp2
                  go_roundw
                  case rel => exact ⟨k + 1, by omega, by go_num, HBW, HN2⟩
                  case measure => simp [intOf]; omega
                | true =>
                  rw [Bool.true_and] at hq
                  go_wp2
                  go_roundw
                  case rel => exact ⟨k + 1, by omega, by go_num, HBW, HN2⟩
                  case measure => simp [intOf]; omega
              | true =>
                rw [Bool.and_eq_true] at hq
                obtain ⟨rfl, hq⟩ := hq
                have HF : Hid (t.find? (fun i => idF (coreL L) i == V.toList) = some i) := Lib.hid (by
                  have h := find_take (F := coreL L) HTI.out V.toList
                  rw [HN.out, if_pos (HID.out.trans (beq_iff_eq.1 hq))] at h
                  rw [← List.take_append_drop (k + 1) t, List.find?_append, h]
                  rfl)
                have HR : Hid (ownF (coreL L) n = if (y.core.name.toList == [102, 111, 114, 109]) then (i : Int) else -1) := Lib.hid (by
                  rw [HOW.out]
                  unfold pickF
                  rw [if_neg hV2, HF.out]
                  dsimp only
                  rw [HFB.out])
                go_upto_region 11 with fail
                have E0 := Ext.cell BX.out.c0 BX.out.lt
                have E1 := Ext.cell BX.out.c1 BX.out.lt
                have EZ := Ext.cell (CZ.out _ HB8.out) (Nat.lt_of_lt_of_le HLT.out HB8.out.size)
                have EC := Ext.cell (C1.out _ HB8.out) (Nat.lt_of_lt_of_le HLB.out HB8.out.size)
                cases hf : (y.core.name.toList == [102, 111, 114, 109]) with
                | true =>
                  rw [hf, if_pos rfl] at HR
                  refine wp_region_ext (by kernel_rfl) (by kernel_rfl) ?_
                  repeat (go_big_quiet_step (fail))
                  refine wpQuiet_nil ?_
                  intro w9 hw'
                  obtain ⟨⟨wa, hb9⟩, hw''⟩ := hw'
                  dsimp only at hw''
                  subst hw''
                  have cz := CZ.out _ (HB8.out.trans (hb9.mono HB8.out.size))
                  have BX := Lib.hid (BX.out.keep hb9)
                  clear E0 E1 EZ EC hb9
                  go_wp2
                  go_ret
                  exact ⟨ret_int HR.out.symm, BX.out.below⟩
                | false =>
                  rw [hf, if_neg Bool.false_ne_true] at HR
                  refine wp_region_ext (by kernel_rfl) (by kernel_rfl) ?_
                  repeat (go_big_quiet_step (fail))
                  refine wpQuiet_nil ?_
                  intro w9 hw'
                  obtain ⟨⟨wa, hb9⟩, hw''⟩ := hw'
                  dsimp only at hw''
                  subst hw''
                  have BX := Lib.hid (BX.out.keep hb9)
                  clear E0 E1 EZ EC hb9
                  go_wp2
                  go_ret
                  exact ⟨ret_int HR.out.symm, BX.out.below⟩
            · have HR : Hid (ownF (coreL L) n = -1) := Lib.hid (by
                rw [HOW.out]
                unfold pickF
                have h := HN.out
                rw [List.take_of_length_le (by rw [HTL.out]; omega)] at h
                rw [if_neg hV2, h])
              go_wp2
              go_ret
              exact ⟨ret_int HR.out.symm, BX.out.below⟩
    | false =>
      rw [hc, if_neg Bool.false_ne_true] at HOW
      have START : ∃ p : Int, x.core.parent = p ∧ Hid (p = -1 ∧ nearF (coreL L) n = -1 ∨ ∃ c : Nat, p = c ∧ c < len ∧ parF (coreL L) n = some c) := by
        by_cases hp : x.core.parent = -1
        · exact ⟨-1, hp, Lib.hid (.inl ⟨rfl, nearF_none (right_top HXC.out hp)⟩)⟩
        · obtain ⟨p, hpp, hpl, hpar⟩ := right_par HRT.out HXC.out hp
          exact ⟨p, hpp, Lib.hid (.inr ⟨p, rfl, by rw [← HCL.out]; exact hpl, hpar⟩)⟩
      obtain ⟨p0, hp0, HP0⟩ := START
      rw [hp0] at HBF
      clear hp0
      cases hh with
      | true =>
        obtain rfl : lk = false := by simpa using hc
        (
          clear hc
          go_enter Tryz.func15, Tryz.ntmps15
          go_upto_region 15 with (first
            | (go_at_call 36; (with_reducible refine (CV.out _ BX.out.row).mono ?_); rintro e w1 ⟨rfl, hb⟩; have BX := Lib.hid (BX.out.keep hb); have HBN := Lib.hid hb; clear z0 z1; have z0 := BX.out.c0; have z1 := BX.out.c1; clear hb)
            | (go_at_call 37; (with_reducible refine (CC.out _ BX.out.row).mono ?_); rintro e w2 ⟨rfl, hb⟩; have BX := Lib.hid (BX.out.keep hb); have HBN := Lib.hid (HBN.out.trans (hb.mono HBN.out.size)); clear z0 z1; have z0 := BX.out.c0; have z1 := BX.out.c1; clear hb))
          have c5 := HBF.out _ HBN.out
          go_wp2
          clear c5 c0
          go_loop [11] (fun i => ∃ p : Int, i = .int .i64 p ∧ Hid (p = -1 ∧ nearF (coreL L) n = -1 ∨ ∃ c j : Nat, p = c ∧ c < len ∧ j < len ∧ parF (coreL L) j = some c ∧ nearF (coreL L) n = nearF (coreL L) j)) (fun i => if intOf i = -1 then 0 else rankF (coreL L) (intOf i).toNat + 1)
          case atStart => exact ⟨p0, rfl, Lib.hid (by
            rcases HP0.out with h | ⟨c, h1, h2, h3⟩
            · exact .inl h
            · exact .inr ⟨c, n, h1, h2, hn, h3, rfl⟩)⟩
          case round =>
            clear HP0
            obtain ⟨p, rfl, HP⟩ := hrel
            by_cases hp : p = -1
            · subst hp
              have HR : Hid (ownF (coreL L) n = -1) := Lib.hid (by
                rw [HOW.out]
                rcases HP.out with h | ⟨c, j, h1, _⟩
                · exact h.2
                · omega)
              go_wp2
              go_ret
              exact ⟨ret_int HR.out.symm, BX.out.below⟩
            · obtain ⟨c, j, rfl, hc, hj, hpar, hn2⟩ : ∃ c j : Nat, p = c ∧ c < len ∧ j < len ∧ parF (coreL L) j = some c ∧ nearF (coreL L) n = nearF (coreL L) j := by
                rcases HP.out with h | h
                · exact absurd h.1 hp
                · exact h
              have HJ : Hid (j < (coreL L).length) := Lib.hid (by rw [HCL.out]; exact hj)
              have HC : Hid (c < (coreL L).length) := Lib.hid (by rw [HCL.out]; exact hc)
              obtain ⟨b2, off2, y, hab, hb2, hy, hat, hok⟩ := BX.out.row.get hc
              have hyc := coreL_get hy
              injection hab with hab
              injection hab with hab1 hab2
              subst hab1
              subst hab2
              have c1 := hat.c1
              have c5 := hat.c5
              have hne : ((c : Int) != -1) = true := bne_iff_ne.2 (by omega)
              cases hf : (y.core.name.toList == [102, 111, 114, 109]) with
              | true =>
                have HR : Hid (ownF (coreL L) n = c) := Lib.hid (by
                  rw [HOW.out, hn2]
                  exact nearF_form hpar (by rw [formB_at hyc]; exact hf))
                clear hy hyc hat hok hpar hn2 hb2 HP
                go_wp2
                go_ret
                exact ⟨ret_int HR.out.symm, BX.out.below⟩
              | false =>
                have HN : Hid (nearF (coreL L) n = nearF (coreL L) c) := Lib.hid (by
                  rw [hn2]
                  exact nearF_up HRT.out HJ.out hpar (by rw [formB_at hyc]; exact hf))
                have NEXT : ∃ q : Int, y.core.parent = q ∧ Hid ((q = -1 ∧ nearF (coreL L) n = -1 ∨ ∃ d i : Nat, q = d ∧ d < len ∧ i < len ∧ parF (coreL L) i = some d ∧ nearF (coreL L) n = nearF (coreL L) i) ∧ (if q = -1 then 0 else rankF (coreL L) q.toNat + 1) < rankF (coreL L) c + 1) := by
                  by_cases hq : y.core.parent = -1
                  · exact ⟨-1, hq, Lib.hid ⟨.inl ⟨rfl, by rw [HN.out]; exact nearF_none (right_top hyc hq)⟩, by rw [if_pos rfl]; omega⟩⟩
                  · obtain ⟨d, hdd, hdl, hdp⟩ := right_par HRT.out hyc hq
                    refine ⟨d, hdd, Lib.hid ⟨.inr ⟨d, c, rfl, by rw [← HCL.out]; exact hdl, hc, hdp, HN.out⟩, ?_⟩⟩
                    have := (par_lt HRT.out HC.out hdp).2
                    rw [if_neg (by omega), Int.toNat_natCast]
                    omega
                obtain ⟨q, hq, HQ⟩ := NEXT
                rw [hq] at c5
                clear hy hyc hat hok hpar hn2 hb2 HP hq
                go_wp2
                go_round
                case rel => exact ⟨q, rfl, Lib.hid HQ.out.1⟩
                case measure =>
                  have := HQ.out.2
                  have e2 : (if (c : Int) = -1 then 0 else rankF (coreL L) (c : Int).toNat + 1) = rankF (coreL L) c + 1 := by rw [if_neg (by omega), Int.toNat_natCast]
                  exact Nat.lt_of_lt_of_eq this e2.symm)
      | false => (
                   clear hc
                   go_enter Tryz.func15, Tryz.ntmps15
                   go_upto_region 15 with (first
                     | (go_at_call 36; (with_reducible refine (CV.out _ BX.out.row).mono ?_); rintro e w1 ⟨rfl, hb⟩; have BX := Lib.hid (BX.out.keep hb); have HBN := Lib.hid hb; clear z0 z1; have z0 := BX.out.c0; have z1 := BX.out.c1; clear hb)
                     | (go_at_call 37; (with_reducible refine (CC.out _ BX.out.row).mono ?_); rintro e w2 ⟨rfl, hb⟩; have BX := Lib.hid (BX.out.keep hb); have HBN := Lib.hid (HBN.out.trans (hb.mono HBN.out.size)); clear z0 z1; have z0 := BX.out.c0; have z1 := BX.out.c1; clear hb))
                   have c5 := HBF.out _ HBN.out
                   go_wp2
                   clear c5 c0
                   go_loop [11] (fun i => ∃ p : Int, i = .int .i64 p ∧ Hid (p = -1 ∧ nearF (coreL L) n = -1 ∨ ∃ c j : Nat, p = c ∧ c < len ∧ j < len ∧ parF (coreL L) j = some c ∧ nearF (coreL L) n = nearF (coreL L) j)) (fun i => if intOf i = -1 then 0 else rankF (coreL L) (intOf i).toNat + 1)
                   case atStart => exact ⟨p0, rfl, Lib.hid (by
                     rcases HP0.out with h | ⟨c, h1, h2, h3⟩
                     · exact .inl h
                     · exact .inr ⟨c, n, h1, h2, hn, h3, rfl⟩)⟩
                   case round =>
                     clear HP0
                     obtain ⟨p, rfl, HP⟩ := hrel
                     by_cases hp : p = -1
                     · subst hp
                       have HR : Hid (ownF (coreL L) n = -1) := Lib.hid (by
                         rw [HOW.out]
                         rcases HP.out with h | ⟨c, j, h1, _⟩
                         · exact h.2
                         · omega)
                       go_wp2
                       go_ret
                       exact ⟨ret_int HR.out.symm, BX.out.below⟩
                     · obtain ⟨c, j, rfl, hc, hj, hpar, hn2⟩ : ∃ c j : Nat, p = c ∧ c < len ∧ j < len ∧ parF (coreL L) j = some c ∧ nearF (coreL L) n = nearF (coreL L) j := by
                         rcases HP.out with h | h
                         · exact absurd h.1 hp
                         · exact h
                       have HJ : Hid (j < (coreL L).length) := Lib.hid (by rw [HCL.out]; exact hj)
                       have HC : Hid (c < (coreL L).length) := Lib.hid (by rw [HCL.out]; exact hc)
                       obtain ⟨b2, off2, y, hab, hb2, hy, hat, hok⟩ := BX.out.row.get hc
                       have hyc := coreL_get hy
                       injection hab with hab
                       injection hab with hab1 hab2
                       subst hab1
                       subst hab2
                       have c1 := hat.c1
                       have c5 := hat.c5
                       have hne : ((c : Int) != -1) = true := bne_iff_ne.2 (by omega)
                       cases hf : (y.core.name.toList == [102, 111, 114, 109]) with
                       | true =>
                         have HR : Hid (ownF (coreL L) n = c) := Lib.hid (by
                           rw [HOW.out, hn2]
                           exact nearF_form hpar (by rw [formB_at hyc]; exact hf))
                         clear hy hyc hat hok hpar hn2 hb2 HP
                         go_wp2
                         go_ret
                         exact ⟨ret_int HR.out.symm, BX.out.below⟩
                       | false =>
                         have HN : Hid (nearF (coreL L) n = nearF (coreL L) c) := Lib.hid (by
                           rw [hn2]
                           exact nearF_up HRT.out HJ.out hpar (by rw [formB_at hyc]; exact hf))
                         have NEXT : ∃ q : Int, y.core.parent = q ∧ Hid ((q = -1 ∧ nearF (coreL L) n = -1 ∨ ∃ d i : Nat, q = d ∧ d < len ∧ i < len ∧ parF (coreL L) i = some d ∧ nearF (coreL L) n = nearF (coreL L) i) ∧ (if q = -1 then 0 else rankF (coreL L) q.toNat + 1) < rankF (coreL L) c + 1) := by
                           by_cases hq : y.core.parent = -1
                           · exact ⟨-1, hq, Lib.hid ⟨.inl ⟨rfl, by rw [HN.out]; exact nearF_none (right_top hyc hq)⟩, by rw [if_pos rfl]; omega⟩⟩
                           · obtain ⟨d, hdd, hdl, hdp⟩ := right_par HRT.out hyc hq
                             refine ⟨d, hdd, Lib.hid ⟨.inr ⟨d, c, rfl, by rw [← HCL.out]; exact hdl, hc, hdp, HN.out⟩, ?_⟩⟩
                             have := (par_lt HRT.out HC.out hdp).2
                             rw [if_neg (by omega), Int.toNat_natCast]
                             omega
                         obtain ⟨q, hq, HQ⟩ := NEXT
                         rw [hq] at c5
                         clear hy hyc hat hok hpar hn2 hb2 HP hq
                         go_wp2
                         go_round
                         case rel => exact ⟨q, rfl, Lib.hid HQ.out.1⟩
                         case measure =>
                           have := HQ.out.2
                           have e2 : (if (c : Int) = -1 then 0 else rankF (coreL L) (c : Int).toNat + 1) = rankF (coreL L) c + 1 := by rw [if_neg (by omega), Int.toNat_natCast]
                           exact Nat.lt_of_lt_of_eq this e2.symm)
  · have hk1 : (x.core.kind != 1) = true := bne_iff_ne.2 hk
    have HR : Hid (ownF (coreL L) n = -1) := Lib.hid (by
      rw [ownF_at hxc]
      unfold ownC
      rw [if_neg hk])
    clear h hx hxc hat hok hb hr hk
    go_enter Tryz.func15, Tryz.ntmps15
    go_wp2
    go_ret
    exact ⟨ret_int HR.out.symm, BX.out.below⟩
end Go.Proofs.YtkgbgnmmgmnnlaaGreatDoor
