/- Texts joined in build order: WatchFresh. -/
import Derived.Test.YtkfmengdffpcnaaGreatDoorA35
namespace Go.Proofs.YtkfmengdffpcnaaGreatDoor
open Go.RowKit
set_option maxHeartbeats 4000000 in
set_option maxRecDepth 100000 in
theorem freshclass_any (x : ClassD) (w : World) (h : ClassAt w x) (hs : SmallCl x.core) : Calls Tryz.prog 33 #[x.val] w (FreshC w x) := by
  obtain ⟨form, wa, wn, wk, watch, pa, pn, pk, peek, ma, mn, mc, make, ha, hn, hk, hooks⟩ := x
  have l1 := h.t.hlen
  have l2 := h.p.hlen
  have l3 := h.m.hlen
  have l4 := h.h.hlen
  dsimp only at l1 l2 l3 l4
  have s1 : watch.length ≤ 1000 := hs.w
  have s2 : peek.length ≤ 1000 := hs.p
  have s3 : make.length ≤ 1000 := hs.m
  have s4 : hooks.length ≤ 1000 := by have := hs.h; unfold ClassD.core coreH at this; simpa using this
  have HD : Hid (∀ R : List HookD, coreH R = coreH hooks → ∀ y ∈ R, y.ops.length ≤ 1000) := Lib.hid (fun R hR y hy => by
    have : (y.kind, y.ops) ∈ coreH R := by unfold coreH; exact List.mem_map_of_mem hy
    rw [hR] at this
    exact hs.d _ this)
  have HA := Lib.hid h
  have CW : Hid (∀ V, StrRow V wa wn wk watch → Calls Tryz.prog 61 #[.slice wa wn wk] V (OwnP (α := ByteArray) encStD 1 9 V watch)) := Lib.hid (fun V h => cloneStr_any wa wn wk watch V h (by omega))
  have CP : Hid (∀ V, OpRow V pa pn pk peek → Calls Tryz.prog 39 #[.slice pa pn pk] V (OwnP (α := OpD) encOpD 7 66 V peek)) := Lib.hid (fun V h => cloneOp_any pa pn pk peek V h (by omega))
  have CM : Hid (∀ V, OpRow V ma mn mc make → Calls Tryz.prog 39 #[.slice ma mn mc] V (OwnP (α := OpD) encOpD 7 66 V make)) := Lib.hid (fun V h => cloneOp_any ma mn mc make V h (by omega))
  have CH : Hid (∀ V, HookRow V ha hn hk hooks → Calls Tryz.prog 60 #[.slice ha hn hk] V (OwnP (α := HookD) encHkD 2 68 V hooks)) := Lib.hid (fun V h => cloneHk_any ha hn hk hooks V ⟨h.row, fun _ _ => trivial, h.hnil⟩ (by omega))
  have CO : Hid (∀ V a n c l, l.length ≤ 1000 → OpRow V a n c l → Calls Tryz.prog 39 #[.slice a n c] V (OwnP (α := OpD) encOpD 7 66 V l)) := Lib.hid (fun V a n c l hl h => cloneOp_any a n c l V h (by have := h.hlen; omega))
  obtain ⟨V0, hV0, HG, HSV, HBV⟩ := boxes1 w #[.bool form, .slice wa wn wk, .slice pa pn pk, .slice ma mn mc, .slice ha hn hk] 51
  obtain ⟨W0, hW0, B0, B1, HS, HB⟩ := boxes2 w #[.bool form, .slice wa wn wk, .slice pa pn pk, .slice ma mn mc, .slice ha hn hk] #[.bool false, .slice none 0 0, .slice none 0 0, .slice none 0 0, .slice none 0 0] 51 51
  have HW0 := Lib.hid hW0
  have HBV0 : Hid (Below V0.heap.size V0 W0) := Lib.hid (by rw [← hW0, hV0]; exact box_below _ _)
  have HCL : Hid (∀ wr R, ∀ a1 c1, HMid W0.heap.size wr a1 hn c1 hooks R → Below W0.heap.size W0 wr → CL V0 wr w.heap.size (w.heap.size + 1) ⟨form, wa, wn, wk, watch, pa, pn, pk, peek, ma, mn, mc, make, ha, hn, hk, hooks⟩ a1 hn c1 R) := Lib.hid (by
    intro wr R a1 c1 hm hbr
    have hz := hbr.size
    refine ⟨HBV0.out.trans (hbr.mono HBV0.out.size), B0.keep hbr, by omega, by omega, by omega, hm.row, hm.gap _ (by omega) (HA.out.hoff _ (by omega)), fun b off e _ => by have := (hm.own b off e).2.1; omega, fun j hj => ?_, (B1.keep hbr).f⟩
    · have hc : ∃ v, (#[.bool false, .slice none 0 0, .slice none 0 0, .slice none 0 0, .slice none 0 0] : Array Value).toList[j]? = some v := ⟨_, List.getElem?_eq_getElem (by simpa using hj)⟩
      obtain ⟨v, hv⟩ := hc
      rw [(B1.keep hbr).c j v hv]
      rfl)
  have HSW := Lib.hid (show V0.heap.size = w.heap.size + 1 ∧ W0.heap.size = w.heap.size + 1 + 1 from ⟨HSV, HS⟩)
  have HB := Lib.hid HB
  have HBV := Lib.hid HBV
  have HR0 := Lib.hid (HA.out.h.below HB.out)
  have z4 := B0.c 4 _ rfl
  have h64 := h.h.len64
  dsimp only at h64
  have HLN := Lib.hid l4
  clear h hs l1 l2 l3 l4 s1 s2 s3 s4 hW0 B0 B1 HS HG HSV hV0
  go_enter Tryz.func33, Tryz.ntmps33
  go_upto_region 1 with fail
  rw [HW0.out]
  go_upto_region 2 with (go_at_call 60; (with_reducible refine (CH.out _ HR0.out).mono ?_); rintro e w1 ⟨a1, c1, rfl, hown, hb1⟩; rw [HLN.out] at hown; have HM := Lib.hid (HMid.start HA.out.h HB.out hb1 hown); have HB1 := Lib.hid hb1; clear hown hb1 z4)
  rw [HLN.out]
  go_wp2_with fail
  go_loopw [4, 5, 11] (fun _ _ i wr => ∃ (k : Nat) (R : List HookD), k ≤ hn ∧ i = .int .i64 k ∧ Hid (HMid W0.heap.size wr a1 hn c1 hooks R) ∧ Hid (Below W0.heap.size W0 wr)) (fun _ _ i _ => hn - (intOf i).toNat)
  case atStart => exact ⟨0, hooks, Nat.zero_le _, rfl, HM, HB1⟩
  case round =>
    obtain ⟨k, R, hkl, rfl, HR, HBR⟩ := hrel
    by_cases hlt : k < hn
    · obtain ⟨g, off, y, hga, hglt, hy, c0, c1', hyk, hyo⟩ := HR.out.row.get hlt
      subst hga
      obtain ⟨rfl, hbase, -, hfz, -⟩ := HR.out.own g off rfl
      rw [Nat.zero_add] at c0 c1'
      have HY := Lib.hid hy
      have HYO := Lib.hid hyo
      have HYL := Lib.hid (HD.out R HR.out.core y (List.mem_of_getElem? hy))
      have HBASE := Lib.hid hbase
      have HFZ := Lib.hid hfz
      have HGL := Lib.hid hglt
      obtain ⟨yk, ya, yn, yc, yo⟩ := y
      dsimp only at c0 c1' hyk hyo
      clear hy hyo hbase hfz hglt
      go_upto_region 5 with fail
      obtain ⟨V, hV, C0, HSV, HBX⟩ := boxes1 wr #[.int .i64 yk, .slice ya yn yc] 68
      rw [hV]
      have HBX := Lib.hid HBX
      have x1 := C0.c 1 _ rfl
      have HOV : Hid (OpRow V ya yn yc yo) := Lib.hid (HYO.out.below HBX.out)
      clear hV c0 c1' C0 HSV
      go_wp2_with (go_at_call 39; (with_reducible refine (CO.out _ _ _ _ _ HYL.out HOV.out).mono ?_); rintro e w2 ⟨a2, c2, rfl, hown2, hb2⟩; have HO2 := Lib.hid hown2; have HB2 := Lib.hid (HBX.out.trans (hb2.mono HBX.out.size)); have HBX2 := Lib.hid hb2; have q1 := (HR.out.keep HB2.out).row.get hlt; obtain ⟨_, _, y', e, -, hy', -, q1, -, -⟩ := q1; injection e with e; injection e with e1 e2; subst e1; subst e2; rw [Nat.zero_add] at q1; have hq1 := (HB2.out.frozen (p := ⟨g, k * 2 + 1, none⟩) HGL.out).trans (HFZ.out _); clear hown2 hb2 x1)
      have HOK : Hid (∀ z ∈ yo, okOpD z) := Lib.hid HYO.out.ok
      go_roundw
      case rel =>
        have l2 := LRow.of_own (fun x => encOpD_len x) (by decide) HO2.out HOK.out
        refine ⟨k + 1, _, by omega, by go_num, Lib.hid (HR.out.next HB2.out HY.out l2.1 (fun b off e => ?_)), Lib.hid ((HBR.out.trans (HB2.out.mono HBR.out.size)).setCell HBASE.out _)⟩
        have := (l2.2 b off e).1
        have := HBX.out.size
        omega
      case measure => simp [intOf]; omega
    · have hkn : k = hn := by omega
      subst hkn
      have SV := (HCL.out wr R a1 c1 HR.out HBR.out).facts
      unfold CF at SV
      dsimp only at SV
      have nz : w.heap.size ≠ w.heap.size + 1 := by omega
      have nz2 : w.heap.size + 1 ≠ w.heap.size := by omega
      go_upto_region 7 with fail
      go_region_held3 (fun w' => w'.cell? ⟨w.heap.size, 0, none⟩ = some (.bool form) ∧ w'.cell? ⟨w.heap.size, 1, none⟩ = some (.slice wa wn wk) ∧ w'.cell? ⟨w.heap.size, 2, none⟩ = some (.slice pa pn pk) ∧ w'.cell? ⟨w.heap.size, 3, none⟩ = some (.slice ma mn mc) ∧ w'.cell? ⟨w.heap.size + 1, 0, none⟩ = some (celOf w' ⟨w.heap.size + 1, 0, none⟩) ∧ w'.cell? ⟨w.heap.size + 1, 1, none⟩ = some (celOf w' ⟨w.heap.size + 1, 1, none⟩) ∧ w'.cell? ⟨w.heap.size + 1, 2, none⟩ = some (celOf w' ⟨w.heap.size + 1, 2, none⟩) ∧ w'.cell? ⟨w.heap.size + 1, 3, none⟩ = some (celOf w' ⟨w.heap.size + 1, 3, none⟩) ∧ w'.cell? ⟨w.heap.size + 1, 4, none⟩ = some (celOf w' ⟨w.heap.size + 1, 4, none⟩) ∧ w'.frozen? ⟨w.heap.size + 1, 0, none⟩ = false ∧ w'.frozen? ⟨w.heap.size + 1, 1, none⟩ = false ∧ w'.frozen? ⟨w.heap.size + 1, 2, none⟩ = false ∧ w'.frozen? ⟨w.heap.size + 1, 3, none⟩ = false ∧ w'.frozen? ⟨w.heap.size + 1, 4, none⟩ = false ∧ CL V0 w' w.heap.size (w.heap.size + 1) ⟨form, wa, wn, wk, watch, pa, pn, pk, peek, ma, mn, mc, make, ha, k, hk, hooks⟩ a1 k c1 R)
        (first | with_reducible assumption | with_reducible exact cl_put5 (by with_reducible assumption) _ _ _ _ _ | with_reducible exact cl_keep (by with_reducible assumption) (by with_reducible assumption) | with_reducible exact cl_keep SV (Below.refl _ _).drew)
        (first
          | (go_at_call 61; (with_reducible refine (CW.out _ (HA.out.t.below (HBV.out.trans ((cl_of ‹_ ∧ _ ∧ _ ∧ _ ∧ _ ∧ _ ∧ _ ∧ _ ∧ _ ∧ _ ∧ _ ∧ _ ∧ _ ∧ _ ∧ CL _ _ _ _ _ _ _ _ _›).b.mono HBV.out.size)))).mono ?_); rintro e w1 ⟨ra1, rc1, rfl, ho1, hb⟩; have T1 := Lib.hid ho1; have HL0 := Lib.hid (cl_of ‹_ ∧ _ ∧ _ ∧ _ ∧ _ ∧ _ ∧ _ ∧ _ ∧ _ ∧ _ ∧ _ ∧ _ ∧ _ ∧ _ ∧ CL _ _ _ _ _ _ _ _ _›); have KB0 := Lib.hid hb; clear ho1)
          | (go_at_call 39; (with_reducible refine (CP.out _ (HA.out.p.below (HBV.out.trans ((cl_of ‹_ ∧ _ ∧ _ ∧ _ ∧ _ ∧ _ ∧ _ ∧ _ ∧ _ ∧ _ ∧ _ ∧ _ ∧ _ ∧ _ ∧ CL _ _ _ _ _ _ _ _ _›).b.mono HBV.out.size)))).mono ?_); rintro e w2 ⟨ra2, rc2, rfl, ho2, hb⟩; have T2 := Lib.hid ho2; have HL1 := Lib.hid (cl_of ‹_ ∧ _ ∧ _ ∧ _ ∧ _ ∧ _ ∧ _ ∧ _ ∧ _ ∧ _ ∧ _ ∧ _ ∧ _ ∧ _ ∧ CL _ _ _ _ _ _ _ _ _›); have KB1 := Lib.hid hb; clear ho2)
          | (go_at_call 39; (with_reducible refine (CM.out _ (HA.out.m.below (HBV.out.trans ((cl_of ‹_ ∧ _ ∧ _ ∧ _ ∧ _ ∧ _ ∧ _ ∧ _ ∧ _ ∧ _ ∧ _ ∧ _ ∧ _ ∧ _ ∧ CL _ _ _ _ _ _ _ _ _›).b.mono HBV.out.size)))).mono ?_); rintro e w3 ⟨ra3, rc3, rfl, ho3, hb⟩; have T3 := Lib.hid ho3; have HL2 := Lib.hid (cl_of ‹_ ∧ _ ∧ _ ∧ _ ∧ _ ∧ _ ∧ _ ∧ _ ∧ _ ∧ _ ∧ _ ∧ _ ∧ _ ∧ _ ∧ CL _ _ _ _ _ _ _ _ _›); have KB2 := Lib.hid hb; clear ho3))
      have HH := HL2.out.keep KB2.out
      have OKW : ∀ z ∈ watch, okStD z := HA.out.t.ok
      have OKP : ∀ z ∈ peek, okOpD z := HA.out.p.ok
      have OKM : ∀ z ∈ make, okOpD z := HA.out.m.ok
      have t1 := LRow.of_own (fun x => encStD_len x) (by decide) T1.out OKW
      have t2 := LRow.of_own (fun x => encOpD_len x) (by decide) T2.out OKP
      have t3 := LRow.of_own (fun x => encOpD_len x) (by decide) T3.out OKM
      have q0 := HL0.out.hl
      have q1 := HL1.out.hl
      have q2 := HL2.out.hl
      have HOFF : Hid (∀ q, q < w.heap.size → HooksOff q hooks → ClassOff q ⟨form, ra1, watch.length, rc1, watch, ra2, peek.length, rc2, peek, ra3, make.length, rc3, make, a1, k, c1, R⟩) := Lib.hid (fun q hq h9 => by
        have hsw := HSW.out
        exact ⟨fun b off e _ => by have := (t1.2 b off e).1; omega, fun b off e _ => by have := (t2.2 b off e).1; omega, fun b off e _ => by have := (t3.2 b off e).1; omega, fun b off e _ => by have := (HR.out.own b off e).2.1; omega, HR.out.gap q (by omega) h9⟩)
      have r1 := lrow_put5 ((t1.1.below KB1.out).below KB2.out) (q := w.heap.size + 1) (fun b off e _ => by have := (t1.2 b off e).1; omega) (.bool form) (.slice ra1 watch.length rc1) (.slice ra2 peek.length rc2) (.slice ra3 make.length rc3) (.slice a1 k c1)
      have r2 := lrow_put5 (t2.1.below KB2.out) (q := w.heap.size + 1) (fun b off e _ => by have := (t2.2 b off e).1; omega) (.bool form) (.slice ra1 watch.length rc1) (.slice ra2 peek.length rc2) (.slice ra3 make.length rc3) (.slice a1 k c1)
      have r3 := lrow_put5 t3.1 (q := w.heap.size + 1) (fun b off e _ => by have := (t3.2 b off e).1; omega) (.bool form) (.slice ra1 watch.length rc1) (.slice ra2 peek.length rc2) (.slice ra3 make.length rc3) (.slice a1 k c1)
      have HP := (((((HH.put 0 (.bool form)).put 1 (.slice ra1 watch.length rc1)).put 2 (.slice ra2 peek.length rc2)).put 3 (.slice ra3 make.length rc3)).put 4 (.slice a1 k c1))
      have CB := put5_cell HH (.bool form) (.slice ra1 watch.length rc1) (.slice ra2 peek.length rc2) (.slice ra3 make.length rc3) (.slice a1 k c1)
      have hr := HP.hr
      have hbe : Below w.heap.size w (((((w3.setCell ⟨w.heap.size + 1, 0, none⟩ (.bool form)).setCell ⟨w.heap.size + 1, 1, none⟩ (.slice ra1 watch.length rc1)).setCell ⟨w.heap.size + 1, 2, none⟩ (.slice ra2 peek.length rc2)).setCell ⟨w.heap.size + 1, 3, none⟩ (.slice ra3 make.length rc3)).setCell ⟨w.heap.size + 1, 4, none⟩ (.slice a1 k c1)) := HBV.out.trans (HP.b.mono HBV.out.size)
      have HCO := Lib.hid HR.out.core
      obtain ⟨X, hX⟩ : ∃ X, (((((w3.setCell ⟨w.heap.size + 1, 0, none⟩ (.bool form)).setCell ⟨w.heap.size + 1, 1, none⟩ (.slice ra1 watch.length rc1)).setCell ⟨w.heap.size + 1, 2, none⟩ (.slice ra2 peek.length rc2)).setCell ⟨w.heap.size + 1, 3, none⟩ (.slice ra3 make.length rc3)).setCell ⟨w.heap.size + 1, 4, none⟩ (.slice a1 k c1)) = X := ⟨_, rfl⟩
      rw [hX] at r1 r2 r3 CB hr hbe ⊢
      have HR1 := Lib.hid r1
      have HR2 := Lib.hid r2
      have HR3 := Lib.hid r3
      have HHR := Lib.hid hr
      have HBE := Lib.hid hbe
      have c0 := CB.c 0 _ rfl
      have c1' := CB.c 1 _ rfl
      have c2 := CB.c 2 _ rfl
      have c3 := CB.c 3 _ rfl
      have c4 := CB.c 4 _ rfl
      clear hX HH HP r1 r2 r3 CB hr hbe t1 t2 t3 q0 q1 q2
      go_wp2
      refine bodyPost_ret (v := classVal form ra1 watch.length rc1 ra2 peek.length rc2 ra3 make.length rc3 a1 k c1) (by simp [results, Tryz.results33, go_sem, c0, c1', c2, c3, c4]) rfl ⟨⟨form, ra1, watch.length, rc1, watch, ra2, peek.length, rc2, peek, ra3, make.length, rc3, make, a1, k, c1, R⟩, rfl, ?_, ⟨HR1.out, HR2.out, HR3.out, HHR.out⟩, HBE.out, HOFF.out⟩
      unfold ClassD.core
      dsimp only
      rw [HCO.out]
end Go.Proofs.YtkfmengdffpcnaaGreatDoor
