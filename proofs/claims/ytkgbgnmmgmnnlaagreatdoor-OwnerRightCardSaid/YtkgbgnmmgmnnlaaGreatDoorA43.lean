/- Texts joined in build order: Ref13Members Ref3Right. -/
import Derived.Test.YtkgbgnmmgmnnlaaGreatDoorA42
import Derived.Test.YtkgbgnmmgmnnlaaGreatDoorA36
import Derived.Test.YtkgbgnmmgmnnlaaGreatDoorA08
namespace Go.Proofs.YtkgbgnmmgmnnlaaGreatDoor
open Go.RowKit
set_option maxHeartbeats 8000000 in
set_option maxRecDepth 100000 in
theorem refmembers13_any (a : Option Addr) (len cap : Nat) (m : Int) (L : List NodeD) (x : Nat) (w : World) (h : NodeRow w a len cap L) (hs : smallF L) (hr : rightF m (coreL L) = true) (hx : x < len) :
    Calls Tryz.prog 18 #[forV a len cap m, .int .i64 x] w (OrdPost w (memO (coreL L) x)) := by
  have hl0 := h.len64
  have HCL : Hid ((coreL L).length = len) := Lib.hid (by rw [coreL_len, h.hlen])
  have hl1k : len ≤ 1000 := by rw [← h.hlen]; exact hs.1
  have BX := Lib.hid (Box.start (m := m) h)
  have z0 := BX.out.c0
  have z1 := BX.out.c1
  have HRT := Lib.hid hr
  have HS := Lib.hid hs
  obtain ⟨i0, hi0, hz0, hz1, hz2⟩ := info_parts int_info
  obtain ⟨R, hR⟩ : ∃ R, rootF (coreL L) x = R := ⟨_, rfl⟩
  have hRl : R < len := by rw [← hR, ← HCL.out]; exact rootF_lt2 HRT.out (by rw [HCL.out]; exact hx)
  obtain ⟨l, hl⟩ : ∃ l, natL (ordF (coreL L) R) = l := ⟨_, rfl⟩
  have HM : Hid (memO (coreL L) x = selM (coreL L) l x l.length) := Lib.hid (by
    unfold memO selM
    rw [hR, ordI_nat, hl, List.take_length])
  have NUM : Hid (∀ z ∈ l, ∃ k : Nat, z = k ∧ k < len) := Lib.hid (fun z hz => by
    rw [← hl] at hz
    unfold natL at hz
    obtain ⟨k, hk, rfl⟩ := List.mem_map.1 hz
    exact ⟨k, rfl, by rw [← HCL.out]; exact ordF_lt HRT.out (by rw [HCL.out]; exact hRl) k hk⟩)
  have HLL : Hid (l.length ≤ 1000) := Lib.hid (by
    rw [← hl]
    unfold natL
    rw [List.length_map]
    exact Nat.le_trans (ordF_len HRT.out (by rw [HCL.out]; exact hRl)) (by rw [HCL.out]; exact hl1k))
  have CU : Hid (∀ W, NodeRow W a len cap L → Calls Tryz.prog 39 #[forV a len cap m, .int .i64 x] W fun e w' => e = .returned (.int .i64 (R : Nat)) ∧ Below W.heap.size W w') := Lib.hid (fun W h => by
    rw [← hR]
    exact refrootF_any _ len cap m L x W HRT.out h hx)
  have CT : Hid (∀ W, NodeRow W a len cap L → Calls Tryz.prog 38 #[forV a len cap m, .int .i64 R] W (OrdPost W l)) := Lib.hid (fun W h => by
    rw [← hl]
    exact reforder_any _ len cap m L HRT.out HS.out.1 R W h hRl)
  have CO : Hid (∀ (q : Nat) W, q < len → NodeRow W a len cap L → Calls Tryz.prog 15 #[forV a len cap m, .int .i64 q] W fun e w' => e = .returned (.int .i64 (ownF (coreL L) q)) ∧ Below W.heap.size W w') := Lib.hid (fun q W hq h => refof13_any a len cap m L q W h HS.out HRT.out hq)
  obtain ⟨w0, hw0⟩ : ∃ w0, w.alloc (forB a len cap m) = w0 := ⟨_, rfl⟩
  have HW0 := Lib.hid hw0
  have HXB : Hid (∀ W, Below w0.heap.size w0 W → Box w W w.heap.size a len cap m L (coreL L)) := Lib.hid (fun W hb => by rw [← hw0] at hb; exact BX.out.keep hb)
  have LT : Hid (w.heap.size < w0.heap.size) := Lib.hid (by rw [← hw0]; exact BX.out.lt)
  rw [hw0] at z0 z1
  have SV : w0.cell? ⟨w.heap.size, 0, none⟩ = some (.slice a len cap) ∧ w0.cell? ⟨w.heap.size, 1, none⟩ = some (.int .i64 m) ∧ Below w0.heap.size w0 w0 := ⟨z0, z1, Below.refl _ _⟩
  clear hR hl h hs hr hw0 BX z0 z1
  go_enter Tryz.func18, Tryz.ntmps18
  go_upto_region 2 with fail
  rw [HW0.out]
  go_cut [6] (fun tr wx => True ∧ ∃ ta tl tc, tr = .slice ta tl tc ∧ Hid (IntRow wx ta tl tc l) ∧ Hid (Below w0.heap.size w0 wx))
  case first =>
    go_region_held3 (fun w' => w'.cell? ⟨w.heap.size, 0, none⟩ = some (.slice a len cap) ∧ w'.cell? ⟨w.heap.size, 1, none⟩ = some (.int .i64 m) ∧ Below w0.heap.size w0 w')
      (with_reducible first | (refine keep2 LT.out LT.out SV ?_; first | exact HWX.out | exact HWX.out.drew | exact (Below.refl _ _).drew) | assumption)
      (first
        | (go_at_call 39; (with_reducible refine (CU.out _ (HXB.out _ (kept2 ‹_ ∧ _ ∧ Below _ _ _›)).row).mono ?_); rintro e w3 ⟨rfl, hb⟩; have HWX := Lib.hid ((kept2 ‹_ ∧ _ ∧ Below _ _ _›).trans (hb.mono (kept2 ‹_ ∧ _ ∧ Below _ _ _›).size)); clear hb)
        | (go_at_call 38; (with_reducible refine (CT.out _ (HXB.out _ (kept2 ‹_ ∧ _ ∧ Below _ _ _›)).row).mono ?_); rintro e w3 ⟨ta, tl, tc, rfl, hti, hb⟩; have HWX := Lib.hid ((kept2 ‹_ ∧ _ ∧ Below _ _ _›).trans (hb.mono (kept2 ‹_ ∧ _ ∧ Below _ _ _›).size)); have IR := Lib.hid hti; clear hti hb))
    all_goals
      go_wp2_with fail
      go_meet
      first
        | exact ⟨trivial, _, _, _, rfl, IR, HWX⟩
        | exact ⟨trivial, _, _, _, rfl, Lib.hid (IR.out.drewN 1), Lib.hid HWX.out.drew⟩
  case rest =>
    obtain ⟨-, ta, tl, tc, rfl, IR, HWX⟩ := hcut
    have htl64 := IR.out.len64
    have htl1k : tl ≤ 1000 := by rw [← IR.out.hlen]; exact HLL.out
    have HX : Hid (∀ W, Below wc.heap.size wc W → Box w W w.heap.size a len cap m L (coreL L)) := Lib.hid (fun W hb => HXB.out W (HWX.out.trans (hb.mono HWX.out.size)))
    have OW0 : Hid (wc.ownsRow wc.heap.size 3 1 (.slice none 0 0) (selM (coreL L) l x 0).length ((selM (coreL L) l x 0).flatMap encZ)) := Lib.hid (World.ownsRow_nil _ _ _ _)
    clear SV CU CT HXB HWX LT HW0
    go_wp2
    go_loopw [5, 7] (fun v i wr => ∃ k : Nat, k ≤ tl ∧ i = .int .i64 k ∧ Hid (Below wc.heap.size wc wr) ∧ Hid (wr.ownsRow wc.heap.size 3 1 v (selM (coreL L) l x k).length ((selM (coreL L) l x k).flatMap encZ))) (fun _ i _ => tl - (intOf i).toNat)
    case atStart => exact ⟨0, Nat.zero_le _, rfl, Lib.hid (Below.refl _ _), OW0⟩
    case round =>
      clear OW0
      obtain ⟨k, hk, rfl, HBW, OW⟩ := hrel
      have BX := Lib.hid (HX.out _ HBW.out)
      have z0 := BX.out.c0
      have z1 := BX.out.c1
      by_cases hlt : k < tl
      · obtain ⟨bo, oo, z, rfl, hbo, hz, hcz, -⟩ := (IR.out.below HBW.out).get hlt
        obtain ⟨q, rfl, hq⟩ := NUM.out z (List.mem_of_getElem? hz)
        have HST := Lib.hid (selM_step (F := coreL L) (x := (x : Int)) hz)
        have hsl : (selM (coreL L) l x k).length ≤ 1000 := Nat.le_trans (selM_len _ _ _ _) HLL.out
        obtain ⟨n1, hn1⟩ : ∃ n1, (selM (coreL L) l x k).length = n1 := ⟨_, rfl⟩
        have HN1 := Lib.hid hn1
        rw [hn1] at OW hsl
        have E0 := Ext.cell z0 BX.out.lt
        have E1 := Ext.cell z1 BX.out.lt
        have EZ := Ext.cell hcz hbo
        have CZ := Lib.hid (stays hcz hbo)
        obtain ⟨y, hy⟩ : ∃ y, ownF (coreL L) q = y := ⟨_, rfl⟩
        have HYE := Lib.hid hy
        have CX : Hid (∀ X : Ext wr, Calls Tryz.prog 15 #[forV a len cap m, .int .i64 q] X.v fun e w' => e = .returned (.int .i64 y) ∧ Below X.v.heap.size X.v w') := Lib.hid (fun X => by
          rw [← hy]
          exact CO.out q X.v hq (HX.out _ (HBW.out.trans (X.below.mono HBW.out.size))).row)
        clear hz hn1 hbo hcz z0 z1 hy
        by_cases hkd : y = (x : Int)
        · subst hkd
          have HS2 : Hid (selM (coreL L) l x (k + 1) = selM (coreL L) l x k ++ [(q : Int)]) := Lib.hid (by rw [HST.out, Int.toNat_natCast, HYE.out, beq_iff_eq.2 rfl]; rfl)
          go_upto_region 6 with fail
          refine wp_region_ext (by kernel_rfl) (by kernel_rfl) ?_
          repeat (go_big_quiet_step (first | (go_at_call 15; with_reducible exact Ext.call_below (CX.out _))))
          refine wpQuiet_nil ?_
          intro w' hw'
          obtain ⟨⟨w8, hb8⟩, hw''⟩ := hw'
          dsimp only at hw''
          subst hw''
          have cz := CZ.out _ hb8
          have OW := Lib.hid (own_below OW.out hb8)
          have HBW := Lib.hid (HBW.out.trans (hb8.mono HBW.out.size))
          clear E0 E1 EZ CX hb8
          go_wp2_with (at_builtin
                       refine wpList_append_rows rfl (.tmp 27) (.tmp 32) 27 rfl 3 i0 _ 1 8 Tryz.underlying27 hi0 hz0 hz1 hz2 rfl (by decide) wc.heap.size _ n1 (selM (coreL L) l x k) [(q : Int)] rfl (OW.out.alloc _) _ 1 1 rfl (own_one _ _ _ _ rfl rfl) (fun x _ => encZ_one x) (by unfold maxLen; omega) (by omega) (by have := HBW.out.size; simp; omega) (fun h => by cases h) ?_
                       intro v3 w3 hown3 hg3 hat3
                       have HB3 := Lib.hid (below_own HBW.out OW.out hg3)
                       have HO3 := Lib.hid hown3
                       clear hown3 hg3 hat3)
          go_roundw
          case rel => exact ⟨k + 1, by omega, by go_num, HB3, Lib.hid (by
            have h1 := HO3.out
            rw [← HS2.out] at h1
            rwa [show n1 + 1 = (selM (coreL L) l x (k + 1)).length by rw [HS2.out, List.length_append, HN1.out]; rfl] at h1)⟩
          case measure => simp [intOf]; omega
        · have hk1 : (y == (x : Int)) = false := beq_eq_false_iff_ne.2 hkd
          have HS2 : Hid (selM (coreL L) l x (k + 1) = selM (coreL L) l x k) := Lib.hid (by rw [HST.out, Int.toNat_natCast, HYE.out, hk1]; simp)
          clear hkd
          go_upto_region 6 with fail
          refine wp_region_ext (by kernel_rfl) (by kernel_rfl) ?_
          repeat (go_big_quiet_step (first | (go_at_call 15; with_reducible exact Ext.call_below (CX.out _))))
          refine wpQuiet_nil ?_
          intro w' hw'
          obtain ⟨⟨w8, hb8⟩, hw''⟩ := hw'
          dsimp only at hw''
          subst hw''
          have OW := Lib.hid (own_below OW.out hb8)
          have HBW := Lib.hid (HBW.out.trans (hb8.mono HBW.out.size))
          clear E0 E1 EZ CX hb8
          go_wp2
          go_roundw
          case rel => exact ⟨k + 1, by omega, by go_num, HBW, Lib.hid (by rw [HS2.out, HN1.out]; exact OW.out)⟩
          case measure => simp [intOf]; omega
      · have hkk : k = tl := by omega
        subst hkk
        have HIN : Hid (∀ z ∈ selM (coreL L) l x k, In64 z) := Lib.hid (fun z hz => by
          unfold selM at hz
          obtain ⟨q, rfl, hq⟩ := NUM.out z (List.mem_of_mem_take ((List.mem_filter.1 hz).1))
          exact ⟨by omega, by omega⟩)
        have HSE : Hid (memO (coreL L) x = selM (coreL L) l x k) := Lib.hid (by rw [HM.out, IR.out.hlen])
        obtain ⟨a9, cap9, rfl, hr9, -⟩ := IntRow.of_own_new (M := selM (coreL L) l x k) (n := (selM (coreL L) l x k).length) rfl OW.out HIN.out
        have HR9 := Lib.hid hr9
        clear hr9 OW
        go_wp2
        go_ret
        exact ⟨a9, _, cap9, rfl, by rw [HSE.out]; exact HR9.out, BX.out.below⟩
end Go.Proofs.YtkgbgnmmgmnnlaaGreatDoor
namespace Go.Proofs.YtkgbgnmmgmnnlaaGreatDoor
open Go.RowKit
theorem headDoc_at {F : List Core} {c : Core} (h : F[0]? = some c) : headDoc F = (c.kind == 0) := by
  cases F with
  | nil => simp at h
  | cons y t =>
    obtain rfl : y = c := by simpa using h
    rfl
theorem not_true {R : Bool} (h : R = true → False) : R = false := by
  cases R with
  | false => rfl
  | true => exact absurd rfl (fun e => h e)
set_option maxHeartbeats 16000000 in
set_option maxRecDepth 100000 in
theorem refrightN_any (a : Option Addr) (len cap : Nat) (m : Int) (L : List NodeD) (w : World) (h : NodeRow w a len cap L) :
    Calls Tryz.prog 12 #[forV a len cap m] w fun e w' => e = .returned (.bool (rightF m (coreL L))) ∧ Below w.heap.size w w' := by
  have HCL : Hid ((coreL L).length = len) := Lib.hid (by rw [coreL_len, h.hlen])
  have hlen := h.len64
  have BX := Lib.hid (Box.start (m := m) h)
  have HRF : Hid (rightF m (coreL L) = (decide (1 ≤ m) && decide (m ≤ 400) && decide ((len : Int) ≤ m) && headDoc (coreL L) && (coreL L).zipIdx.all (fun p => nodeOk (coreL L) p.2 p.1) && (List.range (coreL L).length).all (fun i => endsZ (nextUp (coreL L)) ((coreL L).length + 1) (i : Int)))) := Lib.hid (by unfold rightF; rw [HCL.out])
  have HFI := Lib.hid (rightF_iff m (coreL L))
  generalize rightF m (coreL L) = R at HRF HFI ⊢
  have z0 := BX.out.c0
  have z1 := BX.out.c1
  clear h
  by_cases q1 : m < 1
  · have f1 : decide (m < 1) = true := decide_eq_true q1
    have HR : Hid (R = false) := Lib.hid (by rw [HRF.out, decide_eq_false (show ¬ 1 ≤ m by omega)]; rfl)
    clear HRF HFI q1
    go_enter Tryz.func12, Tryz.ntmps12
    go_wp2
    go_ret
    exact ⟨ret_bool HR.out.symm, BX.out.below⟩
  have f1 : decide (m < 1) = false := decide_eq_false q1
  by_cases q2 : 400 < m
  · have f2 : decide (400 < m) = true := decide_eq_true q2
    have HR : Hid (R = false) := Lib.hid (by rw [HRF.out, decide_eq_false (show ¬ m ≤ 400 by omega)]; simp)
    clear HRF HFI q1 q2
    go_enter Tryz.func12, Tryz.ntmps12
    go_wp2
    go_ret
    exact ⟨ret_bool HR.out.symm, BX.out.below⟩
  have f2 : decide (400 < m) = false := decide_eq_false q2
  by_cases q3 : len = 0
  · have f3 : ((len : Int) == 0) = true := beq_iff_eq.2 (by omega)
    have HR : Hid (R = false) := Lib.hid (by
      have hz : coreL L = [] := List.length_eq_zero_iff.1 (by rw [HCL.out]; exact q3)
      rw [HRF.out, show headDoc (coreL L) = false by rw [hz]; rfl]
      simp)
    clear HRF HFI q1 q2 q3
    go_enter Tryz.func12, Tryz.ntmps12
    go_wp2
    go_ret
    exact ⟨ret_bool HR.out.symm, BX.out.below⟩
  have f3 : ((len : Int) == 0) = false := beq_eq_false_iff_ne.2 (by omega)
  by_cases q4 : m < (len : Int)
  · have f4 : decide (m < (len : Int)) = true := decide_eq_true q4
    have HR : Hid (R = false) := Lib.hid (by rw [HRF.out, decide_eq_false (show ¬ (len : Int) ≤ m by omega)]; simp)
    clear HRF HFI q1 q2 q3 q4
    go_enter Tryz.func12, Tryz.ntmps12
    go_wp2
    go_ret
    exact ⟨ret_bool HR.out.symm, BX.out.below⟩
  have f4 : decide (m < (len : Int)) = false := decide_eq_false q4
  obtain ⟨b, off, x0, rfl, hb, hx0, hat0, -⟩ := BX.out.row.get (show 0 < len by omega)
  have c0 := hat0.c0
  simp only [Nat.zero_mul, Nat.add_zero] at c0
  have g0 : decide ((len : Int) ≤ 0) = false := decide_eq_false (by omega)
  have g1 : decide (len ≤ 0) = false := decide_eq_false (by omega)
  have g2 : 0 < len := by omega
  have HD0 := Lib.hid (headDoc_at (coreL_get hx0))
  clear hat0 hx0
  by_cases q5 : x0.core.kind = 0
  rotate_left
  · have f5 : (x0.core.kind != 0) = true := bne_iff_ne.2 q5
    have HR : Hid (R = false) := Lib.hid (by rw [HRF.out, HD0.out, beq_eq_false_iff_ne.2 q5]; simp)
    clear HRF HFI q1 q2 q3 q4 q5
    go_enter Tryz.func12, Tryz.ntmps12
    go_wp2
    go_ret
    exact ⟨ret_bool HR.out.symm, BX.out.below⟩
  have f5 : (x0.core.kind != 0) = false := by rw [q5]; rfl
  have hl400 : len ≤ 400 := by omega
  have HHD : Hid (1 ≤ m ∧ m ≤ 400 ∧ ((coreL L).length : Int) ≤ m ∧ headDoc (coreL L) = true) := Lib.hid ⟨by omega, by omega, by rw [HCL.out]; omega, by rw [HD0.out, q5]; rfl⟩
  clear HRF q1 q2 q3 q4 q5 HD0
  go_enter Tryz.func12, Tryz.ntmps12
  go_wp2
  clear f1 f2 f3 f4 f5 c0 g0 g1
  go_loopw [3] (fun i wr => ∃ k : Nat, k ≤ len ∧ i = .int .i64 k ∧ Hid (∀ j y, j < k → (coreL L)[j]? = some y → nodeOk (coreL L) j y = true) ∧ Hid (Box w wr w.heap.size (some ⟨b, off, none⟩) len cap m L (coreL L))) (fun i _ => len - (intOf i).toNat)
  case atStart => exact ⟨0, Nat.zero_le _, rfl, Lib.hid (fun j y hj _ => absurd hj (Nat.not_lt_zero _)), BX⟩
  case round =>
    clear BX z0 z1
    obtain ⟨k, hk, rfl, HA, BX⟩ := hrel
    have z0 := BX.out.c0
    have z1 := BX.out.c1
    by_cases hlt : k < len
    · obtain ⟨b2, off2, y, hab, -, hy, -, -⟩ := BX.out.row.get hlt
      clear hab
      have HY := Lib.hid hy
      obtain ⟨r, hr⟩ : ∃ r, nodeOk (coreL L) k y.core = r := ⟨_, rfl⟩
      have CN : Hid (∀ W, NodeRow W (some ⟨b, off, none⟩) len cap L → Calls Tryz.prog 33 #[forV (some ⟨b, off, none⟩) len cap m, .int .i64 k] W fun e w' => e = .returned (.bool r) ∧ Below W.heap.size W w') := Lib.hid (fun W hW => by
        rw [← hr]
        exact refnode_any _ len cap m L k y W hW HY.out)
      have HRN := Lib.hid hr
      clear hy hr
      cases r with
      | false =>
        have HR : Hid (R = false) := Lib.hid (not_true (fun e => by
          have h1 := (HFI.out.1 e).2.1 k _ (coreL_get HY.out)
          rw [HRN.out] at h1
          cases h1))
        go_wp2_with (go_at_call 33; (refine (CN.out _ BX.out.row).mono ?_); rintro e w1 ⟨rfl, hb1⟩; have BX := Lib.hid (BX.out.keep hb1); have z0 := BX.out.c0; have z1 := BX.out.c1; clear hb1)
        go_ret
        exact ⟨ret_bool HR.out.symm, BX.out.below⟩
      | true =>
        have HAX : Hid (∀ j z, j < k + 1 → (coreL L)[j]? = some z → nodeOk (coreL L) j z = true) := Lib.hid (fun j z hj hz => by
          by_cases e : j = k
          · subst e
            rw [coreL_get HY.out] at hz
            rw [← Option.some.inj hz]
            exact HRN.out
          · exact HA.out j z (by omega) hz)
        go_wp2_with (go_at_call 33; (refine (CN.out _ BX.out.row).mono ?_); rintro e w1 ⟨rfl, hb1⟩; have BX := Lib.hid (BX.out.keep hb1); have z0 := BX.out.c0; have z1 := BX.out.c1; clear hb1)
        go_roundw
        case rel => exact ⟨k + 1, by omega, by go_num, HAX, BX⟩
        case measure => simp [intOf]; omega
    · have HALL : Hid (∀ j y, (coreL L)[j]? = some y → nodeOk (coreL L) j y = true) := Lib.hid (fun j y hy => HA.out j y (by
        have := (List.getElem?_eq_some_iff.1 hy).1
        rw [HCL.out] at this
        omega) hy)
      have UP : Hid (upIn (coreL L) len) := Lib.hid (by
        have h1 := nodes_eq.1 HALL.out
        have h2 := fit_up h1.1 h1.2
        rwa [HCL.out] at h2)
      clear HA
      go_wp2
      clear hlt
      go_loopw [4] (fun i wr => ∃ k : Nat, k ≤ len ∧ i = .int .i64 k ∧ Hid (∀ j : Nat, j < k → endsZ (nextUp (coreL L)) (len + 1) (j : Int) = true) ∧ Hid (Box w wr w.heap.size (some ⟨b, off, none⟩) len cap m L (coreL L))) (fun i _ => len - (intOf i).toNat)
      case atStart => exact ⟨0, Nat.zero_le _, rfl, Lib.hid (fun j hj => absurd hj (Nat.not_lt_zero _)), BX⟩
      case round =>
        clear BX z0 z1
        obtain ⟨k, hk, rfl, HA, BX⟩ := hrel
        have z0 := BX.out.c0
        by_cases hlt : k < len
        · go_wp2
          go_loopw [5, 6] (fun pz st wr => ∃ (z : Int) (s : Nat), pz = .int .i64 z ∧ st = .int .i64 s ∧ s ≤ len + 1 ∧ Hid (z = -1 ∨ (0 ≤ z ∧ z < (len : Int))) ∧ Hid (endsZ (nextUp (coreL L)) (len + 1 - s) z = endsZ (nextUp (coreL L)) (len + 1) (k : Int)) ∧ Hid (Box w wr w.heap.size (some ⟨b, off, none⟩) len cap m L (coreL L))) (fun _ st _ => len + 2 - (intOf st).toNat)
          case atStart => exact ⟨(k : Int), 0, rfl, rfl, by omega, Lib.hid (.inr ⟨by omega, by omega⟩), Lib.hid rfl, BX⟩
          case round =>
            clear BX z0
            obtain ⟨z, s, rfl, rfl, hs, HZ, HE, BX⟩ := hrel
            have z0 := BX.out.c0
            by_cases hz : z = -1
            · have e1 : (z != -1) = false := by rw [hz]; rfl
              have HAX : Hid (∀ j : Nat, j < k + 1 → endsZ (nextUp (coreL L)) (len + 1) (j : Int) = true) := Lib.hid (fun j hj => by
                by_cases e : j = k
                · rw [e, ← HE.out, hz]
                  exact endsZ_none _ _
                · exact HA.out j (by omega))
              clear hz
              go_wp2
              go_roundw
              case rel => exact ⟨k + 1, by omega, by go_num, HAX, BX⟩
              case measure => simp [intOf]; omega
            · have e1 : (z != -1) = true := bne_iff_ne.2 hz
              by_cases hsl : len < s
              · have e2 : decide ((len : Int) < (s : Int)) = true := decide_eq_true (by omega)
                have HR : Hid (R = false) := Lib.hid (not_true (fun e => by
                  have h1 := (HFI.out.1 e).2.2 k (by rw [HCL.out]; exact hlt)
                  rw [HCL.out, ← HE.out, show len + 1 - s = 0 by omega] at h1
                  exact hz (beq_iff_eq.1 h1)))
                clear hz
                go_wp2
                go_ret
                exact ⟨ret_bool HR.out.symm, BX.out.below⟩
              · have e2 : decide ((len : Int) < (s : Int)) = false := decide_eq_false (by omega)
                obtain ⟨hz0, hz1⟩ := HZ.out.resolve_left hz
                obtain ⟨d, rfl⟩ : ∃ d : Nat, z = d := ⟨z.toNat, by omega⟩
                obtain ⟨b2, off2, y, hab, hb2, hy, hat, -⟩ := BX.out.row.get (show d < len by omega)
                injection hab with hab
                injection hab with e3 e4
                subst e3 e4
                have c5 := hat.c5
                have c7 := hat.c7
                have HNX : Hid (nextUp (coreL L) (d : Int) = upC y.core) := Lib.hid (nextUp_at (coreL_get hy))
                have HUX : Hid (upC y.core = -1 ∨ (0 ≤ upC y.core ∧ upC y.core < (len : Int))) := Lib.hid (by rw [← HNX.out]; exact UP.out d hz0 hz1)
                have HEX : Hid (endsZ (nextUp (coreL L)) (len + 1 - (s + 1)) (upC y.core) = endsZ (nextUp (coreL L)) (len + 1) (k : Int)) := Lib.hid (by
                  rw [← HE.out, ← HNX.out, show len + 1 - s = (len + 1 - (s + 1)) + 1 by omega, endsZ_step hz])
                have f3 : decide ((d : Int) < 0) = false := decide_eq_false (by omega)
                have f4 : decide ((len : Int) ≤ (d : Int)) = false := decide_eq_false (by omega)
                have f5 : decide (len ≤ d) = false := decide_eq_false (by omega)
                clear hat hy hz
                by_cases hp : y.core.parent = -1
                · have e3 : (y.core.parent != -1) = false := by rw [hp]; rfl
                  have hu : upC y.core = y.core.host := by unfold upC; rw [if_pos hp]
                  rw [hu] at HUX HEX
                  clear hu hp
                  go_wp2
                  go_roundw
                  case rel => exact ⟨_, s + 1, rfl, by go_num, by omega, HUX, HEX, BX⟩
                  case measure => simp [intOf]; omega
                · have e3 : (y.core.parent != -1) = true := bne_iff_ne.2 hp
                  have hu : upC y.core = y.core.parent := by unfold upC; rw [if_neg hp]
                  rw [hu] at HUX HEX
                  clear hu hp
                  go_wp2
                  go_roundw
                  case rel => exact ⟨_, s + 1, rfl, by go_num, by omega, HUX, HEX, BX⟩
                  case measure => simp [intOf]; omega
        · have HR : Hid (R = true) := Lib.hid (HFI.out.2 ⟨HHD.out, HALL.out, fun j hj => by
            rw [HCL.out] at hj ⊢
            exact HA.out j (by omega)⟩)
          go_wp2
          go_ret
          exact ⟨ret_bool HR.out.symm, BX.out.below⟩
end Go.Proofs.YtkgbgnmmgmnnlaaGreatDoor
