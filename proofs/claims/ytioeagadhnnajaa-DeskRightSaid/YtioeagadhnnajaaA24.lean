/- Texts joined in build order: DeskRightFn. -/
import Derived.Test.YtioeagadhnnajaaA23
/- Package desk's rightDefs, rightWaits, Right. -/
namespace Go.Proofs.Ytioeagadhnnajaa
open Go.RowKit
theorem defsOk_stop {L : List DefD} {k : Nat} {x : DefD} (hx : L[k]? = some x) (h : okD L k x = false) : defsOk L 0 L = false := by
  cases hr : defsOk L 0 L with
  | false => rfl
  | true =>
    have := defsOk_iff.1 hr k x hx
    rw [h] at this
    cases this
theorem waitsOk_stop {L : List DefD} {M : List WaitD} {nx : Int} {k : Nat} {x : WaitD} (hx : M[k]? = some x) (h : okT L (lastT M k) nx x = false) : waitsOk L nx (-1) M = false := by
  cases hr : waitsOk L nx (-1) M with
  | false => rfl
  | true =>
    have := waitsOk_all.1 hr k x hx
    rw [h] at this
    cases this
set_option maxHeartbeats 8000000 in
set_option maxRecDepth 100000 in
theorem rightdefs_any (a : Option Addr) (len cap : Nat) (L : List DefD) (w : World) (h0 : DefRow w a len cap L) :
    Calls Try.prog 28 #[.slice a len cap] w fun e w' => e = .returned (.bool (defsOk L 0 L)) ∧ Below w.heap.size w w' := by
  have hl := h0.len64
  have hcap := h0.row.hcap
  have hmax := h0.row.hmax
  have hcap64 : cap ≤ 9223372036854775807 := by unfold maxLen at hmax; omega
  have HLN := Lib.hid h0.hlen
  have HH := Lib.hid h0
  clear h0 hmax
  go_enter Try.func28, Try.ntmps28
  go_wp2
  go_loopw [8] (fun i wr => ∃ k : Nat, k ≤ len ∧ i = .int .i64 k ∧ Hid (∀ (j : Nat) x, j < k → L[j]? = some x → okD L j x = true) ∧ Hid (Below w.heap.size w wr)) (fun i _ => len - (intOf i).toNat)
  case atStart => exact ⟨0, Nat.zero_le _, rfl, Lib.hid (fun j x hj => absurd hj (by omega)), Lib.hid (Below.refl _ _)⟩
  case round =>
    obtain ⟨k, hk, rfl, HA, HB⟩ := hrel
    by_cases hlt : k < len
    · obtain ⟨b, off, x, rfl, hb, hx, c0, c1, c2, hok⟩ := (HH.out.below HB.out).get hlt
      have HX := Lib.hid hx
      clear hx
      obtain ⟨n, o, c⟩ := x
      dsimp only at c0 c1 c2 hok
      have HK := Lib.hid hok
      clear hok
      go_upto_region 4 with fail
      obtain ⟨W, hW, XX⟩ : ∃ W, wr.alloc (.cells #[.string n, .string o, .int .i64 c] 46) = W ∧ Hid (XBox W wr.heap.size n o c) := ⟨_, rfl, Lib.hid (XBox.new _ _ _ _)⟩
      rw [hW]
      have HBW : Hid (Below w.heap.size w W) := Lib.hid (HB.out.trans (by rw [← hW]; exact (below_desk _ _).mono HB.out.size))
      clear hW c0 c1 c2
      have HT : Hid (DefRow W (some ⟨b, off, none⟩) k cap (L.take k)) := Lib.hid ((HH.out.below HBW.out).take hk)
      have eg : ∀ args w, (callFunc 43 args).run Try.prog w = .ok (.enter 43 args) w := enters_of Try.func43 (by kernel_rfl) rfl
      obtain ⟨q0, hq0⟩ : ∃ q, decide (0 ≤ firstZ (isLike n c) (L.take k)) = q := ⟨_, rfl⟩
      obtain ⟨q1, hq1⟩ : ∃ q, okS n o c = q := ⟨_, rfl⟩
      have CF : Hid (Calls Try.prog 42 #[.slice (some ⟨b, off, none⟩) k cap, .func (.func 43) #[] #[.pointer (some ⟨wr.heap.size, 0, none⟩)]] W fun e w' => e = .returned (.bool q0) ∧ Below W.heap.size W w') := Lib.hid (by
        have h := containsD_any 43 #[.pointer (some ⟨wr.heap.size, 0, none⟩)] (isLike n c) eg (some ⟨b, off, none⟩) k cap (L.take k) W HT.out (pred_like n o c _ W XX.out)
        rwa [hq0] at h)
      have MS : Hid (∀ V, Calls Try.prog 44 #[.agg #[.string n, .string o, .int .i64 c]] V fun e w' => e = .returned (.bool q1) ∧ Below V.heap.size V w') := Lib.hid (fun V => by
        have h := maystand_any n o c V HK.out.1
        rwa [hq1] at h)
      have HO : Hid (okD L k ⟨n, o, c⟩ = (q1 && !q0)) := Lib.hid (by rw [okD_parts HX.out, hq0, hq1])
      clear hq0 hq1 eg
      have x0 := XX.out.c0
      have x1 := XX.out.c1
      have x2 := XX.out.c2
      cases q0 with
      | true =>
        have HR : Hid (defsOk L 0 L = false) := Lib.hid (defsOk_stop HX.out (by rw [HO.out]; cases q1 <;> rfl))
        go_wp2_with (go_at_call 42; refine CF.out.mono ?_; rintro e w5 ⟨rfl, hb5⟩)
        go_ret
        exact ⟨ret_bool HR.out.symm, HBW.out.trans (hb5.mono HBW.out.size)⟩
      | false =>
        cases q1 with
        | false =>
          have HR : Hid (defsOk L 0 L = false) := Lib.hid (defsOk_stop HX.out (by rw [HO.out]; rfl))
          go_wp2_with (first
            | (go_at_call 42; refine CF.out.mono ?_; rintro e w5 ⟨rfl, hb5⟩; have HB5 := Lib.hid (HBW.out.trans (hb5.mono HBW.out.size)); clear x0 x1 x2; have x0 := (XX.out.keep hb5).c0; have x1 := (XX.out.keep hb5).c1; have x2 := (XX.out.keep hb5).c2; clear hb5)
            | (go_at_call 44; refine (MS.out _).mono ?_; rintro e w6 ⟨rfl, hb6⟩; have HB6 := Lib.hid (HB5.out.trans (hb6.mono HB5.out.size)); clear hb6))
          go_ret
          exact ⟨ret_bool HR.out.symm, HB6.out⟩
        | true =>
          have HG : Hid (∀ (j : Nat) x, j < k + 1 → L[j]? = some x → okD L j x = true) := Lib.hid (fun j x hj hx => by
            by_cases e : j = k
            · subst e
              rw [HX.out] at hx
              obtain rfl := Option.some.inj hx
              rw [HO.out]; rfl
            · exact HA.out j x (by omega) hx)
          go_wp2_with (first
            | (go_at_call 42; refine CF.out.mono ?_; rintro e w5 ⟨rfl, hb5⟩; have HB5 := Lib.hid (HBW.out.trans (hb5.mono HBW.out.size)); clear x0 x1 x2; have x0 := (XX.out.keep hb5).c0; have x1 := (XX.out.keep hb5).c1; have x2 := (XX.out.keep hb5).c2; clear hb5)
            | (go_at_call 44; refine (MS.out _).mono ?_; rintro e w6 ⟨rfl, hb6⟩; have HB6 := Lib.hid (HB5.out.trans (hb6.mono HB5.out.size)); clear hb6))
          go_roundw
          case rel => exact ⟨k + 1, by omega, by go_num, HG, HB6⟩
          case measure => simp [intOf]; omega
    · have HR : Hid (defsOk L 0 L = true) := Lib.hid (defsOk_iff.2 fun j x hx => HA.out j x (by obtain ⟨h1, _⟩ := List.getElem?_eq_some_iff.1 hx; rw [HLN.out] at h1; omega) hx)
      go_wp2
      go_ret
      exact ⟨ret_bool HR.out.symm, HB.out⟩
set_option maxHeartbeats 8000000 in
set_option maxRecDepth 100000 in
theorem rightwaits_any (da : Option Addr) (dl dc : Nat) (wa : Option Addr) (wl wc : Nat) (nx : Int) (bz : Bool) (L : List DefD) (M : List WaitD) (w : World) (hd : DefRow w da dl dc L) (ht : WaitRow w wa wl wc M) (hnx : nx ≤ 100000) :
    Calls Try.prog 29 #[deskV da dl dc wa wl wc nx bz] w fun e w' => e = .returned (.bool (waitsOk L nx (-1) M)) ∧ Below w.heap.size w w' := by
  have hl := hd.len64
  have hl2 := ht.len64
  have HTN := Lib.hid ht.hlen
  have DB := Lib.hid (DBox.start (nx := nx) (bz := bz) hd ht)
  clear hd ht
  have z0 := DB.out.c0
  have z1 := DB.out.c1
  have z2 := DB.out.c2
  go_enter Try.func29, Try.ntmps29
  go_upto_region 2 with fail
  obtain ⟨wb, hwb⟩ : ∃ wb, w.alloc (deskB da dl dc wa wl wc nx bz) = wb := ⟨_, rfl⟩
  rw [hwb] at DB z0 z1 z2 ⊢
  clear hwb
  go_wp2
  go_loopw [3, 10] (fun t i wr => ∃ k : Nat, k ≤ wl ∧ i = .int .i64 k ∧ (∃ q, t = .int .i64 q ∧ Hid (q = lastT M k + 1)) ∧ Hid (∀ (j : Nat) x, j < k → M[j]? = some x → okT L (lastT M j) nx x = true) ∧ Hid (Below wb.heap.size wb wr)) (fun _ i _ => wl - (intOf i).toNat)
  case atStart => exact ⟨0, Nat.zero_le _, rfl, ⟨0, rfl, Lib.hid rfl⟩, Lib.hid (fun j x hj => absurd hj (by omega)), Lib.hid (Below.refl _ _)⟩
  case round =>
    obtain ⟨k, hk, rfl, ⟨q, rfl, HQ⟩, HA, HB⟩ := hrel
    have DR := Lib.hid (DB.out.keep HB.out)
    clear z0 z1 z2
    have z0 := DR.out.c0
    have z1 := DR.out.c1
    have z2 := DR.out.c2
    by_cases hlt : k < wl
    · obtain ⟨b, off, x, rfl, hb, hx, c0, c1, hok⟩ := DR.out.t.get hlt
      have HX := Lib.hid hx
      clear hx
      obtain ⟨n, c⟩ := x
      dsimp only at c0 c1 hok
      have HK := Lib.hid hok
      clear hok
      go_upto_region 5 with fail
      obtain ⟨W, hW, DX, XX⟩ : ∃ W, wr.alloc (.cells #[.string n, .int .i64 c] 48) = W ∧ Hid (DBox w W w.heap.size da dl dc (some ⟨b, off, none⟩) wl wc nx bz L M) ∧ Hid (TBox9 W wr.heap.size n c) := ⟨_, rfl, Lib.hid (DR.out.keep (below_desk _ _)), Lib.hid (TBox9.new _ _ _)⟩
      rw [hW]
      have HBW : Hid (Below wb.heap.size wb W) := Lib.hid (HB.out.trans (by rw [← hW]; exact (below_desk _ _).mono HB.out.size))
      clear hW z0 z1 z2 c0 c1
      have eg : ∀ args w, (callFunc 45 args).run Try.prog w = .ok (.enter 45 args) w := enters_of Try.func45 (by kernel_rfl) rfl
      obtain ⟨q0, hq0⟩ : ∃ q, decide (0 ≤ firstZ (isName n.toList) L) = q := ⟨_, rfl⟩
      obtain ⟨q1, hq1⟩ : ∃ q, customL n.toList = q := ⟨_, rfl⟩
      have CF : Hid (Calls Try.prog 42 #[.slice da dl dc, .func (.func 45) #[] #[.pointer (some ⟨wr.heap.size, 0, none⟩)]] W fun e w' => e = .returned (.bool q0) ∧ Below W.heap.size W w') := Lib.hid (by
        have h := containsD_any 45 #[.pointer (some ⟨wr.heap.size, 0, none⟩)] (isName n.toList) eg da dl dc L W DX.out.d (pred_waits n c _ W XX.out)
        rwa [hq0] at h)
      have CU : Hid (∀ V, Calls Try.prog 36 #[.string n] V fun e w' => e = .returned (.bool q1) ∧ Below V.heap.size V w') := Lib.hid (fun V => by
        have h := custom_any n V HK.out.1
        rwa [hq1] at h)
      have HN : Hid (namedZ L n.toList = -1 ↔ q0 = false) := Lib.hid (by
        have h1 := (firstZ_lt (isName n.toList) L).1
        unfold namedZ
        rw [← hq0, decide_eq_false_iff_not]
        omega)
      have HO : Hid (okT L (lastT M k) nx ⟨n, c⟩ = true ↔ q1 = true ∧ q0 = false ∧ q ≤ c ∧ c < nx) := Lib.hid (by
        rw [okT_iff]
        dsimp only
        rw [hq1, HN.out, HQ.out]
        constructor
        · rintro ⟨h1, h2, h3, h4⟩; exact ⟨h1, h2, by omega, h4⟩
        · rintro ⟨h1, h2, h3, h4⟩; exact ⟨h1, h2, by omega, h4⟩)
      have NO : Hid (¬ (q1 = true ∧ q0 = false ∧ q ≤ c ∧ c < nx) → waitsOk L nx (-1) M = false) := Lib.hid (fun h => waitsOk_stop HX.out (by
        cases e : okT L (lastT M k) nx ⟨n, c⟩ with
        | false => rfl
        | true => exact absurd (HO.out.1 e) h))
      have IN : Hid (In64 c) := Lib.hid HK.out.2
      clear hq0 hq1 eg
      have x0 := XX.out.c0
      have x1 := XX.out.c1
      have z2 := DX.out.c2
      have z0 := DX.out.c0
      have z1 := DX.out.c1
      have HV := Lib.hid (Below.refl W.heap.size W)
      have FIN : Hid (∀ V, Below W.heap.size W V → Below w.heap.size w V) := Lib.hid (fun V h => DX.out.below.trans (h.mono DX.out.below.size))
      cases q0 with
      | true =>
        have HR : Hid (waitsOk L nx (-1) M = false) := Lib.hid (NO.out (by rintro ⟨_, h, _⟩; cases h))
        go_wp2_with (go_at_call 42; refine CF.out.mono ?_; rintro e w5 ⟨rfl, hb5⟩)
        go_ret
        exact ⟨ret_bool HR.out.symm, FIN.out _ hb5⟩
      | false =>
      cases q1 with
      | false =>
        have HR : Hid (waitsOk L nx (-1) M = false) := Lib.hid (NO.out (by rintro ⟨h, _⟩; cases h))
        go_wp2_with (first
                        | (go_at_call 42; refine CF.out.mono ?_; rintro e w5 ⟨rfl, hb⟩; (have HV := Lib.hid (HV.out.trans (hb.mono HV.out.size)); clear z0 z1 z2 x0 x1 hb; have z0 := (DX.out.keep HV.out).c0; have z1 := (DX.out.keep HV.out).c1; have z2 := (DX.out.keep HV.out).c2; have x0 := (XX.out.keep HV.out).c0; have x1 := (XX.out.keep HV.out).c1))
                        | (go_at_call 36; refine (CU.out _).mono ?_; rintro e w6 ⟨rfl, hb⟩; (have HV := Lib.hid (HV.out.trans (hb.mono HV.out.size)); clear z0 z1 z2 x0 x1 hb; have z0 := (DX.out.keep HV.out).c0; have z1 := (DX.out.keep HV.out).c1; have z2 := (DX.out.keep HV.out).c2; have x0 := (XX.out.keep HV.out).c0; have x1 := (XX.out.keep HV.out).c1)))
        go_ret
        exact ⟨ret_bool HR.out.symm, FIN.out _ HV.out⟩
      | true =>
      by_cases d0 : c < q
      · have HR : Hid (waitsOk L nx (-1) M = false) := Lib.hid (NO.out (by rintro ⟨_, _, h, _⟩; omega))
        go_wp2_with (first
                        | (go_at_call 42; refine CF.out.mono ?_; rintro e w5 ⟨rfl, hb⟩; (have HV := Lib.hid (HV.out.trans (hb.mono HV.out.size)); clear z0 z1 z2 x0 x1 hb; have z0 := (DX.out.keep HV.out).c0; have z1 := (DX.out.keep HV.out).c1; have z2 := (DX.out.keep HV.out).c2; have x0 := (XX.out.keep HV.out).c0; have x1 := (XX.out.keep HV.out).c1))
                        | (go_at_call 36; refine (CU.out _).mono ?_; rintro e w6 ⟨rfl, hb⟩; (have HV := Lib.hid (HV.out.trans (hb.mono HV.out.size)); clear z0 z1 z2 x0 x1 hb; have z0 := (DX.out.keep HV.out).c0; have z1 := (DX.out.keep HV.out).c1; have z2 := (DX.out.keep HV.out).c2; have x0 := (XX.out.keep HV.out).c0; have x1 := (XX.out.keep HV.out).c1)))
        go_ret
        exact ⟨ret_bool HR.out.symm, FIN.out _ HV.out⟩
      by_cases d1 : nx ≤ c
      · have HR : Hid (waitsOk L nx (-1) M = false) := Lib.hid (NO.out (by rintro ⟨_, _, _, h⟩; omega))
        go_wp2_with (first
                        | (go_at_call 42; refine CF.out.mono ?_; rintro e w5 ⟨rfl, hb⟩; (have HV := Lib.hid (HV.out.trans (hb.mono HV.out.size)); clear z0 z1 z2 x0 x1 hb; have z0 := (DX.out.keep HV.out).c0; have z1 := (DX.out.keep HV.out).c1; have z2 := (DX.out.keep HV.out).c2; have x0 := (XX.out.keep HV.out).c0; have x1 := (XX.out.keep HV.out).c1))
                        | (go_at_call 36; refine (CU.out _).mono ?_; rintro e w6 ⟨rfl, hb⟩; (have HV := Lib.hid (HV.out.trans (hb.mono HV.out.size)); clear z0 z1 z2 x0 x1 hb; have z0 := (DX.out.keep HV.out).c0; have z1 := (DX.out.keep HV.out).c1; have z2 := (DX.out.keep HV.out).c2; have x0 := (XX.out.keep HV.out).c0; have x1 := (XX.out.keep HV.out).c1)))
        go_ret
        exact ⟨ret_bool HR.out.symm, FIN.out _ HV.out⟩
      have hc1 : -9223372036854775808 ≤ c + 1 := by have := IN.out; unfold In64 at this; omega
      have hc2 : c + 1 ≤ 9223372036854775807 := by omega
      have HG : Hid (∀ (j : Nat) x, j < k + 1 → M[j]? = some x → okT L (lastT M j) nx x = true) := Lib.hid (fun j x hj hx => by
        by_cases e : j = k
        · subst e
          rw [HX.out] at hx
          obtain rfl := Option.some.inj hx
          exact HO.out.2 ⟨rfl, rfl, by omega, by omega⟩
        · exact HA.out j x (by omega) hx)
      have HQ2 : Hid (c + 1 = lastT M (k + 1) + 1) := Lib.hid (by
        show c + 1 = ((M[k]?.map (·.ticket)).getD (-1)) + 1
        rw [HX.out]
        rfl)
      go_wp2_with (first
                      | (go_at_call 42; refine CF.out.mono ?_; rintro e w5 ⟨rfl, hb⟩; (have HV := Lib.hid (HV.out.trans (hb.mono HV.out.size)); clear z0 z1 z2 x0 x1 hb; have z0 := (DX.out.keep HV.out).c0; have z1 := (DX.out.keep HV.out).c1; have z2 := (DX.out.keep HV.out).c2; have x0 := (XX.out.keep HV.out).c0; have x1 := (XX.out.keep HV.out).c1))
                      | (go_at_call 36; refine (CU.out _).mono ?_; rintro e w6 ⟨rfl, hb⟩; (have HV := Lib.hid (HV.out.trans (hb.mono HV.out.size)); clear z0 z1 z2 x0 x1 hb; have z0 := (DX.out.keep HV.out).c0; have z1 := (DX.out.keep HV.out).c1; have z2 := (DX.out.keep HV.out).c2; have x0 := (XX.out.keep HV.out).c0; have x1 := (XX.out.keep HV.out).c1)))
      go_roundw
      case rel => exact ⟨k + 1, by omega, by go_num, ⟨c + 1, by go_num, HQ2⟩, HG, Lib.hid (HBW.out.trans (HV.out.mono HBW.out.size))⟩
      case measure => simp [intOf]; omega
    · have HR : Hid (waitsOk L nx (-1) M = true) := Lib.hid (waitsOk_all.2 fun j x hx => HA.out j x (by obtain ⟨h1, _⟩ := List.getElem?_eq_some_iff.1 hx; rw [HTN.out] at h1; omega) hx)
      go_wp2
      go_ret
      exact ⟨ret_bool HR.out.symm, DR.out.below⟩
set_option maxHeartbeats 8000000 in
set_option maxRecDepth 100000 in
theorem deskright_any (da : Option Addr) (dl dc : Nat) (wa : Option Addr) (wl wc : Nat) (nx : Int) (bz : Bool) (L : List DefD) (M : List WaitD) (w : World) (hd : DefRow w da dl dc L) (ht : WaitRow w wa wl wc M) :
    Calls Try.prog 10 #[deskV da dl dc wa wl wc nx bz] w fun e w' => e = .returned (.bool (rightK ⟨L, M, nx, bz⟩)) ∧ Below w.heap.size w w' := by
  have DB := Lib.hid (DBox.start (nx := nx) (bz := bz) hd ht)
  clear hd ht
  have z0 := DB.out.c0
  have z1 := DB.out.c1
  have z2 := DB.out.c2
  have z3 := DB.out.c3
  obtain ⟨wb, hwb⟩ : ∃ wb, w.alloc (deskB da dl dc wa wl wc nx bz) = wb := ⟨_, rfl⟩
  obtain ⟨q1, hq1⟩ : ∃ q, defsOk L 0 L = q := ⟨_, rfl⟩
  obtain ⟨q2, hq2⟩ : ∃ q, waitsOk L nx (-1) M = q := ⟨_, rfl⟩
  have HO : Hid (rightK ⟨L, M, nx, bz⟩ = (decide (0 ≤ nx) && decide (nx ≤ 100000) && q1 && q2)) := Lib.hid (by unfold rightK; dsimp only; rw [hq1, hq2])
  have DW := Lib.hid (hwb ▸ DB.out)
  have RD : Hid (∀ V, Below wb.heap.size wb V → Calls Try.prog 28 #[.slice da dl dc] V fun e w' => e = .returned (.bool q1) ∧ Below V.heap.size V w') := Lib.hid (fun V hb => by
    have h := rightdefs_any da dl dc L V (DW.out.keep hb).d
    rwa [hq1] at h)
  have RW : Hid (∀ V, Below wb.heap.size wb V → nx ≤ 100000 → Calls Try.prog 29 #[deskV da dl dc wa wl wc nx bz] V fun e w' => e = .returned (.bool q2) ∧ Below V.heap.size V w') := Lib.hid (fun V hb hn => by
    have h := rightwaits_any da dl dc wa wl wc nx bz L M V (DW.out.keep hb).d (DW.out.keep hb).t hn
    rwa [hq2] at h)
  have HW := Lib.hid hwb
  clear hq1 hq2 DW hwb
  go_enter Try.func10, Try.ntmps10
  go_upto_region 1 with fail
  rw [HW.out] at DB z0 z1 z2 z3 ⊢
  clear HW
  have HV := Lib.hid (Below.refl wb.heap.size wb)
  by_cases d0 : 0 ≤ nx
  rotate_left
  · have HR : Hid (rightK ⟨L, M, nx, bz⟩ = false) := Lib.hid (by rw [HO.out, decide_eq_false d0]; rfl)
    go_wp2_with (first
                    | (go_at_call 28; refine (RD.out _ HV.out).mono ?_; rintro e w5 ⟨rfl, hb⟩; (have HV := Lib.hid (HV.out.trans (hb.mono HV.out.size)); clear z0 z1 z2 z3 hb; have z0 := (DB.out.keep HV.out).c0; have z1 := (DB.out.keep HV.out).c1; have z2 := (DB.out.keep HV.out).c2; have z3 := (DB.out.keep HV.out).c3))
                    | (go_at_call 29; refine (RW.out _ HV.out (by assumption)).mono ?_; rintro e w6 ⟨rfl, hb⟩; (have HV := Lib.hid (HV.out.trans (hb.mono HV.out.size)); clear z0 z1 z2 z3 hb; have z0 := (DB.out.keep HV.out).c0; have z1 := (DB.out.keep HV.out).c1; have z2 := (DB.out.keep HV.out).c2; have z3 := (DB.out.keep HV.out).c3)))
    go_ret
    exact ⟨ret_bool HR.out.symm, DB.out.below⟩
  by_cases d1 : nx ≤ 100000
  rotate_left
  · have HR : Hid (rightK ⟨L, M, nx, bz⟩ = false) := Lib.hid (by rw [HO.out, decide_eq_true d0, decide_eq_false d1]; rfl)
    go_wp2_with (first
                    | (go_at_call 28; refine (RD.out _ HV.out).mono ?_; rintro e w5 ⟨rfl, hb⟩; (have HV := Lib.hid (HV.out.trans (hb.mono HV.out.size)); clear z0 z1 z2 z3 hb; have z0 := (DB.out.keep HV.out).c0; have z1 := (DB.out.keep HV.out).c1; have z2 := (DB.out.keep HV.out).c2; have z3 := (DB.out.keep HV.out).c3))
                    | (go_at_call 29; refine (RW.out _ HV.out (by assumption)).mono ?_; rintro e w6 ⟨rfl, hb⟩; (have HV := Lib.hid (HV.out.trans (hb.mono HV.out.size)); clear z0 z1 z2 z3 hb; have z0 := (DB.out.keep HV.out).c0; have z1 := (DB.out.keep HV.out).c1; have z2 := (DB.out.keep HV.out).c2; have z3 := (DB.out.keep HV.out).c3)))
    go_ret
    exact ⟨ret_bool HR.out.symm, DB.out.below⟩
  have HR : Hid (rightK ⟨L, M, nx, bz⟩ = (q1 && q2)) := Lib.hid (by rw [HO.out, decide_eq_true d0, decide_eq_true d1]; simp)
  cases q1 <;> cases q2
  all_goals
    go_wp2_with (first
                    | (go_at_call 28; refine (RD.out _ HV.out).mono ?_; rintro e w5 ⟨rfl, hb⟩; (have HV := Lib.hid (HV.out.trans (hb.mono HV.out.size)); clear z0 z1 z2 z3 hb; have z0 := (DB.out.keep HV.out).c0; have z1 := (DB.out.keep HV.out).c1; have z2 := (DB.out.keep HV.out).c2; have z3 := (DB.out.keep HV.out).c3))
                    | (go_at_call 29; refine (RW.out _ HV.out (by assumption)).mono ?_; rintro e w6 ⟨rfl, hb⟩; (have HV := Lib.hid (HV.out.trans (hb.mono HV.out.size)); clear z0 z1 z2 z3 hb; have z0 := (DB.out.keep HV.out).c0; have z1 := (DB.out.keep HV.out).c1; have z2 := (DB.out.keep HV.out).c2; have z3 := (DB.out.keep HV.out).c3)))
    go_ret
    exact ⟨ret_bool (by rw [HR.out]; rfl), (DB.out.keep HV.out).below⟩
end Go.Proofs.Ytioeagadhnnajaa
