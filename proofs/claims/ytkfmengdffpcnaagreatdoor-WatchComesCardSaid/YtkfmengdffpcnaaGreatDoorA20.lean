/- Texts joined in build order: DeskRightFn DeskPlace DeskMay. -/
import Derived.Test.YtkfmengdffpcnaaGreatDoorA19
import Derived.Test.YtkfmengdffpcnaaGreatDoorA04
namespace Go.Proofs.YtkfmengdffpcnaaGreatDoor
open Go.RowKit
theorem defsOk_stop {L : List DefD} {k : Nat} {x : DefD} (hx : L[k]? = some x) (h : okD L k x = false) : defsOk L 0 L = false := by
  cases hr : defsOk L 0 L with
  | false => rfl
  | true =>
    have := defsOk_iff.1 hr k x hx
    rw [h] at this
    cases this
theorem waitsOk_stop {L : List DefD} {M : List WaitD} {nx : Int} {k : Nat} {x : WaitD} (hx : M[k]? = some x) (h : okT L (lastT M k) nx x = false) : waitsOk L nx (-1) M = false := by
  cases hr : waitsOk L nx (-1) M with
  | false => rfl
  | true =>
    have := waitsOk_all.1 hr k x hx
    rw [h] at this
    cases this
set_option maxHeartbeats 8000000 in
set_option maxRecDepth 100000 in
theorem rightdefs_any (a : Option Addr) (len cap : Nat) (L : List DefD) (w : World) (h0 : DefRow w a len cap L) :
    Calls Tryz.prog 45 #[.slice a len cap] w fun e w' => e = .returned (.bool (defsOk L 0 L)) ∧ Below w.heap.size w w' := by
  have hl := h0.len64
  have hcap := h0.row.hcap
  have hmax := h0.row.hmax
  have hcap64 : cap ≤ 9223372036854775807 := by unfold maxLen at hmax; omega
  have HLN := Lib.hid h0.hlen
  have HH := Lib.hid h0
  clear h0 hmax
  go_enter Tryz.func45, Tryz.ntmps45
  go_wp2
  go_loopw [8] (fun i wr => ∃ k : Nat, k ≤ len ∧ i = .int .i64 k ∧ Hid (∀ (j : Nat) x, j < k → L[j]? = some x → okD L j x = true) ∧ Hid (Below w.heap.size w wr)) (fun i _ => len - (intOf i).toNat)
  case atStart => exact ⟨0, Nat.zero_le _, rfl, Lib.hid (fun j x hj => absurd hj (by omega)), Lib.hid (Below.refl _ _)⟩
  case round =>
    obtain ⟨k, hk, rfl, HA, HB⟩ := hrel
    by_cases hlt : k < len
    · obtain ⟨b, off, x, rfl, hb, hx, c0, c1, c2, hok⟩ := (HH.out.below HB.out).get hlt
      have HX := Lib.hid hx
      clear hx
      obtain ⟨n, o, c⟩ := x
      dsimp only at c0 c1 c2 hok
      have HK := Lib.hid hok
      clear hok
      go_upto_region 4 with fail
      obtain ⟨W, hW, XX⟩ : ∃ W, wr.alloc (.cells #[.string n, .string o, .int .i64 c] 64) = W ∧ Hid (XBox W wr.heap.size n o c) := ⟨_, rfl, Lib.hid (XBox.new _ _ _ _)⟩
      rw [hW]
      have HBW : Hid (Below w.heap.size w W) := Lib.hid (HB.out.trans (by rw [← hW]; exact (below_desk _ _).mono HB.out.size))
      clear hW c0 c1 c2
      have HT : Hid (DefRow W (some ⟨b, off, none⟩) k cap (L.take k)) := Lib.hid ((HH.out.below HBW.out).take hk)
      have eg : ∀ args w, (callFunc 74 args).run Tryz.prog w = .ok (.enter 74 args) w := enters_of Tryz.func74 (by kernel_rfl) rfl
      obtain ⟨q0, hq0⟩ : ∃ q, decide (0 ≤ firstZ (isLike n c) (L.take k)) = q := ⟨_, rfl⟩
      obtain ⟨q1, hq1⟩ : ∃ q, okS n o c = q := ⟨_, rfl⟩
      have CF : Hid (Calls Tryz.prog 73 #[.slice (some ⟨b, off, none⟩) k cap, .func (.func 74) #[] #[.pointer (some ⟨wr.heap.size, 0, none⟩)]] W fun e w' => e = .returned (.bool q0) ∧ Below W.heap.size W w') := Lib.hid (by
        have h := containsD_any 74 #[.pointer (some ⟨wr.heap.size, 0, none⟩)] (isLike n c) eg (some ⟨b, off, none⟩) k cap (L.take k) W HT.out (pred_like n o c _ W XX.out)
        rwa [hq0] at h)
      have MS : Hid (∀ V, Calls Tryz.prog 75 #[.agg #[.string n, .string o, .int .i64 c]] V fun e w' => e = .returned (.bool q1) ∧ Below V.heap.size V w') := Lib.hid (fun V => by
        have h := maystand_any n o c V HK.out.1
        rwa [hq1] at h)
      have HO : Hid (okD L k ⟨n, o, c⟩ = (q1 && !q0)) := Lib.hid (by rw [okD_parts HX.out, hq0, hq1])
      clear hq0 hq1 eg
      have x0 := XX.out.c0
      have x1 := XX.out.c1
      have x2 := XX.out.c2
      cases q0 with
      | true =>
        have HR : Hid (defsOk L 0 L = false) := Lib.hid (defsOk_stop HX.out (by rw [HO.out]; cases q1 <;> rfl))
        go_wp2_with (go_at_call 73; refine CF.out.mono ?_; rintro e w5 ⟨rfl, hb5⟩)
        go_ret
        exact ⟨ret_bool HR.out.symm, HBW.out.trans (hb5.mono HBW.out.size)⟩
      | false =>
        cases q1 with
        | false =>
          have HR : Hid (defsOk L 0 L = false) := Lib.hid (defsOk_stop HX.out (by rw [HO.out]; rfl))
          go_wp2_with (first
            | (go_at_call 73; refine CF.out.mono ?_; rintro e w5 ⟨rfl, hb5⟩; have HB5 := Lib.hid (HBW.out.trans (hb5.mono HBW.out.size)); clear x0 x1 x2; have x0 := (XX.out.keep hb5).c0; have x1 := (XX.out.keep hb5).c1; have x2 := (XX.out.keep hb5).c2; clear hb5)
            | (go_at_call 75; refine (MS.out _).mono ?_; rintro e w6 ⟨rfl, hb6⟩; have HB6 := Lib.hid (HB5.out.trans (hb6.mono HB5.out.size)); clear hb6))
          go_ret
          exact ⟨ret_bool HR.out.symm, HB6.out⟩
        | true =>
          have HG : Hid (∀ (j : Nat) x, j < k + 1 → L[j]? = some x → okD L j x = true) := Lib.hid (fun j x hj hx => by
            by_cases e : j = k
            · subst e
              rw [HX.out] at hx
              obtain rfl := Option.some.inj hx
              rw [HO.out]; rfl
            · exact HA.out j x (by omega) hx)
          go_wp2_with (first
            | (go_at_call 73; refine CF.out.mono ?_; rintro e w5 ⟨rfl, hb5⟩; have HB5 := Lib.hid (HBW.out.trans (hb5.mono HBW.out.size)); clear x0 x1 x2; have x0 := (XX.out.keep hb5).c0; have x1 := (XX.out.keep hb5).c1; have x2 := (XX.out.keep hb5).c2; clear hb5)
            | (go_at_call 75; refine (MS.out _).mono ?_; rintro e w6 ⟨rfl, hb6⟩; have HB6 := Lib.hid (HB5.out.trans (hb6.mono HB5.out.size)); clear hb6))
          go_roundw
          case rel => exact ⟨k + 1, by omega, by go_num, HG, HB6⟩
          case measure => simp [intOf]; omega
    · have HR : Hid (defsOk L 0 L = true) := Lib.hid (defsOk_iff.2 fun j x hx => HA.out j x (by obtain ⟨h1, _⟩ := List.getElem?_eq_some_iff.1 hx; rw [HLN.out] at h1; omega) hx)
      go_wp2
      go_ret
      exact ⟨ret_bool HR.out.symm, HB.out⟩
set_option maxHeartbeats 8000000 in
set_option maxRecDepth 100000 in
theorem rightwaits_any (da : Option Addr) (dl dc : Nat) (wa : Option Addr) (wl wc : Nat) (nx : Int) (bz : Bool) (L : List DefD) (M : List WaitD) (w : World) (hd : DefRow w da dl dc L) (ht : WaitRow w wa wl wc M) (hnx : nx ≤ 100000) :
    Calls Tryz.prog 46 #[deskV da dl dc wa wl wc nx bz] w fun e w' => e = .returned (.bool (waitsOk L nx (-1) M)) ∧ Below w.heap.size w w' := by
  have hl := hd.len64
  have hl2 := ht.len64
  have HTN := Lib.hid ht.hlen
  have DB := Lib.hid (DBox.start (nx := nx) (bz := bz) hd ht)
  clear hd ht
  have z0 := DB.out.c0
  have z1 := DB.out.c1
  have z2 := DB.out.c2
  go_enter Tryz.func46, Tryz.ntmps46
  go_upto_region 2 with fail
  obtain ⟨wb, hwb⟩ : ∃ wb, w.alloc (deskB da dl dc wa wl wc nx bz) = wb := ⟨_, rfl⟩
  rw [hwb] at DB z0 z1 z2 ⊢
  clear hwb
  go_wp2
  go_loopw [3, 10] (fun t i wr => ∃ k : Nat, k ≤ wl ∧ i = .int .i64 k ∧ (∃ q, t = .int .i64 q ∧ Hid (q = lastT M k + 1)) ∧ Hid (∀ (j : Nat) x, j < k → M[j]? = some x → okT L (lastT M j) nx x = true) ∧ Hid (Below wb.heap.size wb wr)) (fun _ i _ => wl - (intOf i).toNat)
  case atStart => exact ⟨0, Nat.zero_le _, rfl, ⟨0, rfl, Lib.hid rfl⟩, Lib.hid (fun j x hj => absurd hj (by omega)), Lib.hid (Below.refl _ _)⟩
  case round =>
    obtain ⟨k, hk, rfl, ⟨q, rfl, HQ⟩, HA, HB⟩ := hrel
    have DR := Lib.hid (DB.out.keep HB.out)
    clear z0 z1 z2
    have z0 := DR.out.c0
    have z1 := DR.out.c1
    have z2 := DR.out.c2
    by_cases hlt : k < wl
    · obtain ⟨b, off, x, rfl, hb, hx, c0, c1, hok⟩ := DR.out.t.get hlt
      have HX := Lib.hid hx
      clear hx
      obtain ⟨n, c⟩ := x
      dsimp only at c0 c1 hok
      have HK := Lib.hid hok
      clear hok
      go_upto_region 5 with fail
      obtain ⟨W, hW, DX, XX⟩ : ∃ W, wr.alloc (.cells #[.string n, .int .i64 c] 103) = W ∧ Hid (DBox w W w.heap.size da dl dc (some ⟨b, off, none⟩) wl wc nx bz L M) ∧ Hid (TBox9 W wr.heap.size n c) := ⟨_, rfl, Lib.hid (DR.out.keep (below_desk _ _)), Lib.hid (TBox9.new _ _ _)⟩
      rw [hW]
      have HBW : Hid (Below wb.heap.size wb W) := Lib.hid (HB.out.trans (by rw [← hW]; exact (below_desk _ _).mono HB.out.size))
      clear hW z0 z1 z2 c0 c1
      have eg : ∀ args w, (callFunc 76 args).run Tryz.prog w = .ok (.enter 76 args) w := enters_of Tryz.func76 (by kernel_rfl) rfl
      obtain ⟨q0, hq0⟩ : ∃ q, decide (0 ≤ firstZ (isName n.toList) L) = q := ⟨_, rfl⟩
      obtain ⟨q1, hq1⟩ : ∃ q, customL n.toList = q := ⟨_, rfl⟩
      have CF : Hid (Calls Tryz.prog 73 #[.slice da dl dc, .func (.func 76) #[] #[.pointer (some ⟨wr.heap.size, 0, none⟩)]] W fun e w' => e = .returned (.bool q0) ∧ Below W.heap.size W w') := Lib.hid (by
        have h := containsD_any 76 #[.pointer (some ⟨wr.heap.size, 0, none⟩)] (isName n.toList) eg da dl dc L W DX.out.d (pred_waits n c _ W XX.out)
        rwa [hq0] at h)
      have CU : Hid (∀ V, Calls Tryz.prog 77 #[.string n] V fun e w' => e = .returned (.bool q1) ∧ Below V.heap.size V w') := Lib.hid (fun V => by
        have h := custom_any n V HK.out.1
        rwa [hq1] at h)
      have HN : Hid (namedZ L n.toList = -1 ↔ q0 = false) := Lib.hid (by
        have h1 := (firstZ_lt (isName n.toList) L).1
        unfold namedZ
        rw [← hq0, decide_eq_false_iff_not]
        omega)
      have HO : Hid (okT L (lastT M k) nx ⟨n, c⟩ = true ↔ q1 = true ∧ q0 = false ∧ q ≤ c ∧ c < nx) := Lib.hid (by
        rw [okT_iff]
        dsimp only
        rw [hq1, HN.out, HQ.out]
        constructor
        · rintro ⟨h1, h2, h3, h4⟩; exact ⟨h1, h2, by omega, h4⟩
        · rintro ⟨h1, h2, h3, h4⟩; exact ⟨h1, h2, by omega, h4⟩)
      have NO : Hid (¬ (q1 = true ∧ q0 = false ∧ q ≤ c ∧ c < nx) → waitsOk L nx (-1) M = false) := Lib.hid (fun h => waitsOk_stop HX.out (by
        cases e : okT L (lastT M k) nx ⟨n, c⟩ with
        | false => rfl
        | true => exact absurd (HO.out.1 e) h))
      have IN : Hid (In64 c) := Lib.hid HK.out.2
      clear hq0 hq1 eg
      have x0 := XX.out.c0
      have x1 := XX.out.c1
      have z2 := DX.out.c2
      have z0 := DX.out.c0
      have z1 := DX.out.c1
      have HV := Lib.hid (Below.refl W.heap.size W)
      have FIN : Hid (∀ V, Below W.heap.size W V → Below w.heap.size w V) := Lib.hid (fun V h => DX.out.below.trans (h.mono DX.out.below.size))
      cases q0 with
      | true =>
        have HR : Hid (waitsOk L nx (-1) M = false) := Lib.hid (NO.out (by rintro ⟨_, h, _⟩; cases h))
        go_wp2_with (go_at_call 73; refine CF.out.mono ?_; rintro e w5 ⟨rfl, hb5⟩)
        go_ret
        exact ⟨ret_bool HR.out.symm, FIN.out _ hb5⟩
      | false =>
      cases q1 with
      | false =>
        have HR : Hid (waitsOk L nx (-1) M = false) := Lib.hid (NO.out (by rintro ⟨h, _⟩; cases h))
        go_wp2_with (first
                        | (go_at_call 73; refine CF.out.mono ?_; rintro e w5 ⟨rfl, hb⟩; (have HV := Lib.hid (HV.out.trans (hb.mono HV.out.size)); clear z0 z1 z2 x0 x1 hb; have z0 := (DX.out.keep HV.out).c0; have z1 := (DX.out.keep HV.out).c1; have z2 := (DX.out.keep HV.out).c2; have x0 := (XX.out.keep HV.out).c0; have x1 := (XX.out.keep HV.out).c1))
                        | (go_at_call 77; refine (CU.out _).mono ?_; rintro e w6 ⟨rfl, hb⟩; (have HV := Lib.hid (HV.out.trans (hb.mono HV.out.size)); clear z0 z1 z2 x0 x1 hb; have z0 := (DX.out.keep HV.out).c0; have z1 := (DX.out.keep HV.out).c1; have z2 := (DX.out.keep HV.out).c2; have x0 := (XX.out.keep HV.out).c0; have x1 := (XX.out.keep HV.out).c1)))
        go_ret
        exact ⟨ret_bool HR.out.symm, FIN.out _ HV.out⟩
      | true =>
      by_cases d0 : c < q
      · have HR : Hid (waitsOk L nx (-1) M = false) := Lib.hid (NO.out (by rintro ⟨_, _, h, _⟩; omega))
        go_wp2_with (first
                        | (go_at_call 73; refine CF.out.mono ?_; rintro e w5 ⟨rfl, hb⟩; (have HV := Lib.hid (HV.out.trans (hb.mono HV.out.size)); clear z0 z1 z2 x0 x1 hb; have z0 := (DX.out.keep HV.out).c0; have z1 := (DX.out.keep HV.out).c1; have z2 := (DX.out.keep HV.out).c2; have x0 := (XX.out.keep HV.out).c0; have x1 := (XX.out.keep HV.out).c1))
                        | (go_at_call 77; refine (CU.out _).mono ?_; rintro e w6 ⟨rfl, hb⟩; (have HV := Lib.hid (HV.out.trans (hb.mono HV.out.size)); clear z0 z1 z2 x0 x1 hb; have z0 := (DX.out.keep HV.out).c0; have z1 := (DX.out.keep HV.out).c1; have z2 := (DX.out.keep HV.out).c2; have x0 := (XX.out.keep HV.out).c0; have x1 := (XX.out.keep HV.out).c1)))
        go_ret
        exact ⟨ret_bool HR.out.symm, FIN.out _ HV.out⟩
      by_cases d1 : nx ≤ c
      · have HR : Hid (waitsOk L nx (-1) M = false) := Lib.hid (NO.out (by rintro ⟨_, _, _, h⟩; omega))
        go_wp2_with (first
                        | (go_at_call 73; refine CF.out.mono ?_; rintro e w5 ⟨rfl, hb⟩; (have HV := Lib.hid (HV.out.trans (hb.mono HV.out.size)); clear z0 z1 z2 x0 x1 hb; have z0 := (DX.out.keep HV.out).c0; have z1 := (DX.out.keep HV.out).c1; have z2 := (DX.out.keep HV.out).c2; have x0 := (XX.out.keep HV.out).c0; have x1 := (XX.out.keep HV.out).c1))
                        | (go_at_call 77; refine (CU.out _).mono ?_; rintro e w6 ⟨rfl, hb⟩; (have HV := Lib.hid (HV.out.trans (hb.mono HV.out.size)); clear z0 z1 z2 x0 x1 hb; have z0 := (DX.out.keep HV.out).c0; have z1 := (DX.out.keep HV.out).c1; have z2 := (DX.out.keep HV.out).c2; have x0 := (XX.out.keep HV.out).c0; have x1 := (XX.out.keep HV.out).c1)))
        go_ret
        exact ⟨ret_bool HR.out.symm, FIN.out _ HV.out⟩
      have hc1 : -9223372036854775808 ≤ c + 1 := by have := IN.out; unfold In64 at this; omega
      have hc2 : c + 1 ≤ 9223372036854775807 := by omega
      have HG : Hid (∀ (j : Nat) x, j < k + 1 → M[j]? = some x → okT L (lastT M j) nx x = true) := Lib.hid (fun j x hj hx => by
        by_cases e : j = k
        · subst e
          rw [HX.out] at hx
          obtain rfl := Option.some.inj hx
          exact HO.out.2 ⟨rfl, rfl, by omega, by omega⟩
        · exact HA.out j x (by omega) hx)
      have HQ2 : Hid (c + 1 = lastT M (k + 1) + 1) := Lib.hid (by
        show c + 1 = ((M[k]?.map (·.ticket)).getD (-1)) + 1
        rw [HX.out]
        rfl)
      go_wp2_with (first
                      | (go_at_call 73; refine CF.out.mono ?_; rintro e w5 ⟨rfl, hb⟩; (have HV := Lib.hid (HV.out.trans (hb.mono HV.out.size)); clear z0 z1 z2 x0 x1 hb; have z0 := (DX.out.keep HV.out).c0; have z1 := (DX.out.keep HV.out).c1; have z2 := (DX.out.keep HV.out).c2; have x0 := (XX.out.keep HV.out).c0; have x1 := (XX.out.keep HV.out).c1))
                      | (go_at_call 77; refine (CU.out _).mono ?_; rintro e w6 ⟨rfl, hb⟩; (have HV := Lib.hid (HV.out.trans (hb.mono HV.out.size)); clear z0 z1 z2 x0 x1 hb; have z0 := (DX.out.keep HV.out).c0; have z1 := (DX.out.keep HV.out).c1; have z2 := (DX.out.keep HV.out).c2; have x0 := (XX.out.keep HV.out).c0; have x1 := (XX.out.keep HV.out).c1)))
      go_roundw
      case rel => exact ⟨k + 1, by omega, by go_num, ⟨c + 1, by go_num, HQ2⟩, HG, Lib.hid (HBW.out.trans (HV.out.mono HBW.out.size))⟩
      case measure => simp [intOf]; omega
    · have HR : Hid (waitsOk L nx (-1) M = true) := Lib.hid (waitsOk_all.2 fun j x hx => HA.out j x (by obtain ⟨h1, _⟩ := List.getElem?_eq_some_iff.1 hx; rw [HTN.out] at h1; omega) hx)
      go_wp2
      go_ret
      exact ⟨ret_bool HR.out.symm, DR.out.below⟩
set_option maxHeartbeats 8000000 in
set_option maxRecDepth 100000 in
theorem deskright_any (da : Option Addr) (dl dc : Nat) (wa : Option Addr) (wl wc : Nat) (nx : Int) (bz : Bool) (L : List DefD) (M : List WaitD) (w : World) (hd : DefRow w da dl dc L) (ht : WaitRow w wa wl wc M) :
    Calls Tryz.prog 21 #[deskV da dl dc wa wl wc nx bz] w fun e w' => e = .returned (.bool (rightK ⟨L, M, nx, bz⟩)) ∧ Below w.heap.size w w' := by
  have DB := Lib.hid (DBox.start (nx := nx) (bz := bz) hd ht)
  clear hd ht
  have z0 := DB.out.c0
  have z1 := DB.out.c1
  have z2 := DB.out.c2
  have z3 := DB.out.c3
  obtain ⟨wb, hwb⟩ : ∃ wb, w.alloc (deskB da dl dc wa wl wc nx bz) = wb := ⟨_, rfl⟩
  obtain ⟨q1, hq1⟩ : ∃ q, defsOk L 0 L = q := ⟨_, rfl⟩
  obtain ⟨q2, hq2⟩ : ∃ q, waitsOk L nx (-1) M = q := ⟨_, rfl⟩
  have HO : Hid (rightK ⟨L, M, nx, bz⟩ = (decide (0 ≤ nx) && decide (nx ≤ 100000) && q1 && q2)) := Lib.hid (by unfold rightK; dsimp only; rw [hq1, hq2])
  have DW := Lib.hid (hwb ▸ DB.out)
  have RD : Hid (∀ V, Below wb.heap.size wb V → Calls Tryz.prog 45 #[.slice da dl dc] V fun e w' => e = .returned (.bool q1) ∧ Below V.heap.size V w') := Lib.hid (fun V hb => by
    have h := rightdefs_any da dl dc L V (DW.out.keep hb).d
    rwa [hq1] at h)
  have RW : Hid (∀ V, Below wb.heap.size wb V → nx ≤ 100000 → Calls Tryz.prog 46 #[deskV da dl dc wa wl wc nx bz] V fun e w' => e = .returned (.bool q2) ∧ Below V.heap.size V w') := Lib.hid (fun V hb hn => by
    have h := rightwaits_any da dl dc wa wl wc nx bz L M V (DW.out.keep hb).d (DW.out.keep hb).t hn
    rwa [hq2] at h)
  have HW := Lib.hid hwb
  clear hq1 hq2 DW hwb
  go_enter Tryz.func21, Tryz.ntmps21
  go_upto_region 1 with fail
  rw [HW.out] at DB z0 z1 z2 z3 ⊢
  clear HW
  have HV := Lib.hid (Below.refl wb.heap.size wb)
  by_cases d0 : 0 ≤ nx
  rotate_left
  · have HR : Hid (rightK ⟨L, M, nx, bz⟩ = false) := Lib.hid (by rw [HO.out, decide_eq_false d0]; rfl)
    go_wp2_with (first
                    | (go_at_call 45; refine (RD.out _ HV.out).mono ?_; rintro e w5 ⟨rfl, hb⟩; (have HV := Lib.hid (HV.out.trans (hb.mono HV.out.size)); clear z0 z1 z2 z3 hb; have z0 := (DB.out.keep HV.out).c0; have z1 := (DB.out.keep HV.out).c1; have z2 := (DB.out.keep HV.out).c2; have z3 := (DB.out.keep HV.out).c3))
                    | (go_at_call 46; refine (RW.out _ HV.out (by assumption)).mono ?_; rintro e w6 ⟨rfl, hb⟩; (have HV := Lib.hid (HV.out.trans (hb.mono HV.out.size)); clear z0 z1 z2 z3 hb; have z0 := (DB.out.keep HV.out).c0; have z1 := (DB.out.keep HV.out).c1; have z2 := (DB.out.keep HV.out).c2; have z3 := (DB.out.keep HV.out).c3)))
    go_ret
    exact ⟨ret_bool HR.out.symm, DB.out.below⟩
  by_cases d1 : nx ≤ 100000
  rotate_left
  · have HR : Hid (rightK ⟨L, M, nx, bz⟩ = false) := Lib.hid (by rw [HO.out, decide_eq_true d0, decide_eq_false d1]; rfl)
    go_wp2_with (first
                    | (go_at_call 45; refine (RD.out _ HV.out).mono ?_; rintro e w5 ⟨rfl, hb⟩; (have HV := Lib.hid (HV.out.trans (hb.mono HV.out.size)); clear z0 z1 z2 z3 hb; have z0 := (DB.out.keep HV.out).c0; have z1 := (DB.out.keep HV.out).c1; have z2 := (DB.out.keep HV.out).c2; have z3 := (DB.out.keep HV.out).c3))
                    | (go_at_call 46; refine (RW.out _ HV.out (by assumption)).mono ?_; rintro e w6 ⟨rfl, hb⟩; (have HV := Lib.hid (HV.out.trans (hb.mono HV.out.size)); clear z0 z1 z2 z3 hb; have z0 := (DB.out.keep HV.out).c0; have z1 := (DB.out.keep HV.out).c1; have z2 := (DB.out.keep HV.out).c2; have z3 := (DB.out.keep HV.out).c3)))
    go_ret
    exact ⟨ret_bool HR.out.symm, DB.out.below⟩
  have HR : Hid (rightK ⟨L, M, nx, bz⟩ = (q1 && q2)) := Lib.hid (by rw [HO.out, decide_eq_true d0, decide_eq_true d1]; simp)
  cases q1 <;> cases q2
  all_goals
    go_wp2_with (first
                    | (go_at_call 45; refine (RD.out _ HV.out).mono ?_; rintro e w5 ⟨rfl, hb⟩; (have HV := Lib.hid (HV.out.trans (hb.mono HV.out.size)); clear z0 z1 z2 z3 hb; have z0 := (DB.out.keep HV.out).c0; have z1 := (DB.out.keep HV.out).c1; have z2 := (DB.out.keep HV.out).c2; have z3 := (DB.out.keep HV.out).c3))
                    | (go_at_call 46; refine (RW.out _ HV.out (by assumption)).mono ?_; rintro e w6 ⟨rfl, hb⟩; (have HV := Lib.hid (HV.out.trans (hb.mono HV.out.size)); clear z0 z1 z2 z3 hb; have z0 := (DB.out.keep HV.out).c0; have z1 := (DB.out.keep HV.out).c1; have z2 := (DB.out.keep HV.out).c2; have z3 := (DB.out.keep HV.out).c3)))
    go_ret
    exact ⟨ret_bool (by rw [HR.out]; rfl), (DB.out.keep HV.out).below⟩
end Go.Proofs.YtkfmengdffpcnaaGreatDoor
namespace Go.Proofs.YtkfmengdffpcnaaGreatDoor
open Go.RowKit
theorem ifRight_yes {D : DeskD} {z : Int} (h : rightK D = true) : ifRight D z = z := by unfold ifRight; rw [if_pos h]
theorem ifRight_no {D : DeskD} {z : Int} (h : rightK D = false) : ifRight D z = -1 := by unfold ifRight; rw [if_neg (by rw [h]; decide)]
set_option maxHeartbeats 8000000 in
set_option maxRecDepth 100000 in
theorem place_any (g : Nat) (lb : Array Value) (p : DefD → Bool) (eg : ∀ args w, (callFunc g args).run Tryz.prog w = .ok (.enter g args) w) (da : Option Addr) (dl dc : Nat) (wa : Option Addr) (wl wc : Nat) (nx : Int) (bz : Bool) (L : List DefD) (M : List WaitD) (w : World) (hd : DefRow w da dl dc L) (ht : WaitRow w wa wl wc M) (hp : PredD g lb p w) :
    Calls Tryz.prog 93 #[deskV da dl dc wa wl wc nx bz, .func (.func g) #[] lb] w fun e w' => e = .returned (.int .i64 (ifRight ⟨L, M, nx, bz⟩ (firstZ p L))) ∧ Below w.heap.size w w' := by
  have hl := hd.len64
  have HLN := Lib.hid hd.hlen
  have DB := Lib.hid (DBox.start (nx := nx) (bz := bz) hd ht)
  have HP := Lib.hid (hp.later (below_desk w (deskB da dl dc wa wl wc nx bz)))
  clear hd ht hp
  have z0 := DB.out.c0
  have z1 := DB.out.c1
  have z2 := DB.out.c2
  have z3 := DB.out.c3
  obtain ⟨q1, hq1⟩ : ∃ q, rightK ⟨L, M, nx, bz⟩ = q := ⟨_, rfl⟩
  have RI : Hid (∀ V, Below (w.alloc (deskB da dl dc wa wl wc nx bz)).heap.size (w.alloc (deskB da dl dc wa wl wc nx bz)) V → Calls Tryz.prog 21 #[deskV da dl dc wa wl wc nx bz] V fun e w' => e = .returned (.bool q1) ∧ Below V.heap.size V w') := Lib.hid (fun V hb => by
    have h := deskright_any da dl dc wa wl wc nx bz L M V (DB.out.keep hb).d (DB.out.keep hb).t
    rwa [hq1] at h)
  cases q1 with
  | false =>
    have HR : Hid (ifRight ⟨L, M, nx, bz⟩ (firstZ p L) = -1) := Lib.hid (ifRight_no hq1)
    clear hq1
    go_enter Tryz.func93, Tryz.ntmps93
    go_wp2_with (go_at_call 21; refine (RI.out _ (Below.refl _ _)).mono ?_; rintro e w5 ⟨rfl, hb⟩)
    go_ret
    exact ⟨ret_int HR.out.symm, DB.out.below.trans (hb.mono DB.out.below.size)⟩
  | true =>
    have HO : Hid (ifRight ⟨L, M, nx, bz⟩ (firstZ p L) = firstZ p L) := Lib.hid (ifRight_yes hq1)
    clear hq1
    go_enter Tryz.func93, Tryz.ntmps93
    go_wp2_with (go_at_call 21; refine (RI.out _ (Below.refl _ _)).mono ?_; rintro e w5 ⟨rfl, hb⟩; have HV := Lib.hid hb; clear z0 z1 z2 z3 hb; have z0 := (DB.out.keep HV.out).c0; have z1 := (DB.out.keep HV.out).c1; have z2 := (DB.out.keep HV.out).c2; have z3 := (DB.out.keep HV.out).c3)
    go_loopw [13] (fun i wr => ∃ k : Nat, k ≤ dl ∧ i = .int .i64 k ∧ Hid (k ≤ firstN p L) ∧ Hid (Below w5.heap.size w5 wr)) (fun i _ => dl - (intOf i).toNat)
    case atStart => exact ⟨0, Nat.zero_le _, rfl, Lib.hid (Nat.zero_le _), Lib.hid (Below.refl _ _)⟩
    case round =>
      obtain ⟨k, hk, rfl, HA, HB⟩ := hrel
      clear z0 z1 z2 z3
      have DR := Lib.hid ((DB.out.keep HV.out).keep HB.out)
      by_cases hlt : k < dl
      · obtain ⟨b, off, x, rfl, hb, hx, c0, c1, c2, -⟩ := DR.out.d.get hlt
        have HX := Lib.hid hx
        clear hx
        obtain ⟨n, o, c⟩ := x
        dsimp only at c0 c1 c2
        go_upto_region 6 with fail
        obtain ⟨W, hW, XX⟩ : ∃ W, wr.alloc (.cells #[.string n, .string o, .int .i64 c] 64) = W ∧ Hid (XBox W wr.heap.size n o c) := ⟨_, rfl, Lib.hid (XBox.new _ _ _ _)⟩
        rw [hW]
        have HBW : Hid (Below w5.heap.size w5 W) := Lib.hid (HB.out.trans (by rw [← hW]; exact (below_desk _ _).mono HB.out.size))
        clear hW c0 c1 c2
        have hcall := HP.out W n o c (HV.out.trans (HBW.out.mono HV.out.size))
        have x0 := XX.out.c0
        have x1 := XX.out.c1
        have x2 := XX.out.c2
        obtain ⟨q, hq⟩ : ∃ q, p ⟨n, o, c⟩ = q := ⟨_, rfl⟩
        rw [hq] at hcall
        cases q with
        | true =>
          have HR : Hid (ifRight ⟨L, M, nx, bz⟩ (firstZ p L) = (k : Int)) := Lib.hid (HO.out.trans (firstZ_here HA.out HX.out hq))
          clear hq
          go_wp2_with (go_at_fn g; refine hcall.mono ?_; rintro e w' ⟨rfl, hb'⟩)
          go_ret
          have h5 := DB.out.below.trans (HV.out.mono DB.out.below.size)
          have h6 := h5.trans (HBW.out.mono h5.size)
          exact ⟨ret_int HR.out.symm, h6.trans (hb'.mono h6.size)⟩
        | false =>
          have HR : Hid (k + 1 ≤ firstN p L) := Lib.hid (first_step HA.out HX.out hq)
          clear hq
          go_wp2_with (go_at_fn g; refine hcall.mono ?_; rintro e w' ⟨rfl, hb'⟩)
          go_roundw
          case rel => exact ⟨k + 1, by omega, by go_num, HR, Lib.hid (HBW.out.trans (hb'.mono HBW.out.size))⟩
          case measure => simp [intOf]; omega
      · have HR : Hid (ifRight ⟨L, M, nx, bz⟩ (firstZ p L) = -1) := Lib.hid (HO.out.trans (firstZ_none HA.out (by rw [HLN.out]; omega)))
        go_wp2
        go_ret
        exact ⟨ret_int HR.out.symm, DR.out.below⟩
theorem cell_new (w : World) (v : Value) (t : TypeId) : (w.alloc (.cells #[v] t)).cell? ⟨w.heap.size, 0, none⟩ = some v := cell_of_row _ w.heap.size 0 _ t (0, 0) (heap_alloc_new w _)
theorem DBox.two {w : World} {da wa : Option Addr} {dl dc wl wc : Nat} {nx : Int} {bz : Bool} {L : List DefD} {M : List WaitD} (hd : DefRow w da dl dc L) (ht : WaitRow w wa wl wc M) (o : Obj) : DBox w ((w.alloc (deskB da dl dc wa wl wc nx bz)).alloc o) w.heap.size da dl dc wa wl wc nx bz L M := (DBox.start hd ht).keep (below_desk _ o)
end Go.Proofs.YtkfmengdffpcnaaGreatDoor
namespace Go.Proofs.YtkfmengdffpcnaaGreatDoor
open Go.RowKit
theorem find_ifRight {D : DeskD} {l s : List UInt8} : ifRight D (findZ2 D.defs l s) = if ifRight D (firstZ (isOwn l) D.defs) = -1 then ifRight D (firstZ (isIs l s) D.defs) else ifRight D (firstZ (isOwn l) D.defs) := by
  have h1 := (firstZ_lt (isOwn l) D.defs).1
  unfold ifRight findZ2
  cases rightK D with
  | false => rfl
  | true =>
    rw [if_pos rfl, if_pos rfl, if_pos rfl]
    by_cases h : firstZ (isOwn l) D.defs = -1
    · rw [if_pos h, if_neg (by omega)]
    · rw [if_neg h, if_pos (by omega)]
set_option maxHeartbeats 1000000 in
set_option maxRecDepth 100000 in
theorem deskfind_any (da : Option Addr) (dl dc : Nat) (wa : Option Addr) (wl wc : Nat) (nx : Int) (bz : Bool) (L : List DefD) (M : List WaitD) (l s : ByteArray) (w : World) (hd : DefRow w da dl dc L) (ht : WaitRow w wa wl wc M) :
    Calls Tryz.prog 63 #[deskV da dl dc wa wl wc nx bz, .string l, .string s] w fun e w' => e = .returned (.int .i64 (ifRight ⟨L, M, nx, bz⟩ (findZ2 L l.toList s.toList))) ∧ Below w.heap.size w w' := by
  have eg1 : ∀ args w, (callFunc 94 args).run Tryz.prog w = .ok (.enter 94 args) w := enters_of Tryz.func94 (by kernel_rfl) rfl
  have eg2 : ∀ args w, (callFunc 95 args).run Tryz.prog w = .ok (.enter 95 args) w := enters_of Tryz.func95 (by kernel_rfl) rfl
  have HO := Lib.hid (find_ifRight (D := ⟨L, M, nx, bz⟩) (l := l.toList) (s := s.toList))
  have DX := Lib.hid ((DBox.two (nx := nx) (bz := bz) hd ht (.cells #[.string l] 9)).keep (below_desk _ (.cells #[.string s] 9)))
  have hs1 : (w.alloc (deskB da dl dc wa wl wc nx bz)).heap.size = w.heap.size + 1 := by simp
  have hs2 : ((w.alloc (deskB da dl dc wa wl wc nx bz)).alloc (.cells #[.string l] 9)).heap.size = w.heap.size + 1 + 1 := by simp
  have HC1 : Hid ((((w.alloc (deskB da dl dc wa wl wc nx bz)).alloc (.cells #[.string l] 9)).alloc (.cells #[.string s] 9)).cell? ⟨w.heap.size + 1, 0, none⟩ = some (.string l)) := Lib.hid (by
    rw [← hs1]
    exact ((below_desk _ (.cells #[.string s] 9)).cell (p := ⟨(w.alloc (deskB da dl dc wa wl wc nx bz)).heap.size, 0, none⟩) (by simp)).trans (cell_new _ _ _))
  have HC2 : Hid ((((w.alloc (deskB da dl dc wa wl wc nx bz)).alloc (.cells #[.string l] 9)).alloc (.cells #[.string s] 9)).cell? ⟨w.heap.size + 1 + 1, 0, none⟩ = some (.string s)) := Lib.hid (by
    rw [← hs2]
    exact cell_new _ _ _)
  have hs3 : (((w.alloc (deskB da dl dc wa wl wc nx bz)).alloc (.cells #[.string l] 9)).alloc (.cells #[.string s] 9)).heap.size = w.heap.size + 1 + 1 + 1 := by simp
  obtain ⟨q1, hq1⟩ : ∃ q, ifRight ⟨L, M, nx, bz⟩ (firstZ (isOwn l.toList) L) = q := ⟨_, rfl⟩
  obtain ⟨q2, hq2⟩ : ∃ q, ifRight ⟨L, M, nx, bz⟩ (firstZ (isIs l.toList s.toList) L) = q := ⟨_, rfl⟩
  obtain ⟨V, hV⟩ : ∃ V, ((w.alloc (deskB da dl dc wa wl wc nx bz)).alloc (.cells #[.string l] 9)).alloc (.cells #[.string s] 9) = V := ⟨_, rfl⟩
  rw [hV] at HC1 HC2 hs3 DX
  have P1 : Hid (∀ U, Below V.heap.size V U → Calls Tryz.prog 93 #[deskV da dl dc wa wl wc nx bz, .func (.func 94) #[] #[.pointer (some ⟨w.heap.size + 1, 0, none⟩)]] U fun e w' => e = .returned (.int .i64 q1) ∧ Below U.heap.size U w') := Lib.hid (fun U hb => by
    have h := place_any 94 #[.pointer (some ⟨w.heap.size + 1, 0, none⟩)] (isOwn l.toList) eg1 da dl dc wa wl wc nx bz L M U (DX.out.keep hb).d (DX.out.keep hb).t ((pred_own l (w.heap.size + 1) V (by omega) HC1.out).later hb)
    rw [hq1] at h
    exact h)
  have P2 : Hid (∀ U, Below V.heap.size V U → Calls Tryz.prog 93 #[deskV da dl dc wa wl wc nx bz, .func (.func 95) #[] #[.pointer (some ⟨w.heap.size + 1 + 1, 0, none⟩), .pointer (some ⟨w.heap.size + 1, 0, none⟩)]] U fun e w' => e = .returned (.int .i64 q2) ∧ Below U.heap.size U w') := Lib.hid (fun U hb => by
    have h := place_any 95 #[.pointer (some ⟨w.heap.size + 1 + 1, 0, none⟩), .pointer (some ⟨w.heap.size + 1, 0, none⟩)] (isIs l.toList s.toList) eg2 da dl dc wa wl wc nx bz L M U (DX.out.keep hb).d (DX.out.keep hb).t ((pred_is l s (w.heap.size + 1 + 1) (w.heap.size + 1) V (by omega) HC2.out (by omega) HC1.out).later hb)
    rw [hq2] at h
    exact h)
  dsimp only at HO
  rw [hq1, hq2] at HO
  have HW := Lib.hid hV
  clear hq1 hq2 eg1 eg2 hd ht HC1 HC2 hV hs1 hs2
  go_enter Tryz.func63, Tryz.ntmps63
  go_upto_region 1 with fail
  rw [HW.out]
  have z0 := DX.out.c0
  have z1 := DX.out.c1
  have z2 := DX.out.c2
  have z3 := DX.out.c3
  clear HW hs3
  cases e1 : q1 == -1 with
  | false =>
    have HR : Hid (ifRight ⟨L, M, nx, bz⟩ (findZ2 L l.toList s.toList) = q1) := Lib.hid (by rw [HO.out, if_neg (beq_eq_false_iff_ne.1 e1)])
    go_wp2_with (go_at_call 93; (with_reducible refine (P1.out _ (Below.refl _ _)).mono ?_); rintro e w5 ⟨rfl, hb⟩)
    go_ret
    exact ⟨ret_int HR.out.symm, DX.out.below.trans (hb.mono DX.out.below.size)⟩
  | true =>
    have HR : Hid (ifRight ⟨L, M, nx, bz⟩ (findZ2 L l.toList s.toList) = q2) := Lib.hid (by rw [HO.out, if_pos (beq_iff_eq.1 e1)])
    go_wp2_with (first
      | (go_at_call 93; (with_reducible refine (P1.out _ (Below.refl _ _)).mono ?_); rintro e w5 ⟨rfl, hb⟩; have HV := Lib.hid hb; clear z0 z1 z2 z3 hb; have z0 := (DX.out.keep HV.out).c0; have z1 := (DX.out.keep HV.out).c1; have z2 := (DX.out.keep HV.out).c2; have z3 := (DX.out.keep HV.out).c3)
      | (go_at_call 93; (with_reducible refine (P2.out _ HV.out).mono ?_); rintro e w6 ⟨rfl, hb⟩))
    go_ret
    exact ⟨ret_int HR.out.symm, (DX.out.keep HV.out).below.trans (hb.mono (DX.out.keep HV.out).below.size)⟩
end Go.Proofs.YtkfmengdffpcnaaGreatDoor
