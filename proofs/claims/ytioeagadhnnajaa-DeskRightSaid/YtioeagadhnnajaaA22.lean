/- Texts joined in build order: Ref9Right. -/
import Derived.Test.YtioeagadhnnajaaA16
import Derived.Test.YtioeagadhnnajaaA15
import Derived.Test.YtioeagadhnnajaaA13
import Derived.Deep.CutBlock
/- instarref09's Right. -/
namespace Go.Proofs.Ytioeagadhnnajaa
open Go.RowKit
theorem bne_no {α : Type} [BEq α] {a b : α} (h : (a != b) = false) : (a == b) = true := by
  unfold bne at h
  simpa using h
theorem bne_yes {α : Type} [BEq α] {a b : α} (h : (a != b) = true) : (a == b) = false := by
  unfold bne at h
  simpa using h
theorem defs_stop {D : DeskD} {k : Nat} {x : DefD} (hx : D.defs[k]? = some x) (h : okD D.defs k x = false) : rightK D = false := by
  cases hr : rightK D with
  | false => rfl
  | true =>
    have := (okD_iff).2 ((rightK_iff.1 hr).d k x hx)
    rw [h] at this
    cases this
theorem waits_stop {D : DeskD} {k : Nat} {x : WaitD} (hx : D.waits[k]? = some x) (h : okT D.defs (lastT D.waits k) D.next x = false) : rightK D = false := by
  cases hr : rightK D with
  | false => rfl
  | true =>
    have := (okT_iff).2 ((rightK_iff.1 hr).t k x hx)
    rw [h] at this
    cases this
theorem next_stop {D : DeskD} (h : D.next < 0 ∨ 100000 < D.next) : rightK D = false := by
  cases hr : rightK D with
  | false => rfl
  | true =>
    have h1 := (rightK_iff.1 hr).n0
    have h2 := (rightK_iff.1 hr).n1
    omega
theorem right_full {D : DeskD} (h0 : 0 ≤ D.next) (h1 : D.next ≤ 100000) (hd : ∀ (k : Nat) x, D.defs[k]? = some x → okD D.defs k x = true) (ht : ∀ (k : Nat) x, D.waits[k]? = some x → okT D.defs (lastT D.waits k) D.next x = true) : rightK D = true :=
  rightK_iff.2 ⟨h0, h1, fun k x hx => okD_iff.1 (hd k x hx), fun k x hx => okT_iff.1 (ht k x hx)⟩
set_option maxHeartbeats 16000000 in
set_option maxRecDepth 100000 in
theorem refright9_any (da : Option Addr) (dl dc : Nat) (wa : Option Addr) (wl wc : Nat) (nx : Int) (bz : Bool) (L : List DefD) (M : List WaitD) (w : World) (hd : DefRow w da dl dc L) (ht : WaitRow w wa wl wc M) (sd : smallL9 L) (st : smallT9 M) :
    Calls Try.prog 6 #[deskV da dl dc wa wl wc nx bz] w fun e w' => e = .returned (.bool (rightK ⟨L, M, nx, bz⟩)) ∧ Below w.heap.size w w' := by
  have hl := hd.len64
  have hl2 := ht.len64
  have HLN := Lib.hid hd.hlen
  have HTN := Lib.hid ht.hlen
  have DB := Lib.hid (DBox.start (nx := nx) (bz := bz) hd ht)
  have SD := Lib.hid sd
  have ST := Lib.hid st
  clear hd ht sd st
  have z0 := DB.out.c0
  have z1 := DB.out.c1
  have z2 := DB.out.c2
  have z3 := DB.out.c3
  by_cases n0 : nx < 0
  · have HR : Hid (rightK ⟨L, M, nx, bz⟩ = false) := Lib.hid (next_stop (.inl n0))
    go_enter Try.func6, Try.ntmps6
    go_wp2
    go_ret
    exact ⟨ret_bool HR.out.symm, DB.out.below⟩
  by_cases n1 : 100000 < nx
  · have HR : Hid (rightK ⟨L, M, nx, bz⟩ = false) := Lib.hid (next_stop (.inr n1))
    go_enter Try.func6, Try.ntmps6
    go_wp2
    go_ret
    exact ⟨ret_bool HR.out.symm, DB.out.below⟩
  go_enter Try.func6, Try.ntmps6
  go_upto_region 1 with fail
  obtain ⟨wb, hwb⟩ : ∃ wb, w.alloc (deskB da dl dc wa wl wc nx bz) = wb := ⟨_, rfl⟩
  rw [hwb] at DB z0 z1 z2 z3 ⊢
  clear hwb
  go_wp2
  go_loopw [3] (fun i wr => ∃ k : Nat, k ≤ dl ∧ i = .int .i64 k ∧ Hid (∀ (j : Nat) x, j < k → L[j]? = some x → okD L j x = true) ∧ Hid (Below wb.heap.size wb wr)) (fun i _ => dl - (intOf i).toNat)
  case atStart => exact ⟨0, Nat.zero_le _, rfl, Lib.hid (fun j x hj => absurd hj (by omega)), Lib.hid (Below.refl _ _)⟩
  case round =>
    obtain ⟨k, hk, rfl, HA, HB⟩ := hrel
    have DR := Lib.hid (DB.out.keep HB.out)
    clear z0 z1 z2 z3
    have z0 := DR.out.c0
    have z1 := DR.out.c1
    have z2 := DR.out.c2
    have z3 := DR.out.c3
    by_cases hlt : k < dl
    · obtain ⟨b, off, x, rfl, hb, hx, c0, c1, c2, hok⟩ := DR.out.d.get hlt
      have HX := Lib.hid hx
      have HS := Lib.hid (SD.out x (List.mem_of_getElem? hx))
      clear hx hok
      obtain ⟨n, o, c⟩ := x
      dsimp only at c0 c1 c2
      go_upto_region 7 with fail
      obtain ⟨W, hW, DX, XX⟩ : ∃ W, wr.alloc (.cells #[.string n, .string o, .int .i64 c] 46) = W ∧ Hid (DBox w W w.heap.size (some ⟨b, off, none⟩) dl dc wa wl wc nx bz L M) ∧ Hid (XBox W wr.heap.size n o c) := ⟨_, rfl, Lib.hid (DR.out.keep (below_desk _ _)), Lib.hid (XBox.new _ _ _ _)⟩
      rw [hW]
      have HBW : Hid (Below wb.heap.size wb W) := Lib.hid (HB.out.trans (by rw [← hW]; exact (below_desk _ _).mono HB.out.size))
      clear hW z0 z1 z2 z3 c0 c1 c2
      have HV := Lib.hid (Below.refl W.heap.size W)
      have z0 := DX.out.c0
      have z1 := DX.out.c1
      have z2 := DX.out.c2
      have z3 := DX.out.c3
      have x0 := XX.out.c0
      have x1 := XX.out.c1
      have x2 := XX.out.c2
      have NO : Hid (okD L k ⟨n, o, c⟩ = false → rightK ⟨L, M, nx, bz⟩ = false) := Lib.hid (fun h => defs_stop (D := ⟨L, M, nx, bz⟩) HX.out h)
      obtain ⟨q1, hq1⟩ : ∃ q, customL n.toList = q := ⟨_, rfl⟩
      obtain ⟨q2, hq2⟩ : ∃ q, knownL o.toList = q := ⟨_, rfl⟩
      obtain ⟨q3, hq3⟩ : ∃ q, namedZ L n.toList = q := ⟨_, rfl⟩
      obtain ⟨q4, hq4⟩ : ∃ q, classedZ L c = q := ⟨_, rfl⟩
      have CU : Hid (∀ V, Calls Try.prog 21 #[.string n] V fun e w' => e = .returned (.bool q1) ∧ Below V.heap.size V w') := Lib.hid (fun V => by
        have h := refcustom_any n V HS.out.1
        rwa [hq1] at h)
      have KN : Hid (∀ V, Calls Try.prog 22 #[.string o] V fun e w' => e = .returned (.bool q2) ∧ Below V.heap.size V w') := Lib.hid (fun V => by
        have h := refknown_any o V
        rw [hq2] at h
        exact h.mono (fun e w' h => ⟨h.1, by rw [← h.2]; exact Below.refl _ _⟩))
      have NM : Hid (∀ V, Below W.heap.size W V → Calls Try.prog 12 #[deskV (some ⟨b, off, none⟩) dl dc wa wl wc nx bz, .string n] V fun e w' => e = .returned (.int .i64 q3) ∧ Below V.heap.size V w') := Lib.hid (fun V hb => by
        have h := refnamed_any (some ⟨b, off, none⟩) dl dc wa wl wc nx bz L n V (DX.out.keep hb).d
        rwa [hq3] at h)
      have CL : Hid (∀ V, Below W.heap.size W V → Calls Try.prog 13 #[deskV (some ⟨b, off, none⟩) dl dc wa wl wc nx bz, .int .i64 c] V fun e w' => e = .returned (.int .i64 q4) ∧ Below V.heap.size V w') := Lib.hid (fun V hb => by
        have h := refclassed_any (some ⟨b, off, none⟩) dl dc wa wl wc nx bz L c V (DX.out.keep hb).d
        rwa [hq4] at h)
      cases q1 with
      | false =>
        have HR : Hid (rightK ⟨L, M, nx, bz⟩ = false) := Lib.hid (NO.out (by unfold okD; rw [hq1]; rfl))
        clear hq1 hq2 hq3 hq4
        (go_wp2_with (first
                         | (go_at_call 21; (with_reducible refine (CU.out _).mono ?_); rintro e w5 ⟨rfl, hb⟩; (have HV := Lib.hid (HV.out.trans (hb.mono HV.out.size)); clear z0 z1 z2 z3 x0 x1 x2 hb; have z0 := (DX.out.keep HV.out).c0; have z1 := (DX.out.keep HV.out).c1; have z2 := (DX.out.keep HV.out).c2; have z3 := (DX.out.keep HV.out).c3; have x0 := (XX.out.keep HV.out).c0; have x1 := (XX.out.keep HV.out).c1; have x2 := (XX.out.keep HV.out).c2))
                         | (go_at_call 22; (with_reducible refine (KN.out _).mono ?_); rintro e w5 ⟨rfl, hb⟩; (have HV := Lib.hid (HV.out.trans (hb.mono HV.out.size)); clear z0 z1 z2 z3 x0 x1 x2 hb; have z0 := (DX.out.keep HV.out).c0; have z1 := (DX.out.keep HV.out).c1; have z2 := (DX.out.keep HV.out).c2; have z3 := (DX.out.keep HV.out).c3; have x0 := (XX.out.keep HV.out).c0; have x1 := (XX.out.keep HV.out).c1; have x2 := (XX.out.keep HV.out).c2))
                         | (go_at_call 12; (with_reducible refine (NM.out _ HV.out).mono ?_); rintro e w5 ⟨rfl, hb⟩; (have HV := Lib.hid (HV.out.trans (hb.mono HV.out.size)); clear z0 z1 z2 z3 x0 x1 x2 hb; have z0 := (DX.out.keep HV.out).c0; have z1 := (DX.out.keep HV.out).c1; have z2 := (DX.out.keep HV.out).c2; have z3 := (DX.out.keep HV.out).c3; have x0 := (XX.out.keep HV.out).c0; have x1 := (XX.out.keep HV.out).c1; have x2 := (XX.out.keep HV.out).c2))
                         | (go_at_call 13; (with_reducible refine (CL.out _ HV.out).mono ?_); rintro e w5 ⟨rfl, hb⟩; (have HV := Lib.hid (HV.out.trans (hb.mono HV.out.size)); clear z0 z1 z2 z3 x0 x1 x2 hb; have z0 := (DX.out.keep HV.out).c0; have z1 := (DX.out.keep HV.out).c1; have z2 := (DX.out.keep HV.out).c2; have z3 := (DX.out.keep HV.out).c3; have x0 := (XX.out.keep HV.out).c0; have x1 := (XX.out.keep HV.out).c1; have x2 := (XX.out.keep HV.out).c2))); go_ret; exact ⟨ret_bool HR.out.symm, (DX.out.keep HV.out).below⟩)
      | true =>
      by_cases hk2 : o.toList = n.toList ∨ q2 = true
      rotate_left
      · have HR : Hid (rightK ⟨L, M, nx, bz⟩ = false) := Lib.hid (NO.out (by
          cases h : okD L k ⟨n, o, c⟩ with
          | false => rfl
          | true =>
            have := (okD_iff.1 h).2.1
            rw [← hq2] at hk2
            exact absurd this hk2))
        have e1 : (o.toList == n.toList) = false := beq_eq_false_iff_ne.2 (fun e => hk2 (.inl e))
        have e2 : (o.toList != n.toList) = true := by unfold bne; rw [e1]; rfl
        obtain rfl : q2 = false := by cases q2 with | false => rfl | true => exact absurd (.inr rfl) hk2
        clear hq1 hq2 hq3 hq4 hk2
        (go_wp2_with (first
                         | (go_at_call 21; (with_reducible refine (CU.out _).mono ?_); rintro e w5 ⟨rfl, hb⟩; (have HV := Lib.hid (HV.out.trans (hb.mono HV.out.size)); clear z0 z1 z2 z3 x0 x1 x2 hb; have z0 := (DX.out.keep HV.out).c0; have z1 := (DX.out.keep HV.out).c1; have z2 := (DX.out.keep HV.out).c2; have z3 := (DX.out.keep HV.out).c3; have x0 := (XX.out.keep HV.out).c0; have x1 := (XX.out.keep HV.out).c1; have x2 := (XX.out.keep HV.out).c2))
                         | (go_at_call 22; (with_reducible refine (KN.out _).mono ?_); rintro e w5 ⟨rfl, hb⟩; (have HV := Lib.hid (HV.out.trans (hb.mono HV.out.size)); clear z0 z1 z2 z3 x0 x1 x2 hb; have z0 := (DX.out.keep HV.out).c0; have z1 := (DX.out.keep HV.out).c1; have z2 := (DX.out.keep HV.out).c2; have z3 := (DX.out.keep HV.out).c3; have x0 := (XX.out.keep HV.out).c0; have x1 := (XX.out.keep HV.out).c1; have x2 := (XX.out.keep HV.out).c2))
                         | (go_at_call 12; (with_reducible refine (NM.out _ HV.out).mono ?_); rintro e w5 ⟨rfl, hb⟩; (have HV := Lib.hid (HV.out.trans (hb.mono HV.out.size)); clear z0 z1 z2 z3 x0 x1 x2 hb; have z0 := (DX.out.keep HV.out).c0; have z1 := (DX.out.keep HV.out).c1; have z2 := (DX.out.keep HV.out).c2; have z3 := (DX.out.keep HV.out).c3; have x0 := (XX.out.keep HV.out).c0; have x1 := (XX.out.keep HV.out).c1; have x2 := (XX.out.keep HV.out).c2))
                         | (go_at_call 13; (with_reducible refine (CL.out _ HV.out).mono ?_); rintro e w5 ⟨rfl, hb⟩; (have HV := Lib.hid (HV.out.trans (hb.mono HV.out.size)); clear z0 z1 z2 z3 x0 x1 x2 hb; have z0 := (DX.out.keep HV.out).c0; have z1 := (DX.out.keep HV.out).c1; have z2 := (DX.out.keep HV.out).c2; have z3 := (DX.out.keep HV.out).c3; have x0 := (XX.out.keep HV.out).c0; have x1 := (XX.out.keep HV.out).c1; have x2 := (XX.out.keep HV.out).c2))); go_ret; exact ⟨ret_bool HR.out.symm, (DX.out.keep HV.out).below⟩)
      have C2 := Lib.hid hk2
      have C2b : Hid (o.toList = n.toList ∨ knownL o.toList = true) := Lib.hid (by rw [hq2]; exact hk2)
      have C1 := Lib.hid hq1
      have C3 := Lib.hid hq3
      have C4 := Lib.hid hq4
      clear hq1 hq2 hq3 hq4 hk2
      obtain ⟨t2, ht2, HT2⟩ : ∃ t, (o.toList != n.toList) = t ∧ Hid (t = true → q2 = true) := ⟨_, rfl, Lib.hid (fun h => C2.out.resolve_left (fun e => by rw [e] at h; simp at h))⟩
      by_cases d0 : c < 0
      · have HR : Hid (rightK ⟨L, M, nx, bz⟩ = false) := Lib.hid (NO.out (by
          cases h : okD L k ⟨n, o, c⟩ with
          | false => rfl
          | true => have := (okD_iff.1 h).2.2.1; dsimp only at this; omega))
        cases t2 with
        | false =>
          have e1 := bne_no ht2
          (go_wp2_with (first
                           | (go_at_call 21; (with_reducible refine (CU.out _).mono ?_); rintro e w5 ⟨rfl, hb⟩; (have HV := Lib.hid (HV.out.trans (hb.mono HV.out.size)); clear z0 z1 z2 z3 x0 x1 x2 hb; have z0 := (DX.out.keep HV.out).c0; have z1 := (DX.out.keep HV.out).c1; have z2 := (DX.out.keep HV.out).c2; have z3 := (DX.out.keep HV.out).c3; have x0 := (XX.out.keep HV.out).c0; have x1 := (XX.out.keep HV.out).c1; have x2 := (XX.out.keep HV.out).c2))
                           | (go_at_call 22; (with_reducible refine (KN.out _).mono ?_); rintro e w5 ⟨rfl, hb⟩; (have HV := Lib.hid (HV.out.trans (hb.mono HV.out.size)); clear z0 z1 z2 z3 x0 x1 x2 hb; have z0 := (DX.out.keep HV.out).c0; have z1 := (DX.out.keep HV.out).c1; have z2 := (DX.out.keep HV.out).c2; have z3 := (DX.out.keep HV.out).c3; have x0 := (XX.out.keep HV.out).c0; have x1 := (XX.out.keep HV.out).c1; have x2 := (XX.out.keep HV.out).c2))
                           | (go_at_call 12; (with_reducible refine (NM.out _ HV.out).mono ?_); rintro e w5 ⟨rfl, hb⟩; (have HV := Lib.hid (HV.out.trans (hb.mono HV.out.size)); clear z0 z1 z2 z3 x0 x1 x2 hb; have z0 := (DX.out.keep HV.out).c0; have z1 := (DX.out.keep HV.out).c1; have z2 := (DX.out.keep HV.out).c2; have z3 := (DX.out.keep HV.out).c3; have x0 := (XX.out.keep HV.out).c0; have x1 := (XX.out.keep HV.out).c1; have x2 := (XX.out.keep HV.out).c2))
                           | (go_at_call 13; (with_reducible refine (CL.out _ HV.out).mono ?_); rintro e w5 ⟨rfl, hb⟩; (have HV := Lib.hid (HV.out.trans (hb.mono HV.out.size)); clear z0 z1 z2 z3 x0 x1 x2 hb; have z0 := (DX.out.keep HV.out).c0; have z1 := (DX.out.keep HV.out).c1; have z2 := (DX.out.keep HV.out).c2; have z3 := (DX.out.keep HV.out).c3; have x0 := (XX.out.keep HV.out).c0; have x1 := (XX.out.keep HV.out).c1; have x2 := (XX.out.keep HV.out).c2))); go_ret; exact ⟨ret_bool HR.out.symm, (DX.out.keep HV.out).below⟩)
        | true =>
          have e1 := bne_yes ht2
          obtain rfl := HT2.out rfl
          (go_wp2_with (first
                           | (go_at_call 21; (with_reducible refine (CU.out _).mono ?_); rintro e w5 ⟨rfl, hb⟩; (have HV := Lib.hid (HV.out.trans (hb.mono HV.out.size)); clear z0 z1 z2 z3 x0 x1 x2 hb; have z0 := (DX.out.keep HV.out).c0; have z1 := (DX.out.keep HV.out).c1; have z2 := (DX.out.keep HV.out).c2; have z3 := (DX.out.keep HV.out).c3; have x0 := (XX.out.keep HV.out).c0; have x1 := (XX.out.keep HV.out).c1; have x2 := (XX.out.keep HV.out).c2))
                           | (go_at_call 22; (with_reducible refine (KN.out _).mono ?_); rintro e w5 ⟨rfl, hb⟩; (have HV := Lib.hid (HV.out.trans (hb.mono HV.out.size)); clear z0 z1 z2 z3 x0 x1 x2 hb; have z0 := (DX.out.keep HV.out).c0; have z1 := (DX.out.keep HV.out).c1; have z2 := (DX.out.keep HV.out).c2; have z3 := (DX.out.keep HV.out).c3; have x0 := (XX.out.keep HV.out).c0; have x1 := (XX.out.keep HV.out).c1; have x2 := (XX.out.keep HV.out).c2))
                           | (go_at_call 12; (with_reducible refine (NM.out _ HV.out).mono ?_); rintro e w5 ⟨rfl, hb⟩; (have HV := Lib.hid (HV.out.trans (hb.mono HV.out.size)); clear z0 z1 z2 z3 x0 x1 x2 hb; have z0 := (DX.out.keep HV.out).c0; have z1 := (DX.out.keep HV.out).c1; have z2 := (DX.out.keep HV.out).c2; have z3 := (DX.out.keep HV.out).c3; have x0 := (XX.out.keep HV.out).c0; have x1 := (XX.out.keep HV.out).c1; have x2 := (XX.out.keep HV.out).c2))
                           | (go_at_call 13; (with_reducible refine (CL.out _ HV.out).mono ?_); rintro e w5 ⟨rfl, hb⟩; (have HV := Lib.hid (HV.out.trans (hb.mono HV.out.size)); clear z0 z1 z2 z3 x0 x1 x2 hb; have z0 := (DX.out.keep HV.out).c0; have z1 := (DX.out.keep HV.out).c1; have z2 := (DX.out.keep HV.out).c2; have z3 := (DX.out.keep HV.out).c3; have x0 := (XX.out.keep HV.out).c0; have x1 := (XX.out.keep HV.out).c1; have x2 := (XX.out.keep HV.out).c2))); go_ret; exact ⟨ret_bool HR.out.symm, (DX.out.keep HV.out).below⟩)
      by_cases d1 : 11 < c
      · have HR : Hid (rightK ⟨L, M, nx, bz⟩ = false) := Lib.hid (NO.out (by
          cases h : okD L k ⟨n, o, c⟩ with
          | false => rfl
          | true => have := (okD_iff.1 h).2.2.2.1; dsimp only at this; omega))
        cases t2 with
        | false =>
          have e1 := bne_no ht2
          (go_wp2_with (first
                           | (go_at_call 21; (with_reducible refine (CU.out _).mono ?_); rintro e w5 ⟨rfl, hb⟩; (have HV := Lib.hid (HV.out.trans (hb.mono HV.out.size)); clear z0 z1 z2 z3 x0 x1 x2 hb; have z0 := (DX.out.keep HV.out).c0; have z1 := (DX.out.keep HV.out).c1; have z2 := (DX.out.keep HV.out).c2; have z3 := (DX.out.keep HV.out).c3; have x0 := (XX.out.keep HV.out).c0; have x1 := (XX.out.keep HV.out).c1; have x2 := (XX.out.keep HV.out).c2))
                           | (go_at_call 22; (with_reducible refine (KN.out _).mono ?_); rintro e w5 ⟨rfl, hb⟩; (have HV := Lib.hid (HV.out.trans (hb.mono HV.out.size)); clear z0 z1 z2 z3 x0 x1 x2 hb; have z0 := (DX.out.keep HV.out).c0; have z1 := (DX.out.keep HV.out).c1; have z2 := (DX.out.keep HV.out).c2; have z3 := (DX.out.keep HV.out).c3; have x0 := (XX.out.keep HV.out).c0; have x1 := (XX.out.keep HV.out).c1; have x2 := (XX.out.keep HV.out).c2))
                           | (go_at_call 12; (with_reducible refine (NM.out _ HV.out).mono ?_); rintro e w5 ⟨rfl, hb⟩; (have HV := Lib.hid (HV.out.trans (hb.mono HV.out.size)); clear z0 z1 z2 z3 x0 x1 x2 hb; have z0 := (DX.out.keep HV.out).c0; have z1 := (DX.out.keep HV.out).c1; have z2 := (DX.out.keep HV.out).c2; have z3 := (DX.out.keep HV.out).c3; have x0 := (XX.out.keep HV.out).c0; have x1 := (XX.out.keep HV.out).c1; have x2 := (XX.out.keep HV.out).c2))
                           | (go_at_call 13; (with_reducible refine (CL.out _ HV.out).mono ?_); rintro e w5 ⟨rfl, hb⟩; (have HV := Lib.hid (HV.out.trans (hb.mono HV.out.size)); clear z0 z1 z2 z3 x0 x1 x2 hb; have z0 := (DX.out.keep HV.out).c0; have z1 := (DX.out.keep HV.out).c1; have z2 := (DX.out.keep HV.out).c2; have z3 := (DX.out.keep HV.out).c3; have x0 := (XX.out.keep HV.out).c0; have x1 := (XX.out.keep HV.out).c1; have x2 := (XX.out.keep HV.out).c2))); go_ret; exact ⟨ret_bool HR.out.symm, (DX.out.keep HV.out).below⟩)
        | true =>
          have e1 := bne_yes ht2
          obtain rfl := HT2.out rfl
          (go_wp2_with (first
                           | (go_at_call 21; (with_reducible refine (CU.out _).mono ?_); rintro e w5 ⟨rfl, hb⟩; (have HV := Lib.hid (HV.out.trans (hb.mono HV.out.size)); clear z0 z1 z2 z3 x0 x1 x2 hb; have z0 := (DX.out.keep HV.out).c0; have z1 := (DX.out.keep HV.out).c1; have z2 := (DX.out.keep HV.out).c2; have z3 := (DX.out.keep HV.out).c3; have x0 := (XX.out.keep HV.out).c0; have x1 := (XX.out.keep HV.out).c1; have x2 := (XX.out.keep HV.out).c2))
                           | (go_at_call 22; (with_reducible refine (KN.out _).mono ?_); rintro e w5 ⟨rfl, hb⟩; (have HV := Lib.hid (HV.out.trans (hb.mono HV.out.size)); clear z0 z1 z2 z3 x0 x1 x2 hb; have z0 := (DX.out.keep HV.out).c0; have z1 := (DX.out.keep HV.out).c1; have z2 := (DX.out.keep HV.out).c2; have z3 := (DX.out.keep HV.out).c3; have x0 := (XX.out.keep HV.out).c0; have x1 := (XX.out.keep HV.out).c1; have x2 := (XX.out.keep HV.out).c2))
                           | (go_at_call 12; (with_reducible refine (NM.out _ HV.out).mono ?_); rintro e w5 ⟨rfl, hb⟩; (have HV := Lib.hid (HV.out.trans (hb.mono HV.out.size)); clear z0 z1 z2 z3 x0 x1 x2 hb; have z0 := (DX.out.keep HV.out).c0; have z1 := (DX.out.keep HV.out).c1; have z2 := (DX.out.keep HV.out).c2; have z3 := (DX.out.keep HV.out).c3; have x0 := (XX.out.keep HV.out).c0; have x1 := (XX.out.keep HV.out).c1; have x2 := (XX.out.keep HV.out).c2))
                           | (go_at_call 13; (with_reducible refine (CL.out _ HV.out).mono ?_); rintro e w5 ⟨rfl, hb⟩; (have HV := Lib.hid (HV.out.trans (hb.mono HV.out.size)); clear z0 z1 z2 z3 x0 x1 x2 hb; have z0 := (DX.out.keep HV.out).c0; have z1 := (DX.out.keep HV.out).c1; have z2 := (DX.out.keep HV.out).c2; have z3 := (DX.out.keep HV.out).c3; have x0 := (XX.out.keep HV.out).c0; have x1 := (XX.out.keep HV.out).c1; have x2 := (XX.out.keep HV.out).c2))); go_ret; exact ⟨ret_bool HR.out.symm, (DX.out.keep HV.out).below⟩)
      by_cases d2 : q3 = (k : Int)
      rotate_left
      · have HR : Hid (rightK ⟨L, M, nx, bz⟩ = false) := Lib.hid (NO.out (by
          cases h : okD L k ⟨n, o, c⟩ with
          | false => rfl
          | true => have := (okD_iff.1 h).2.2.2.2.1; dsimp only at this; rw [C3.out] at this; exact absurd this d2))
        have e3 : (q3 != (k : Int)) = true := bne_iff_ne.2 d2
        clear d2
        cases t2 with
        | false =>
          have e1 := bne_no ht2
          (go_wp2_with (first
                           | (go_at_call 21; (with_reducible refine (CU.out _).mono ?_); rintro e w5 ⟨rfl, hb⟩; (have HV := Lib.hid (HV.out.trans (hb.mono HV.out.size)); clear z0 z1 z2 z3 x0 x1 x2 hb; have z0 := (DX.out.keep HV.out).c0; have z1 := (DX.out.keep HV.out).c1; have z2 := (DX.out.keep HV.out).c2; have z3 := (DX.out.keep HV.out).c3; have x0 := (XX.out.keep HV.out).c0; have x1 := (XX.out.keep HV.out).c1; have x2 := (XX.out.keep HV.out).c2))
                           | (go_at_call 22; (with_reducible refine (KN.out _).mono ?_); rintro e w5 ⟨rfl, hb⟩; (have HV := Lib.hid (HV.out.trans (hb.mono HV.out.size)); clear z0 z1 z2 z3 x0 x1 x2 hb; have z0 := (DX.out.keep HV.out).c0; have z1 := (DX.out.keep HV.out).c1; have z2 := (DX.out.keep HV.out).c2; have z3 := (DX.out.keep HV.out).c3; have x0 := (XX.out.keep HV.out).c0; have x1 := (XX.out.keep HV.out).c1; have x2 := (XX.out.keep HV.out).c2))
                           | (go_at_call 12; (with_reducible refine (NM.out _ HV.out).mono ?_); rintro e w5 ⟨rfl, hb⟩; (have HV := Lib.hid (HV.out.trans (hb.mono HV.out.size)); clear z0 z1 z2 z3 x0 x1 x2 hb; have z0 := (DX.out.keep HV.out).c0; have z1 := (DX.out.keep HV.out).c1; have z2 := (DX.out.keep HV.out).c2; have z3 := (DX.out.keep HV.out).c3; have x0 := (XX.out.keep HV.out).c0; have x1 := (XX.out.keep HV.out).c1; have x2 := (XX.out.keep HV.out).c2))
                           | (go_at_call 13; (with_reducible refine (CL.out _ HV.out).mono ?_); rintro e w5 ⟨rfl, hb⟩; (have HV := Lib.hid (HV.out.trans (hb.mono HV.out.size)); clear z0 z1 z2 z3 x0 x1 x2 hb; have z0 := (DX.out.keep HV.out).c0; have z1 := (DX.out.keep HV.out).c1; have z2 := (DX.out.keep HV.out).c2; have z3 := (DX.out.keep HV.out).c3; have x0 := (XX.out.keep HV.out).c0; have x1 := (XX.out.keep HV.out).c1; have x2 := (XX.out.keep HV.out).c2))); go_ret; exact ⟨ret_bool HR.out.symm, (DX.out.keep HV.out).below⟩)
        | true =>
          have e1 := bne_yes ht2
          obtain rfl := HT2.out rfl
          (go_wp2_with (first
                           | (go_at_call 21; (with_reducible refine (CU.out _).mono ?_); rintro e w5 ⟨rfl, hb⟩; (have HV := Lib.hid (HV.out.trans (hb.mono HV.out.size)); clear z0 z1 z2 z3 x0 x1 x2 hb; have z0 := (DX.out.keep HV.out).c0; have z1 := (DX.out.keep HV.out).c1; have z2 := (DX.out.keep HV.out).c2; have z3 := (DX.out.keep HV.out).c3; have x0 := (XX.out.keep HV.out).c0; have x1 := (XX.out.keep HV.out).c1; have x2 := (XX.out.keep HV.out).c2))
                           | (go_at_call 22; (with_reducible refine (KN.out _).mono ?_); rintro e w5 ⟨rfl, hb⟩; (have HV := Lib.hid (HV.out.trans (hb.mono HV.out.size)); clear z0 z1 z2 z3 x0 x1 x2 hb; have z0 := (DX.out.keep HV.out).c0; have z1 := (DX.out.keep HV.out).c1; have z2 := (DX.out.keep HV.out).c2; have z3 := (DX.out.keep HV.out).c3; have x0 := (XX.out.keep HV.out).c0; have x1 := (XX.out.keep HV.out).c1; have x2 := (XX.out.keep HV.out).c2))
                           | (go_at_call 12; (with_reducible refine (NM.out _ HV.out).mono ?_); rintro e w5 ⟨rfl, hb⟩; (have HV := Lib.hid (HV.out.trans (hb.mono HV.out.size)); clear z0 z1 z2 z3 x0 x1 x2 hb; have z0 := (DX.out.keep HV.out).c0; have z1 := (DX.out.keep HV.out).c1; have z2 := (DX.out.keep HV.out).c2; have z3 := (DX.out.keep HV.out).c3; have x0 := (XX.out.keep HV.out).c0; have x1 := (XX.out.keep HV.out).c1; have x2 := (XX.out.keep HV.out).c2))
                           | (go_at_call 13; (with_reducible refine (CL.out _ HV.out).mono ?_); rintro e w5 ⟨rfl, hb⟩; (have HV := Lib.hid (HV.out.trans (hb.mono HV.out.size)); clear z0 z1 z2 z3 x0 x1 x2 hb; have z0 := (DX.out.keep HV.out).c0; have z1 := (DX.out.keep HV.out).c1; have z2 := (DX.out.keep HV.out).c2; have z3 := (DX.out.keep HV.out).c3; have x0 := (XX.out.keep HV.out).c0; have x1 := (XX.out.keep HV.out).c1; have x2 := (XX.out.keep HV.out).c2))); go_ret; exact ⟨ret_bool HR.out.symm, (DX.out.keep HV.out).below⟩)
      have e3 : (q3 != (k : Int)) = false := by rw [d2]; simp
      by_cases d3 : q4 = (k : Int)
      rotate_left
      · have HR : Hid (rightK ⟨L, M, nx, bz⟩ = false) := Lib.hid (NO.out (by
          cases h : okD L k ⟨n, o, c⟩ with
          | false => rfl
          | true => have := (okD_iff.1 h).2.2.2.2.2; dsimp only at this; rw [C4.out] at this; exact absurd this d3))
        have e4 : (q4 != (k : Int)) = true := bne_iff_ne.2 d3
        clear d2 d3
        cases t2 with
        | false =>
          have e1 := bne_no ht2
          (go_wp2_with (first
                           | (go_at_call 21; (with_reducible refine (CU.out _).mono ?_); rintro e w5 ⟨rfl, hb⟩; (have HV := Lib.hid (HV.out.trans (hb.mono HV.out.size)); clear z0 z1 z2 z3 x0 x1 x2 hb; have z0 := (DX.out.keep HV.out).c0; have z1 := (DX.out.keep HV.out).c1; have z2 := (DX.out.keep HV.out).c2; have z3 := (DX.out.keep HV.out).c3; have x0 := (XX.out.keep HV.out).c0; have x1 := (XX.out.keep HV.out).c1; have x2 := (XX.out.keep HV.out).c2))
                           | (go_at_call 22; (with_reducible refine (KN.out _).mono ?_); rintro e w5 ⟨rfl, hb⟩; (have HV := Lib.hid (HV.out.trans (hb.mono HV.out.size)); clear z0 z1 z2 z3 x0 x1 x2 hb; have z0 := (DX.out.keep HV.out).c0; have z1 := (DX.out.keep HV.out).c1; have z2 := (DX.out.keep HV.out).c2; have z3 := (DX.out.keep HV.out).c3; have x0 := (XX.out.keep HV.out).c0; have x1 := (XX.out.keep HV.out).c1; have x2 := (XX.out.keep HV.out).c2))
                           | (go_at_call 12; (with_reducible refine (NM.out _ HV.out).mono ?_); rintro e w5 ⟨rfl, hb⟩; (have HV := Lib.hid (HV.out.trans (hb.mono HV.out.size)); clear z0 z1 z2 z3 x0 x1 x2 hb; have z0 := (DX.out.keep HV.out).c0; have z1 := (DX.out.keep HV.out).c1; have z2 := (DX.out.keep HV.out).c2; have z3 := (DX.out.keep HV.out).c3; have x0 := (XX.out.keep HV.out).c0; have x1 := (XX.out.keep HV.out).c1; have x2 := (XX.out.keep HV.out).c2))
                           | (go_at_call 13; (with_reducible refine (CL.out _ HV.out).mono ?_); rintro e w5 ⟨rfl, hb⟩; (have HV := Lib.hid (HV.out.trans (hb.mono HV.out.size)); clear z0 z1 z2 z3 x0 x1 x2 hb; have z0 := (DX.out.keep HV.out).c0; have z1 := (DX.out.keep HV.out).c1; have z2 := (DX.out.keep HV.out).c2; have z3 := (DX.out.keep HV.out).c3; have x0 := (XX.out.keep HV.out).c0; have x1 := (XX.out.keep HV.out).c1; have x2 := (XX.out.keep HV.out).c2))); go_ret; exact ⟨ret_bool HR.out.symm, (DX.out.keep HV.out).below⟩)
        | true =>
          have e1 := bne_yes ht2
          obtain rfl := HT2.out rfl
          (go_wp2_with (first
                           | (go_at_call 21; (with_reducible refine (CU.out _).mono ?_); rintro e w5 ⟨rfl, hb⟩; (have HV := Lib.hid (HV.out.trans (hb.mono HV.out.size)); clear z0 z1 z2 z3 x0 x1 x2 hb; have z0 := (DX.out.keep HV.out).c0; have z1 := (DX.out.keep HV.out).c1; have z2 := (DX.out.keep HV.out).c2; have z3 := (DX.out.keep HV.out).c3; have x0 := (XX.out.keep HV.out).c0; have x1 := (XX.out.keep HV.out).c1; have x2 := (XX.out.keep HV.out).c2))
                           | (go_at_call 22; (with_reducible refine (KN.out _).mono ?_); rintro e w5 ⟨rfl, hb⟩; (have HV := Lib.hid (HV.out.trans (hb.mono HV.out.size)); clear z0 z1 z2 z3 x0 x1 x2 hb; have z0 := (DX.out.keep HV.out).c0; have z1 := (DX.out.keep HV.out).c1; have z2 := (DX.out.keep HV.out).c2; have z3 := (DX.out.keep HV.out).c3; have x0 := (XX.out.keep HV.out).c0; have x1 := (XX.out.keep HV.out).c1; have x2 := (XX.out.keep HV.out).c2))
                           | (go_at_call 12; (with_reducible refine (NM.out _ HV.out).mono ?_); rintro e w5 ⟨rfl, hb⟩; (have HV := Lib.hid (HV.out.trans (hb.mono HV.out.size)); clear z0 z1 z2 z3 x0 x1 x2 hb; have z0 := (DX.out.keep HV.out).c0; have z1 := (DX.out.keep HV.out).c1; have z2 := (DX.out.keep HV.out).c2; have z3 := (DX.out.keep HV.out).c3; have x0 := (XX.out.keep HV.out).c0; have x1 := (XX.out.keep HV.out).c1; have x2 := (XX.out.keep HV.out).c2))
                           | (go_at_call 13; (with_reducible refine (CL.out _ HV.out).mono ?_); rintro e w5 ⟨rfl, hb⟩; (have HV := Lib.hid (HV.out.trans (hb.mono HV.out.size)); clear z0 z1 z2 z3 x0 x1 x2 hb; have z0 := (DX.out.keep HV.out).c0; have z1 := (DX.out.keep HV.out).c1; have z2 := (DX.out.keep HV.out).c2; have z3 := (DX.out.keep HV.out).c3; have x0 := (XX.out.keep HV.out).c0; have x1 := (XX.out.keep HV.out).c1; have x2 := (XX.out.keep HV.out).c2))); go_ret; exact ⟨ret_bool HR.out.symm, (DX.out.keep HV.out).below⟩)
      have e4 : (q4 != (k : Int)) = false := by rw [d3]; simp
      have HG : Hid (∀ (j : Nat) x, j < k + 1 → L[j]? = some x → okD L j x = true) := Lib.hid (fun j x hj hx => by
        by_cases e : j = k
        · subst e
          rw [HX.out] at hx
          obtain rfl := Option.some.inj hx
          exact okD_iff.2 ⟨C1.out, C2b.out, by dsimp only; omega, by dsimp only; omega, by dsimp only; rw [C3.out, d2], by dsimp only; rw [C4.out, d3]⟩
        · exact HA.out j x (by omega) hx)
      clear d2 d3
      cases t2 with
      | false =>
        have e1 := bne_no ht2
        go_wp2_with (first
                        | (go_at_call 21; (with_reducible refine (CU.out _).mono ?_); rintro e w5 ⟨rfl, hb⟩; (have HV := Lib.hid (HV.out.trans (hb.mono HV.out.size)); clear z0 z1 z2 z3 x0 x1 x2 hb; have z0 := (DX.out.keep HV.out).c0; have z1 := (DX.out.keep HV.out).c1; have z2 := (DX.out.keep HV.out).c2; have z3 := (DX.out.keep HV.out).c3; have x0 := (XX.out.keep HV.out).c0; have x1 := (XX.out.keep HV.out).c1; have x2 := (XX.out.keep HV.out).c2))
                        | (go_at_call 22; (with_reducible refine (KN.out _).mono ?_); rintro e w5 ⟨rfl, hb⟩; (have HV := Lib.hid (HV.out.trans (hb.mono HV.out.size)); clear z0 z1 z2 z3 x0 x1 x2 hb; have z0 := (DX.out.keep HV.out).c0; have z1 := (DX.out.keep HV.out).c1; have z2 := (DX.out.keep HV.out).c2; have z3 := (DX.out.keep HV.out).c3; have x0 := (XX.out.keep HV.out).c0; have x1 := (XX.out.keep HV.out).c1; have x2 := (XX.out.keep HV.out).c2))
                        | (go_at_call 12; (with_reducible refine (NM.out _ HV.out).mono ?_); rintro e w5 ⟨rfl, hb⟩; (have HV := Lib.hid (HV.out.trans (hb.mono HV.out.size)); clear z0 z1 z2 z3 x0 x1 x2 hb; have z0 := (DX.out.keep HV.out).c0; have z1 := (DX.out.keep HV.out).c1; have z2 := (DX.out.keep HV.out).c2; have z3 := (DX.out.keep HV.out).c3; have x0 := (XX.out.keep HV.out).c0; have x1 := (XX.out.keep HV.out).c1; have x2 := (XX.out.keep HV.out).c2))
                        | (go_at_call 13; (with_reducible refine (CL.out _ HV.out).mono ?_); rintro e w5 ⟨rfl, hb⟩; (have HV := Lib.hid (HV.out.trans (hb.mono HV.out.size)); clear z0 z1 z2 z3 x0 x1 x2 hb; have z0 := (DX.out.keep HV.out).c0; have z1 := (DX.out.keep HV.out).c1; have z2 := (DX.out.keep HV.out).c2; have z3 := (DX.out.keep HV.out).c3; have x0 := (XX.out.keep HV.out).c0; have x1 := (XX.out.keep HV.out).c1; have x2 := (XX.out.keep HV.out).c2)))
        go_roundw
        case rel => exact ⟨k + 1, by omega, by go_num, HG, Lib.hid (HBW.out.trans (HV.out.mono HBW.out.size))⟩
        case measure => simp [intOf]; omega
      | true =>
        have e1 := bne_yes ht2
        obtain rfl := HT2.out rfl
        go_wp2_with (first
                        | (go_at_call 21; (with_reducible refine (CU.out _).mono ?_); rintro e w5 ⟨rfl, hb⟩; (have HV := Lib.hid (HV.out.trans (hb.mono HV.out.size)); clear z0 z1 z2 z3 x0 x1 x2 hb; have z0 := (DX.out.keep HV.out).c0; have z1 := (DX.out.keep HV.out).c1; have z2 := (DX.out.keep HV.out).c2; have z3 := (DX.out.keep HV.out).c3; have x0 := (XX.out.keep HV.out).c0; have x1 := (XX.out.keep HV.out).c1; have x2 := (XX.out.keep HV.out).c2))
                        | (go_at_call 22; (with_reducible refine (KN.out _).mono ?_); rintro e w5 ⟨rfl, hb⟩; (have HV := Lib.hid (HV.out.trans (hb.mono HV.out.size)); clear z0 z1 z2 z3 x0 x1 x2 hb; have z0 := (DX.out.keep HV.out).c0; have z1 := (DX.out.keep HV.out).c1; have z2 := (DX.out.keep HV.out).c2; have z3 := (DX.out.keep HV.out).c3; have x0 := (XX.out.keep HV.out).c0; have x1 := (XX.out.keep HV.out).c1; have x2 := (XX.out.keep HV.out).c2))
                        | (go_at_call 12; (with_reducible refine (NM.out _ HV.out).mono ?_); rintro e w5 ⟨rfl, hb⟩; (have HV := Lib.hid (HV.out.trans (hb.mono HV.out.size)); clear z0 z1 z2 z3 x0 x1 x2 hb; have z0 := (DX.out.keep HV.out).c0; have z1 := (DX.out.keep HV.out).c1; have z2 := (DX.out.keep HV.out).c2; have z3 := (DX.out.keep HV.out).c3; have x0 := (XX.out.keep HV.out).c0; have x1 := (XX.out.keep HV.out).c1; have x2 := (XX.out.keep HV.out).c2))
                        | (go_at_call 13; (with_reducible refine (CL.out _ HV.out).mono ?_); rintro e w5 ⟨rfl, hb⟩; (have HV := Lib.hid (HV.out.trans (hb.mono HV.out.size)); clear z0 z1 z2 z3 x0 x1 x2 hb; have z0 := (DX.out.keep HV.out).c0; have z1 := (DX.out.keep HV.out).c1; have z2 := (DX.out.keep HV.out).c2; have z3 := (DX.out.keep HV.out).c3; have x0 := (XX.out.keep HV.out).c0; have x1 := (XX.out.keep HV.out).c1; have x2 := (XX.out.keep HV.out).c2)))
        go_roundw
        case rel => exact ⟨k + 1, by omega, by go_num, HG, Lib.hid (HBW.out.trans (HV.out.mono HBW.out.size))⟩
        case measure => simp [intOf]; omega
    · have HD : Hid (∀ (j : Nat) x, L[j]? = some x → okD L j x = true) := Lib.hid (fun j x hx => HA.out j x (by obtain ⟨h1, _⟩ := List.getElem?_eq_some_iff.1 hx; rw [HLN.out] at h1; omega) hx)
      obtain ⟨wy, rfl⟩ : ∃ wy, wy = wr := ⟨_, rfl⟩
      have hlast : lastT M 0 = -1 := rfl
      go_wp2
      go_loopw [5, 6] (fun t i wr => ∃ k : Nat, k ≤ wl ∧ i = .int .i64 k ∧ (∃ q, t = .int .i64 q ∧ Hid (q = lastT M k)) ∧ Hid (∀ (j : Nat) x, j < k → M[j]? = some x → okT L (lastT M j) nx x = true) ∧ Hid (Below wy.heap.size wy wr)) (fun _ i _ => wl - (intOf i).toNat)
      case atStart => exact ⟨0, Nat.zero_le _, rfl, ⟨-1, rfl, Lib.hid rfl⟩, Lib.hid (fun j x hj => absurd hj (by omega)), Lib.hid (Below.refl _ _)⟩
      case round =>
        obtain ⟨k, hk, rfl, ⟨q, rfl, HQ⟩, HA, HB2⟩ := hrel
        have DR2 := Lib.hid (DR.out.keep HB2.out)
        clear z0 z1 z2 z3
        have z0 := DR2.out.c0
        have z1 := DR2.out.c1
        have z2 := DR2.out.c2
        have z3 := DR2.out.c3
        by_cases hlt : k < wl
        · obtain ⟨b, off, x, rfl, hb, hx, c0, c1, hok⟩ := DR2.out.t.get hlt
          have HX := Lib.hid hx
          have HS := Lib.hid (ST.out x (List.mem_of_getElem? hx))
          clear hx hok
          obtain ⟨n, c⟩ := x
          dsimp only at c0 c1
          go_upto_region 14 with fail
          obtain ⟨W, hW, DX, XX⟩ : ∃ W, wr.alloc (.cells #[.string n, .int .i64 c] 48) = W ∧ Hid (DBox w W w.heap.size da dl dc (some ⟨b, off, none⟩) wl wc nx bz L M) ∧ Hid (TBox9 W wr.heap.size n c) := ⟨_, rfl, Lib.hid (DR2.out.keep (below_desk _ _)), Lib.hid (TBox9.new _ _ _)⟩
          rw [hW]
          have HBW : Hid (Below wy.heap.size wy W) := Lib.hid (HB2.out.trans (by rw [← hW]; exact (below_desk _ _).mono HB2.out.size))
          clear hW z0 z1 z2 z3 c0 c1
          have HV := Lib.hid (Below.refl W.heap.size W)
          have z0 := DX.out.c0
          have z1 := DX.out.c1
          have z2 := DX.out.c2
          have z3 := DX.out.c3
          have x0 := XX.out.c0
          have x1 := XX.out.c1
          have NO : Hid (okT L (lastT M k) nx ⟨n, c⟩ = false → rightK ⟨L, M, nx, bz⟩ = false) := Lib.hid (fun h => waits_stop (D := ⟨L, M, nx, bz⟩) HX.out h)
          obtain ⟨q1, hq1⟩ : ∃ q, customL n.toList = q := ⟨_, rfl⟩
          obtain ⟨q3, hq3⟩ : ∃ q, namedZ L n.toList = q := ⟨_, rfl⟩
          have CU : Hid (∀ V, Calls Try.prog 21 #[.string n] V fun e w' => e = .returned (.bool q1) ∧ Below V.heap.size V w') := Lib.hid (fun V => by
            have h := refcustom_any n V HS.out
            rwa [hq1] at h)
          have NM : Hid (∀ V, Below W.heap.size W V → Calls Try.prog 12 #[deskV da dl dc (some ⟨b, off, none⟩) wl wc nx bz, .string n] V fun e w' => e = .returned (.int .i64 q3) ∧ Below V.heap.size V w') := Lib.hid (fun V hb => by
            have h := refnamed_any da dl dc (some ⟨b, off, none⟩) wl wc nx bz L n V (DX.out.keep hb).d
            rwa [hq3] at h)
          have C1 := Lib.hid hq1
          have C3 := Lib.hid hq3
          clear hq1 hq3
          cases q1 with
          | false =>
            have HR : Hid (rightK ⟨L, M, nx, bz⟩ = false) := Lib.hid (NO.out (by unfold okT; rw [C1.out]; rfl))
            (go_wp2_with (first
                             | (go_at_call 21; (with_reducible refine (CU.out _).mono ?_); rintro e w5 ⟨rfl, hb⟩; (have HV := Lib.hid (HV.out.trans (hb.mono HV.out.size)); clear z0 z1 z2 z3 x0 x1 hb; have z0 := (DX.out.keep HV.out).c0; have z1 := (DX.out.keep HV.out).c1; have z2 := (DX.out.keep HV.out).c2; have z3 := (DX.out.keep HV.out).c3; have x0 := (XX.out.keep HV.out).c0; have x1 := (XX.out.keep HV.out).c1))
                             | (go_at_call 12; (with_reducible refine (NM.out _ HV.out).mono ?_); rintro e w5 ⟨rfl, hb⟩; (have HV := Lib.hid (HV.out.trans (hb.mono HV.out.size)); clear z0 z1 z2 z3 x0 x1 hb; have z0 := (DX.out.keep HV.out).c0; have z1 := (DX.out.keep HV.out).c1; have z2 := (DX.out.keep HV.out).c2; have z3 := (DX.out.keep HV.out).c3; have x0 := (XX.out.keep HV.out).c0; have x1 := (XX.out.keep HV.out).c1))); go_ret; exact ⟨ret_bool HR.out.symm, (DX.out.keep HV.out).below⟩)
          | true =>
          by_cases d2 : q3 = -1
          rotate_left
          · have HR : Hid (rightK ⟨L, M, nx, bz⟩ = false) := Lib.hid (NO.out (by
              cases h : okT L (lastT M k) nx ⟨n, c⟩ with
              | false => rfl
              | true => have := (okT_iff.1 h).2.1; dsimp only at this; rw [C3.out] at this; exact absurd this d2))
            have e3 : (q3 != -1) = true := bne_iff_ne.2 d2
            clear d2
            (go_wp2_with (first
                             | (go_at_call 21; (with_reducible refine (CU.out _).mono ?_); rintro e w5 ⟨rfl, hb⟩; (have HV := Lib.hid (HV.out.trans (hb.mono HV.out.size)); clear z0 z1 z2 z3 x0 x1 hb; have z0 := (DX.out.keep HV.out).c0; have z1 := (DX.out.keep HV.out).c1; have z2 := (DX.out.keep HV.out).c2; have z3 := (DX.out.keep HV.out).c3; have x0 := (XX.out.keep HV.out).c0; have x1 := (XX.out.keep HV.out).c1))
                             | (go_at_call 12; (with_reducible refine (NM.out _ HV.out).mono ?_); rintro e w5 ⟨rfl, hb⟩; (have HV := Lib.hid (HV.out.trans (hb.mono HV.out.size)); clear z0 z1 z2 z3 x0 x1 hb; have z0 := (DX.out.keep HV.out).c0; have z1 := (DX.out.keep HV.out).c1; have z2 := (DX.out.keep HV.out).c2; have z3 := (DX.out.keep HV.out).c3; have x0 := (XX.out.keep HV.out).c0; have x1 := (XX.out.keep HV.out).c1))); go_ret; exact ⟨ret_bool HR.out.symm, (DX.out.keep HV.out).below⟩)
          have D2 := Lib.hid d2
          subst d2
          by_cases d3 : c ≤ q
          · have HR : Hid (rightK ⟨L, M, nx, bz⟩ = false) := Lib.hid (NO.out (by
              cases h : okT L (lastT M k) nx ⟨n, c⟩ with
              | false => rfl
              | true => have := (okT_iff.1 h).2.2.1; dsimp only at this; rw [← HQ.out] at this; omega))
            (go_wp2_with (first
                             | (go_at_call 21; (with_reducible refine (CU.out _).mono ?_); rintro e w5 ⟨rfl, hb⟩; (have HV := Lib.hid (HV.out.trans (hb.mono HV.out.size)); clear z0 z1 z2 z3 x0 x1 hb; have z0 := (DX.out.keep HV.out).c0; have z1 := (DX.out.keep HV.out).c1; have z2 := (DX.out.keep HV.out).c2; have z3 := (DX.out.keep HV.out).c3; have x0 := (XX.out.keep HV.out).c0; have x1 := (XX.out.keep HV.out).c1))
                             | (go_at_call 12; (with_reducible refine (NM.out _ HV.out).mono ?_); rintro e w5 ⟨rfl, hb⟩; (have HV := Lib.hid (HV.out.trans (hb.mono HV.out.size)); clear z0 z1 z2 z3 x0 x1 hb; have z0 := (DX.out.keep HV.out).c0; have z1 := (DX.out.keep HV.out).c1; have z2 := (DX.out.keep HV.out).c2; have z3 := (DX.out.keep HV.out).c3; have x0 := (XX.out.keep HV.out).c0; have x1 := (XX.out.keep HV.out).c1))); go_ret; exact ⟨ret_bool HR.out.symm, (DX.out.keep HV.out).below⟩)
          by_cases d4 : nx ≤ c
          · have HR : Hid (rightK ⟨L, M, nx, bz⟩ = false) := Lib.hid (NO.out (by
              cases h : okT L (lastT M k) nx ⟨n, c⟩ with
              | false => rfl
              | true => have := (okT_iff.1 h).2.2.2; dsimp only at this; omega))
            (go_wp2_with (first
                             | (go_at_call 21; (with_reducible refine (CU.out _).mono ?_); rintro e w5 ⟨rfl, hb⟩; (have HV := Lib.hid (HV.out.trans (hb.mono HV.out.size)); clear z0 z1 z2 z3 x0 x1 hb; have z0 := (DX.out.keep HV.out).c0; have z1 := (DX.out.keep HV.out).c1; have z2 := (DX.out.keep HV.out).c2; have z3 := (DX.out.keep HV.out).c3; have x0 := (XX.out.keep HV.out).c0; have x1 := (XX.out.keep HV.out).c1))
                             | (go_at_call 12; (with_reducible refine (NM.out _ HV.out).mono ?_); rintro e w5 ⟨rfl, hb⟩; (have HV := Lib.hid (HV.out.trans (hb.mono HV.out.size)); clear z0 z1 z2 z3 x0 x1 hb; have z0 := (DX.out.keep HV.out).c0; have z1 := (DX.out.keep HV.out).c1; have z2 := (DX.out.keep HV.out).c2; have z3 := (DX.out.keep HV.out).c3; have x0 := (XX.out.keep HV.out).c0; have x1 := (XX.out.keep HV.out).c1))); go_ret; exact ⟨ret_bool HR.out.symm, (DX.out.keep HV.out).below⟩)
          have HG : Hid (∀ (j : Nat) x, j < k + 1 → M[j]? = some x → okT L (lastT M j) nx x = true) := Lib.hid (fun j x hj hx => by
            by_cases e : j = k
            · subst e
              rw [HX.out] at hx
              obtain rfl := Option.some.inj hx
              exact okT_iff.2 ⟨C1.out, C3.out, by dsimp only; rw [← HQ.out]; omega, by dsimp only; omega⟩
            · exact HA.out j x (by omega) hx)
          have HL : Hid (c = lastT M (k + 1)) := Lib.hid (by unfold lastT; dsimp only; rw [HX.out]; rfl)
          go_wp2_with (first
                          | (go_at_call 21; (with_reducible refine (CU.out _).mono ?_); rintro e w5 ⟨rfl, hb⟩; (have HV := Lib.hid (HV.out.trans (hb.mono HV.out.size)); clear z0 z1 z2 z3 x0 x1 hb; have z0 := (DX.out.keep HV.out).c0; have z1 := (DX.out.keep HV.out).c1; have z2 := (DX.out.keep HV.out).c2; have z3 := (DX.out.keep HV.out).c3; have x0 := (XX.out.keep HV.out).c0; have x1 := (XX.out.keep HV.out).c1))
                          | (go_at_call 12; (with_reducible refine (NM.out _ HV.out).mono ?_); rintro e w5 ⟨rfl, hb⟩; (have HV := Lib.hid (HV.out.trans (hb.mono HV.out.size)); clear z0 z1 z2 z3 x0 x1 hb; have z0 := (DX.out.keep HV.out).c0; have z1 := (DX.out.keep HV.out).c1; have z2 := (DX.out.keep HV.out).c2; have z3 := (DX.out.keep HV.out).c3; have x0 := (XX.out.keep HV.out).c0; have x1 := (XX.out.keep HV.out).c1)))
          go_roundw
          case rel => exact ⟨k + 1, by omega, by go_num, ⟨c, rfl, HL⟩, HG, Lib.hid (HBW.out.trans (HV.out.mono HBW.out.size))⟩
          case measure => simp [intOf]; omega
        · have HR : Hid (rightK ⟨L, M, nx, bz⟩ = true) := Lib.hid (right_full (D := ⟨L, M, nx, bz⟩) (by dsimp only; omega) (by dsimp only; omega) HD.out (fun j x hx => HA.out j x (by obtain ⟨h1, _⟩ := List.getElem?_eq_some_iff.1 hx; dsimp only at h1; rw [HTN.out] at h1; omega) hx))
          go_wp2
          go_ret
          exact ⟨ret_bool HR.out.symm, DR2.out.below⟩
end Go.Proofs.Ytioeagadhnnajaa
