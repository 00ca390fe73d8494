/- Texts joined in build order: WatchRightL. -/
import Derived.Test.YtbkhngoehoiccaaGreatA44
namespace Go.Proofs.YtbkhngoehoiccaaGreat
open Go.RowKit
structure RightP (m : Int) (K : List NodeD) (S : List StateD) (L : List DefD) (M : List WaitD) (nx : Int) (bz : Bool) (C : List ClassD) : Prop where
  sf : smallF K
  sc : ∀ c ∈ coreCl C, SmallCl c
  le : S.length = K.length
  rf : rightF m (coreL K) = true
  rk : rightK ⟨L, M, nx, bz⟩ = true
theorem RightP.w {m : Int} {K : List NodeD} {S : List StateD} {L : List DefD} {M : List WaitD} {nx : Int} {bz : Bool} {C : List ClassD} (h : RightP m K S L M nx bz C) : rightW m (coreL K) S ⟨L, M, nx, bz⟩ = true := by
  unfold rightW
  rw [decide_eq_true (by rw [coreL_len]; exact h.le), h.rf, h.rk]
  rfl
set_option maxHeartbeats 4000000 in
set_option maxRecDepth 100000 in
theorem lawright12_any (a : Option Addr) (len cap : Nat) (m : Int) (K : List NodeD) (sa : Option Addr) (sl sc : Nat) (S : List StateD) (da : Option Addr) (dl dc : Nat) (wa : Option Addr) (wl wc : Nat) (nx : Int) (bz : Bool) (L : List DefD) (M : List WaitD) (ca : Option Addr) (cl cc : Nat) (C : List ClassD) (w : World)
    (h : NodeRow w a len cap K) (hm : In64 m) (hs : StaRow w sa sl sc S) (hd : DefRow w da dl dc L) (ht : WaitRow w wa wl wc M) (hc : ClsRow w ca cl cc C) :
    Calls Tryz.prog 28 #[forV a len cap m, .slice sa sl sc, deskV da dl dc wa wl wc nx bz, .slice ca cl cc] w fun e w' => ∃ r, e = .returned (.bool r) ∧ Below w.heap.size w w' ∧ (r = true → RightP m K S L M nx bz C) := by
  have FX := Lib.hid (FD.start (m := m) (nx := nx) (bz := bz) h hd ht)
  have hl := h.len64
  have hsl := hs.len64
  have HKL := Lib.hid h.hlen
  have HSL := Lib.hid hs.hlen
  obtain ⟨q0, hq0⟩ : ∃ q, shortF K = q := ⟨_, rfl⟩
  obtain ⟨q1, hq1⟩ : ∃ q, shortK L M = q := ⟨_, rfl⟩
  obtain ⟨q2, hq2⟩ : ∃ q, shortCl (coreCl C) = q := ⟨_, rfl⟩
  obtain ⟨q3, hq3⟩ : ∃ q, rightF m (coreL K) = q := ⟨_, rfl⟩
  obtain ⟨q4, hq4⟩ : ∃ q, rightK ⟨L, M, nx, bz⟩ = q := ⟨_, rfl⟩
  have S3 : Hid (∀ V, NodeRow V a len cap K → Calls Tryz.prog 8 #[forV a len cap m] V fun e w' => e = .returned (.bool q0) ∧ Below V.heap.size V w') := Lib.hid (fun V h1 => by
    have h := refshortF_any a len cap m K V h1
    rw [hq0] at h
    exact h)
  have S9 : Hid (∀ V, DefRow V da dl dc L → WaitRow V wa wl wc M → Calls Tryz.prog 9 #[deskV da dl dc wa wl wc nx bz] V fun e w' => e = .returned (.bool q1) ∧ Below V.heap.size V w') := Lib.hid (fun V h1 h2 => by
    have h := refshort9_any da dl dc wa wl wc nx bz L M V h1 h2
    rw [hq1] at h
    exact h)
  have S12 : Hid (∀ V, Below w.heap.size w V → Calls Tryz.prog 10 #[.slice ca cl cc] V fun e w' => e = .returned (.bool q2) ∧ Below V.heap.size V w') := Lib.hid (fun V hb => by
    have h := refshort12_any ca cl cc C V (hc.below hb)
    rw [hq2] at h
    exact h)
  have R9 : Hid (∀ V, DefRow V da dl dc L → WaitRow V wa wl wc M → Calls Tryz.prog 49 #[deskV da dl dc wa wl wc nx bz] V fun e w' => e = .returned (.bool q4) ∧ Below V.heap.size V w') := Lib.hid (fun V h1 h2 => by
    have h := deskright_any da dl dc wa wl wc nx bz L M V h1 h2
    rw [hq4] at h
    exact h)
  have HM := Lib.hid hm
  (have z0 := FX.out.f.c0; have z1 := FX.out.f.c1; have d0 := FX.out.d.c0; have d1 := FX.out.d.c1; have d2 := FX.out.d.c2; have d3 := FX.out.d.c3)
  clear h hm hs hd ht hc
  cases q0 with
  | false => clear hq0 hq1 hq2 hq3 hq4; (go_enter Tryz.func28, Tryz.ntmps28; go_wp2_with (first
                                                                                                                                                 | (go_at_call 8; (with_reducible refine (S3.out _ FX.out.f.row).mono ?_); rintro e w5 ⟨rfl, hb⟩; (clear z0 z1 d0 d1 d2 d3; have FX := Lib.hid (FX.out.keep hb); (have z0 := FX.out.f.c0; have z1 := FX.out.f.c1; have d0 := FX.out.d.c0; have d1 := FX.out.d.c1; have d2 := FX.out.d.c2; have d3 := FX.out.d.c3); clear hb))
                                                                                                                                                 | (go_at_call 9; (with_reducible refine (S9.out _ FX.out.d.d FX.out.d.t).mono ?_); rintro e w5 ⟨rfl, hb⟩; (clear z0 z1 d0 d1 d2 d3; have FX := Lib.hid (FX.out.keep hb); (have z0 := FX.out.f.c0; have z1 := FX.out.f.c1; have d0 := FX.out.d.c0; have d1 := FX.out.d.c1; have d2 := FX.out.d.c2; have d3 := FX.out.d.c3); clear hb))
                                                                                                                                                 | (go_at_call 10; (with_reducible refine (S12.out _ FX.out.f.below).mono ?_); rintro e w5 ⟨rfl, hb⟩; (clear z0 z1 d0 d1 d2 d3; have FX := Lib.hid (FX.out.keep hb); (have z0 := FX.out.f.c0; have z1 := FX.out.f.c1; have d0 := FX.out.d.c0; have d1 := FX.out.d.c1; have d2 := FX.out.d.c2; have d3 := FX.out.d.c3); clear hb))
                                                                                                                                                 | (go_at_call 48; (with_reducible refine (R3.out _ FX.out.f.row).mono ?_); rintro e w5 ⟨rfl, hb⟩; (clear z0 z1 d0 d1 d2 d3; have FX := Lib.hid (FX.out.keep hb); (have z0 := FX.out.f.c0; have z1 := FX.out.f.c1; have d0 := FX.out.d.c0; have d1 := FX.out.d.c1; have d2 := FX.out.d.c2; have d3 := FX.out.d.c3); clear hb))
                                                                                                                                                 | (go_at_call 49; (with_reducible refine (R9.out _ FX.out.d.d FX.out.d.t).mono ?_); rintro e w5 ⟨rfl, hb⟩; (clear z0 z1 d0 d1 d2 d3; have FX := Lib.hid (FX.out.keep hb); (have z0 := FX.out.f.c0; have z1 := FX.out.f.c1; have d0 := FX.out.d.c0; have d1 := FX.out.d.c1; have d2 := FX.out.d.c2; have d3 := FX.out.d.c3); clear hb))); go_ret; exact ⟨false, rfl, FX.out.f.below, fun e => by cases e⟩)
  | true =>
  have SM := Lib.hid (small_of_short hq0)
  have R3 : Hid (∀ V, NodeRow V a len cap K → Calls Tryz.prog 48 #[forV a len cap m] V fun e w' => e = .returned (.bool q3) ∧ Below V.heap.size V w') := Lib.hid (fun V h1 => by
    have h := rightF_any a len cap m K V h1 HM.out SM.out
    rw [hq3] at h
    exact h)
  clear hq0
  cases q1 with
  | false => clear hq1 hq2 hq3 hq4; (go_enter Tryz.func28, Tryz.ntmps28; go_wp2_with (first
                                                                                                                                             | (go_at_call 8; (with_reducible refine (S3.out _ FX.out.f.row).mono ?_); rintro e w5 ⟨rfl, hb⟩; (clear z0 z1 d0 d1 d2 d3; have FX := Lib.hid (FX.out.keep hb); (have z0 := FX.out.f.c0; have z1 := FX.out.f.c1; have d0 := FX.out.d.c0; have d1 := FX.out.d.c1; have d2 := FX.out.d.c2; have d3 := FX.out.d.c3); clear hb))
                                                                                                                                             | (go_at_call 9; (with_reducible refine (S9.out _ FX.out.d.d FX.out.d.t).mono ?_); rintro e w5 ⟨rfl, hb⟩; (clear z0 z1 d0 d1 d2 d3; have FX := Lib.hid (FX.out.keep hb); (have z0 := FX.out.f.c0; have z1 := FX.out.f.c1; have d0 := FX.out.d.c0; have d1 := FX.out.d.c1; have d2 := FX.out.d.c2; have d3 := FX.out.d.c3); clear hb))
                                                                                                                                             | (go_at_call 10; (with_reducible refine (S12.out _ FX.out.f.below).mono ?_); rintro e w5 ⟨rfl, hb⟩; (clear z0 z1 d0 d1 d2 d3; have FX := Lib.hid (FX.out.keep hb); (have z0 := FX.out.f.c0; have z1 := FX.out.f.c1; have d0 := FX.out.d.c0; have d1 := FX.out.d.c1; have d2 := FX.out.d.c2; have d3 := FX.out.d.c3); clear hb))
                                                                                                                                             | (go_at_call 48; (with_reducible refine (R3.out _ FX.out.f.row).mono ?_); rintro e w5 ⟨rfl, hb⟩; (clear z0 z1 d0 d1 d2 d3; have FX := Lib.hid (FX.out.keep hb); (have z0 := FX.out.f.c0; have z1 := FX.out.f.c1; have d0 := FX.out.d.c0; have d1 := FX.out.d.c1; have d2 := FX.out.d.c2; have d3 := FX.out.d.c3); clear hb))
                                                                                                                                             | (go_at_call 49; (with_reducible refine (R9.out _ FX.out.d.d FX.out.d.t).mono ?_); rintro e w5 ⟨rfl, hb⟩; (clear z0 z1 d0 d1 d2 d3; have FX := Lib.hid (FX.out.keep hb); (have z0 := FX.out.f.c0; have z1 := FX.out.f.c1; have d0 := FX.out.d.c0; have d1 := FX.out.d.c1; have d2 := FX.out.d.c2; have d3 := FX.out.d.c3); clear hb))); go_ret; exact ⟨false, rfl, FX.out.f.below, fun e => by cases e⟩)
  | true =>
  clear hq1
  cases q2 with
  | false => clear hq2 hq3 hq4; (go_enter Tryz.func28, Tryz.ntmps28; go_wp2_with (first
                                                                                                                                         | (go_at_call 8; (with_reducible refine (S3.out _ FX.out.f.row).mono ?_); rintro e w5 ⟨rfl, hb⟩; (clear z0 z1 d0 d1 d2 d3; have FX := Lib.hid (FX.out.keep hb); (have z0 := FX.out.f.c0; have z1 := FX.out.f.c1; have d0 := FX.out.d.c0; have d1 := FX.out.d.c1; have d2 := FX.out.d.c2; have d3 := FX.out.d.c3); clear hb))
                                                                                                                                         | (go_at_call 9; (with_reducible refine (S9.out _ FX.out.d.d FX.out.d.t).mono ?_); rintro e w5 ⟨rfl, hb⟩; (clear z0 z1 d0 d1 d2 d3; have FX := Lib.hid (FX.out.keep hb); (have z0 := FX.out.f.c0; have z1 := FX.out.f.c1; have d0 := FX.out.d.c0; have d1 := FX.out.d.c1; have d2 := FX.out.d.c2; have d3 := FX.out.d.c3); clear hb))
                                                                                                                                         | (go_at_call 10; (with_reducible refine (S12.out _ FX.out.f.below).mono ?_); rintro e w5 ⟨rfl, hb⟩; (clear z0 z1 d0 d1 d2 d3; have FX := Lib.hid (FX.out.keep hb); (have z0 := FX.out.f.c0; have z1 := FX.out.f.c1; have d0 := FX.out.d.c0; have d1 := FX.out.d.c1; have d2 := FX.out.d.c2; have d3 := FX.out.d.c3); clear hb))
                                                                                                                                         | (go_at_call 48; (with_reducible refine (R3.out _ FX.out.f.row).mono ?_); rintro e w5 ⟨rfl, hb⟩; (clear z0 z1 d0 d1 d2 d3; have FX := Lib.hid (FX.out.keep hb); (have z0 := FX.out.f.c0; have z1 := FX.out.f.c1; have d0 := FX.out.d.c0; have d1 := FX.out.d.c1; have d2 := FX.out.d.c2; have d3 := FX.out.d.c3); clear hb))
                                                                                                                                         | (go_at_call 49; (with_reducible refine (R9.out _ FX.out.d.d FX.out.d.t).mono ?_); rintro e w5 ⟨rfl, hb⟩; (clear z0 z1 d0 d1 d2 d3; have FX := Lib.hid (FX.out.keep hb); (have z0 := FX.out.f.c0; have z1 := FX.out.f.c1; have d0 := FX.out.d.c0; have d1 := FX.out.d.c1; have d2 := FX.out.d.c2; have d3 := FX.out.d.c3); clear hb))); go_ret; exact ⟨false, rfl, FX.out.f.below, fun e => by cases e⟩)
  | true =>
  have SC := Lib.hid (shortCl_small hq2)
  clear hq2
  by_cases hle : sl = len
  · have e1 : ((sl : Int) == (len : Int)) = true := by rw [hle]; simp
    have HLE := Lib.hid hle
    clear hle
    cases q3 with
    | false => clear hq3 hq4; (go_enter Tryz.func28, Tryz.ntmps28; go_wp2_with (first
                                                                                                                                       | (go_at_call 8; (with_reducible refine (S3.out _ FX.out.f.row).mono ?_); rintro e w5 ⟨rfl, hb⟩; (clear z0 z1 d0 d1 d2 d3; have FX := Lib.hid (FX.out.keep hb); (have z0 := FX.out.f.c0; have z1 := FX.out.f.c1; have d0 := FX.out.d.c0; have d1 := FX.out.d.c1; have d2 := FX.out.d.c2; have d3 := FX.out.d.c3); clear hb))
                                                                                                                                       | (go_at_call 9; (with_reducible refine (S9.out _ FX.out.d.d FX.out.d.t).mono ?_); rintro e w5 ⟨rfl, hb⟩; (clear z0 z1 d0 d1 d2 d3; have FX := Lib.hid (FX.out.keep hb); (have z0 := FX.out.f.c0; have z1 := FX.out.f.c1; have d0 := FX.out.d.c0; have d1 := FX.out.d.c1; have d2 := FX.out.d.c2; have d3 := FX.out.d.c3); clear hb))
                                                                                                                                       | (go_at_call 10; (with_reducible refine (S12.out _ FX.out.f.below).mono ?_); rintro e w5 ⟨rfl, hb⟩; (clear z0 z1 d0 d1 d2 d3; have FX := Lib.hid (FX.out.keep hb); (have z0 := FX.out.f.c0; have z1 := FX.out.f.c1; have d0 := FX.out.d.c0; have d1 := FX.out.d.c1; have d2 := FX.out.d.c2; have d3 := FX.out.d.c3); clear hb))
                                                                                                                                       | (go_at_call 48; (with_reducible refine (R3.out _ FX.out.f.row).mono ?_); rintro e w5 ⟨rfl, hb⟩; (clear z0 z1 d0 d1 d2 d3; have FX := Lib.hid (FX.out.keep hb); (have z0 := FX.out.f.c0; have z1 := FX.out.f.c1; have d0 := FX.out.d.c0; have d1 := FX.out.d.c1; have d2 := FX.out.d.c2; have d3 := FX.out.d.c3); clear hb))
                                                                                                                                       | (go_at_call 49; (with_reducible refine (R9.out _ FX.out.d.d FX.out.d.t).mono ?_); rintro e w5 ⟨rfl, hb⟩; (clear z0 z1 d0 d1 d2 d3; have FX := Lib.hid (FX.out.keep hb); (have z0 := FX.out.f.c0; have z1 := FX.out.f.c1; have d0 := FX.out.d.c0; have d1 := FX.out.d.c1; have d2 := FX.out.d.c2; have d3 := FX.out.d.c3); clear hb))); go_ret; exact ⟨false, rfl, FX.out.f.below, fun e => by cases e⟩)
    | true =>
    have RF := Lib.hid hq3
    clear hq3
    cases q4 with
    | false => clear hq4; (go_enter Tryz.func28, Tryz.ntmps28; go_wp2_with (first
                                                                                                                                   | (go_at_call 8; (with_reducible refine (S3.out _ FX.out.f.row).mono ?_); rintro e w5 ⟨rfl, hb⟩; (clear z0 z1 d0 d1 d2 d3; have FX := Lib.hid (FX.out.keep hb); (have z0 := FX.out.f.c0; have z1 := FX.out.f.c1; have d0 := FX.out.d.c0; have d1 := FX.out.d.c1; have d2 := FX.out.d.c2; have d3 := FX.out.d.c3); clear hb))
                                                                                                                                   | (go_at_call 9; (with_reducible refine (S9.out _ FX.out.d.d FX.out.d.t).mono ?_); rintro e w5 ⟨rfl, hb⟩; (clear z0 z1 d0 d1 d2 d3; have FX := Lib.hid (FX.out.keep hb); (have z0 := FX.out.f.c0; have z1 := FX.out.f.c1; have d0 := FX.out.d.c0; have d1 := FX.out.d.c1; have d2 := FX.out.d.c2; have d3 := FX.out.d.c3); clear hb))
                                                                                                                                   | (go_at_call 10; (with_reducible refine (S12.out _ FX.out.f.below).mono ?_); rintro e w5 ⟨rfl, hb⟩; (clear z0 z1 d0 d1 d2 d3; have FX := Lib.hid (FX.out.keep hb); (have z0 := FX.out.f.c0; have z1 := FX.out.f.c1; have d0 := FX.out.d.c0; have d1 := FX.out.d.c1; have d2 := FX.out.d.c2; have d3 := FX.out.d.c3); clear hb))
                                                                                                                                   | (go_at_call 48; (with_reducible refine (R3.out _ FX.out.f.row).mono ?_); rintro e w5 ⟨rfl, hb⟩; (clear z0 z1 d0 d1 d2 d3; have FX := Lib.hid (FX.out.keep hb); (have z0 := FX.out.f.c0; have z1 := FX.out.f.c1; have d0 := FX.out.d.c0; have d1 := FX.out.d.c1; have d2 := FX.out.d.c2; have d3 := FX.out.d.c3); clear hb))
                                                                                                                                   | (go_at_call 49; (with_reducible refine (R9.out _ FX.out.d.d FX.out.d.t).mono ?_); rintro e w5 ⟨rfl, hb⟩; (clear z0 z1 d0 d1 d2 d3; have FX := Lib.hid (FX.out.keep hb); (have z0 := FX.out.f.c0; have z1 := FX.out.f.c1; have d0 := FX.out.d.c0; have d1 := FX.out.d.c1; have d2 := FX.out.d.c2; have d3 := FX.out.d.c3); clear hb))); go_ret; exact ⟨false, rfl, FX.out.f.below, fun e => by cases e⟩)
    | true =>
    have RK := Lib.hid hq4
    clear hq4
    go_enter Tryz.func28, Tryz.ntmps28
    go_wp2_with (first
                    | (go_at_call 8; (with_reducible refine (S3.out _ FX.out.f.row).mono ?_); rintro e w5 ⟨rfl, hb⟩; (clear z0 z1 d0 d1 d2 d3; have FX := Lib.hid (FX.out.keep hb); (have z0 := FX.out.f.c0; have z1 := FX.out.f.c1; have d0 := FX.out.d.c0; have d1 := FX.out.d.c1; have d2 := FX.out.d.c2; have d3 := FX.out.d.c3); clear hb))
                    | (go_at_call 9; (with_reducible refine (S9.out _ FX.out.d.d FX.out.d.t).mono ?_); rintro e w5 ⟨rfl, hb⟩; (clear z0 z1 d0 d1 d2 d3; have FX := Lib.hid (FX.out.keep hb); (have z0 := FX.out.f.c0; have z1 := FX.out.f.c1; have d0 := FX.out.d.c0; have d1 := FX.out.d.c1; have d2 := FX.out.d.c2; have d3 := FX.out.d.c3); clear hb))
                    | (go_at_call 10; (with_reducible refine (S12.out _ FX.out.f.below).mono ?_); rintro e w5 ⟨rfl, hb⟩; (clear z0 z1 d0 d1 d2 d3; have FX := Lib.hid (FX.out.keep hb); (have z0 := FX.out.f.c0; have z1 := FX.out.f.c1; have d0 := FX.out.d.c0; have d1 := FX.out.d.c1; have d2 := FX.out.d.c2; have d3 := FX.out.d.c3); clear hb))
                    | (go_at_call 48; (with_reducible refine (R3.out _ FX.out.f.row).mono ?_); rintro e w5 ⟨rfl, hb⟩; (clear z0 z1 d0 d1 d2 d3; have FX := Lib.hid (FX.out.keep hb); (have z0 := FX.out.f.c0; have z1 := FX.out.f.c1; have d0 := FX.out.d.c0; have d1 := FX.out.d.c1; have d2 := FX.out.d.c2; have d3 := FX.out.d.c3); clear hb))
                    | (go_at_call 49; (with_reducible refine (R9.out _ FX.out.d.d FX.out.d.t).mono ?_); rintro e w5 ⟨rfl, hb⟩; (clear z0 z1 d0 d1 d2 d3; have FX := Lib.hid (FX.out.keep hb); (have z0 := FX.out.f.c0; have z1 := FX.out.f.c1; have d0 := FX.out.d.c0; have d1 := FX.out.d.c1; have d2 := FX.out.d.c2; have d3 := FX.out.d.c3); clear hb)))
    go_ret
    exact ⟨true, rfl, FX.out.f.below, fun _ => ⟨SM.out, SC.out, by rw [HSL.out, HKL.out, HLE.out], RF.out, RK.out⟩⟩
  · have e1 : ((sl : Int) == (len : Int)) = false := beq_eq_false_iff_ne.2 (by omega)
    clear hle hq3 hq4
    (go_enter Tryz.func28, Tryz.ntmps28; go_wp2_with (first
                                                                                                             | (go_at_call 8; (with_reducible refine (S3.out _ FX.out.f.row).mono ?_); rintro e w5 ⟨rfl, hb⟩; (clear z0 z1 d0 d1 d2 d3; have FX := Lib.hid (FX.out.keep hb); (have z0 := FX.out.f.c0; have z1 := FX.out.f.c1; have d0 := FX.out.d.c0; have d1 := FX.out.d.c1; have d2 := FX.out.d.c2; have d3 := FX.out.d.c3); clear hb))
                                                                                                             | (go_at_call 9; (with_reducible refine (S9.out _ FX.out.d.d FX.out.d.t).mono ?_); rintro e w5 ⟨rfl, hb⟩; (clear z0 z1 d0 d1 d2 d3; have FX := Lib.hid (FX.out.keep hb); (have z0 := FX.out.f.c0; have z1 := FX.out.f.c1; have d0 := FX.out.d.c0; have d1 := FX.out.d.c1; have d2 := FX.out.d.c2; have d3 := FX.out.d.c3); clear hb))
                                                                                                             | (go_at_call 10; (with_reducible refine (S12.out _ FX.out.f.below).mono ?_); rintro e w5 ⟨rfl, hb⟩; (clear z0 z1 d0 d1 d2 d3; have FX := Lib.hid (FX.out.keep hb); (have z0 := FX.out.f.c0; have z1 := FX.out.f.c1; have d0 := FX.out.d.c0; have d1 := FX.out.d.c1; have d2 := FX.out.d.c2; have d3 := FX.out.d.c3); clear hb))
                                                                                                             | (go_at_call 48; (with_reducible refine (R3.out _ FX.out.f.row).mono ?_); rintro e w5 ⟨rfl, hb⟩; (clear z0 z1 d0 d1 d2 d3; have FX := Lib.hid (FX.out.keep hb); (have z0 := FX.out.f.c0; have z1 := FX.out.f.c1; have d0 := FX.out.d.c0; have d1 := FX.out.d.c1; have d2 := FX.out.d.c2; have d3 := FX.out.d.c3); clear hb))
                                                                                                             | (go_at_call 49; (with_reducible refine (R9.out _ FX.out.d.d FX.out.d.t).mono ?_); rintro e w5 ⟨rfl, hb⟩; (clear z0 z1 d0 d1 d2 d3; have FX := Lib.hid (FX.out.keep hb); (have z0 := FX.out.f.c0; have z1 := FX.out.f.c1; have d0 := FX.out.d.c0; have d1 := FX.out.d.c1; have d2 := FX.out.d.c2; have d3 := FX.out.d.c3); clear hb))); go_ret; exact ⟨false, rfl, FX.out.f.below, fun e => by cases e⟩)
theorem SRow.take12 {α : Type} {enc : α → List Value} {size : Nat} {w : World} {a : Option Addr} {len cap : Nat} {L : List α} (h : SRow enc size w a len cap L) {k : Nat} (hk : k ≤ len) : SRow enc size w a k cap (L.take k) := by
  refine ⟨by rw [List.length_take, h.hlen]; omega, by have := h.hcap; omega, h.hmax, fun y hy => h.henc y (List.mem_of_mem_take hy), ?_⟩
  rcases h.cells with h0 | ⟨b, o, e, hlt, hc⟩
  · exact .inl (by omega)
  · refine .inr ⟨b, o, e, hlt, fun i y j v hy hv => ?_⟩
    refine hc i y j v ?_ hv
    rw [List.getElem?_take] at hy
    split at hy
    · exact hy
    · cases hy
theorem SRow.drop12 {α : Type} {enc : α → List Value} {size : Nat} {w : World} {b o len cap : Nat} {L : List α} (h : SRow enc size w (some ⟨b, o, none⟩) len cap L) {k : Nat} (hk : k ≤ len) : SRow enc size w (some ⟨b, o + k * size, none⟩) (len - k) (cap - k) (L.drop k) := by
  refine ⟨by rw [List.length_drop, h.hlen], by have := h.hcap; omega, by have := h.hmax; omega, fun y hy => h.henc y (List.mem_of_mem_drop hy), ?_⟩
  rcases h.cells with h0 | ⟨b', o', e, hlt, hc⟩
  · exact .inl (by omega)
  · injection e with e
    injection e with e1 e2
    subst e1; subst e2
    refine .inr ⟨b, o + k * size, rfl, hlt, fun i y j v hy hv => ?_⟩
    have := hc (k + i) y j v (by rw [← List.getElem?_drop]; exact hy) hv
    rw [show o + k * size + i * size + j = o + (k + i) * size + j by rw [Nat.add_mul]; omega]
    exact this
theorem SRow.void12 {α : Type} {enc : α → List Value} {size : Nat} {w : World} {a : Option Addr} {cap : Nat} (hc : cap ≤ maxLen) : SRow enc size w a 0 cap ([] : List α) := ⟨rfl, by omega, hc, fun x hx => (by cases hx), .inl rfl⟩
end Go.Proofs.YtbkhngoehoiccaaGreat
