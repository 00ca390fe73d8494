/- Texts joined in build order: Ref3Right. -/
import Derived.Test.YtnjoimedilonnaaGreatC37
import Derived.Test.YtnjoimedilonnaaGreatC13
namespace Go.Proofs.YtnjoimedilonnaaGreat
open Go.RowKit
theorem headDoc_at {F : List Core} {c : Core} (h : F[0]? = some c) : headDoc F = (c.kind == 0) := by
  cases F with
  | nil => simp at h
  | cons y t =>
    obtain rfl : y = c := by simpa using h
    rfl
theorem not_true {R : Bool} (h : R = true → False) : R = false := by
  cases R with
  | false => rfl
  | true => exact absurd rfl (fun e => h e)
set_option maxHeartbeats 16000000 in
set_option maxRecDepth 100000 in
theorem refrightN_any (a : Option Addr) (len cap : Nat) (m : Int) (L : List NodeD) (w : World) (h : NodeRow w a len cap L) :
    Calls Tryz.prog 7 #[forV a len cap m] w fun e w' => e = .returned (.bool (rightF m (coreL L))) ∧ Below w.heap.size w w' := by
  have HCL : Hid ((coreL L).length = len) := Lib.hid (by rw [coreL_len, h.hlen])
  have hlen := h.len64
  have BX := Lib.hid (Box.start (m := m) h)
  have HRF : Hid (rightF m (coreL L) = (decide (1 ≤ m) && decide (m ≤ 400) && decide ((len : Int) ≤ m) && headDoc (coreL L) && (coreL L).zipIdx.all (fun p => nodeOk (coreL L) p.2 p.1) && (List.range (coreL L).length).all (fun i => endsZ (nextUp (coreL L)) ((coreL L).length + 1) (i : Int)))) := Lib.hid (by unfold rightF; rw [HCL.out])
  have HFI := Lib.hid (rightF_iff m (coreL L))
  generalize rightF m (coreL L) = R at HRF HFI ⊢
  have z0 := BX.out.c0
  have z1 := BX.out.c1
  clear h
  by_cases q1 : m < 1
  · have f1 : decide (m < 1) = true := decide_eq_true q1
    have HR : Hid (R = false) := Lib.hid (by rw [HRF.out, decide_eq_false (show ¬ 1 ≤ m by omega)]; rfl)
    clear HRF HFI q1
    go_enter Tryz.func7, Tryz.ntmps7
    go_wp2
    go_ret
    exact ⟨ret_bool HR.out.symm, BX.out.below⟩
  have f1 : decide (m < 1) = false := decide_eq_false q1
  by_cases q2 : 400 < m
  · have f2 : decide (400 < m) = true := decide_eq_true q2
    have HR : Hid (R = false) := Lib.hid (by rw [HRF.out, decide_eq_false (show ¬ m ≤ 400 by omega)]; simp)
    clear HRF HFI q1 q2
    go_enter Tryz.func7, Tryz.ntmps7
    go_wp2
    go_ret
    exact ⟨ret_bool HR.out.symm, BX.out.below⟩
  have f2 : decide (400 < m) = false := decide_eq_false q2
  by_cases q3 : len = 0
  · have f3 : ((len : Int) == 0) = true := beq_iff_eq.2 (by omega)
    have HR : Hid (R = false) := Lib.hid (by
      have hz : coreL L = [] := List.length_eq_zero_iff.1 (by rw [HCL.out]; exact q3)
      rw [HRF.out, show headDoc (coreL L) = false by rw [hz]; rfl]
      simp)
    clear HRF HFI q1 q2 q3
    go_enter Tryz.func7, Tryz.ntmps7
    go_wp2
    go_ret
    exact ⟨ret_bool HR.out.symm, BX.out.below⟩
  have f3 : ((len : Int) == 0) = false := beq_eq_false_iff_ne.2 (by omega)
  by_cases q4 : m < (len : Int)
  · have f4 : decide (m < (len : Int)) = true := decide_eq_true q4
    have HR : Hid (R = false) := Lib.hid (by rw [HRF.out, decide_eq_false (show ¬ (len : Int) ≤ m by omega)]; simp)
    clear HRF HFI q1 q2 q3 q4
    go_enter Tryz.func7, Tryz.ntmps7
    go_wp2
    go_ret
    exact ⟨ret_bool HR.out.symm, BX.out.below⟩
  have f4 : decide (m < (len : Int)) = false := decide_eq_false q4
  obtain ⟨b, off, x0, rfl, hb, hx0, hat0, -⟩ := BX.out.row.get (show 0 < len by omega)
  have c0 := hat0.c0
  simp only [Nat.zero_mul, Nat.add_zero] at c0
  have g0 : decide ((len : Int) ≤ 0) = false := decide_eq_false (by omega)
  have g1 : decide (len ≤ 0) = false := decide_eq_false (by omega)
  have g2 : 0 < len := by omega
  have HD0 := Lib.hid (headDoc_at (coreL_get hx0))
  clear hat0 hx0
  by_cases q5 : x0.core.kind = 0
  rotate_left
  · have f5 : (x0.core.kind != 0) = true := bne_iff_ne.2 q5
    have HR : Hid (R = false) := Lib.hid (by rw [HRF.out, HD0.out, beq_eq_false_iff_ne.2 q5]; simp)
    clear HRF HFI q1 q2 q3 q4 q5
    go_enter Tryz.func7, Tryz.ntmps7
    go_wp2
    go_ret
    exact ⟨ret_bool HR.out.symm, BX.out.below⟩
  have f5 : (x0.core.kind != 0) = false := by rw [q5]; rfl
  have hl400 : len ≤ 400 := by omega
  have HHD : Hid (1 ≤ m ∧ m ≤ 400 ∧ ((coreL L).length : Int) ≤ m ∧ headDoc (coreL L) = true) := Lib.hid ⟨by omega, by omega, by rw [HCL.out]; omega, by rw [HD0.out, q5]; rfl⟩
  clear HRF q1 q2 q3 q4 q5 HD0
  go_enter Tryz.func7, Tryz.ntmps7
  go_wp2
  clear f1 f2 f3 f4 f5 c0 g0 g1
  go_loopw [3] (fun i wr => ∃ k : Nat, k ≤ len ∧ i = .int .i64 k ∧ Hid (∀ j y, j < k → (coreL L)[j]? = some y → nodeOk (coreL L) j y = true) ∧ Hid (Box w wr w.heap.size (some ⟨b, off, none⟩) len cap m L (coreL L))) (fun i _ => len - (intOf i).toNat)
  case atStart => exact ⟨0, Nat.zero_le _, rfl, Lib.hid (fun j y hj _ => absurd hj (Nat.not_lt_zero _)), BX⟩
  case round =>
    clear BX z0 z1
    obtain ⟨k, hk, rfl, HA, BX⟩ := hrel
    have z0 := BX.out.c0
    have z1 := BX.out.c1
    by_cases hlt : k < len
    · obtain ⟨b2, off2, y, hab, -, hy, -, -⟩ := BX.out.row.get hlt
      clear hab
      have HY := Lib.hid hy
      obtain ⟨r, hr⟩ : ∃ r, nodeOk (coreL L) k y.core = r := ⟨_, rfl⟩
      have CN : Hid (∀ W, NodeRow W (some ⟨b, off, none⟩) len cap L → Calls Tryz.prog 17 #[forV (some ⟨b, off, none⟩) len cap m, .int .i64 k] W fun e w' => e = .returned (.bool r) ∧ Below W.heap.size W w') := Lib.hid (fun W hW => by
        rw [← hr]
        exact refnode_any _ len cap m L k y W hW HY.out)
      have HRN := Lib.hid hr
      clear hy hr
      cases r with
      | false =>
        have HR : Hid (R = false) := Lib.hid (not_true (fun e => by
          have h1 := (HFI.out.1 e).2.1 k _ (coreL_get HY.out)
          rw [HRN.out] at h1
          cases h1))
        go_wp2_with (go_at_call 17; (refine (CN.out _ BX.out.row).mono ?_); rintro e w1 ⟨rfl, hb1⟩; have BX := Lib.hid (BX.out.keep hb1); have z0 := BX.out.c0; have z1 := BX.out.c1; clear hb1)
        go_ret
        exact ⟨ret_bool HR.out.symm, BX.out.below⟩
      | true =>
        have HAX : Hid (∀ j z, j < k + 1 → (coreL L)[j]? = some z → nodeOk (coreL L) j z = true) := Lib.hid (fun j z hj hz => by
          by_cases e : j = k
          · subst e
            rw [coreL_get HY.out] at hz
            rw [← Option.some.inj hz]
            exact HRN.out
          · exact HA.out j z (by omega) hz)
        go_wp2_with (go_at_call 17; (refine (CN.out _ BX.out.row).mono ?_); rintro e w1 ⟨rfl, hb1⟩; have BX := Lib.hid (BX.out.keep hb1); have z0 := BX.out.c0; have z1 := BX.out.c1; clear hb1)
        go_roundw
        case rel => exact ⟨k + 1, by omega, by go_num, HAX, BX⟩
        case measure => simp [intOf]; omega
    · have HALL : Hid (∀ j y, (coreL L)[j]? = some y → nodeOk (coreL L) j y = true) := Lib.hid (fun j y hy => HA.out j y (by
        have := (List.getElem?_eq_some_iff.1 hy).1
        rw [HCL.out] at this
        omega) hy)
      have UP : Hid (upIn (coreL L) len) := Lib.hid (by
        have h1 := nodes_eq.1 HALL.out
        have h2 := fit_up h1.1 h1.2
        rwa [HCL.out] at h2)
      clear HA
      go_wp2
      clear hlt
      go_loopw [4] (fun i wr => ∃ k : Nat, k ≤ len ∧ i = .int .i64 k ∧ Hid (∀ j : Nat, j < k → endsZ (nextUp (coreL L)) (len + 1) (j : Int) = true) ∧ Hid (Box w wr w.heap.size (some ⟨b, off, none⟩) len cap m L (coreL L))) (fun i _ => len - (intOf i).toNat)
      case atStart => exact ⟨0, Nat.zero_le _, rfl, Lib.hid (fun j hj => absurd hj (Nat.not_lt_zero _)), BX⟩
      case round =>
        clear BX z0 z1
        obtain ⟨k, hk, rfl, HA, BX⟩ := hrel
        have z0 := BX.out.c0
        by_cases hlt : k < len
        · go_wp2
          go_loopw [5, 6] (fun pz st wr => ∃ (z : Int) (s : Nat), pz = .int .i64 z ∧ st = .int .i64 s ∧ s ≤ len + 1 ∧ Hid (z = -1 ∨ (0 ≤ z ∧ z < (len : Int))) ∧ Hid (endsZ (nextUp (coreL L)) (len + 1 - s) z = endsZ (nextUp (coreL L)) (len + 1) (k : Int)) ∧ Hid (Box w wr w.heap.size (some ⟨b, off, none⟩) len cap m L (coreL L))) (fun _ st _ => len + 2 - (intOf st).toNat)
          case atStart => exact ⟨(k : Int), 0, rfl, rfl, by omega, Lib.hid (.inr ⟨by omega, by omega⟩), Lib.hid rfl, BX⟩
          case round =>
            clear BX z0
            obtain ⟨z, s, rfl, rfl, hs, HZ, HE, BX⟩ := hrel
            have z0 := BX.out.c0
            by_cases hz : z = -1
            · have e1 : (z != -1) = false := by rw [hz]; rfl
              have HAX : Hid (∀ j : Nat, j < k + 1 → endsZ (nextUp (coreL L)) (len + 1) (j : Int) = true) := Lib.hid (fun j hj => by
                by_cases e : j = k
                · rw [e, ← HE.out, hz]
                  exact endsZ_none _ _
                · exact HA.out j (by omega))
              clear hz
              go_wp2
              go_roundw
              case rel => exact ⟨k + 1, by omega, by go_num, HAX, BX⟩
              case measure => simp [intOf]; omega
            · have e1 : (z != -1) = true := bne_iff_ne.2 hz
              by_cases hsl : len < s
              · have e2 : decide ((len : Int) < (s : Int)) = true := decide_eq_true (by omega)
                have HR : Hid (R = false) := Lib.hid (not_true (fun e => by
                  have h1 := (HFI.out.1 e).2.2 k (by rw [HCL.out]; exact hlt)
                  rw [HCL.out, ← HE.out, show len + 1 - s = 0 by omega] at h1
                  exact hz (beq_iff_eq.1 h1)))
                clear hz
                go_wp2
                go_ret
                exact ⟨ret_bool HR.out.symm, BX.out.below⟩
              · have e2 : decide ((len : Int) < (s : Int)) = false := decide_eq_false (by omega)
                obtain ⟨hz0, hz1⟩ := HZ.out.resolve_left hz
                obtain ⟨d, rfl⟩ : ∃ d : Nat, z = d := ⟨z.toNat, by omega⟩
                obtain ⟨b2, off2, y, hab, hb2, hy, hat, -⟩ := BX.out.row.get (show d < len by omega)
                injection hab with hab
                injection hab with e3 e4
                subst e3 e4
                have c5 := hat.c5
                have c7 := hat.c7
                have HNX : Hid (nextUp (coreL L) (d : Int) = upC y.core) := Lib.hid (nextUp_at (coreL_get hy))
                have HUX : Hid (upC y.core = -1 ∨ (0 ≤ upC y.core ∧ upC y.core < (len : Int))) := Lib.hid (by rw [← HNX.out]; exact UP.out d hz0 hz1)
                have HEX : Hid (endsZ (nextUp (coreL L)) (len + 1 - (s + 1)) (upC y.core) = endsZ (nextUp (coreL L)) (len + 1) (k : Int)) := Lib.hid (by
                  rw [← HE.out, ← HNX.out, show len + 1 - s = (len + 1 - (s + 1)) + 1 by omega, endsZ_step hz])
                have f3 : decide ((d : Int) < 0) = false := decide_eq_false (by omega)
                have f4 : decide ((len : Int) ≤ (d : Int)) = false := decide_eq_false (by omega)
                have f5 : decide (len ≤ d) = false := decide_eq_false (by omega)
                clear hat hy hz
                by_cases hp : y.core.parent = -1
                · have e3 : (y.core.parent != -1) = false := by rw [hp]; rfl
                  have hu : upC y.core = y.core.host := by unfold upC; rw [if_pos hp]
                  rw [hu] at HUX HEX
                  clear hu hp
                  go_wp2
                  go_roundw
                  case rel => exact ⟨_, s + 1, rfl, by go_num, by omega, HUX, HEX, BX⟩
                  case measure => simp [intOf]; omega
                · have e3 : (y.core.parent != -1) = true := bne_iff_ne.2 hp
                  have hu : upC y.core = y.core.parent := by unfold upC; rw [if_neg hp]
                  rw [hu] at HUX HEX
                  clear hu hp
                  go_wp2
                  go_roundw
                  case rel => exact ⟨_, s + 1, rfl, by go_num, by omega, HUX, HEX, BX⟩
                  case measure => simp [intOf]; omega
        · have HR : Hid (R = true) := Lib.hid (HFI.out.2 ⟨HHD.out, HALL.out, fun j hj => by
            rw [HCL.out] at hj ⊢
            exact HA.out j (by omega)⟩)
          go_wp2
          go_ret
          exact ⟨ret_bool HR.out.symm, BX.out.below⟩
end Go.Proofs.YtnjoimedilonnaaGreat
