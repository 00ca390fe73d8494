/- Texts joined in build order: AttrRef1 AttrRight. -/
import Derived.Test.YtnjoimedilonnaaGreatChecked
import Derived.Test.YtnjoimedilonnaaGreatC09
import Derived.WalkLawsBesides
import Derived.WalkSmall
import Derived.Lib.Hide
import Derived.Deep.QuietTactic
import Derived.BigQuiet
import Derived.Test.YtnjoimedilonnaaGreatC08
namespace Go.Proofs.YtnjoimedilonnaaGreat
open Go.RowKit
theorem refat_any (a : Option Addr) (len cap : Nat) (L : AL) (n : ByteArray) (w : World) (h : AttrRow w a len cap L) :
    Calls Tryz.prog 36 #[.slice a len cap, .string n] w fun e w' => e = .returned (.int .i64 (atL L n.toList)) ∧ w = w' := by
  have hl := h.len64
  go_enter Tryz.func36, Tryz.ntmps36
  go_wp2
  go_loop [5] (fun i => ∃ k : Nat, k ≤ len ∧ i = .int .i64 k ∧ k ≤ atN L n.toList) (fun i => len - (intOf i).toNat)
  case atStart => exact ⟨0, Nat.zero_le _, rfl, Nat.zero_le _⟩
  case round =>
    obtain ⟨k, hk, rfl, hat⟩ := hrel
    by_cases hlt : k < len
    · obtain ⟨b, off, xn, xv, rfl, hb, hx, hc1, hc2, _, _⟩ := h.get hlt
      have HX := Lib.hid hx
      clear hx
      by_cases he : xn.toList = n.toList
      · have e1 : (xn.toList == n.toList) = true := beq_iff_eq.2 he
        have HR := Lib.hid (atL_here hat HX.out (show keyIs n.toList (xn, xv) = true from e1))
        clear he
        go_wp2
        go_ret
        exact ⟨ret_int HR.out.symm, rfl⟩
      · have e1 : (xn.toList == n.toList) = false := beq_eq_false_iff_ne.2 he
        have HR := atN_step hat HX.out (show keyIs n.toList (xn, xv) = false from e1)
        clear he
        go_wp2
        go_round
        case rel => exact ⟨k + 1, by omega, by go_num, HR⟩
        case measure => simp [intOf]; omega
    · have HR := Lib.hid (atL_none hat (by have := h.hlen; omega))
      go_wp2
      go_ret
      exact ⟨ret_int HR.out.symm, rfl⟩
end Go.Proofs.YtnjoimedilonnaaGreat
namespace Go.Proofs.YtnjoimedilonnaaGreat
open Go.RowKit
set_option maxHeartbeats 16000000 in
set_option maxRecDepth 100000 in
theorem refrightA_any (a : Option Addr) (len cap : Nat) (L : AL) (w : World) (h : AttrRow w a len cap L) :
    Calls Tryz.prog 34 #[.slice a len cap] w fun e w' => e = .returned (.bool (rightA L)) ∧ Below w.heap.size w w' := by
  have hl := h.len64
  by_cases h40 : 40 < len
  · have HR := Lib.hid (rightA_long (L := L) (by rw [h.hlen]; exact h40))
    go_enter Tryz.func34, Tryz.ntmps34
    go_wp2
    go_ret
    exact ⟨ret_bool HR.out.symm, Below.refl _ _⟩
  go_enter Tryz.func34, Tryz.ntmps34
  go_wp2
  go_loopw [3] (fun i wr => ∃ k : Nat, k ≤ len ∧ i = .int .i64 k ∧ Below w.heap.size w wr ∧ Hid (∀ (j : Nat) x, j < k → L[j]? = some x → okAt L j x = true)) (fun i _ => len - (intOf i).toNat)
  case atStart => exact ⟨0, Nat.zero_le _, rfl, Below.refl _ _, Lib.hid (fun j x hj _ => absurd hj (by omega))⟩
  case round =>
    obtain ⟨k, hk, rfl, HB, HA⟩ := hrel
    by_cases hlt : k < len
    · have h2 := h.below HB
      obtain ⟨b, off, xn, xv, rfl, hblt, hx, hc1, hc2, hn1, hn2⟩ := h2.get hlt
      have hbw : b < w.heap.size := by
        obtain ⟨b', off', _, _, ha, hb', _⟩ := h.get hlt
        injection ha with ha; injection ha with ha; rw [ha]; exact hb'
      have HX := Lib.hid hx
      have HN1 := Lib.hid hn1
      have HN2 := Lib.hid hn2
      clear hx hn1 hn2
      have E1 := Ext.cell hc1 hblt
      have E2 := Ext.cell hc2 hblt
      obtain ⟨z, hz⟩ : ∃ z, atL L xn.toList = z := ⟨_, rfl⟩
      have HZ := Lib.hid hz
      have C3 : Hid (∀ x : Ext wr, Calls Tryz.prog 36 #[.slice (some ⟨b, off, none⟩) len cap, .string xn] x.v fun e w' => e = .returned (.int .i64 z) ∧ x.v = w') := Lib.hid (fun x => by
        have := refat_any (some ⟨b, off, none⟩) len cap L xn x.v (h2.below x.below)
        rwa [hz] at this)
      clear hz
      by_cases hr : rightL xn.toList = true
      rotate_left
      · have hr : rightL xn.toList = false := by simpa using hr
        have HR := Lib.hid (rightA_stop HX.out (show okAt L k (xn, xv) = false by unfold okAt; rw [hr]; rfl))
        have C1 : Hid (∀ W, Calls Tryz.prog 31 #[.string xn] W fun e w' => e = .returned (.bool false) ∧ W = w') := Lib.hid (fun W => by
          have := refright_any xn W HN1.out
          rwa [hr] at this)
        have C2 : Hid True := trivial
        clear hr
        go_wp2
        refine wp_region_ext (by kernel_rfl) (by kernel_rfl) ?_
        repeat (go_big_quiet_step (first
          | (go_at_call 31; exact Ext.call_same (C1.out _))
          | (go_at_call 36; exact Ext.call_same (C3.out _))))
        refine wpQuiet_nil ?_
        intro w' hw'
        obtain ⟨⟨w1, hb1⟩, hw''⟩ := hw'
        dsimp only at hw''
        subst hw''
        go_wp2
        go_ret
        exact ⟨ret_bool HR.out.symm, HB.trans (hb1.mono HB.size)⟩
      have C1 : Hid (∀ W, Calls Tryz.prog 31 #[.string xn] W fun e w' => e = .returned (.bool true) ∧ W = w') := Lib.hid (fun W => by
        have := refright_any xn W HN1.out
        rwa [hr] at this)
      have C2 : Hid (∀ W, Calls Tryz.prog 32 #[.string xn] W fun e w' => e = .returned (.string (ofL (smallL xn.toList))) ∧ Below W.heap.size W w') := Lib.hid (fun W => by
        have h40' : xn.toList.length ≤ 40 := rightL_len hr
        rw [tl_len] at h40'
        exact refsmall_any xn W (by omega))
      have HRT := Lib.hid hr
      clear hr
      by_cases hsm : smallL xn.toList = xn.toList
      rotate_left
      · have s1 : (smallL xn.toList == xn.toList) = false := beq_eq_false_iff_ne.2 hsm
        have HR := Lib.hid (rightA_stop HX.out (show okAt L k (xn, xv) = false by unfold okAt; rw [s1]; simp))
        clear hsm
        go_wp2
        refine wp_region_ext (by kernel_rfl) (by kernel_rfl) ?_
        repeat (go_big_quiet_step (first
          | (go_at_call 31; exact Ext.call_same (C1.out _))
          | (go_at_call 32; exact Ext.call_below (C2.out _))
          | (go_at_call 36; exact Ext.call_same (C3.out _))))
        refine wpQuiet_nil ?_
        intro w' hw'
        obtain ⟨⟨w1, hb1⟩, hw''⟩ := hw'
        dsimp only at hw''
        subst hw''
        go_wp2
        go_ret
        exact ⟨ret_bool HR.out.symm, HB.trans (hb1.mono HB.size)⟩
      have s1 : (smallL xn.toList == xn.toList) = true := beq_iff_eq.2 hsm
      clear hsm
      by_cases hv : (200 : Int) < (xv.size : Int)
      · have HR := Lib.hid (rightA_stop HX.out (show okAt L k (xn, xv) = false by
          unfold okAt
          rw [decide_eq_false (show ¬ xv.size ≤ 200 by omega)]
          simp))
        have v1 : decide ((200 : Int) < (xv.size : Int)) = true := decide_eq_true hv
        clear hv
        go_wp2
        refine wp_region_ext (by kernel_rfl) (by kernel_rfl) ?_
        repeat (go_big_quiet_step (first
          | (go_at_call 31; exact Ext.call_same (C1.out _))
          | (go_at_call 32; exact Ext.call_below (C2.out _))
          | (go_at_call 36; exact Ext.call_same (C3.out _))))
        refine wpQuiet_nil ?_
        intro w' hw'
        obtain ⟨⟨w1, hb1⟩, hw''⟩ := hw'
        dsimp only at hw''
        subst hw''
        go_wp2
        go_ret
        exact ⟨ret_bool HR.out.symm, HB.trans (hb1.mono HB.size)⟩
      have v1 : decide ((200 : Int) < (xv.size : Int)) = false := decide_eq_false hv
      have HV := Lib.hid (show xv.size ≤ 200 by omega)
      clear hv
      by_cases hzk : z = (k : Int)
      · have z1 : (z == (k : Int)) = true := beq_iff_eq.2 hzk
        have z2 : (z != (k : Int)) = false := by unfold bne; rw [z1]; rfl
        have HO : Hid (okAt L k (xn, xv) = true) := Lib.hid (by
          unfold okAt
          have hk2 : atN L xn.toList = k := atL_nat (HZ.out.trans hzk)
          rw [HRT.out, s1, decide_eq_true HV.out, decide_eq_true hk2]
          rfl)
        clear hzk
        go_wp2
        refine wp_region_ext (by kernel_rfl) (by kernel_rfl) ?_
        repeat (go_big_quiet_step (first
          | (go_at_call 31; exact Ext.call_same (C1.out _))
          | (go_at_call 32; exact Ext.call_below (C2.out _))
          | (go_at_call 36; exact Ext.call_same (C3.out _))))
        refine wpQuiet_nil ?_
        intro w' hw'
        obtain ⟨⟨w1, hb1⟩, hw''⟩ := hw'
        dsimp only at hw''
        subst hw''
        go_wp2
        go_roundw
        case rel =>
          refine ⟨k + 1, by omega, by go_num, HB.trans (hb1.mono HB.size), Lib.hid (fun j x hj hx => ?_)⟩
          by_cases e : j = k
          · subst e
            rw [HX.out] at hx
            rw [← Option.some.inj hx]
            exact HO.out
          · exact HA.out j x (by omega) hx
        case measure => simp [intOf]; omega
      · have z1 : (z == (k : Int)) = false := beq_eq_false_iff_ne.2 hzk
        have z2 : (z != (k : Int)) = true := by unfold bne; rw [z1]; rfl
        have HR := Lib.hid (rightA_stop HX.out (show okAt L k (xn, xv) = false by
          unfold okAt
          have hk2 : ¬ atN L xn.toList = k := fun e => hzk (HZ.out.symm.trans (atL_of_nat e (by rw [h2.hlen]; exact hlt)))
          rw [decide_eq_false hk2]
          simp))
        clear hzk
        go_wp2
        refine wp_region_ext (by kernel_rfl) (by kernel_rfl) ?_
        repeat (go_big_quiet_step (first
          | (go_at_call 31; exact Ext.call_same (C1.out _))
          | (go_at_call 32; exact Ext.call_below (C2.out _))
          | (go_at_call 36; exact Ext.call_same (C3.out _))))
        refine wpQuiet_nil ?_
        intro w' hw'
        obtain ⟨⟨w1, hb1⟩, hw''⟩ := hw'
        dsimp only at hw''
        subst hw''
        go_wp2
        go_ret
        exact ⟨ret_bool HR.out.symm, HB.trans (hb1.mono HB.size)⟩
    · have HR := Lib.hid ((rightA_iff L).2 ⟨by rw [h.hlen]; omega, fun j x hx => HA.out j x (by
        obtain ⟨hl1, _⟩ := List.getElem?_eq_some_iff.1 hx
        have := h.hlen
        omega) hx⟩)
      go_wp2
      go_ret
      exact ⟨ret_bool HR.out.symm, HB⟩
end Go.Proofs.YtnjoimedilonnaaGreat
