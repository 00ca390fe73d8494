/- instarref11's Same. -/
import Derived.Test.YtadlmjiebhpaoaaRef11Same
namespace Go.Proofs.Ytadlmjiebhpaoaa
open Go.RowKit
/-- Are two lines the same? -/
noncomputable def same11 (D E : LnD) : Bool := @decide (D = E) (Classical.propDecidable _)
theorem same11_yes {D E : LnD} (h : D = E) : same11 D E = true := @decide_eq_true _ (Classical.propDecidable _) h
theorem same11_no {D E : LnD} (h : D ≠ E) : same11 D E = false := @decide_eq_false _ (Classical.propDecidable _) h
theorem refintsB (a a' : Option Addr) (len cap len' cap' : Nat) (L M : List Int) (q : Bool) (hq : decide (L = M) = q) (w : World) (h : IntRow w a len cap L) (h' : IntRow w a' len' cap' M) :
    Calls Try.prog 25 #[.slice a len cap, .slice a' len' cap'] w fun e w' => e = .returned (.bool q) ∧ Below w.heap.size w w' :=
  (refints_any a a' len cap len' cap' L M w h h').mono (fun e w' h => ⟨by rw [h.1, hq], by obtain ⟨n, hn⟩ := h.2; rw [hn]; exact below_drewN (Below.refl _ _) n⟩)
theorem reftodosB (a a' : Option Addr) (len cap len' cap' : Nat) (L M : List TodoD) (q : Bool) (hq : decide (L = M) = q) (w : World) (h : TodoRow w a len cap L) (h' : TodoRow w a' len' cap' M) :
    Calls Try.prog 29 #[.slice a len cap, .slice a' len' cap'] w fun e w' => e = .returned (.bool q) ∧ Below w.heap.size w w' := by
  have h1 := reftodos_any a a' len cap len' cap' L M w h h'
  rw [hq] at h1
  exact h1
set_option maxHeartbeats 8000000 in
set_option maxRecDepth 100000 in
theorem refsame11_any (v v' : LnV) (w : World) (ht : LineAt w v) (ht' : LineAt w v') :
    Calls Try.prog 18 #[v.val, v'.val] w fun e w' => e = .returned (.bool (same11 v.dat v'.dat)) ∧ Below w.heap.size w w' := by
  obtain ⟨ta, tl, tc, sa, sl, sc, ba, bl, bc, bz, T, S, B⟩ := v
  obtain ⟨ta', tl', tc', sa', sl', sc', ba', bl', bc', bz', T', S', B'⟩ := v'
  have b1 := below_one w (lineB ta tl tc sa sl sc ba bl bc bz)
  have b2 := below_one (w.alloc (lineB ta tl tc sa sl sc ba bl bc bz)) (lineB ta' tl' tc' sa' sl' sc' ba' bl' bc' bz')
  have e1 : (w.alloc (lineB ta tl tc sa sl sc ba bl bc bz)).heap.size = w.heap.size + 1 := by simp
  have B2 := Lib.hid (b1.trans (b2.mono b1.size))
  have ZA := Lib.hid ((LBox.new w ⟨ta, tl, tc, sa, sl, sc, ba, bl, bc, bz, T, S, B⟩).keep b2)
  have zb := LBox.new (w.alloc (lineB ta tl tc sa sl sc ba bl bc bz)) ⟨ta', tl', tc', sa', sl', sc', ba', bl', bc', bz', T', S', B'⟩
  rw [e1] at zb
  have ZB := Lib.hid zb
  have LA := Lib.hid ((ht.below b1).below b2)
  have LB := Lib.hid ((ht'.below b1).below b2)
  have HTN : Hid (T.length = tl) := Lib.hid ht.t.hlen
  have HTN' : Hid (T'.length = tl') := Lib.hid ht'.t.hlen
  have HSN : Hid (S.length = sl) := Lib.hid ht.s.hlen
  have HSN' : Hid (S'.length = sl') := Lib.hid ht'.s.hlen
  have t64 : tl ≤ 9223372036854775807 := ht.t.len64
  have t64' : tl' ≤ 9223372036854775807 := ht'.t.len64
  have s64 : sl ≤ 9223372036854775807 := ht.s.len64
  have s64' : sl' ≤ 9223372036854775807 := ht'.s.len64
  clear ht ht' b1 b2 e1 zb
  obtain ⟨R, hR⟩ : ∃ R, same11 (LnV.dat ⟨ta, tl, tc, sa, sl, sc, ba, bl, bc, bz, T, S, B⟩) (LnV.dat ⟨ta', tl', tc', sa', sl', sc', ba', bl', bc', bz', T', S', B'⟩) = R := ⟨_, rfl⟩
  have HN : Hid (¬ (datL T = datL T' ∧ datL S = datL S' ∧ B = B' ∧ bz = bz') → R = false) := Lib.hid (fun h => by
    rw [← hR]
    refine same11_no (fun e => h ?_)
    unfold LnV.dat at e
    injection e with h1 h2 h3 h4
    exact ⟨h1, h2, h3, h4⟩)
  have HY : Hid ((datL T = datL T' ∧ datL S = datL S' ∧ B = B' ∧ bz = bz') → R = true) := Lib.hid (fun h => by
    rw [← hR]
    refine same11_yes ?_
    unfold LnV.dat
    dsimp only
    rw [h.1, h.2.1, h.2.2.1, h.2.2.2])
  rw [hR]
  clear hR
  have HI0 : Hid (∀ q, decide (B = B') = q → Calls Try.prog 25 #[.slice ba bl bc, .slice ba' bl' bc'] ((w.alloc (lineB ta tl tc sa sl sc ba bl bc bz)).alloc (lineB ta' tl' tc' sa' sl' sc' ba' bl' bc' bz')) fun e w' => e = .returned (.bool q) ∧ Below ((w.alloc (lineB ta tl tc sa sl sc ba bl bc bz)).alloc (lineB ta' tl' tc' sa' sl' sc' ba' bl' bc' bz')).heap.size ((w.alloc (lineB ta tl tc sa sl sc ba bl bc bz)).alloc (lineB ta' tl' tc' sa' sl' sc' ba' bl' bc' bz')) w') := Lib.hid (fun q hq => refintsB ba ba' bl bc bl' bc' B B' q hq _ LA.out.b LB.out.b)
  have z0 := ZA.out.c0
  have z1 := ZA.out.c1
  have z2 := ZA.out.c2
  have z3 := ZA.out.c3
  have y0 := ZB.out.c0
  have y1 := ZB.out.c1
  have y2 := ZB.out.c2
  have y3 := ZB.out.c3
  dsimp only at z0 z1 z2 z3 y0 y1 y2 y3
  by_cases g1 : tl = tl'
  rotate_left
  · have q1 : ((tl : Int) != (tl' : Int)) = true := bne_iff_ne.2 (by omega)
    have HR : Hid (R = false) := Lib.hid (HN.out (fun h => g1 (by rw [← HTN.out, ← HTN'.out]; have := congrArg List.length h.1; unfold datL at this; simpa using this)))
    have HI := Lib.hid (HI0.out _ rfl)
    clear g1
    (
      go_enter Try.func18, Try.ntmps18
      go_wp2_with (go_at_call 25; (with_reducible refine (HI.out).mono ?_); rintro e w5 ⟨rfl, hb⟩; have HB5 := Lib.hid (B2.out.trans (hb.mono B2.out.size)); clear z0 z1 z2 z3 y0 y1 y2 y3; have z0 := ((ZA.out).keep hb).c0; have z1 := ((ZA.out).keep hb).c1; have z2 := ((ZA.out).keep hb).c2; have z3 := ((ZA.out).keep hb).c3; have y0 := ((ZB.out).keep hb).c0; have y1 := ((ZB.out).keep hb).c1; have y2 := ((ZB.out).keep hb).c2; have y3 := ((ZB.out).keep hb).c3; dsimp only at z0 z1 z2 z3 y0 y1 y2 y3; clear hb)
      go_ret
      first | exact ⟨retB HR.out.symm, HB5.out⟩ | exact ⟨retB HR.out.symm, B2.out⟩)
  have q1 : ((tl : Int) != (tl' : Int)) = false := by rw [g1]; simp
  by_cases g2 : sl = sl'
  rotate_left
  · have q2 : ((sl : Int) != (sl' : Int)) = true := bne_iff_ne.2 (by omega)
    have HR : Hid (R = false) := Lib.hid (HN.out (fun h => g2 (by rw [← HSN.out, ← HSN'.out]; have := congrArg List.length h.2.1; unfold datL at this; simpa using this)))
    have HI := Lib.hid (HI0.out _ rfl)
    clear g1 g2
    (
      go_enter Try.func18, Try.ntmps18
      go_wp2_with (go_at_call 25; (with_reducible refine (HI.out).mono ?_); rintro e w5 ⟨rfl, hb⟩; have HB5 := Lib.hid (B2.out.trans (hb.mono B2.out.size)); clear z0 z1 z2 z3 y0 y1 y2 y3; have z0 := ((ZA.out).keep hb).c0; have z1 := ((ZA.out).keep hb).c1; have z2 := ((ZA.out).keep hb).c2; have z3 := ((ZA.out).keep hb).c3; have y0 := ((ZB.out).keep hb).c0; have y1 := ((ZB.out).keep hb).c1; have y2 := ((ZB.out).keep hb).c2; have y3 := ((ZB.out).keep hb).c3; dsimp only at z0 z1 z2 z3 y0 y1 y2 y3; clear hb)
      go_ret
      first | exact ⟨retB HR.out.symm, HB5.out⟩ | exact ⟨retB HR.out.symm, B2.out⟩)
  have q2 : ((sl : Int) != (sl' : Int)) = false := by rw [g2]; simp
  by_cases g3 : B = B'
  rotate_left
  · have HR : Hid (R = false) := Lib.hid (HN.out (fun h => g3 h.2.2.1))
    have HI := Lib.hid (HI0.out false (decide_eq_false g3))
    clear g1 g2 g3
    (
      go_enter Try.func18, Try.ntmps18
      go_wp2_with (go_at_call 25; (with_reducible refine (HI.out).mono ?_); rintro e w5 ⟨rfl, hb⟩; have HB5 := Lib.hid (B2.out.trans (hb.mono B2.out.size)); clear z0 z1 z2 z3 y0 y1 y2 y3; have z0 := ((ZA.out).keep hb).c0; have z1 := ((ZA.out).keep hb).c1; have z2 := ((ZA.out).keep hb).c2; have z3 := ((ZA.out).keep hb).c3; have y0 := ((ZB.out).keep hb).c0; have y1 := ((ZB.out).keep hb).c1; have y2 := ((ZB.out).keep hb).c2; have y3 := ((ZB.out).keep hb).c3; dsimp only at z0 z1 z2 z3 y0 y1 y2 y3; clear hb)
      go_ret
      first | exact ⟨retB HR.out.symm, HB5.out⟩ | exact ⟨retB HR.out.symm, B2.out⟩)
  have HI := Lib.hid (HI0.out true (decide_eq_true g3))
  by_cases g4 : bz = bz'
  rotate_left
  · have q4 : (bz == bz') = false := beq_eq_false_iff_ne.2 g4
    have q4' : (bz != bz') = true := bne_iff_ne.2 g4
    have HR : Hid (R = false) := Lib.hid (HN.out (fun h => g4 h.2.2.2))
    clear g1 g2 g3 g4
    (
      go_enter Try.func18, Try.ntmps18
      go_wp2_with (go_at_call 25; (with_reducible refine (HI.out).mono ?_); rintro e w5 ⟨rfl, hb⟩; have HB5 := Lib.hid (B2.out.trans (hb.mono B2.out.size)); clear z0 z1 z2 z3 y0 y1 y2 y3; have z0 := ((ZA.out).keep hb).c0; have z1 := ((ZA.out).keep hb).c1; have z2 := ((ZA.out).keep hb).c2; have z3 := ((ZA.out).keep hb).c3; have y0 := ((ZB.out).keep hb).c0; have y1 := ((ZB.out).keep hb).c1; have y2 := ((ZB.out).keep hb).c2; have y3 := ((ZB.out).keep hb).c3; dsimp only at z0 z1 z2 z3 y0 y1 y2 y3; clear hb)
      go_ret
      first | exact ⟨retB HR.out.symm, HB5.out⟩ | exact ⟨retB HR.out.symm, B2.out⟩)
  have q4 : (bz == bz') = true := by rw [g4]; simp
  have q4' : (bz != bz') = false := by rw [g4]; simp
  have HG : Hid (tl = tl' ∧ sl = sl' ∧ B = B' ∧ bz = bz') := Lib.hid ⟨g1, g2, g3, g4⟩
  clear g1 g2 g3 g4
  go_enter Try.func18, Try.ntmps18
  go_upto_region 3 with (go_at_call 25; (with_reducible refine (HI.out).mono ?_); rintro e w5 ⟨rfl, hb⟩; have HB5 := Lib.hid (B2.out.trans (hb.mono B2.out.size)); have ZA := Lib.hid ((ZA.out).keep hb); have ZB := Lib.hid ((ZB.out).keep hb); have LA := Lib.hid (LA.out.below hb); have LB := Lib.hid (LB.out.below hb); clear z0 z1 z2 z3 y0 y1 y2 y3; have z3 := ZA.out.c3; have y3 := ZB.out.c3; dsimp only at z3 y3; clear hb)
  clear q1 q2 q4 q4' z3 y3 HI HI0
  have z0 := ZA.out.c0
  dsimp only at z0
  go_wp2
  go_loopw [5] (fun i wr => ∃ k : Nat, k ≤ tl ∧ i = .int .i64 k ∧ Hid (Below w5.heap.size w5 wr) ∧ Hid ((datL T).take k = (datL T').take k)) (fun i _ => tl - (intOf i).toNat)
  case atStart => exact ⟨0, Nat.zero_le _, rfl, Lib.hid (Below.refl _ _), Lib.hid rfl⟩
  case round =>
    obtain ⟨k, hk, rfl, HB, HT⟩ := hrel
    have ZA2 := Lib.hid (ZA.out.keep HB.out)
    have ZB2 := Lib.hid (ZB.out.keep HB.out)
    have LA2 := Lib.hid (LA.out.below HB.out)
    have LB2 := Lib.hid (LB.out.below HB.out)
    clear z0
    have z0 := ZA2.out.c0
    have y0 := ZB2.out.c0
    dsimp only at z0 y0
    by_cases hlt : k < tl
    · have hlt' : k < tl' := by have := HG.out.1; omega
      obtain ⟨b, off, x, ha, hb, hx, hc, hrow⟩ := LA2.out.t.get hlt
      obtain ⟨b', off', y, ha', hb', hy, hd, hrow'⟩ := LB2.out.t.get hlt'
      dsimp only at ha ha' hx hy
      subst ha
      subst ha'
      obtain ⟨xa, xn, xc, xl⟩ := x
      obtain ⟨ya, yn, yc, yl⟩ := y
      dsimp only at hc hd hrow hrow'
      have HX : Hid ((datL T)[k]? = some xl) := Lib.hid (datL_get hx)
      have HYY : Hid ((datL T')[k]? = some yl) := Lib.hid (datL_get hy)
      obtain ⟨q, hq⟩ : ∃ q, decide (xl = yl) = q := ⟨_, rfl⟩
      have HC : Hid (∀ x : Ext wr, Calls Try.prog 29 #[.slice xa xn xc, .slice ya yn yc] x.v fun e w' => e = .returned (.bool q) ∧ Below x.v.heap.size x.v w') := Lib.hid (fun x => reftodosB xa ya xn xc yn yc xl yl q hq x.v (hrow.below x.below) (hrow'.below x.below))
      have HQ := Lib.hid hq
      clear hx hy hrow hrow' hq
      go_upto_region 6 with fail
      have z0 := Ext.cell z0 ZA2.out.lt
      have y0 := Ext.cell y0 ZB2.out.lt
      have hc := Ext.cell hc hb
      have hd := Ext.cell hd hb'
      refine wp_region_ext (by kernel_rfl) (by kernel_rfl) ?_
      repeat (go_big_quiet_step (first | (go_at_call 29; with_reducible exact Ext.call_below (HC.out _))))
      refine wpQuiet_nil ?_
      intro w' hw'
      obtain ⟨⟨w8, hb8⟩, hw''⟩ := hw'
      dsimp only at hw''
      subst hw''
      clear z0 y0 hc hd
      cases q with
      | false =>
        have HR : Hid (R = false) := Lib.hid (HN.out (fun h => at_ne HX.out HYY.out (of_decide_eq_false HQ.out) h.1))
        go_wp2
        go_ret
        exact ⟨retB HR.out.symm, HB5.out.trans ((HB.out.trans (hb8.mono HB.out.size)).mono HB5.out.size)⟩
      | true =>
        have HE := Lib.hid (tk_more HT.out HX.out (by rw [of_decide_eq_true HQ.out]; exact HYY.out))
        go_wp2
        go_roundw
        case rel => exact ⟨k + 1, by omega, by go_num, Lib.hid (HB.out.trans (hb8.mono HB.out.size)), HE⟩
        case measure => simp [intOf]; omega
    · have HTT : Hid (datL T = datL T') := Lib.hid (tk_all HT.out (by unfold datL; rw [List.length_map, HTN.out]; omega) (by unfold datL; rw [List.length_map, HTN'.out]; have := HG.out.1; omega))
      have z1 := ZA2.out.c1
      dsimp only at z1
      obtain ⟨w6, hw6⟩ : ∃ w6, w6 = wr := ⟨_, rfl⟩
      subst hw6
      have HB6 := Lib.hid (HB5.out.trans (HB.out.mono HB5.out.size))
      go_wp2
      clear hk hlt HT HB z0 y0
      go_loopw [6] (fun i wr => ∃ k : Nat, k ≤ sl ∧ i = .int .i64 k ∧ Hid (Below w6.heap.size w6 wr) ∧ Hid ((datL S).take k = (datL S').take k)) (fun i _ => sl - (intOf i).toNat)
      case atStart => exact ⟨0, Nat.zero_le _, rfl, Lib.hid (Below.refl _ _), Lib.hid rfl⟩
      case round =>
        obtain ⟨k, hk, rfl, HB, HT⟩ := hrel
        have ZA3 := Lib.hid (ZA2.out.keep HB.out)
        have ZB3 := Lib.hid (ZB2.out.keep HB.out)
        have LA3 := Lib.hid (LA2.out.below HB.out)
        have LB3 := Lib.hid (LB2.out.below HB.out)
        clear z1
        have z1 := ZA3.out.c1
        have y1 := ZB3.out.c1
        dsimp only at z1 y1
        by_cases hlt : k < sl
        · have hlt' : k < sl' := by have := HG.out.2.1; omega
          obtain ⟨b, off, x, ha, hb, hx, hc, hrow⟩ := LA3.out.s.get hlt
          obtain ⟨b', off', y, ha', hb', hy, hd, hrow'⟩ := LB3.out.s.get hlt'
          dsimp only at ha ha' hx hy
          subst ha
          subst ha'
          obtain ⟨xa, xn, xc, xl⟩ := x
          obtain ⟨ya, yn, yc, yl⟩ := y
          dsimp only at hc hd hrow hrow'
          have HX : Hid ((datL S)[k]? = some xl) := Lib.hid (datL_get hx)
          have HYY : Hid ((datL S')[k]? = some yl) := Lib.hid (datL_get hy)
          obtain ⟨q, hq⟩ : ∃ q, decide (xl = yl) = q := ⟨_, rfl⟩
          have HC : Hid (∀ x : Ext wr, Calls Try.prog 25 #[.slice xa xn xc, .slice ya yn yc] x.v fun e w' => e = .returned (.bool q) ∧ Below x.v.heap.size x.v w') := Lib.hid (fun x => refintsB xa ya xn xc yn yc xl yl q hq x.v (hrow.int.below x.below) (hrow'.int.below x.below))
          have HQ := Lib.hid hq
          clear hx hy hrow hrow' hq
          go_upto_region 11 with fail
          have z1 := Ext.cell z1 ZA3.out.lt
          have y1 := Ext.cell y1 ZB3.out.lt
          have hc := Ext.cell hc hb
          have hd := Ext.cell hd hb'
          refine wp_region_ext (by kernel_rfl) (by kernel_rfl) ?_
          repeat (go_big_quiet_step (first | (go_at_call 25; with_reducible exact Ext.call_below (HC.out _))))
          refine wpQuiet_nil ?_
          intro w' hw'
          obtain ⟨⟨w8, hb8⟩, hw''⟩ := hw'
          dsimp only at hw''
          subst hw''
          clear z1 y1 hc hd
          cases q with
          | false =>
            have HR : Hid (R = false) := Lib.hid (HN.out (fun h => at_ne HX.out HYY.out (of_decide_eq_false HQ.out) h.2.1))
            go_wp2
            go_ret
            exact ⟨retB HR.out.symm, HB6.out.trans ((HB.out.trans (hb8.mono HB.out.size)).mono HB6.out.size)⟩
          | true =>
            have HE := Lib.hid (tk_more HT.out HX.out (by rw [of_decide_eq_true HQ.out]; exact HYY.out))
            go_wp2
            go_roundw
            case rel => exact ⟨k + 1, by omega, by go_num, Lib.hid (HB.out.trans (hb8.mono HB.out.size)), HE⟩
            case measure => simp [intOf]; omega
        · have HR : Hid (R = true) := Lib.hid (HY.out ⟨HTT.out, tk_all HT.out (by unfold datL; rw [List.length_map, HSN.out]; omega) (by unfold datL; rw [List.length_map, HSN'.out]; have := HG.out.2.1; omega), HG.out.2.2.1, HG.out.2.2.2⟩)
          go_wp2
          go_ret
          exact ⟨retB HR.out.symm, HB6.out.trans (HB.out.mono HB6.out.size)⟩
end Go.Proofs.Ytadlmjiebhpaoaa
