/- The walk of instarlaw11's LineDrops. -/
import Derived.Test.YtadlmjiebhpaoaaLineMath
import Derived.Test.YtadlmjiebhpaoaaExt
namespace Go.Proofs.Ytadlmjiebhpaoaa
open Go.RowKit
set_option maxHeartbeats 4000000 in
set_option maxRecDepth 100000 in
theorem lineDrops_walk (_F : True) (v : LnV) (a : Int) (w : World) (ht : LineAt w v) (ha : 0 ≤ a ∧ a ≤ 255) :
    Calls Try.prog 6 #[v.val, .int .u8 a] w fun e w' => e = .returned (.bool true) ∧ Below w.heap.size w w' := by
  have AW := Lib.hid (fun W => awake11_any W)
  obtain ⟨q0, hq0⟩ : ∃ q, short11 v.dat = q := ⟨_, rfl⟩
  obtain ⟨q1, hq1⟩ : ∃ q, right11 v.dat = q := ⟨_, rfl⟩
  have SH : Hid (∀ V, LineAt V v → Calls Try.prog 8 #[v.val] V fun e w' => e = .returned (.bool q0) ∧ Below V.heap.size V w') := Lib.hid (fun V h => by
    have := refshort11_any v V h
    rw [hq0] at this
    exact this)
  have RT : Hid (∀ V, LineAt V v → Calls Try.prog 15 #[v.val] V fun e w' => e = .returned (.bool q1) ∧ Below V.heap.size V w') := Lib.hid (fun V h => by
    have := right11_any v V h
    rw [hq1] at this
    exact this)
  have FX := Lib.hid (HeldL.new (Below.refl w.heap.size w) (Below.refl w.heap.size w) ht)
  obtain ⟨D, hD⟩ : ∃ D, v.dat = D := ⟨_, rfl⟩
  have HTL : Hid (D.td.length = v.tl) := Lib.hid (by rw [← hD]; exact ht.t.dlen)
  have HSL : Hid (D.st.length = v.sl) := Lib.hid (by rw [← hD]; exact ht.s.dlen)
  have t64 := ht.t.len64
  have s64 := ht.s.len64
  rw [hD] at hq0 hq1
  have HD := Lib.hid hD
  have a0 := ha.1
  have a1 := ha.2
  clear hD ht ha _F
  obtain ⟨ta, tl, tc, sa, sl, sc, ba, bl, bc, bz, T, S, B⟩ := v
  dsimp only at HTL HSL t64 s64
  (have z0 := FX.out.b.c0; have z1 := FX.out.b.c1; have z2 := FX.out.b.c2; have z3 := FX.out.b.c3; dsimp only at z0 z1 z2 z3)
  cases q0 with
  | false => clear hq0 hq1; (go_enter Try.func6, Try.ntmps6; go_wp2_with (first
                                                                                                                                             | (go_at_call 7; (with_reducible refine (AW.out _).mono ?_); rintro e w5 ⟨rfl, hb⟩; (clear z0 z1 z2 z3; have FX := Lib.hid (FX.out.keep hb); (have z0 := FX.out.b.c0; have z1 := FX.out.b.c1; have z2 := FX.out.b.c2; have z3 := FX.out.b.c3; dsimp only at z0 z1 z2 z3); clear hb))
                                                                                                                                             | (go_at_call 8; (with_reducible refine (SH.out _ FX.out.l).mono ?_); rintro e w5 ⟨rfl, hb⟩; (clear z0 z1 z2 z3; have FX := Lib.hid (FX.out.keep hb); (have z0 := FX.out.b.c0; have z1 := FX.out.b.c1; have z2 := FX.out.b.c2; have z3 := FX.out.b.c3; dsimp only at z0 z1 z2 z3); clear hb))
                                                                                                                                             | (go_at_call 15; (with_reducible refine (RT.out _ FX.out.l).mono ?_); rintro e w5 ⟨rfl, hb⟩; (clear z0 z1 z2 z3; have FX := Lib.hid (FX.out.keep hb); (have z0 := FX.out.b.c0; have z1 := FX.out.b.c1; have z2 := FX.out.b.c2; have z3 := FX.out.b.c3; dsimp only at z0 z1 z2 z3); clear hb))); go_ret; exact ⟨rfl, FX.out.w⟩)
  | true =>
  cases q1 with
  | false => clear hq0 hq1; (go_enter Try.func6, Try.ntmps6; go_wp2_with (first
                                                                                                                                             | (go_at_call 7; (with_reducible refine (AW.out _).mono ?_); rintro e w5 ⟨rfl, hb⟩; (clear z0 z1 z2 z3; have FX := Lib.hid (FX.out.keep hb); (have z0 := FX.out.b.c0; have z1 := FX.out.b.c1; have z2 := FX.out.b.c2; have z3 := FX.out.b.c3; dsimp only at z0 z1 z2 z3); clear hb))
                                                                                                                                             | (go_at_call 8; (with_reducible refine (SH.out _ FX.out.l).mono ?_); rintro e w5 ⟨rfl, hb⟩; (clear z0 z1 z2 z3; have FX := Lib.hid (FX.out.keep hb); (have z0 := FX.out.b.c0; have z1 := FX.out.b.c1; have z2 := FX.out.b.c2; have z3 := FX.out.b.c3; dsimp only at z0 z1 z2 z3); clear hb))
                                                                                                                                             | (go_at_call 15; (with_reducible refine (RT.out _ FX.out.l).mono ?_); rintro e w5 ⟨rfl, hb⟩; (clear z0 z1 z2 z3; have FX := Lib.hid (FX.out.keep hb); (have z0 := FX.out.b.c0; have z1 := FX.out.b.c1; have z2 := FX.out.b.c2; have z3 := FX.out.b.c3; dsimp only at z0 z1 z2 z3); clear hb))); go_ret; exact ⟨rfl, FX.out.w⟩)
  | true =>
  by_cases h0 : tl = 0
  · subst h0; clear hq0 hq1; (go_enter Try.func6, Try.ntmps6; go_wp2_with (first
                                                                                                                                              | (go_at_call 7; (with_reducible refine (AW.out _).mono ?_); rintro e w5 ⟨rfl, hb⟩; (clear z0 z1 z2 z3; have FX := Lib.hid (FX.out.keep hb); (have z0 := FX.out.b.c0; have z1 := FX.out.b.c1; have z2 := FX.out.b.c2; have z3 := FX.out.b.c3; dsimp only at z0 z1 z2 z3); clear hb))
                                                                                                                                              | (go_at_call 8; (with_reducible refine (SH.out _ FX.out.l).mono ?_); rintro e w5 ⟨rfl, hb⟩; (clear z0 z1 z2 z3; have FX := Lib.hid (FX.out.keep hb); (have z0 := FX.out.b.c0; have z1 := FX.out.b.c1; have z2 := FX.out.b.c2; have z3 := FX.out.b.c3; dsimp only at z0 z1 z2 z3); clear hb))
                                                                                                                                              | (go_at_call 15; (with_reducible refine (RT.out _ FX.out.l).mono ?_); rintro e w5 ⟨rfl, hb⟩; (clear z0 z1 z2 z3; have FX := Lib.hid (FX.out.keep hb); (have z0 := FX.out.b.c0; have z1 := FX.out.b.c1; have z2 := FX.out.b.c2; have z3 := FX.out.b.c3; dsimp only at z0 z1 z2 z3); clear hb))); go_ret; exact ⟨rfl, FX.out.w⟩)
  have HSM := Lib.hid (small_short hq0)
  have HRT := Lib.hid hq1
  clear hq0 hq1
  have e0 : ((tl : Int) == 0) = false := beq_eq_false_iff_ne.2 (by omega)
  have htl0 : (0 : Int) < (tl : Int) := by omega
  obtain ⟨k, hk⟩ : ∃ k : Nat, a % (tl : Int) = (k : Int) := ⟨(a % (tl : Int)).toNat, by rw [Int.toNat_of_nonneg]; exact Int.emod_nonneg _ (by omega)⟩
  have hkl : k < tl := by have := Int.emod_lt_of_pos a htl0; omega
  have HKL := Lib.hid hkl
  have hkD : k < D.td.length := by rw [HTL.out]; exact hkl
  obtain ⟨D1, hD1⟩ : ∃ D1, drop11 D k = D1 := ⟨_, rfl⟩
  have HD1 := Lib.hid hD1
  have DR : Hid (∀ V, LineAt V ⟨ta, tl, tc, sa, sl, sc, ba, bl, bc, bz, T, S, B⟩ → Calls Try.prog 13 #[lineV ta tl tc sa sl sc ba bl bc bz, .int .i64 k] V (DropP V D1 0)) := Lib.hid (fun V h => by
    have := drop_ok ⟨ta, tl, tc, sa, sl, sc, ba, bl, bc, bz, T, S, B⟩ k V h (by rw [HD.out]; exact HSM.out) (by rw [HD.out]; exact HRT.out) (by rw [HD.out]; exact hkD)
    rw [HD.out, hD1] at this
    exact this)
  have HSM1 : Hid (SmallL D1) := Lib.hid (by rw [← hD1]; exact drop_small HSM.out)
  have HRT1 : Hid (right11 D1 = true) := Lib.hid (by rw [← hD1]; exact drop_right HRT.out)
  have HTL1 : Hid (D1.td.length = tl) := Lib.hid (by rw [← hD1, drop_len]; exact HTL.out)
  have DR2 : Hid (∀ V (u : LnV), u.dat = D1 → LineAt V u → Calls Try.prog 13 #[u.val, .int .i64 k] V (DropP V D1 0)) := Lib.hid (fun V u hu h => by
    have := drop_ok u k V h (by rw [hu]; exact HSM1.out) (by rw [hu]; exact HRT1.out) (by rw [hu, HTL1.out]; exact hkl)
    rw [hu, ← hD1, drop_drop, hD1] at this
    exact this)
  have TK : Hid (∀ V (u : LnV), u.dat = D1 → LineAt V u → Calls Try.prog 12 #[u.val, .int .i64 k] V (TakeP V D1 TodoD.zero false)) := Lib.hid (fun V u hu h => by
    have := take_none u k V h (by rw [hu]; exact HSM1.out) (by rw [hu]; exact HRT1.out) (by rw [hu, HTL1.out]; exact hkl) (by rw [hu, ← hD1]; exact getL_set hkD)
    rw [hu] at this
    exact this)
  have GR : Hid (∀ V (u : LnV), u.dat = D1 → LineAt V u → Calls Try.prog 19 #[u.val] V (GrowP V (grow11 D1))) := Lib.hid (fun V u hu h => by
    have := grow11_any u V h (by rw [hu]; exact HSM1.out)
    rw [hu] at this
    exact this)
  have SM : Hid (∀ V (u u' : LnV), u.dat = D1 → u'.dat = D1 → LineAt V u → LineAt V u' → Calls Try.prog 18 #[u.val, u'.val] V fun e w' => e = .returned (.bool true) ∧ Below V.heap.size V w') := Lib.hid (fun V u u' hu hu' h h' => by
    have := refsame11_any u u' V h h'
    rw [same11_yes (hu.trans hu'.symm)] at this
    exact this)
  have RT2 : Hid (∀ V (u : LnV), u.dat = grow11 D1 → LineAt V u → Calls Try.prog 15 #[u.val] V fun e w' => e = .returned (.bool true) ∧ Below V.heap.size V w') := Lib.hid (fun V u hu h => by
    have := right11_any u V h
    rw [hu, grow_right HRT1.out] at this
    exact this)
  clear hkD hD1 h0
  have e9 : a.tmod (tl : Int) = a % (tl : Int) := Int.tmod_eq_emod_of_nonneg a0
  have HK := Lib.hid hk
  clear hk
  go_enter Try.func6, Try.ntmps6
  go_upto_region 6 with (first
                            | (go_at_call 7; (with_reducible refine (AW.out _).mono ?_); rintro e w5 ⟨rfl, hb⟩; (clear z0 z1 z2 z3; have FX := Lib.hid (FX.out.keep hb); (have z0 := FX.out.b.c0; have z1 := FX.out.b.c1; have z2 := FX.out.b.c2; have z3 := FX.out.b.c3; dsimp only at z0 z1 z2 z3); clear hb))
                            | (go_at_call 8; (with_reducible refine (SH.out _ FX.out.l).mono ?_); rintro e w5 ⟨rfl, hb⟩; (clear z0 z1 z2 z3; have FX := Lib.hid (FX.out.keep hb); (have z0 := FX.out.b.c0; have z1 := FX.out.b.c1; have z2 := FX.out.b.c2; have z3 := FX.out.b.c3; dsimp only at z0 z1 z2 z3); clear hb))
                            | (go_at_call 15; (with_reducible refine (RT.out _ FX.out.l).mono ?_); rintro e w5 ⟨rfl, hb⟩; (clear z0 z1 z2 z3; have FX := Lib.hid (FX.out.keep hb); (have z0 := FX.out.b.c0; have z1 := FX.out.b.c1; have z2 := FX.out.b.c2; have z3 := FX.out.b.c3; dsimp only at z0 z1 z2 z3); clear hb)))
  rw [HK.out]
  go_upto_region 7 with (go_at_call 13; (with_reducible refine (DR.out _ FX.out.l).mono ?_); rintro e w6 ⟨⟨ua, un, uc, va, vn, vc, xa, xn, xc, ub, UT, US, UB⟩, rfl, hd, hl, -, hb⟩; have M1 := Lib.hid hd; have FM := Lib.hid (HeldL.new FX.out.w hb hl); have FX := Lib.hid ((FX.out.keep hb).keep (below_one w6 (lineB ua un uc va vn vc xa xn xc ub))); clear hd hl hb z0 z1 z2 z3)
  obtain ⟨g6, hg6⟩ : ∃ g, w6.heap.size = g := ⟨_, rfl⟩
  obtain ⟨W6, hW6⟩ : ∃ W, w6.alloc (lineB ua un uc va vn vc xa xn xc ub) = W := ⟨_, rfl⟩
  rw [hW6] at FX
  rw [hW6, hg6] at FM
  rw [hW6, hg6]
  clear hW6 hg6 DR
  obtain rfl : un = tl := by
    have h1 : (LnV.dat ⟨ua, un, uc, va, vn, vc, xa, xn, xc, ub, UT, US, UB⟩).td.length = un := FM.out.l.t.dlen
    rw [M1.out, HTL1.out] at h1
    exact h1.symm
  obtain rfl : vn = sl := by
    have h1 : (LnV.dat ⟨ua, un, uc, va, vn, vc, xa, xn, xc, ub, UT, US, UB⟩).st.length = vn := FM.out.l.s.dlen
    rw [M1.out, ← HD1.out] at h1
    exact h1.symm.trans HSL.out
  have HUB : Hid (UB = B) := Lib.hid (show (LnV.dat ⟨ua, un, uc, va, vn, vc, xa, xn, xc, ub, UT, US, UB⟩).bk = (LnV.dat ⟨ta, un, tc, sa, vn, sc, ba, bl, bc, bz, T, S, B⟩).bk from by rw [M1.out, ← HD1.out, HD.out]; rfl)
  have m0 := FM.out.b.c0
  have m1 := FM.out.b.c1
  have m2 := FM.out.b.c2
  have m3 := FM.out.b.c3
  dsimp only at m0 m1 m2 m3
  go_upto_region 8 with (go_at_call 12; (with_reducible refine (TK.out _ _ M1.out FM.out.l).mono ?_); rintro e w7 ⟨u7, rfl, -, -, -, hb⟩; have HB7 := Lib.hid hb; clear hb m0 m1 m2 m3)
  obtain ⟨W7, hW7⟩ : ∃ W, (w7.alloc u7.obj).alloc TodoD.zero.obj = W := ⟨_, rfl⟩
  have B7 : Hid (Below W6.heap.size W6 W7) := Lib.hid (by
    rw [← hW7]
    exact HB7.out.trans (((below_one w7 _).trans ((below_one _ _).mono (by simp))).mono HB7.out.size))
  rw [hW7]
  clear hW7 HB7
  have FX := Lib.hid (FX.out.keep B7.out)
  have FM := Lib.hid (FM.out.keep B7.out)
  clear B7 TK
  have m0 := FM.out.b.c0
  have m1 := FM.out.b.c1
  have m2 := FM.out.b.c2
  have m3 := FM.out.b.c3
  dsimp only at m0 m1 m2 m3
  go_upto_region 9 with (go_at_call 13; (with_reducible refine (DR2.out _ _ M1.out FM.out.l).mono ?_); rintro e w8 ⟨u8, rfl, hd, hl, -, hb⟩; have M8 := Lib.hid hd; have FA := Lib.hid (HeldL.new FX.out.w hb hl); have FX := Lib.hid ((FX.out.keep hb).keep (below_one w8 u8.obj)); have FM := Lib.hid ((FM.out.keep hb).keep (below_one w8 u8.obj)); clear hd hl hb m0 m1 m2 m3)
  obtain ⟨g8, hg8⟩ : ∃ g, w8.heap.size = g := ⟨_, rfl⟩
  obtain ⟨W8, hW8⟩ : ∃ W, w8.alloc u8.obj = W := ⟨_, rfl⟩
  rw [hW8] at FX FM
  rw [hW8, hg8] at FA
  rw [hW8, hg8]
  clear hW8 hg8 DR2
  have HI : Hid (∀ V, LineAt V ⟨ua, un, uc, va, vn, vc, xa, xn, xc, ub, UT, US, UB⟩ → LineAt V ⟨ta, un, tc, sa, vn, sc, ba, bl, bc, bz, T, S, B⟩ → Calls Try.prog 25 #[.slice xa xn xc, .slice ba bl bc] V fun e w' => e = .returned (.bool true) ∧ Below V.heap.size V w') := Lib.hid (fun V h h' => refintsB xa ba xn xc bl bc UB B true (decide_eq_true HUB.out) V h.b h'.b)
  have q1 : ((un : Int) != (un : Int)) = false := by simp
  have q2 : ((vn : Int) != (vn : Int)) = false := by simp
  (have z0 := FX.out.b.c0; have z1 := FX.out.b.c1; have z2 := FX.out.b.c2; have m0 := FM.out.b.c0; have m1 := FM.out.b.c1; have m2 := FM.out.b.c2; have m3 := FM.out.b.c3; have y0 := FA.out.b.c0; have y1 := FA.out.b.c1; have y2 := FA.out.b.c2; have y3 := FA.out.b.c3; dsimp only at z0 z1 z2 m0 m1 m2 m3 y0 y1 y2 y3)
  go_upto_region 11 with (first
    | (go_at_call 18; (with_reducible refine (SM.out _ _ _ M1.out M8.out FM.out.l FA.out.l).mono ?_); rintro e w9 ⟨rfl, hb⟩; (clear z0 z1 z2 m0 m1 m2 m3 y0 y1 y2 y3; have FX := Lib.hid (FX.out.keep hb); have FM := Lib.hid (FM.out.keep hb); have FA := Lib.hid (FA.out.keep hb); (have z0 := FX.out.b.c0; have z1 := FX.out.b.c1; have z2 := FX.out.b.c2; have m0 := FM.out.b.c0; have m1 := FM.out.b.c1; have m2 := FM.out.b.c2; have m3 := FM.out.b.c3; have y0 := FA.out.b.c0; have y1 := FA.out.b.c1; have y2 := FA.out.b.c2; have y3 := FA.out.b.c3; dsimp only at z0 z1 z2 m0 m1 m2 m3 y0 y1 y2 y3); clear hb))
    | (go_at_call 25; (with_reducible refine (HI.out _ FM.out.l FX.out.l).mono ?_); rintro e w9 ⟨rfl, hb⟩; (clear z0 z1 z2 m0 m1 m2 m3 y0 y1 y2 y3; have FX := Lib.hid (FX.out.keep hb); have FM := Lib.hid (FM.out.keep hb); have FA := Lib.hid (FA.out.keep hb); (have z0 := FX.out.b.c0; have z1 := FX.out.b.c1; have z2 := FX.out.b.c2; have m0 := FM.out.b.c0; have m1 := FM.out.b.c1; have m2 := FM.out.b.c2; have m3 := FM.out.b.c3; have y0 := FA.out.b.c0; have y1 := FA.out.b.c1; have y2 := FA.out.b.c2; have y3 := FA.out.b.c3; dsimp only at z0 z1 z2 m0 m1 m2 m3 y0 y1 y2 y3); clear hb)))
  clear z0 z1 z2 y0 y1 y2 y3 q1 q2 SM HI HUB M8 FA
  go_upto_region 12 with (go_at_call 19; (with_reducible refine (GR.out _ _ M1.out FM.out.l).mono ?_); rintro e w10 ⟨⟨ga, gn, gc, ha, hn, hc, ja, jn, jc, jb, GT, GS, GB⟩, rfl, hd, hl, -, hb⟩; have M9 := Lib.hid hd; have FG := Lib.hid (HeldL.new FX.out.w hb hl); have FX := Lib.hid ((FX.out.keep hb).keep (below_one w10 (lineB ga gn gc ha hn hc ja jn jc jb))); have FM := Lib.hid ((FM.out.keep hb).keep (below_one w10 (lineB ga gn gc ha hn hc ja jn jc jb))); clear hd hl hb m0 m1 m2 m3)
  obtain ⟨g10, hg10⟩ : ∃ g, w10.heap.size = g := ⟨_, rfl⟩
  obtain ⟨WX, hWX⟩ : ∃ W, w10.alloc (lineB ga gn gc ha hn hc ja jn jc jb) = W := ⟨_, rfl⟩
  rw [hWX] at FX FM
  rw [hWX, hg10] at FG
  rw [hWX, hg10]
  clear hWX hg10 GR
  have hgn : gn = un + 1 := by
    have h1 : (LnV.dat ⟨ga, gn, gc, ha, hn, hc, ja, jn, jc, jb, GT, GS, GB⟩).td.length = gn := FG.out.l.t.dlen
    rw [M9.out] at h1
    unfold grow11 at h1
    dsimp only at h1
    rw [List.length_append, HTL1.out] at h1
    exact h1.symm
  have HGN := Lib.hid hgn
  have hgl : (un : Int) < (gn : Int) := by omega
  clear hgn
  have HGT : Hid (datL GT = datL UT ++ [[]]) := Lib.hid (by
    have h1 : (LnV.dat ⟨ga, gn, gc, ha, hn, hc, ja, jn, jc, jb, GT, GS, GB⟩).td = datL GT := rfl
    have h2 : (LnV.dat ⟨ua, un, uc, va, vn, vc, xa, xn, xc, ub, UT, US, UB⟩).td = datL UT := rfl
    rw [← h1, ← h2, M9.out, M1.out]
    rfl)
  have HUT : Hid (datL UT = (datL T).set k []) := Lib.hid (by
    have h2 : (LnV.dat ⟨ua, un, uc, va, vn, vc, xa, xn, xc, ub, UT, US, UB⟩).td = datL UT := rfl
    rw [← h2, M1.out, ← HD1.out, ← HD.out]
    rfl)
  have HUN : Hid ((datL UT).length = un) := Lib.hid FM.out.l.t.dlen
  have z0 := FX.out.b.c0
  dsimp only at z0
  go_wp2
  go_loopw [14] (fun i wr => ∃ j : Nat, j ≤ un ∧ i = .int .i64 j ∧ Hid (Below WX.heap.size WX wr)) (fun i _ => un - (intOf i).toNat)
  case atStart => exact ⟨0, Nat.zero_le _, rfl, Lib.hid (Below.refl _ _)⟩
  case round =>
    obtain ⟨j, hj, rfl, HB⟩ := hrel
    have GX := Lib.hid (FX.out.keep HB.out)
    have GM := Lib.hid (FM.out.keep HB.out)
    have GG := Lib.hid (FG.out.keep HB.out)
    clear z0
    have z0 := GX.out.b.c0
    have m0 := GM.out.b.c0
    have y0 := GG.out.b.c0
    dsimp only at z0 m0 y0
    by_cases hlt : j < un
    · obtain ⟨b1, o1, x1, e1, l1, hx1, c1, r1⟩ := GX.out.l.t.get hlt
      obtain ⟨b2, o2, x2, e2, l2, hx2, c2, r2⟩ := GM.out.l.t.get hlt
      obtain ⟨b3, o3, x3, e3, l3, hx3, c3, r3⟩ := GG.out.l.t.get (k := j) (by show j < gn; have := HGN.out; omega)
      dsimp only at e1 e2 e3 hx1 hx2 hx3
      subst e1
      subst e2
      subst e3
      obtain ⟨pa, pn, pc, pl⟩ := x1
      obtain ⟨qa, qn, qc, ql⟩ := x2
      obtain ⟨sa', sn', sc', sl'⟩ := x3
      dsimp only at c1 c2 c3 r1 r2 r3
      have HL2 : Hid (ql = sl') := Lib.hid (by
        have h2 := datL_get hx2
        have h3 := datL_get hx3
        rw [HGT.out, List.getElem?_append_left (by rw [HUN.out]; exact hlt), h2] at h3
        exact Option.some.inj h3)
      have HL1 : Hid (j ≠ k → ql = pl) := Lib.hid (fun hne => by
        have h1 := datL_get hx1
        have h2 := datL_get hx2
        rw [HUT.out, List.getElem?_set_ne (by omega), h1] at h2
        exact (Option.some.inj h2).symm)
      have TD2 : Hid (∀ x : Ext wr, Calls Try.prog 29 #[.slice sa' sn' sc', .slice qa qn qc] x.v fun e w' => e = .returned (.bool true) ∧ Below x.v.heap.size x.v w') := Lib.hid (fun x => reftodosB sa' qa sn' sc' qn qc sl' ql true (decide_eq_true HL2.out.symm) x.v (r3.below x.below) (r2.below x.below))
      have TD1 : Hid (j ≠ k → ∀ x : Ext wr, Calls Try.prog 29 #[.slice qa qn qc, .slice pa pn pc] x.v fun e w' => e = .returned (.bool true) ∧ Below x.v.heap.size x.v w') := Lib.hid (fun hne x => reftodosB qa pa qn qc pn pc ql pl true (decide_eq_true (HL1.out hne)) x.v (r2.below x.below) (r1.below x.below))
      have hj1 : (j : Int) < (gn : Int) := by omega
      have hj2 : ¬ ((gn : Int) ≤ (j : Int)) := by omega
      have hj3 : decide ((gn : Int) ≤ (j : Int)) = false := decide_eq_false hj2
      have hj4 : decide (gn ≤ j) = false := decide_eq_false (by omega)
      clear hx1 hx2 hx3 r1 r2 r3
      by_cases hjk : j = k
      · have n1 : ((j : Int) != (k : Int)) = false := by rw [hjk]; simp
        have n2 : ((j : Int) == (k : Int)) = true := by rw [hjk]; simp
        clear hjk
        go_upto_region 15 with fail
        have z0 := Ext.cell z0 GX.out.b.lt
        have m0 := Ext.cell m0 GM.out.b.lt
        have y0 := Ext.cell y0 GG.out.b.lt
        have c1 := Ext.cell c1 l1
        have c2 := Ext.cell c2 l2
        have c3 := Ext.cell c3 l3
        refine wp_region_ext (by kernel_rfl) (by kernel_rfl) ?_
        repeat (go_big_quiet_step (first | (go_at_call 29; with_reducible exact Ext.call_below (TD2.out _))))
        refine wpQuiet_nil ?_
        intro w' hw'
        obtain ⟨⟨wz, hbz⟩, hw''⟩ := hw'
        dsimp only at hw''
        subst hw''
        clear z0 m0 y0 c1 c2 c3
        go_wp2
        go_roundw
        case rel => exact ⟨j + 1, by omega, by go_num, Lib.hid (HB.out.trans (hbz.mono HB.out.size))⟩
        case measure => simp [intOf]; omega
      · have n1 : ((j : Int) != (k : Int)) = true := bne_iff_ne.2 (by omega)
        have n2 : ((j : Int) == (k : Int)) = false := beq_eq_false_iff_ne.2 (by omega)
        have TD1 := Lib.hid (TD1.out hjk)
        clear hjk
        go_upto_region 15 with fail
        have z0 := Ext.cell z0 GX.out.b.lt
        have m0 := Ext.cell m0 GM.out.b.lt
        have y0 := Ext.cell y0 GG.out.b.lt
        have c1 := Ext.cell c1 l1
        have c2 := Ext.cell c2 l2
        have c3 := Ext.cell c3 l3
        refine wp_region_ext (by kernel_rfl) (by kernel_rfl) ?_
        repeat (go_big_quiet_step (first | (go_at_call 29; with_reducible exact Ext.call_below (TD1.out _)) | (go_at_call 29; with_reducible exact Ext.call_below (TD2.out _))))
        refine wpQuiet_nil ?_
        intro w' hw'
        obtain ⟨⟨wz, hbz⟩, hw''⟩ := hw'
        dsimp only at hw''
        subst hw''
        clear z0 m0 y0 c1 c2 c3
        go_wp2
        go_roundw
        case rel => exact ⟨j + 1, by omega, by go_num, Lib.hid (HB.out.trans (hbz.mono HB.out.size))⟩
        case measure => simp [intOf]; omega
    · obtain rfl : j = un := by omega
      obtain ⟨b3, o3, x3, e3, l3, hx3, c3, r3⟩ := GG.out.l.t.get (k := j) (by show j < gn; have := HGN.out; omega)
      dsimp only at e3 hx3
      subst e3
      obtain ⟨sa', sn', sc', sl'⟩ := x3
      dsimp only at c3 r3
      obtain rfl : sn' = 0 := by
        have h3 := datL_get hx3
        rw [HGT.out, List.getElem?_append_right (by rw [HUN.out]; exact Nat.le_refl _), HUN.out, Nat.sub_self] at h3
        have h4 : sl' = [] := (Option.some.inj h3).symm
        rw [← r3.hlen, h4]
        rfl
      have hj0 : j ≤ 1000 := by rw [← HTL.out]; exact HSM.out.td
      have q5 : ((gn : Int) == (j : Int) + 1) = true := beq_iff_eq.2 (by have := HGN.out; omega)
      clear hx3 r3
      have y1 := GG.out.b.c1
      have y2 := GG.out.b.c2
      have y3 := GG.out.b.c3
      dsimp only at y1 y2 y3
      go_wp2_with (go_at_call 15; (with_reducible refine (RT2.out _ _ M9.out GG.out.l).mono ?_); rintro e wz ⟨rfl, hb⟩; have GX := Lib.hid (GX.out.keep hb); clear hb)
      go_ret
      exact ⟨rfl, GX.out.w⟩
end Go.Proofs.Ytadlmjiebhpaoaa
