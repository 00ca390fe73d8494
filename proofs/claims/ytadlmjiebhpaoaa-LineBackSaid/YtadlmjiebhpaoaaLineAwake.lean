/- instarlaw11's awake. -/
import Derived.Test.YtadlmjiebhpaoaaLineLaw
import Derived.Test.YtadlmjiebhpaoaaRef11SameL
namespace Go.Proofs.Ytadlmjiebhpaoaa
open Go.RowKit
abbrev awT1 : TodoD := ⟨1, 0, ⟨#[]⟩, false, false, ⟨#[]⟩, ⟨#[]⟩, 0, 0, false⟩
abbrev awT2 : TodoD := ⟨2, 0, ⟨#[]⟩, false, false, ⟨#[]⟩, ⟨#[]⟩, 0, 0, false⟩
theorem awOk1 : okTd awT1 := ⟨by unfold In64; decide, by unfold In64; decide, by unfold maxLen; decide, by unfold maxLen; decide, by unfold maxLen; decide, by unfold In64; decide, by unfold In64; decide⟩
theorem awOk2 : okTd awT2 := ⟨by unfold In64; decide, by unfold In64; decide, by unfold maxLen; decide, by unfold maxLen; decide, by unfold maxLen; decide, by unfold In64; decide, by unfold In64; decide⟩
theorem awC1 (V : World) : Calls Try.prog 19 #[lineV none 0 0 none 0 0 none 0 0 false] V (GrowP V ⟨[[]], [], [], false⟩) := grow11_any .zero V (zero_line V) ⟨by decide, by decide, by decide, by decide, by decide⟩
theorem awC2 (V : World) (u : LnV) (hd : u.dat = ⟨[[]], [], [], false⟩) (hl : LineAt V u) : Calls Try.prog 19 #[u.val] V (GrowP V ⟨[[], []], [], [], false⟩) := by
  have h := grow11_any u V hl (by rw [hd]; exact ⟨by decide, by decide, by decide, by decide, by decide⟩)
  rw [hd] at h
  exact h
theorem awC3 (V : World) (u : LnV) (hd : u.dat = ⟨[[], []], [], [], false⟩) (hl : LineAt V u) : Calls Try.prog 21 #[u.val] V (GrowP V ⟨[[], []], [[]], [], false⟩) := by
  have h := open11_any u V hl (by rw [hd]; exact ⟨by decide, by decide, by decide, by decide, by decide⟩)
  rw [hd] at h
  exact h
theorem awC4 (V : World) (u : LnV) (hd : u.dat = ⟨[[], []], [[]], [], false⟩) (hl : LineAt V u) : Calls Try.prog 10 #[u.val, .int .i64 1, awT1.val] V (AddP V ⟨[[], [awT1]], [[1]], [], false⟩ false 0) := by
  have h := add_list u 1 awT1 V hl (by rw [hd]; exact ⟨by decide, by decide, by decide, by decide, by decide⟩) awOk1 (by rw [hd]; decide) (by rw [hd]; decide) 0 (by rw [hd]; rfl)
  rw [hd] at h
  exact h
theorem awC5 (V : World) (u : LnV) (hd : u.dat = ⟨[[], [awT1]], [[1]], [], false⟩) (hl : LineAt V u) : Calls Try.prog 11 #[u.val] V (ShutP V ⟨[[], [awT1]], [], [], false⟩ [1] 0) := by
  have h := shut_ok u V hl (by rw [hd]; exact ⟨by decide, by decide, by decide, by decide, by decide⟩) (by rw [hd]; decide) 0 (by rw [hd]; rfl)
  rw [hd] at h
  exact h
theorem awC6 (V : World) (u : LnV) (hd : u.dat = ⟨[[], [awT1]], [], [], false⟩) (hl : LineAt V u) : Calls Try.prog 10 #[u.val, .int .i64 0, awT2.val] V (AddP V ⟨[[awT2], [awT1]], [], [0], true⟩ true 0) := by
  have h := add_back u 0 awT2 V hl (by rw [hd]; exact ⟨by decide, by decide, by decide, by decide, by decide⟩) awOk2 (by rw [hd]; decide) (by rw [hd]; decide) (by rw [hd]; rfl)
  rw [hd] at h
  exact h
theorem awC7 (V : World) (u : LnV) (hd : u.dat = ⟨[[awT2], [awT1]], [], [0], true⟩) (hl : LineAt V u) : Calls Try.prog 12 #[u.val, .int .i64 1] V (TakeP V ⟨[[awT2], []], [], [0], true⟩ awT1 true) := by
  have h := take_some u 1 awT1 [] V hl (by rw [hd]; exact ⟨by decide, by decide, by decide, by decide, by decide⟩) (by rw [hd]; decide) (by rw [hd]; decide) (by rw [hd]; rfl)
  rw [hd] at h
  exact h
theorem awC8 (V : World) (u : LnV) (hd : u.dat = ⟨[[awT2], []], [], [0], true⟩) (hl : LineAt V u) : Calls Try.prog 14 #[u.val] V (PullP V ⟨[[awT2], []], [], [], true⟩ 0 true) := by
  have h := pull_some u V hl (by rw [hd]; exact ⟨by decide, by decide, by decide, by decide, by decide⟩) (by rw [hd]; decide) 0 [] (by rw [hd])
  rw [hd] at h
  exact h
theorem awC9 (V : World) (u : LnV) (hd : u.dat = ⟨[[awT2], [awT1]], [], [0], true⟩) (hl : LineAt V u) : Calls Try.prog 15 #[u.val] V fun e w' => e = .returned (.bool true) ∧ Below V.heap.size V w' := by
  have h := right11_any u V hl
  rw [hd] at h
  exact h
theorem awC10 (V : World) (u : LnV) (hd : u.dat = ⟨[[awT2], [awT1]], [], [0], true⟩) (hl : LineAt V u) : Calls Try.prog 16 #[u.val] V fun e w' => e = .returned (.bool false) ∧ Below V.heap.size V w' := by
  have h := idle11_any u V hl
  rw [hd] at h
  exact h
theorem awC11 (V : World) : Calls Try.prog 16 #[lineV none 0 0 none 0 0 none 0 0 false] V fun e w' => e = .returned (.bool true) ∧ Below V.heap.size V w' := idle11_any .zero V (zero_line V)
set_option maxHeartbeats 4000000 in
set_option maxRecDepth 100000 in
theorem awake11_any (w : World) : Calls Try.prog 7 #[] w fun e w' => e = .returned (.bool true) ∧ Below w.heap.size w w' := by
  have C1 := Lib.hid awC1
  have C2 := Lib.hid awC2
  have C3 := Lib.hid awC3
  have C4 := Lib.hid awC4
  have C5 := Lib.hid awC5
  have C6 := Lib.hid awC6
  have C7 := Lib.hid awC7
  have C8 := Lib.hid awC8
  have C9 := Lib.hid awC9
  have C10 := Lib.hid awC10
  have C11 := Lib.hid awC11
  go_enter Try.func7, Try.ntmps7
  go_upto_region 2 with (first
    | (go_at_call 19; (with_reducible refine (C1.out _).mono ?_); rintro e w1 ⟨u1, rfl, hd1, hl1, -, hb1⟩; have D1 := Lib.hid hd1; have L1 := Lib.hid hl1; have B1 := Lib.hid hb1; clear hd1 hl1 hb1)
    | (go_at_call 19; (with_reducible refine (C2.out _ _ D1.out L1.out).mono ?_); rintro e w2 ⟨u2, rfl, hd2, hl2, -, hb2⟩; have D2 := Lib.hid hd2; have L2 := Lib.hid hl2; have B2 := Lib.hid hb2; clear hd2 hl2 hb2)
    | (go_at_call 21; (with_reducible refine (C3.out _ _ D2.out L2.out).mono ?_); rintro e w3 ⟨u3, rfl, hd3, hl3, -, hb3⟩; have D3 := Lib.hid hd3; have L3 := Lib.hid hl3; have B3 := Lib.hid hb3; clear hd3 hl3 hb3))
  have BW3 := Lib.hid (B1.out.trans ((B2.out.mono B1.out.size).trans (B3.out.mono (Nat.le_trans B1.out.size B2.out.size))))
  obtain ⟨g, hg⟩ : ∃ g, w3.heap.size = g := ⟨_, rfl⟩
  obtain ⟨W3, hW3⟩ : ∃ W, w3.alloc u3.obj = W := ⟨_, rfl⟩
  have X3 : Hid (LBox W3 g u3 ∧ LineAt W3 u3 ∧ Below w.heap.size w W3 ∧ w.heap.size ≤ g) := Lib.hid (by
    rw [← hW3, ← hg]
    exact ⟨LBox.new _ _, L3.out.below (below_one _ _), BW3.out.trans ((below_one _ _).mono BW3.out.size), BW3.out.size⟩)
  rw [hW3, hg]
  clear hW3 hg L1 L2 L3 B1 B2 B3 BW3 D1 D2 C1 C2 C3
  have z0 := X3.out.1.c0; have z1 := X3.out.1.c1; have z2 := X3.out.1.c2; have z3 := X3.out.1.c3; have f0 := X3.out.1.f 0; have f1 := X3.out.1.f 1; have f2 := X3.out.1.f 2; have f3 := X3.out.1.f 3
  go_upto_region 3 with (go_at_call 10; (with_reducible refine (C4.out _ _ D3.out X3.out.2.1).mono ?_); rintro e w4 ⟨u4, rfl, hd, hl, hn, hb⟩; have D4 := Lib.hid hd; have L4 := Lib.hid hl; have N4 := Lib.hid hn; have B4 := Lib.hid hb; clear z0 z1 z2 z3 f0 f1 f2 f3; have z0 := (X3.out.1.keep hb).c0; have z1 := (X3.out.1.keep hb).c1; have z2 := (X3.out.1.keep hb).c2; have z3 := (X3.out.1.keep hb).c3; have f0 := (X3.out.1.keep hb).f 0; have f1 := (X3.out.1.keep hb).f 1; have f2 := (X3.out.1.keep hb).f 2; have f3 := (X3.out.1.keep hb).f 3; clear hd hl hn hb)
  clear z0 z1 z2 z3 f0 f1 f2 f3
  obtain ⟨W4, hW, hbx, hla, hgr, hsz⟩ := X3.out.1.put B4.out L4.out N4.out
  rw [hW]
  have X4 : Hid (LBox W4 g u4 ∧ LineAt W4 u4 ∧ Below w.heap.size w W4 ∧ w.heap.size ≤ g) := Lib.hid ⟨hbx, hla, ((X3.out.2.2.1.trans (B4.out.mono X3.out.2.2.1.size)).grown hgr (by have h1 := X3.out.2.2.1.size; have h2 := B4.out.size; omega) (fun k hk => by injection hk with hk; have h3 := X3.out.2.2.2; omega)), X3.out.2.2.2⟩
  clear hW hbx hla hgr hsz L4 N4
  have z0 := X4.out.1.c0; have z1 := X4.out.1.c1; have z2 := X4.out.1.c2; have z3 := X4.out.1.c3; have f0 := X4.out.1.f 0; have f1 := X4.out.1.f 1; have f2 := X4.out.1.f 2; have f3 := X4.out.1.f 3
  go_upto_region 4 with (go_at_call 11; (with_reducible refine (C5.out _ _ D4.out X4.out.2.1).mono ?_); rintro e w5 ⟨u5, a5, n5, c5, rfl, hd, hl, hn, hir, hlo, hb⟩; have R5 := Lib.hid hir; have O5 := Lib.hid hlo; clear hir hlo; have D5 := Lib.hid hd; have L5 := Lib.hid hl; have N5 := Lib.hid hn; have B5 := Lib.hid hb; clear z0 z1 z2 z3 f0 f1 f2 f3; have z0 := (X4.out.1.keep hb).c0; have z1 := (X4.out.1.keep hb).c1; have z2 := (X4.out.1.keep hb).c2; have z3 := (X4.out.1.keep hb).c3; have f0 := (X4.out.1.keep hb).f 0; have f1 := (X4.out.1.keep hb).f 1; have f2 := (X4.out.1.keep hb).f 2; have f3 := (X4.out.1.keep hb).f 3; clear hd hl hn hb)
  clear z0 z1 z2 z3 f0 f1 f2 f3
  obtain ⟨W5, hW, hbx, hla, hgr, hsz⟩ := X4.out.1.put B5.out L5.out N5.out
  rw [hW]
  have X5 : Hid (LBox W5 g u5 ∧ LineAt W5 u5 ∧ Below w.heap.size w W5 ∧ w.heap.size ≤ g) := Lib.hid ⟨hbx, hla, ((X4.out.2.2.1.trans (B5.out.mono X4.out.2.2.1.size)).grown hgr (by have h1 := X4.out.2.2.1.size; have h2 := B5.out.size; omega) (fun k hk => by injection hk with hk; have h3 := X4.out.2.2.2; omega)), X4.out.2.2.2⟩
  have R5 : Hid (IntRow W5 a5 n5 c5 [1]) := Lib.hid (R5.out.lrow.stay hgr (fun b o e e2 => by injection e2 with e2; have h1 := O5.out b o e; have h2 := X4.out.1.lt; omega)).int
  clear hW hbx hla hgr hsz L5 N5
  have z0 := X5.out.1.c0; have z1 := X5.out.1.c1; have z2 := X5.out.1.c2; have z3 := X5.out.1.c3; have f0 := X5.out.1.f 0; have f1 := X5.out.1.f 1; have f2 := X5.out.1.f 2; have f3 := X5.out.1.f 3
  go_upto_region 5 with (go_at_call 10; (with_reducible refine (C6.out _ _ D5.out X5.out.2.1).mono ?_); rintro e w6 ⟨u6, rfl, hd, hl, hn, hb⟩; have D6 := Lib.hid hd; have L6 := Lib.hid hl; have N6 := Lib.hid hn; have B6 := Lib.hid hb; clear z0 z1 z2 z3 f0 f1 f2 f3; have z0 := (X5.out.1.keep hb).c0; have z1 := (X5.out.1.keep hb).c1; have z2 := (X5.out.1.keep hb).c2; have z3 := (X5.out.1.keep hb).c3; have f0 := (X5.out.1.keep hb).f 0; have f1 := (X5.out.1.keep hb).f 1; have f2 := (X5.out.1.keep hb).f 2; have f3 := (X5.out.1.keep hb).f 3; clear hd hl hn hb)
  clear z0 z1 z2 z3 f0 f1 f2 f3
  obtain ⟨W6, hW, hbx, hla, hgr, hsz⟩ := X5.out.1.put B6.out L6.out N6.out
  rw [hW]
  have X6 : Hid (LBox W6 g u6 ∧ LineAt W6 u6 ∧ Below w.heap.size w W6 ∧ w.heap.size ≤ g) := Lib.hid ⟨hbx, hla, ((X5.out.2.2.1.trans (B6.out.mono X5.out.2.2.1.size)).grown hgr (by have h1 := X5.out.2.2.1.size; have h2 := B6.out.size; omega) (fun k hk => by injection hk with hk; have h3 := X5.out.2.2.2; omega)), X5.out.2.2.2⟩
  have R6 : Hid (IntRow W6 a5 n5 c5 [1]) := Lib.hid ((R5.out.below B6.out).lrow.stay hgr (fun b o e e2 => by injection e2 with e2; have h1 := O5.out b o e; have h2 := X4.out.1.lt; omega)).int
  clear hW hbx hla hgr hsz L6 N6
  have z0 := X6.out.1.c0; have z1 := X6.out.1.c1; have z2 := X6.out.1.c2; have z3 := X6.out.1.c3; have f0 := X6.out.1.f 0; have f1 := X6.out.1.f 1; have f2 := X6.out.1.f 2; have f3 := X6.out.1.f 3
  go_upto_region 6 with (go_at_call 12; (with_reducible refine (C7.out _ _ D6.out X6.out.2.1).mono ?_); rintro e w7 ⟨u7, rfl, hd, hl, hn, hb⟩; have D7 := Lib.hid hd; have L7 := Lib.hid hl; have B7 := Lib.hid hb; clear hd hl hn hb)
  clear z0 z1 z2 z3 f0 f1 f2 f3
  obtain ⟨g7, hg7⟩ : ∃ g7, w7.heap.size = g7 := ⟨_, rfl⟩
  obtain ⟨W7, hW7⟩ : ∃ W, (w7.alloc u7.obj).alloc awT1.obj = W := ⟨_, rfl⟩
  have X7 : Hid (LBox W7 g7 u7 ∧ LineAt W7 u7 ∧ Below W6.heap.size W6 W7) := Lib.hid (by
    rw [← hW7, ← hg7]
    exact ⟨(LBox.new _ _).keep (below_one _ _), (L7.out.below (below_one _ _)).below (below_one _ _), B7.out.trans (((below_one _ _).trans ((below_one _ _).mono (by simp))).mono B7.out.size)⟩)
  have Q7 : Hid (QBox W7 (g7 + 1) awT1) := Lib.hid (by
    rw [← hW7, ← hg7]
    refine QBox.of ?_
    have h := heap_alloc_new (w7.alloc u7.obj) awT1.obj
    rw [show (w7.alloc u7.obj).heap.size = w7.heap.size + 1 by simp] at h
    exact h)
  rw [hW7, hg7]
  clear hW7 hg7 L7 B7
  have z0 := X7.out.1.c0; have z1 := X7.out.1.c1; have z2 := X7.out.1.c2; have z3 := X7.out.1.c3
  go_upto_region 7 with (go_at_call 14; (with_reducible refine (C8.out _ _ D7.out X7.out.2.1).mono ?_); rintro e w8 ⟨u8, rfl, hd, hl, hn, hb⟩; have B8 := Lib.hid hb; clear hd hl hn hb)
  clear z0 z1 z2 z3
  obtain ⟨W8, hW8⟩ : ∃ W, w8.alloc u8.obj = W := ⟨_, rfl⟩
  have B68 : Hid (Below W6.heap.size W6 W8) := Lib.hid (by
    rw [← hW8]
    have h1 := B8.out.trans ((below_one w8 u8.obj).mono B8.out.size)
    exact X7.out.2.2.trans (h1.mono X7.out.2.2.size))
  have Q8 : Hid (QBox W8 (g7 + 1) awT1) := Lib.hid (by
    rw [← hW8]
    have h1 := B8.out.trans ((below_one w8 u8.obj).mono B8.out.size)
    exact QBox.of ((h1.block _ (Array.getElem?_eq_some_iff.1 Q7.out.h).1).trans Q7.out.h))
  rw [hW8]
  clear hW8
  have BX := Lib.hid (X6.out.1.keep B68.out)
  have LX := Lib.hid (X6.out.2.1.below B68.out)
  have RX := Lib.hid (R6.out.below B68.out)
  have BWX := Lib.hid (X6.out.2.2.1.trans (B68.out.mono X6.out.2.2.1.size))
  have CI : Hid (∀ V, Below W8.heap.size W8 V → Calls Try.prog 25 #[.slice a5 n5 c5, .slice (some ⟨V.heap.size, 0, none⟩) 1 1] (V.alloc (.cells #[.int .i64 1] 3)) fun e w' => e = .returned (.bool true) ∧ Below V.heap.size V w') := Lib.hid (fun V hb => (refintsB a5 (some ⟨V.heap.size, 0, none⟩) n5 c5 1 1 [1] [1] true (by decide) (V.alloc (.cells #[.int .i64 1] 3)) ((RX.out.below hb).below (below_one _ _)) ⟨own_one V 3 (1 : Int) #[.int .i64 1] rfl rfl, (fun z hz => by rw [List.mem_singleton.1 hz]; unfold In64; decide), fun e => by cases e⟩).mono (fun e w' h => ⟨h.1, (below_one V _).trans (h.2.mono (by simp))⟩))
  have HV := Lib.hid (Below.refl W8.heap.size W8)
  have z0 := BX.out.c0; have z1 := BX.out.c1; have z2 := BX.out.c2; have z3 := BX.out.c3
  have q0 := Q8.out.c.c0
  dsimp only at q0
  go_wp2_with (first
    | (go_at_call 25; (with_reducible refine (CI.out _ HV.out).mono ?_); rintro e w9 ⟨rfl, hb⟩; have HV := Lib.hid (HV.out.trans (hb.mono HV.out.size)); clear z0 z1 z2 z3 q0; have z0 := (BX.out.keep HV.out).c0; have z1 := (BX.out.keep HV.out).c1; have z2 := (BX.out.keep HV.out).c2; have z3 := (BX.out.keep HV.out).c3; have q0 := (QBox.of ((HV.out.block _ (Array.getElem?_eq_some_iff.1 Q8.out.h).1).trans Q8.out.h)).c.c0; dsimp only at q0; clear hb)
    | (go_at_call 15; (with_reducible refine (C9.out _ _ D6.out (LX.out.below HV.out)).mono ?_); rintro e w9 ⟨rfl, hb⟩; have HV := Lib.hid (HV.out.trans (hb.mono HV.out.size)); clear z0 z1 z2 z3 q0; have z0 := (BX.out.keep HV.out).c0; have z1 := (BX.out.keep HV.out).c1; have z2 := (BX.out.keep HV.out).c2; have z3 := (BX.out.keep HV.out).c3; have q0 := (QBox.of ((HV.out.block _ (Array.getElem?_eq_some_iff.1 Q8.out.h).1).trans Q8.out.h)).c.c0; dsimp only at q0; clear hb)
    | (go_at_call 16; (with_reducible refine (C11.out _).mono ?_); rintro e w9 ⟨rfl, hb⟩; have HV := Lib.hid (HV.out.trans (hb.mono HV.out.size)); clear hb)
    | (go_at_call 16; (with_reducible refine (C10.out _ _ D6.out (LX.out.below HV.out)).mono ?_); rintro e w9 ⟨rfl, hb⟩; have HV := Lib.hid (HV.out.trans (hb.mono HV.out.size)); clear hb))
  go_ret
  exact ⟨rfl, BWX.out.trans (HV.out.mono BWX.out.size)⟩
end Go.Proofs.Ytadlmjiebhpaoaa
