/- Texts joined in build order: DeskMay DeskFresh. -/
import Derived.Test.YtkomeijlljcdgaaGreatR17
import Derived.Test.YtkomeijlljcdgaaGreatR07
import Derived.Lib.SliceRun
import Derived.Deep.RegionHeld3
import Derived.Deep.RegionLaw
import Derived.Deep.SlicePairs
namespace Go.Proofs.YtkomeijlljcdgaaGreat
open Go.RowKit
set_option maxHeartbeats 1000000 in
set_option maxRecDepth 100000 in
theorem classed_any (da : Option Addr) (dl dc : Nat) (wa : Option Addr) (wl wc : Nat) (nx : Int) (bz : Bool) (L : List DefD) (M : List WaitD) (s : Int) (w : World) (hd : DefRow w da dl dc L) (ht : WaitRow w wa wl wc M) :
    Calls Tryz.prog 87 #[deskV da dl dc wa wl wc nx bz, .int .i64 s] w fun e w' => e = .returned (.int .i64 (ifRight ⟨L, M, nx, bz⟩ (classedZ L s))) ∧ Below w.heap.size w w' := by
  have eg : ∀ args w, (callFunc 106 args).run Tryz.prog w = .ok (.enter 106 args) w := enters_of Tryz.func106 (by kernel_rfl) rfl
  have DX := Lib.hid (DBox.two (nx := nx) (bz := bz) hd ht (.cells #[.int .i64 s] 3))
  have HC := Lib.hid (cell_new (w.alloc (deskB da dl dc wa wl wc nx bz)) (.int .i64 s) 3)
  have PL := Lib.hid (place_any 106 #[.pointer (some ⟨(w.alloc (deskB da dl dc wa wl wc nx bz)).heap.size, 0, none⟩)] (isCls s) eg da dl dc wa wl wc nx bz L M _ DX.out.d DX.out.t (pred_classed s _ _ (by simp) HC.out))
  obtain ⟨q, hq⟩ : ∃ q, ifRight ⟨L, M, nx, bz⟩ (firstZ (isCls s) L) = q := ⟨_, rfl⟩
  have hq2 : ifRight ⟨L, M, nx, bz⟩ (classedZ L s) = q := hq
  rw [hq] at PL
  rw [hq2]
  clear hq hq2 eg hd ht HC
  have z0 := DX.out.c0
  have z1 := DX.out.c1
  have z2 := DX.out.c2
  have z3 := DX.out.c3
  have hsz : (w.alloc (deskB da dl dc wa wl wc nx bz)).heap.size = w.heap.size + 1 := by simp
  rw [hsz] at PL
  go_enter Tryz.func87, Tryz.ntmps87
  go_wp2_with (go_at_call 49; (with_reducible refine PL.out.mono ?_); rintro e w5 ⟨rfl, hb⟩)
  go_ret
  exact ⟨rfl, DX.out.below.trans (hb.mono DX.out.below.size)⟩
theorem find_ifRight {D : DeskD} {l s : List UInt8} : ifRight D (findZ2 D.defs l s) = if ifRight D (firstZ (isOwn l) D.defs) = -1 then ifRight D (firstZ (isIs l s) D.defs) else ifRight D (firstZ (isOwn l) D.defs) := by
  have h1 := (firstZ_lt (isOwn l) D.defs).1
  unfold ifRight findZ2
  cases rightK D with
  | false => rfl
  | true =>
    rw [if_pos rfl, if_pos rfl, if_pos rfl]
    by_cases h : firstZ (isOwn l) D.defs = -1
    · rw [if_pos h, if_neg (by omega)]
    · rw [if_neg h, if_pos (by omega)]
set_option maxHeartbeats 1000000 in
set_option maxRecDepth 100000 in
theorem deskfind_any (da : Option Addr) (dl dc : Nat) (wa : Option Addr) (wl wc : Nat) (nx : Int) (bz : Bool) (L : List DefD) (M : List WaitD) (l s : ByteArray) (w : World) (hd : DefRow w da dl dc L) (ht : WaitRow w wa wl wc M) :
    Calls Tryz.prog 25 #[deskV da dl dc wa wl wc nx bz, .string l, .string s] w fun e w' => e = .returned (.int .i64 (ifRight ⟨L, M, nx, bz⟩ (findZ2 L l.toList s.toList))) ∧ Below w.heap.size w w' := by
  have eg1 : ∀ args w, (callFunc 50 args).run Tryz.prog w = .ok (.enter 50 args) w := enters_of Tryz.func50 (by kernel_rfl) rfl
  have eg2 : ∀ args w, (callFunc 51 args).run Tryz.prog w = .ok (.enter 51 args) w := enters_of Tryz.func51 (by kernel_rfl) rfl
  have HO := Lib.hid (find_ifRight (D := ⟨L, M, nx, bz⟩) (l := l.toList) (s := s.toList))
  have DX := Lib.hid ((DBox.two (nx := nx) (bz := bz) hd ht (.cells #[.string l] 9)).keep (below_desk _ (.cells #[.string s] 9)))
  have hs1 : (w.alloc (deskB da dl dc wa wl wc nx bz)).heap.size = w.heap.size + 1 := by simp
  have hs2 : ((w.alloc (deskB da dl dc wa wl wc nx bz)).alloc (.cells #[.string l] 9)).heap.size = w.heap.size + 1 + 1 := by simp
  have HC1 : Hid ((((w.alloc (deskB da dl dc wa wl wc nx bz)).alloc (.cells #[.string l] 9)).alloc (.cells #[.string s] 9)).cell? ⟨w.heap.size + 1, 0, none⟩ = some (.string l)) := Lib.hid (by
    rw [← hs1]
    exact ((below_desk _ (.cells #[.string s] 9)).cell (p := ⟨(w.alloc (deskB da dl dc wa wl wc nx bz)).heap.size, 0, none⟩) (by simp)).trans (cell_new _ _ _))
  have HC2 : Hid ((((w.alloc (deskB da dl dc wa wl wc nx bz)).alloc (.cells #[.string l] 9)).alloc (.cells #[.string s] 9)).cell? ⟨w.heap.size + 1 + 1, 0, none⟩ = some (.string s)) := Lib.hid (by
    rw [← hs2]
    exact cell_new _ _ _)
  have hs3 : (((w.alloc (deskB da dl dc wa wl wc nx bz)).alloc (.cells #[.string l] 9)).alloc (.cells #[.string s] 9)).heap.size = w.heap.size + 1 + 1 + 1 := by simp
  obtain ⟨q1, hq1⟩ : ∃ q, ifRight ⟨L, M, nx, bz⟩ (firstZ (isOwn l.toList) L) = q := ⟨_, rfl⟩
  obtain ⟨q2, hq2⟩ : ∃ q, ifRight ⟨L, M, nx, bz⟩ (firstZ (isIs l.toList s.toList) L) = q := ⟨_, rfl⟩
  obtain ⟨V, hV⟩ : ∃ V, ((w.alloc (deskB da dl dc wa wl wc nx bz)).alloc (.cells #[.string l] 9)).alloc (.cells #[.string s] 9) = V := ⟨_, rfl⟩
  rw [hV] at HC1 HC2 hs3 DX
  have P1 : Hid (∀ U, Below V.heap.size V U → Calls Tryz.prog 49 #[deskV da dl dc wa wl wc nx bz, .func (.func 50) #[] #[.pointer (some ⟨w.heap.size + 1, 0, none⟩)]] U fun e w' => e = .returned (.int .i64 q1) ∧ Below U.heap.size U w') := Lib.hid (fun U hb => by
    have h := place_any 50 #[.pointer (some ⟨w.heap.size + 1, 0, none⟩)] (isOwn l.toList) eg1 da dl dc wa wl wc nx bz L M U (DX.out.keep hb).d (DX.out.keep hb).t ((pred_own l (w.heap.size + 1) V (by omega) HC1.out).later hb)
    rw [hq1] at h
    exact h)
  have P2 : Hid (∀ U, Below V.heap.size V U → Calls Tryz.prog 49 #[deskV da dl dc wa wl wc nx bz, .func (.func 51) #[] #[.pointer (some ⟨w.heap.size + 1 + 1, 0, none⟩), .pointer (some ⟨w.heap.size + 1, 0, none⟩)]] U fun e w' => e = .returned (.int .i64 q2) ∧ Below U.heap.size U w') := Lib.hid (fun U hb => by
    have h := place_any 51 #[.pointer (some ⟨w.heap.size + 1 + 1, 0, none⟩), .pointer (some ⟨w.heap.size + 1, 0, none⟩)] (isIs l.toList s.toList) eg2 da dl dc wa wl wc nx bz L M U (DX.out.keep hb).d (DX.out.keep hb).t ((pred_is l s (w.heap.size + 1 + 1) (w.heap.size + 1) V (by omega) HC2.out (by omega) HC1.out).later hb)
    rw [hq2] at h
    exact h)
  dsimp only at HO
  rw [hq1, hq2] at HO
  have HW := Lib.hid hV
  clear hq1 hq2 eg1 eg2 hd ht HC1 HC2 hV hs1 hs2
  go_enter Tryz.func25, Tryz.ntmps25
  go_upto_region 1 with fail
  rw [HW.out]
  have z0 := DX.out.c0
  have z1 := DX.out.c1
  have z2 := DX.out.c2
  have z3 := DX.out.c3
  clear HW hs3
  cases e1 : q1 == -1 with
  | false =>
    have HR : Hid (ifRight ⟨L, M, nx, bz⟩ (findZ2 L l.toList s.toList) = q1) := Lib.hid (by rw [HO.out, if_neg (beq_eq_false_iff_ne.1 e1)])
    go_wp2_with (go_at_call 49; (with_reducible refine (P1.out _ (Below.refl _ _)).mono ?_); rintro e w5 ⟨rfl, hb⟩)
    go_ret
    exact ⟨ret_int HR.out.symm, DX.out.below.trans (hb.mono DX.out.below.size)⟩
  | true =>
    have HR : Hid (ifRight ⟨L, M, nx, bz⟩ (findZ2 L l.toList s.toList) = q2) := Lib.hid (by rw [HO.out, if_pos (beq_iff_eq.1 e1)])
    go_wp2_with (first
      | (go_at_call 49; (with_reducible refine (P1.out _ (Below.refl _ _)).mono ?_); rintro e w5 ⟨rfl, hb⟩; have HV := Lib.hid hb; clear z0 z1 z2 z3 hb; have z0 := (DX.out.keep HV.out).c0; have z1 := (DX.out.keep HV.out).c1; have z2 := (DX.out.keep HV.out).c2; have z3 := (DX.out.keep HV.out).c3)
      | (go_at_call 49; (with_reducible refine (P2.out _ HV.out).mono ?_); rintro e w6 ⟨rfl, hb⟩))
    go_ret
    exact ⟨ret_int HR.out.symm, (DX.out.keep HV.out).below.trans (hb.mono (DX.out.keep HV.out).below.size)⟩
set_option maxHeartbeats 8000000 in
set_option maxRecDepth 100000 in
theorem deskmay_any (da : Option Addr) (dl dc : Nat) (wa : Option Addr) (wl wc : Nat) (nx : Int) (bz : Bool) (L : List DefD) (M : List WaitD) (m : Int) (s base : ByteArray) (c : Int) (w : World) (hd : DefRow w da dl dc L) (ht : WaitRow w wa wl wc M) (hs : s.size ≤ maxLen) :
    Calls Tryz.prog 53 #[deskV da dl dc wa wl wc nx bz, .int .i64 m, .string s, .string base, .int .i64 c] w fun e w' => e = .returned (.int .i64 (mayE ⟨L, M, nx, bz⟩ m s.toList base.toList c)) ∧ Below w.heap.size w w' := by
  have DX := Lib.hid (DBox.start (nx := nx) (bz := bz) hd ht)
  have z0 := DX.out.c0
  have z1 := DX.out.c1
  have z2 := DX.out.c2
  have z3 := DX.out.c3
  obtain ⟨q0, hq0⟩ : ∃ q, rightK ⟨L, M, nx, bz⟩ = q := ⟨_, rfl⟩
  obtain ⟨q1, hq1⟩ : ∃ q, customL s.toList = q := ⟨_, rfl⟩
  obtain ⟨q2, hq2⟩ : ∃ q, knownL base.toList = q := ⟨_, rfl⟩
  obtain ⟨q3, hq3⟩ : ∃ q, namedZ L s.toList = q := ⟨_, rfl⟩
  obtain ⟨q4, hq4⟩ : ∃ q, classedZ L c = q := ⟨_, rfl⟩
  have RI : Hid (∀ V, DefRow V da dl dc L → WaitRow V wa wl wc M → Calls Tryz.prog 23 #[deskV da dl dc wa wl wc nx bz] V fun e w' => e = .returned (.bool q0) ∧ Below V.heap.size V w') := Lib.hid (fun V h1 h2 => by
    have h := deskright_any da dl dc wa wl wc nx bz L M V h1 h2
    rwa [hq0] at h)
  have CU : Hid (∀ V, Calls Tryz.prog 31 #[.string s] V fun e w' => e = .returned (.bool q1) ∧ Below V.heap.size V w') := Lib.hid (fun V => by
    have h := custom_any s V hs
    rwa [hq1] at h)
  have KN : Hid (∀ V, Calls Tryz.prog 88 #[.string base] V fun e w' => e = .returned (.bool q2) ∧ Below V.heap.size V w') := Lib.hid (fun V => by
    have h := known_any base V
    rw [hq2] at h
    exact h.mono (fun e w' h => ⟨h.1, by rw [← h.2]; exact Below.refl _ _⟩))
  have ME : Hid (mayE ⟨L, M, nx, bz⟩ m s.toList base.toList c = if q0 = false ∨ c < 0 ∨ m ≤ c ∨ 11 < c then 1 else if q1 = false then 4 else if 0 ≤ q3 ∨ 0 ≤ q4 then 10 else if base.toList ≠ [] ∧ q2 = false then 6 else if bz = true then 7 else 0) := Lib.hid (by
    unfold mayE
    rw [hq0, hq1, hq2]
    dsimp only
    rw [hq3, hq4])
  have l3 : -1 ≤ q3 := by rw [← hq3]; exact (firstZ_lt _ _).1
  have l4 : -1 ≤ q4 := by rw [← hq4]; exact (firstZ_lt _ _).1
  have NM : Hid (∀ V, DefRow V da dl dc L → WaitRow V wa wl wc M → Calls Tryz.prog 86 #[deskV da dl dc wa wl wc nx bz, .string s] V fun e w' => e = .returned (.int .i64 (if q0 = true then q3 else -1)) ∧ Below V.heap.size V w') := Lib.hid (fun V h1 h2 => by
    have h := named_any da dl dc wa wl wc nx bz L M s V h1 h2
    unfold ifRight at h
    rw [hq0, hq3] at h
    exact h)
  have CL : Hid (∀ V, DefRow V da dl dc L → WaitRow V wa wl wc M → Calls Tryz.prog 87 #[deskV da dl dc wa wl wc nx bz, .int .i64 c] V fun e w' => e = .returned (.int .i64 (if q0 = true then q4 else -1)) ∧ Below V.heap.size V w') := Lib.hid (fun V h1 h2 => by
    have h := classed_any da dl dc wa wl wc nx bz L M c V h1 h2
    unfold ifRight at h
    rw [hq0, hq4] at h
    exact h)
  have L34 : Hid (-1 ≤ q3 ∧ -1 ≤ q4) := Lib.hid ⟨l3, l4⟩
  clear hq0 hq1 hq2 hq3 hq4 hd ht hs l3 l4
  by_cases g0 : q0 = false ∨ c < 0 ∨ m ≤ c ∨ 11 < c
  · have HR : Hid (mayE ⟨L, M, nx, bz⟩ m s.toList base.toList c = 1) := Lib.hid (by rw [ME.out, if_pos g0])
    cases q0 with
    | false => clear g0; (go_enter Tryz.func53, Tryz.ntmps53; go_wp2_with (first
                                                                                                                | (go_at_call 23; (with_reducible refine (RI.out _ DX.out.d DX.out.t).mono ?_); rintro e w5 ⟨rfl, hb⟩; (have DX := Lib.hid (DX.out.keep hb); clear z0 z1 z2 z3 hb; have z0 := DX.out.c0; have z1 := DX.out.c1; have z2 := DX.out.c2; have z3 := DX.out.c3))
                                                                                                                | (go_at_call 31; (with_reducible refine (CU.out _).mono ?_); rintro e w5 ⟨rfl, hb⟩; (have DX := Lib.hid (DX.out.keep hb); clear z0 z1 z2 z3 hb; have z0 := DX.out.c0; have z1 := DX.out.c1; have z2 := DX.out.c2; have z3 := DX.out.c3))
                                                                                                                | (go_at_call 88; (with_reducible refine (KN.out _).mono ?_); rintro e w5 ⟨rfl, hb⟩; (have DX := Lib.hid (DX.out.keep hb); clear z0 z1 z2 z3 hb; have z0 := DX.out.c0; have z1 := DX.out.c1; have z2 := DX.out.c2; have z3 := DX.out.c3))
                                                                                                                | (go_at_call 86; (with_reducible refine (NM.out _ DX.out.d DX.out.t).mono ?_); rintro e w5 ⟨rfl, hb⟩; (have DX := Lib.hid (DX.out.keep hb); clear z0 z1 z2 z3 hb; have z0 := DX.out.c0; have z1 := DX.out.c1; have z2 := DX.out.c2; have z3 := DX.out.c3))
                                                                                                                | (go_at_call 87; (with_reducible refine (CL.out _ DX.out.d DX.out.t).mono ?_); rintro e w5 ⟨rfl, hb⟩; (have DX := Lib.hid (DX.out.keep hb); clear z0 z1 z2 z3 hb; have z0 := DX.out.c0; have z1 := DX.out.c1; have z2 := DX.out.c2; have z3 := DX.out.c3))); go_ret; exact ⟨ret_int HR.out.symm, DX.out.below⟩)
    | true =>
      by_cases d0 : c < 0
      · clear g0; (go_enter Tryz.func53, Tryz.ntmps53; go_wp2_with (first
                                                                                                         | (go_at_call 23; (with_reducible refine (RI.out _ DX.out.d DX.out.t).mono ?_); rintro e w5 ⟨rfl, hb⟩; (have DX := Lib.hid (DX.out.keep hb); clear z0 z1 z2 z3 hb; have z0 := DX.out.c0; have z1 := DX.out.c1; have z2 := DX.out.c2; have z3 := DX.out.c3))
                                                                                                         | (go_at_call 31; (with_reducible refine (CU.out _).mono ?_); rintro e w5 ⟨rfl, hb⟩; (have DX := Lib.hid (DX.out.keep hb); clear z0 z1 z2 z3 hb; have z0 := DX.out.c0; have z1 := DX.out.c1; have z2 := DX.out.c2; have z3 := DX.out.c3))
                                                                                                         | (go_at_call 88; (with_reducible refine (KN.out _).mono ?_); rintro e w5 ⟨rfl, hb⟩; (have DX := Lib.hid (DX.out.keep hb); clear z0 z1 z2 z3 hb; have z0 := DX.out.c0; have z1 := DX.out.c1; have z2 := DX.out.c2; have z3 := DX.out.c3))
                                                                                                         | (go_at_call 86; (with_reducible refine (NM.out _ DX.out.d DX.out.t).mono ?_); rintro e w5 ⟨rfl, hb⟩; (have DX := Lib.hid (DX.out.keep hb); clear z0 z1 z2 z3 hb; have z0 := DX.out.c0; have z1 := DX.out.c1; have z2 := DX.out.c2; have z3 := DX.out.c3))
                                                                                                         | (go_at_call 87; (with_reducible refine (CL.out _ DX.out.d DX.out.t).mono ?_); rintro e w5 ⟨rfl, hb⟩; (have DX := Lib.hid (DX.out.keep hb); clear z0 z1 z2 z3 hb; have z0 := DX.out.c0; have z1 := DX.out.c1; have z2 := DX.out.c2; have z3 := DX.out.c3))); go_ret; exact ⟨ret_int HR.out.symm, DX.out.below⟩)
      have g1 : m ≤ c ∨ 11 < c := by
        rcases g0 with h | h | h | h
        · cases h
        · omega
        · exact .inl h
        · exact .inr h
      by_cases dm : 12 < m
      · have d1 : 12 ≤ c := by omega
        clear g0 g1
        (go_enter Tryz.func53, Tryz.ntmps53; go_wp2_with (first
                                                                                               | (go_at_call 23; (with_reducible refine (RI.out _ DX.out.d DX.out.t).mono ?_); rintro e w5 ⟨rfl, hb⟩; (have DX := Lib.hid (DX.out.keep hb); clear z0 z1 z2 z3 hb; have z0 := DX.out.c0; have z1 := DX.out.c1; have z2 := DX.out.c2; have z3 := DX.out.c3))
                                                                                               | (go_at_call 31; (with_reducible refine (CU.out _).mono ?_); rintro e w5 ⟨rfl, hb⟩; (have DX := Lib.hid (DX.out.keep hb); clear z0 z1 z2 z3 hb; have z0 := DX.out.c0; have z1 := DX.out.c1; have z2 := DX.out.c2; have z3 := DX.out.c3))
                                                                                               | (go_at_call 88; (with_reducible refine (KN.out _).mono ?_); rintro e w5 ⟨rfl, hb⟩; (have DX := Lib.hid (DX.out.keep hb); clear z0 z1 z2 z3 hb; have z0 := DX.out.c0; have z1 := DX.out.c1; have z2 := DX.out.c2; have z3 := DX.out.c3))
                                                                                               | (go_at_call 86; (with_reducible refine (NM.out _ DX.out.d DX.out.t).mono ?_); rintro e w5 ⟨rfl, hb⟩; (have DX := Lib.hid (DX.out.keep hb); clear z0 z1 z2 z3 hb; have z0 := DX.out.c0; have z1 := DX.out.c1; have z2 := DX.out.c2; have z3 := DX.out.c3))
                                                                                               | (go_at_call 87; (with_reducible refine (CL.out _ DX.out.d DX.out.t).mono ?_); rintro e w5 ⟨rfl, hb⟩; (have DX := Lib.hid (DX.out.keep hb); clear z0 z1 z2 z3 hb; have z0 := DX.out.c0; have z1 := DX.out.c1; have z2 := DX.out.c2; have z3 := DX.out.c3))); go_ret; exact ⟨ret_int HR.out.symm, DX.out.below⟩)
      · have d1 : m ≤ c := by omega
        clear g0 g1
        (go_enter Tryz.func53, Tryz.ntmps53; go_wp2_with (first
                                                                                               | (go_at_call 23; (with_reducible refine (RI.out _ DX.out.d DX.out.t).mono ?_); rintro e w5 ⟨rfl, hb⟩; (have DX := Lib.hid (DX.out.keep hb); clear z0 z1 z2 z3 hb; have z0 := DX.out.c0; have z1 := DX.out.c1; have z2 := DX.out.c2; have z3 := DX.out.c3))
                                                                                               | (go_at_call 31; (with_reducible refine (CU.out _).mono ?_); rintro e w5 ⟨rfl, hb⟩; (have DX := Lib.hid (DX.out.keep hb); clear z0 z1 z2 z3 hb; have z0 := DX.out.c0; have z1 := DX.out.c1; have z2 := DX.out.c2; have z3 := DX.out.c3))
                                                                                               | (go_at_call 88; (with_reducible refine (KN.out _).mono ?_); rintro e w5 ⟨rfl, hb⟩; (have DX := Lib.hid (DX.out.keep hb); clear z0 z1 z2 z3 hb; have z0 := DX.out.c0; have z1 := DX.out.c1; have z2 := DX.out.c2; have z3 := DX.out.c3))
                                                                                               | (go_at_call 86; (with_reducible refine (NM.out _ DX.out.d DX.out.t).mono ?_); rintro e w5 ⟨rfl, hb⟩; (have DX := Lib.hid (DX.out.keep hb); clear z0 z1 z2 z3 hb; have z0 := DX.out.c0; have z1 := DX.out.c1; have z2 := DX.out.c2; have z3 := DX.out.c3))
                                                                                               | (go_at_call 87; (with_reducible refine (CL.out _ DX.out.d DX.out.t).mono ?_); rintro e w5 ⟨rfl, hb⟩; (have DX := Lib.hid (DX.out.keep hb); clear z0 z1 z2 z3 hb; have z0 := DX.out.c0; have z1 := DX.out.c1; have z2 := DX.out.c2; have z3 := DX.out.c3))); go_ret; exact ⟨ret_int HR.out.symm, DX.out.below⟩)
  obtain rfl : q0 = true := by cases q0 with | true => rfl | false => exact absurd (.inl rfl) g0
  have d0 : ¬ c < 0 := fun h => g0 (.inr (.inl h))
  have d1 : ¬ m ≤ c := fun h => g0 (.inr (.inr (.inl h)))
  have d2 : ¬ 11 < c := fun h => g0 (.inr (.inr (.inr h)))
  have G0 := Lib.hid g0
  have G5 : Hid (c < m ∧ c ≤ 11) := Lib.hid (by omega)
  clear g0
  have NM : Hid (∀ V, DefRow V da dl dc L → WaitRow V wa wl wc M → Calls Tryz.prog 86 #[deskV da dl dc wa wl wc nx bz, .string s] V fun e w' => e = .returned (.int .i64 q3) ∧ Below V.heap.size V w') := NM
  have CL : Hid (∀ V, DefRow V da dl dc L → WaitRow V wa wl wc M → Calls Tryz.prog 87 #[deskV da dl dc wa wl wc nx bz, .int .i64 c] V fun e w' => e = .returned (.int .i64 q4) ∧ Below V.heap.size V w') := CL
  cases q1 with
  | false =>
    have HR : Hid (mayE ⟨L, M, nx, bz⟩ m s.toList base.toList c = 4) := Lib.hid (by rw [ME.out, if_neg G0.out, if_pos rfl])
    (by_cases dm : 12 < m; (have dg : ¬ 12 ≤ c := (by have := G5.out; omega)); (clear d1 d2); (go_enter Tryz.func53, Tryz.ntmps53; go_wp2_with (first
                                                                                                                                                                                     | (go_at_call 23; (with_reducible refine (RI.out _ DX.out.d DX.out.t).mono ?_); rintro e w5 ⟨rfl, hb⟩; (have DX := Lib.hid (DX.out.keep hb); clear z0 z1 z2 z3 hb; have z0 := DX.out.c0; have z1 := DX.out.c1; have z2 := DX.out.c2; have z3 := DX.out.c3))
                                                                                                                                                                                     | (go_at_call 31; (with_reducible refine (CU.out _).mono ?_); rintro e w5 ⟨rfl, hb⟩; (have DX := Lib.hid (DX.out.keep hb); clear z0 z1 z2 z3 hb; have z0 := DX.out.c0; have z1 := DX.out.c1; have z2 := DX.out.c2; have z3 := DX.out.c3))
                                                                                                                                                                                     | (go_at_call 88; (with_reducible refine (KN.out _).mono ?_); rintro e w5 ⟨rfl, hb⟩; (have DX := Lib.hid (DX.out.keep hb); clear z0 z1 z2 z3 hb; have z0 := DX.out.c0; have z1 := DX.out.c1; have z2 := DX.out.c2; have z3 := DX.out.c3))
                                                                                                                                                                                     | (go_at_call 86; (with_reducible refine (NM.out _ DX.out.d DX.out.t).mono ?_); rintro e w5 ⟨rfl, hb⟩; (have DX := Lib.hid (DX.out.keep hb); clear z0 z1 z2 z3 hb; have z0 := DX.out.c0; have z1 := DX.out.c1; have z2 := DX.out.c2; have z3 := DX.out.c3))
                                                                                                                                                                                     | (go_at_call 87; (with_reducible refine (CL.out _ DX.out.d DX.out.t).mono ?_); rintro e w5 ⟨rfl, hb⟩; (have DX := Lib.hid (DX.out.keep hb); clear z0 z1 z2 z3 hb; have z0 := DX.out.c0; have z1 := DX.out.c1; have z2 := DX.out.c2; have z3 := DX.out.c3))); go_ret; exact ⟨ret_int HR.out.symm, DX.out.below⟩); (have dg : ¬ m ≤ c := (by have := G5.out; omega)); (clear d1 d2); (go_enter Tryz.func53, Tryz.ntmps53; go_wp2_with (first
                                                                                                                                                                                                                                                                                                                                                                                                        | (go_at_call 23; (with_reducible refine (RI.out _ DX.out.d DX.out.t).mono ?_); rintro e w5 ⟨rfl, hb⟩; (have DX := Lib.hid (DX.out.keep hb); clear z0 z1 z2 z3 hb; have z0 := DX.out.c0; have z1 := DX.out.c1; have z2 := DX.out.c2; have z3 := DX.out.c3))
                                                                                                                                                                                                                                                                                                                                                                                                        | (go_at_call 31; (with_reducible refine (CU.out _).mono ?_); rintro e w5 ⟨rfl, hb⟩; (have DX := Lib.hid (DX.out.keep hb); clear z0 z1 z2 z3 hb; have z0 := DX.out.c0; have z1 := DX.out.c1; have z2 := DX.out.c2; have z3 := DX.out.c3))
                                                                                                                                                                                                                                                                                                                                                                                                        | (go_at_call 88; (with_reducible refine (KN.out _).mono ?_); rintro e w5 ⟨rfl, hb⟩; (have DX := Lib.hid (DX.out.keep hb); clear z0 z1 z2 z3 hb; have z0 := DX.out.c0; have z1 := DX.out.c1; have z2 := DX.out.c2; have z3 := DX.out.c3))
                                                                                                                                                                                                                                                                                                                                                                                                        | (go_at_call 86; (with_reducible refine (NM.out _ DX.out.d DX.out.t).mono ?_); rintro e w5 ⟨rfl, hb⟩; (have DX := Lib.hid (DX.out.keep hb); clear z0 z1 z2 z3 hb; have z0 := DX.out.c0; have z1 := DX.out.c1; have z2 := DX.out.c2; have z3 := DX.out.c3))
                                                                                                                                                                                                                                                                                                                                                                                                        | (go_at_call 87; (with_reducible refine (CL.out _ DX.out.d DX.out.t).mono ?_); rintro e w5 ⟨rfl, hb⟩; (have DX := Lib.hid (DX.out.keep hb); clear z0 z1 z2 z3 hb; have z0 := DX.out.c0; have z1 := DX.out.c1; have z2 := DX.out.c2; have z3 := DX.out.c3))); go_ret; exact ⟨ret_int HR.out.symm, DX.out.below⟩))
  | true =>
  cases d3 : q3 == -1 with
  | false =>
    have HR : Hid (mayE ⟨L, M, nx, bz⟩ m s.toList base.toList c = 10) := Lib.hid (by rw [ME.out, if_neg G0.out, if_neg (by decide), if_pos (.inl (by have := beq_eq_false_iff_ne.1 d3; have := L34.out; omega))])
    have d3' : (q3 != -1) = true := by unfold bne; rw [d3]; rfl
    (by_cases dm : 12 < m; (have dg : ¬ 12 ≤ c := (by have := G5.out; omega)); (clear d1 d2); (go_enter Tryz.func53, Tryz.ntmps53; go_wp2_with (first
                                                                                                                                                                                     | (go_at_call 23; (with_reducible refine (RI.out _ DX.out.d DX.out.t).mono ?_); rintro e w5 ⟨rfl, hb⟩; (have DX := Lib.hid (DX.out.keep hb); clear z0 z1 z2 z3 hb; have z0 := DX.out.c0; have z1 := DX.out.c1; have z2 := DX.out.c2; have z3 := DX.out.c3))
                                                                                                                                                                                     | (go_at_call 31; (with_reducible refine (CU.out _).mono ?_); rintro e w5 ⟨rfl, hb⟩; (have DX := Lib.hid (DX.out.keep hb); clear z0 z1 z2 z3 hb; have z0 := DX.out.c0; have z1 := DX.out.c1; have z2 := DX.out.c2; have z3 := DX.out.c3))
                                                                                                                                                                                     | (go_at_call 88; (with_reducible refine (KN.out _).mono ?_); rintro e w5 ⟨rfl, hb⟩; (have DX := Lib.hid (DX.out.keep hb); clear z0 z1 z2 z3 hb; have z0 := DX.out.c0; have z1 := DX.out.c1; have z2 := DX.out.c2; have z3 := DX.out.c3))
                                                                                                                                                                                     | (go_at_call 86; (with_reducible refine (NM.out _ DX.out.d DX.out.t).mono ?_); rintro e w5 ⟨rfl, hb⟩; (have DX := Lib.hid (DX.out.keep hb); clear z0 z1 z2 z3 hb; have z0 := DX.out.c0; have z1 := DX.out.c1; have z2 := DX.out.c2; have z3 := DX.out.c3))
                                                                                                                                                                                     | (go_at_call 87; (with_reducible refine (CL.out _ DX.out.d DX.out.t).mono ?_); rintro e w5 ⟨rfl, hb⟩; (have DX := Lib.hid (DX.out.keep hb); clear z0 z1 z2 z3 hb; have z0 := DX.out.c0; have z1 := DX.out.c1; have z2 := DX.out.c2; have z3 := DX.out.c3))); go_ret; exact ⟨ret_int HR.out.symm, DX.out.below⟩); (have dg : ¬ m ≤ c := (by have := G5.out; omega)); (clear d1 d2); (go_enter Tryz.func53, Tryz.ntmps53; go_wp2_with (first
                                                                                                                                                                                                                                                                                                                                                                                                        | (go_at_call 23; (with_reducible refine (RI.out _ DX.out.d DX.out.t).mono ?_); rintro e w5 ⟨rfl, hb⟩; (have DX := Lib.hid (DX.out.keep hb); clear z0 z1 z2 z3 hb; have z0 := DX.out.c0; have z1 := DX.out.c1; have z2 := DX.out.c2; have z3 := DX.out.c3))
                                                                                                                                                                                                                                                                                                                                                                                                        | (go_at_call 31; (with_reducible refine (CU.out _).mono ?_); rintro e w5 ⟨rfl, hb⟩; (have DX := Lib.hid (DX.out.keep hb); clear z0 z1 z2 z3 hb; have z0 := DX.out.c0; have z1 := DX.out.c1; have z2 := DX.out.c2; have z3 := DX.out.c3))
                                                                                                                                                                                                                                                                                                                                                                                                        | (go_at_call 88; (with_reducible refine (KN.out _).mono ?_); rintro e w5 ⟨rfl, hb⟩; (have DX := Lib.hid (DX.out.keep hb); clear z0 z1 z2 z3 hb; have z0 := DX.out.c0; have z1 := DX.out.c1; have z2 := DX.out.c2; have z3 := DX.out.c3))
                                                                                                                                                                                                                                                                                                                                                                                                        | (go_at_call 86; (with_reducible refine (NM.out _ DX.out.d DX.out.t).mono ?_); rintro e w5 ⟨rfl, hb⟩; (have DX := Lib.hid (DX.out.keep hb); clear z0 z1 z2 z3 hb; have z0 := DX.out.c0; have z1 := DX.out.c1; have z2 := DX.out.c2; have z3 := DX.out.c3))
                                                                                                                                                                                                                                                                                                                                                                                                        | (go_at_call 87; (with_reducible refine (CL.out _ DX.out.d DX.out.t).mono ?_); rintro e w5 ⟨rfl, hb⟩; (have DX := Lib.hid (DX.out.keep hb); clear z0 z1 z2 z3 hb; have z0 := DX.out.c0; have z1 := DX.out.c1; have z2 := DX.out.c2; have z3 := DX.out.c3))); go_ret; exact ⟨ret_int HR.out.symm, DX.out.below⟩))
  | true =>
  have d3' : (q3 != -1) = false := by unfold bne; rw [d3]; rfl
  cases d4 : q4 == -1 with
  | false =>
    have HR : Hid (mayE ⟨L, M, nx, bz⟩ m s.toList base.toList c = 10) := Lib.hid (by rw [ME.out, if_neg G0.out, if_neg (by decide), if_pos (.inr (by have := beq_eq_false_iff_ne.1 d4; have := L34.out; omega))])
    have d4' : (q4 != -1) = true := by unfold bne; rw [d4]; rfl
    (by_cases dm : 12 < m; (have dg : ¬ 12 ≤ c := (by have := G5.out; omega)); (clear d1 d2); (go_enter Tryz.func53, Tryz.ntmps53; go_wp2_with (first
                                                                                                                                                                                     | (go_at_call 23; (with_reducible refine (RI.out _ DX.out.d DX.out.t).mono ?_); rintro e w5 ⟨rfl, hb⟩; (have DX := Lib.hid (DX.out.keep hb); clear z0 z1 z2 z3 hb; have z0 := DX.out.c0; have z1 := DX.out.c1; have z2 := DX.out.c2; have z3 := DX.out.c3))
                                                                                                                                                                                     | (go_at_call 31; (with_reducible refine (CU.out _).mono ?_); rintro e w5 ⟨rfl, hb⟩; (have DX := Lib.hid (DX.out.keep hb); clear z0 z1 z2 z3 hb; have z0 := DX.out.c0; have z1 := DX.out.c1; have z2 := DX.out.c2; have z3 := DX.out.c3))
                                                                                                                                                                                     | (go_at_call 88; (with_reducible refine (KN.out _).mono ?_); rintro e w5 ⟨rfl, hb⟩; (have DX := Lib.hid (DX.out.keep hb); clear z0 z1 z2 z3 hb; have z0 := DX.out.c0; have z1 := DX.out.c1; have z2 := DX.out.c2; have z3 := DX.out.c3))
                                                                                                                                                                                     | (go_at_call 86; (with_reducible refine (NM.out _ DX.out.d DX.out.t).mono ?_); rintro e w5 ⟨rfl, hb⟩; (have DX := Lib.hid (DX.out.keep hb); clear z0 z1 z2 z3 hb; have z0 := DX.out.c0; have z1 := DX.out.c1; have z2 := DX.out.c2; have z3 := DX.out.c3))
                                                                                                                                                                                     | (go_at_call 87; (with_reducible refine (CL.out _ DX.out.d DX.out.t).mono ?_); rintro e w5 ⟨rfl, hb⟩; (have DX := Lib.hid (DX.out.keep hb); clear z0 z1 z2 z3 hb; have z0 := DX.out.c0; have z1 := DX.out.c1; have z2 := DX.out.c2; have z3 := DX.out.c3))); go_ret; exact ⟨ret_int HR.out.symm, DX.out.below⟩); (have dg : ¬ m ≤ c := (by have := G5.out; omega)); (clear d1 d2); (go_enter Tryz.func53, Tryz.ntmps53; go_wp2_with (first
                                                                                                                                                                                                                                                                                                                                                                                                        | (go_at_call 23; (with_reducible refine (RI.out _ DX.out.d DX.out.t).mono ?_); rintro e w5 ⟨rfl, hb⟩; (have DX := Lib.hid (DX.out.keep hb); clear z0 z1 z2 z3 hb; have z0 := DX.out.c0; have z1 := DX.out.c1; have z2 := DX.out.c2; have z3 := DX.out.c3))
                                                                                                                                                                                                                                                                                                                                                                                                        | (go_at_call 31; (with_reducible refine (CU.out _).mono ?_); rintro e w5 ⟨rfl, hb⟩; (have DX := Lib.hid (DX.out.keep hb); clear z0 z1 z2 z3 hb; have z0 := DX.out.c0; have z1 := DX.out.c1; have z2 := DX.out.c2; have z3 := DX.out.c3))
                                                                                                                                                                                                                                                                                                                                                                                                        | (go_at_call 88; (with_reducible refine (KN.out _).mono ?_); rintro e w5 ⟨rfl, hb⟩; (have DX := Lib.hid (DX.out.keep hb); clear z0 z1 z2 z3 hb; have z0 := DX.out.c0; have z1 := DX.out.c1; have z2 := DX.out.c2; have z3 := DX.out.c3))
                                                                                                                                                                                                                                                                                                                                                                                                        | (go_at_call 86; (with_reducible refine (NM.out _ DX.out.d DX.out.t).mono ?_); rintro e w5 ⟨rfl, hb⟩; (have DX := Lib.hid (DX.out.keep hb); clear z0 z1 z2 z3 hb; have z0 := DX.out.c0; have z1 := DX.out.c1; have z2 := DX.out.c2; have z3 := DX.out.c3))
                                                                                                                                                                                                                                                                                                                                                                                                        | (go_at_call 87; (with_reducible refine (CL.out _ DX.out.d DX.out.t).mono ?_); rintro e w5 ⟨rfl, hb⟩; (have DX := Lib.hid (DX.out.keep hb); clear z0 z1 z2 z3 hb; have z0 := DX.out.c0; have z1 := DX.out.c1; have z2 := DX.out.c2; have z3 := DX.out.c3))); go_ret; exact ⟨ret_int HR.out.symm, DX.out.below⟩))
  | true =>
  have d4' : (q4 != -1) = false := by unfold bne; rw [d4]; rfl
  have G1 : Hid (¬ (0 ≤ q3 ∨ 0 ≤ q4)) := Lib.hid (by have := beq_iff_eq.1 d3; have := beq_iff_eq.1 d4; omega)
  obtain ⟨e1, he1, HE⟩ : ∃ e, (base.toList == []) = e ∧ Hid (e = true ↔ base.toList = []) := ⟨_, rfl, Lib.hid beq_iff_eq⟩
  have he2 : (base.toList != []) = !e1 := by unfold bne; rw [he1]
  cases e1 with
  | true =>
    have he2 : (base.toList != []) = false := he2
    have G2 : Hid (¬ (base.toList ≠ [] ∧ q2 = false)) := Lib.hid (fun h => h.1 (HE.out.1 rfl))
    cases bz with
    | true =>
      have HR : Hid (mayE ⟨L, M, nx, true⟩ m s.toList base.toList c = 7) := Lib.hid (by rw [ME.out, if_neg G0.out, if_neg (by decide), if_neg G1.out, if_neg G2.out, if_pos rfl])
      (by_cases dm : 12 < m; (have dg : ¬ 12 ≤ c := (by have := G5.out; omega)); (clear d1 d2); (go_enter Tryz.func53, Tryz.ntmps53; go_wp2_with (first
                                                                                                                                                                                       | (go_at_call 23; (with_reducible refine (RI.out _ DX.out.d DX.out.t).mono ?_); rintro e w5 ⟨rfl, hb⟩; (have DX := Lib.hid (DX.out.keep hb); clear z0 z1 z2 z3 hb; have z0 := DX.out.c0; have z1 := DX.out.c1; have z2 := DX.out.c2; have z3 := DX.out.c3))
                                                                                                                                                                                       | (go_at_call 31; (with_reducible refine (CU.out _).mono ?_); rintro e w5 ⟨rfl, hb⟩; (have DX := Lib.hid (DX.out.keep hb); clear z0 z1 z2 z3 hb; have z0 := DX.out.c0; have z1 := DX.out.c1; have z2 := DX.out.c2; have z3 := DX.out.c3))
                                                                                                                                                                                       | (go_at_call 88; (with_reducible refine (KN.out _).mono ?_); rintro e w5 ⟨rfl, hb⟩; (have DX := Lib.hid (DX.out.keep hb); clear z0 z1 z2 z3 hb; have z0 := DX.out.c0; have z1 := DX.out.c1; have z2 := DX.out.c2; have z3 := DX.out.c3))
                                                                                                                                                                                       | (go_at_call 86; (with_reducible refine (NM.out _ DX.out.d DX.out.t).mono ?_); rintro e w5 ⟨rfl, hb⟩; (have DX := Lib.hid (DX.out.keep hb); clear z0 z1 z2 z3 hb; have z0 := DX.out.c0; have z1 := DX.out.c1; have z2 := DX.out.c2; have z3 := DX.out.c3))
                                                                                                                                                                                       | (go_at_call 87; (with_reducible refine (CL.out _ DX.out.d DX.out.t).mono ?_); rintro e w5 ⟨rfl, hb⟩; (have DX := Lib.hid (DX.out.keep hb); clear z0 z1 z2 z3 hb; have z0 := DX.out.c0; have z1 := DX.out.c1; have z2 := DX.out.c2; have z3 := DX.out.c3))); go_ret; exact ⟨ret_int HR.out.symm, DX.out.below⟩); (have dg : ¬ m ≤ c := (by have := G5.out; omega)); (clear d1 d2); (go_enter Tryz.func53, Tryz.ntmps53; go_wp2_with (first
                                                                                                                                                                                                                                                                                                                                                                                                          | (go_at_call 23; (with_reducible refine (RI.out _ DX.out.d DX.out.t).mono ?_); rintro e w5 ⟨rfl, hb⟩; (have DX := Lib.hid (DX.out.keep hb); clear z0 z1 z2 z3 hb; have z0 := DX.out.c0; have z1 := DX.out.c1; have z2 := DX.out.c2; have z3 := DX.out.c3))
                                                                                                                                                                                                                                                                                                                                                                                                          | (go_at_call 31; (with_reducible refine (CU.out _).mono ?_); rintro e w5 ⟨rfl, hb⟩; (have DX := Lib.hid (DX.out.keep hb); clear z0 z1 z2 z3 hb; have z0 := DX.out.c0; have z1 := DX.out.c1; have z2 := DX.out.c2; have z3 := DX.out.c3))
                                                                                                                                                                                                                                                                                                                                                                                                          | (go_at_call 88; (with_reducible refine (KN.out _).mono ?_); rintro e w5 ⟨rfl, hb⟩; (have DX := Lib.hid (DX.out.keep hb); clear z0 z1 z2 z3 hb; have z0 := DX.out.c0; have z1 := DX.out.c1; have z2 := DX.out.c2; have z3 := DX.out.c3))
                                                                                                                                                                                                                                                                                                                                                                                                          | (go_at_call 86; (with_reducible refine (NM.out _ DX.out.d DX.out.t).mono ?_); rintro e w5 ⟨rfl, hb⟩; (have DX := Lib.hid (DX.out.keep hb); clear z0 z1 z2 z3 hb; have z0 := DX.out.c0; have z1 := DX.out.c1; have z2 := DX.out.c2; have z3 := DX.out.c3))
                                                                                                                                                                                                                                                                                                                                                                                                          | (go_at_call 87; (with_reducible refine (CL.out _ DX.out.d DX.out.t).mono ?_); rintro e w5 ⟨rfl, hb⟩; (have DX := Lib.hid (DX.out.keep hb); clear z0 z1 z2 z3 hb; have z0 := DX.out.c0; have z1 := DX.out.c1; have z2 := DX.out.c2; have z3 := DX.out.c3))); go_ret; exact ⟨ret_int HR.out.symm, DX.out.below⟩))
    | false =>
      have HR : Hid (mayE ⟨L, M, nx, false⟩ m s.toList base.toList c = 0) := Lib.hid (by rw [ME.out, if_neg G0.out, if_neg (by decide), if_neg G1.out, if_neg G2.out, if_neg (by decide)])
      (by_cases dm : 12 < m; (have dg : ¬ 12 ≤ c := (by have := G5.out; omega)); (clear d1 d2); (go_enter Tryz.func53, Tryz.ntmps53; go_wp2_with (first
                                                                                                                                                                                       | (go_at_call 23; (with_reducible refine (RI.out _ DX.out.d DX.out.t).mono ?_); rintro e w5 ⟨rfl, hb⟩; (have DX := Lib.hid (DX.out.keep hb); clear z0 z1 z2 z3 hb; have z0 := DX.out.c0; have z1 := DX.out.c1; have z2 := DX.out.c2; have z3 := DX.out.c3))
                                                                                                                                                                                       | (go_at_call 31; (with_reducible refine (CU.out _).mono ?_); rintro e w5 ⟨rfl, hb⟩; (have DX := Lib.hid (DX.out.keep hb); clear z0 z1 z2 z3 hb; have z0 := DX.out.c0; have z1 := DX.out.c1; have z2 := DX.out.c2; have z3 := DX.out.c3))
                                                                                                                                                                                       | (go_at_call 88; (with_reducible refine (KN.out _).mono ?_); rintro e w5 ⟨rfl, hb⟩; (have DX := Lib.hid (DX.out.keep hb); clear z0 z1 z2 z3 hb; have z0 := DX.out.c0; have z1 := DX.out.c1; have z2 := DX.out.c2; have z3 := DX.out.c3))
                                                                                                                                                                                       | (go_at_call 86; (with_reducible refine (NM.out _ DX.out.d DX.out.t).mono ?_); rintro e w5 ⟨rfl, hb⟩; (have DX := Lib.hid (DX.out.keep hb); clear z0 z1 z2 z3 hb; have z0 := DX.out.c0; have z1 := DX.out.c1; have z2 := DX.out.c2; have z3 := DX.out.c3))
                                                                                                                                                                                       | (go_at_call 87; (with_reducible refine (CL.out _ DX.out.d DX.out.t).mono ?_); rintro e w5 ⟨rfl, hb⟩; (have DX := Lib.hid (DX.out.keep hb); clear z0 z1 z2 z3 hb; have z0 := DX.out.c0; have z1 := DX.out.c1; have z2 := DX.out.c2; have z3 := DX.out.c3))); go_ret; exact ⟨ret_int HR.out.symm, DX.out.below⟩); (have dg : ¬ m ≤ c := (by have := G5.out; omega)); (clear d1 d2); (go_enter Tryz.func53, Tryz.ntmps53; go_wp2_with (first
                                                                                                                                                                                                                                                                                                                                                                                                          | (go_at_call 23; (with_reducible refine (RI.out _ DX.out.d DX.out.t).mono ?_); rintro e w5 ⟨rfl, hb⟩; (have DX := Lib.hid (DX.out.keep hb); clear z0 z1 z2 z3 hb; have z0 := DX.out.c0; have z1 := DX.out.c1; have z2 := DX.out.c2; have z3 := DX.out.c3))
                                                                                                                                                                                                                                                                                                                                                                                                          | (go_at_call 31; (with_reducible refine (CU.out _).mono ?_); rintro e w5 ⟨rfl, hb⟩; (have DX := Lib.hid (DX.out.keep hb); clear z0 z1 z2 z3 hb; have z0 := DX.out.c0; have z1 := DX.out.c1; have z2 := DX.out.c2; have z3 := DX.out.c3))
                                                                                                                                                                                                                                                                                                                                                                                                          | (go_at_call 88; (with_reducible refine (KN.out _).mono ?_); rintro e w5 ⟨rfl, hb⟩; (have DX := Lib.hid (DX.out.keep hb); clear z0 z1 z2 z3 hb; have z0 := DX.out.c0; have z1 := DX.out.c1; have z2 := DX.out.c2; have z3 := DX.out.c3))
                                                                                                                                                                                                                                                                                                                                                                                                          | (go_at_call 86; (with_reducible refine (NM.out _ DX.out.d DX.out.t).mono ?_); rintro e w5 ⟨rfl, hb⟩; (have DX := Lib.hid (DX.out.keep hb); clear z0 z1 z2 z3 hb; have z0 := DX.out.c0; have z1 := DX.out.c1; have z2 := DX.out.c2; have z3 := DX.out.c3))
                                                                                                                                                                                                                                                                                                                                                                                                          | (go_at_call 87; (with_reducible refine (CL.out _ DX.out.d DX.out.t).mono ?_); rintro e w5 ⟨rfl, hb⟩; (have DX := Lib.hid (DX.out.keep hb); clear z0 z1 z2 z3 hb; have z0 := DX.out.c0; have z1 := DX.out.c1; have z2 := DX.out.c2; have z3 := DX.out.c3))); go_ret; exact ⟨ret_int HR.out.symm, DX.out.below⟩))
  | false =>
    have he2 : (base.toList != []) = true := he2
    have HN : Hid (base.toList ≠ []) := Lib.hid (fun h => by have := HE.out.2 h; cases this)
    cases q2 with
    | false =>
      have HR : Hid (mayE ⟨L, M, nx, bz⟩ m s.toList base.toList c = 6) := Lib.hid (by rw [ME.out, if_neg G0.out, if_neg (by decide), if_neg G1.out, if_pos ⟨HN.out, rfl⟩])
      (by_cases dm : 12 < m; (have dg : ¬ 12 ≤ c := (by have := G5.out; omega)); (clear d1 d2); (go_enter Tryz.func53, Tryz.ntmps53; go_wp2_with (first
                                                                                                                                                                                       | (go_at_call 23; (with_reducible refine (RI.out _ DX.out.d DX.out.t).mono ?_); rintro e w5 ⟨rfl, hb⟩; (have DX := Lib.hid (DX.out.keep hb); clear z0 z1 z2 z3 hb; have z0 := DX.out.c0; have z1 := DX.out.c1; have z2 := DX.out.c2; have z3 := DX.out.c3))
                                                                                                                                                                                       | (go_at_call 31; (with_reducible refine (CU.out _).mono ?_); rintro e w5 ⟨rfl, hb⟩; (have DX := Lib.hid (DX.out.keep hb); clear z0 z1 z2 z3 hb; have z0 := DX.out.c0; have z1 := DX.out.c1; have z2 := DX.out.c2; have z3 := DX.out.c3))
                                                                                                                                                                                       | (go_at_call 88; (with_reducible refine (KN.out _).mono ?_); rintro e w5 ⟨rfl, hb⟩; (have DX := Lib.hid (DX.out.keep hb); clear z0 z1 z2 z3 hb; have z0 := DX.out.c0; have z1 := DX.out.c1; have z2 := DX.out.c2; have z3 := DX.out.c3))
                                                                                                                                                                                       | (go_at_call 86; (with_reducible refine (NM.out _ DX.out.d DX.out.t).mono ?_); rintro e w5 ⟨rfl, hb⟩; (have DX := Lib.hid (DX.out.keep hb); clear z0 z1 z2 z3 hb; have z0 := DX.out.c0; have z1 := DX.out.c1; have z2 := DX.out.c2; have z3 := DX.out.c3))
                                                                                                                                                                                       | (go_at_call 87; (with_reducible refine (CL.out _ DX.out.d DX.out.t).mono ?_); rintro e w5 ⟨rfl, hb⟩; (have DX := Lib.hid (DX.out.keep hb); clear z0 z1 z2 z3 hb; have z0 := DX.out.c0; have z1 := DX.out.c1; have z2 := DX.out.c2; have z3 := DX.out.c3))); go_ret; exact ⟨ret_int HR.out.symm, DX.out.below⟩); (have dg : ¬ m ≤ c := (by have := G5.out; omega)); (clear d1 d2); (go_enter Tryz.func53, Tryz.ntmps53; go_wp2_with (first
                                                                                                                                                                                                                                                                                                                                                                                                          | (go_at_call 23; (with_reducible refine (RI.out _ DX.out.d DX.out.t).mono ?_); rintro e w5 ⟨rfl, hb⟩; (have DX := Lib.hid (DX.out.keep hb); clear z0 z1 z2 z3 hb; have z0 := DX.out.c0; have z1 := DX.out.c1; have z2 := DX.out.c2; have z3 := DX.out.c3))
                                                                                                                                                                                                                                                                                                                                                                                                          | (go_at_call 31; (with_reducible refine (CU.out _).mono ?_); rintro e w5 ⟨rfl, hb⟩; (have DX := Lib.hid (DX.out.keep hb); clear z0 z1 z2 z3 hb; have z0 := DX.out.c0; have z1 := DX.out.c1; have z2 := DX.out.c2; have z3 := DX.out.c3))
                                                                                                                                                                                                                                                                                                                                                                                                          | (go_at_call 88; (with_reducible refine (KN.out _).mono ?_); rintro e w5 ⟨rfl, hb⟩; (have DX := Lib.hid (DX.out.keep hb); clear z0 z1 z2 z3 hb; have z0 := DX.out.c0; have z1 := DX.out.c1; have z2 := DX.out.c2; have z3 := DX.out.c3))
                                                                                                                                                                                                                                                                                                                                                                                                          | (go_at_call 86; (with_reducible refine (NM.out _ DX.out.d DX.out.t).mono ?_); rintro e w5 ⟨rfl, hb⟩; (have DX := Lib.hid (DX.out.keep hb); clear z0 z1 z2 z3 hb; have z0 := DX.out.c0; have z1 := DX.out.c1; have z2 := DX.out.c2; have z3 := DX.out.c3))
                                                                                                                                                                                                                                                                                                                                                                                                          | (go_at_call 87; (with_reducible refine (CL.out _ DX.out.d DX.out.t).mono ?_); rintro e w5 ⟨rfl, hb⟩; (have DX := Lib.hid (DX.out.keep hb); clear z0 z1 z2 z3 hb; have z0 := DX.out.c0; have z1 := DX.out.c1; have z2 := DX.out.c2; have z3 := DX.out.c3))); go_ret; exact ⟨ret_int HR.out.symm, DX.out.below⟩))
    | true =>
      have G2 : Hid (¬ (base.toList ≠ [] ∧ true = false)) := Lib.hid (fun h => by cases h.2)
      cases bz with
      | true =>
        have HR : Hid (mayE ⟨L, M, nx, true⟩ m s.toList base.toList c = 7) := Lib.hid (by rw [ME.out, if_neg G0.out, if_neg (by decide), if_neg G1.out, if_neg G2.out, if_pos rfl])
        (by_cases dm : 12 < m; (have dg : ¬ 12 ≤ c := (by have := G5.out; omega)); (clear d1 d2); (go_enter Tryz.func53, Tryz.ntmps53; go_wp2_with (first
                                                                                                                                                                                         | (go_at_call 23; (with_reducible refine (RI.out _ DX.out.d DX.out.t).mono ?_); rintro e w5 ⟨rfl, hb⟩; (have DX := Lib.hid (DX.out.keep hb); clear z0 z1 z2 z3 hb; have z0 := DX.out.c0; have z1 := DX.out.c1; have z2 := DX.out.c2; have z3 := DX.out.c3))
                                                                                                                                                                                         | (go_at_call 31; (with_reducible refine (CU.out _).mono ?_); rintro e w5 ⟨rfl, hb⟩; (have DX := Lib.hid (DX.out.keep hb); clear z0 z1 z2 z3 hb; have z0 := DX.out.c0; have z1 := DX.out.c1; have z2 := DX.out.c2; have z3 := DX.out.c3))
                                                                                                                                                                                         | (go_at_call 88; (with_reducible refine (KN.out _).mono ?_); rintro e w5 ⟨rfl, hb⟩; (have DX := Lib.hid (DX.out.keep hb); clear z0 z1 z2 z3 hb; have z0 := DX.out.c0; have z1 := DX.out.c1; have z2 := DX.out.c2; have z3 := DX.out.c3))
                                                                                                                                                                                         | (go_at_call 86; (with_reducible refine (NM.out _ DX.out.d DX.out.t).mono ?_); rintro e w5 ⟨rfl, hb⟩; (have DX := Lib.hid (DX.out.keep hb); clear z0 z1 z2 z3 hb; have z0 := DX.out.c0; have z1 := DX.out.c1; have z2 := DX.out.c2; have z3 := DX.out.c3))
                                                                                                                                                                                         | (go_at_call 87; (with_reducible refine (CL.out _ DX.out.d DX.out.t).mono ?_); rintro e w5 ⟨rfl, hb⟩; (have DX := Lib.hid (DX.out.keep hb); clear z0 z1 z2 z3 hb; have z0 := DX.out.c0; have z1 := DX.out.c1; have z2 := DX.out.c2; have z3 := DX.out.c3))); go_ret; exact ⟨ret_int HR.out.symm, DX.out.below⟩); (have dg : ¬ m ≤ c := (by have := G5.out; omega)); (clear d1 d2); (go_enter Tryz.func53, Tryz.ntmps53; go_wp2_with (first
                                                                                                                                                                                                                                                                                                                                                                                                            | (go_at_call 23; (with_reducible refine (RI.out _ DX.out.d DX.out.t).mono ?_); rintro e w5 ⟨rfl, hb⟩; (have DX := Lib.hid (DX.out.keep hb); clear z0 z1 z2 z3 hb; have z0 := DX.out.c0; have z1 := DX.out.c1; have z2 := DX.out.c2; have z3 := DX.out.c3))
                                                                                                                                                                                                                                                                                                                                                                                                            | (go_at_call 31; (with_reducible refine (CU.out _).mono ?_); rintro e w5 ⟨rfl, hb⟩; (have DX := Lib.hid (DX.out.keep hb); clear z0 z1 z2 z3 hb; have z0 := DX.out.c0; have z1 := DX.out.c1; have z2 := DX.out.c2; have z3 := DX.out.c3))
                                                                                                                                                                                                                                                                                                                                                                                                            | (go_at_call 88; (with_reducible refine (KN.out _).mono ?_); rintro e w5 ⟨rfl, hb⟩; (have DX := Lib.hid (DX.out.keep hb); clear z0 z1 z2 z3 hb; have z0 := DX.out.c0; have z1 := DX.out.c1; have z2 := DX.out.c2; have z3 := DX.out.c3))
                                                                                                                                                                                                                                                                                                                                                                                                            | (go_at_call 86; (with_reducible refine (NM.out _ DX.out.d DX.out.t).mono ?_); rintro e w5 ⟨rfl, hb⟩; (have DX := Lib.hid (DX.out.keep hb); clear z0 z1 z2 z3 hb; have z0 := DX.out.c0; have z1 := DX.out.c1; have z2 := DX.out.c2; have z3 := DX.out.c3))
                                                                                                                                                                                                                                                                                                                                                                                                            | (go_at_call 87; (with_reducible refine (CL.out _ DX.out.d DX.out.t).mono ?_); rintro e w5 ⟨rfl, hb⟩; (have DX := Lib.hid (DX.out.keep hb); clear z0 z1 z2 z3 hb; have z0 := DX.out.c0; have z1 := DX.out.c1; have z2 := DX.out.c2; have z3 := DX.out.c3))); go_ret; exact ⟨ret_int HR.out.symm, DX.out.below⟩))
      | false =>
        have HR : Hid (mayE ⟨L, M, nx, false⟩ m s.toList base.toList c = 0) := Lib.hid (by rw [ME.out, if_neg G0.out, if_neg (by decide), if_neg G1.out, if_neg G2.out, if_neg (by decide)])
        (by_cases dm : 12 < m; (have dg : ¬ 12 ≤ c := (by have := G5.out; omega)); (clear d1 d2); (go_enter Tryz.func53, Tryz.ntmps53; go_wp2_with (first
                                                                                                                                                                                         | (go_at_call 23; (with_reducible refine (RI.out _ DX.out.d DX.out.t).mono ?_); rintro e w5 ⟨rfl, hb⟩; (have DX := Lib.hid (DX.out.keep hb); clear z0 z1 z2 z3 hb; have z0 := DX.out.c0; have z1 := DX.out.c1; have z2 := DX.out.c2; have z3 := DX.out.c3))
                                                                                                                                                                                         | (go_at_call 31; (with_reducible refine (CU.out _).mono ?_); rintro e w5 ⟨rfl, hb⟩; (have DX := Lib.hid (DX.out.keep hb); clear z0 z1 z2 z3 hb; have z0 := DX.out.c0; have z1 := DX.out.c1; have z2 := DX.out.c2; have z3 := DX.out.c3))
                                                                                                                                                                                         | (go_at_call 88; (with_reducible refine (KN.out _).mono ?_); rintro e w5 ⟨rfl, hb⟩; (have DX := Lib.hid (DX.out.keep hb); clear z0 z1 z2 z3 hb; have z0 := DX.out.c0; have z1 := DX.out.c1; have z2 := DX.out.c2; have z3 := DX.out.c3))
                                                                                                                                                                                         | (go_at_call 86; (with_reducible refine (NM.out _ DX.out.d DX.out.t).mono ?_); rintro e w5 ⟨rfl, hb⟩; (have DX := Lib.hid (DX.out.keep hb); clear z0 z1 z2 z3 hb; have z0 := DX.out.c0; have z1 := DX.out.c1; have z2 := DX.out.c2; have z3 := DX.out.c3))
                                                                                                                                                                                         | (go_at_call 87; (with_reducible refine (CL.out _ DX.out.d DX.out.t).mono ?_); rintro e w5 ⟨rfl, hb⟩; (have DX := Lib.hid (DX.out.keep hb); clear z0 z1 z2 z3 hb; have z0 := DX.out.c0; have z1 := DX.out.c1; have z2 := DX.out.c2; have z3 := DX.out.c3))); go_ret; exact ⟨ret_int HR.out.symm, DX.out.below⟩); (have dg : ¬ m ≤ c := (by have := G5.out; omega)); (clear d1 d2); (go_enter Tryz.func53, Tryz.ntmps53; go_wp2_with (first
                                                                                                                                                                                                                                                                                                                                                                                                            | (go_at_call 23; (with_reducible refine (RI.out _ DX.out.d DX.out.t).mono ?_); rintro e w5 ⟨rfl, hb⟩; (have DX := Lib.hid (DX.out.keep hb); clear z0 z1 z2 z3 hb; have z0 := DX.out.c0; have z1 := DX.out.c1; have z2 := DX.out.c2; have z3 := DX.out.c3))
                                                                                                                                                                                                                                                                                                                                                                                                            | (go_at_call 31; (with_reducible refine (CU.out _).mono ?_); rintro e w5 ⟨rfl, hb⟩; (have DX := Lib.hid (DX.out.keep hb); clear z0 z1 z2 z3 hb; have z0 := DX.out.c0; have z1 := DX.out.c1; have z2 := DX.out.c2; have z3 := DX.out.c3))
                                                                                                                                                                                                                                                                                                                                                                                                            | (go_at_call 88; (with_reducible refine (KN.out _).mono ?_); rintro e w5 ⟨rfl, hb⟩; (have DX := Lib.hid (DX.out.keep hb); clear z0 z1 z2 z3 hb; have z0 := DX.out.c0; have z1 := DX.out.c1; have z2 := DX.out.c2; have z3 := DX.out.c3))
                                                                                                                                                                                                                                                                                                                                                                                                            | (go_at_call 86; (with_reducible refine (NM.out _ DX.out.d DX.out.t).mono ?_); rintro e w5 ⟨rfl, hb⟩; (have DX := Lib.hid (DX.out.keep hb); clear z0 z1 z2 z3 hb; have z0 := DX.out.c0; have z1 := DX.out.c1; have z2 := DX.out.c2; have z3 := DX.out.c3))
                                                                                                                                                                                                                                                                                                                                                                                                            | (go_at_call 87; (with_reducible refine (CL.out _ DX.out.d DX.out.t).mono ?_); rintro e w5 ⟨rfl, hb⟩; (have DX := Lib.hid (DX.out.keep hb); clear z0 z1 z2 z3 hb; have z0 := DX.out.c0; have z1 := DX.out.c1; have z2 := DX.out.c2; have z3 := DX.out.c3))); go_ret; exact ⟨ret_int HR.out.symm, DX.out.below⟩))
end Go.Proofs.YtkomeijlljcdgaaGreat
namespace Go.Proofs.YtkomeijlljcdgaaGreat
open Go.RowKit
theorem info_parts3 {t : TypeId} {z : Value} {s b : Nat} (h : (Tryz.prog.info? t).map (fun i => (i.zero, i.size, i.bytes)) = some (some z, s, b)) : ∃ i, Tryz.prog.info? t = some i ∧ i.zero = some z ∧ i.size = s ∧ i.bytes = b := by
  cases hi : Tryz.prog.info? t with
  | none => rw [hi] at h; simp at h
  | some i =>
    rw [hi] at h
    simp at h
    exact ⟨i, rfl, h.1, h.2.1, h.2.2⟩
theorem def_info : (Tryz.prog.info? 30).map (fun i => (i.zero, i.size, i.bytes)) = some (some (.agg #[.string ⟨#[]⟩, .string ⟨#[]⟩, .int .i64 0]), 3, 40) := by kernel_rfl
theorem wait_info : (Tryz.prog.info? 64).map (fun i => (i.zero, i.size, i.bytes)) = some (some (.agg #[.string ⟨#[]⟩, .int .i64 0]), 2, 24) := by kernel_rfl
theorem tick_info : (Tryz.prog.info? 3).map (fun i => (i.zero, i.size, i.bytes)) = some (some (.int .i64 0), 1, 8) := by kernel_rfl
theorem DefRow.of_own {w : World} {base : Nat} {v : Value} {n : Nat} {M : List DefD} (hl : M.length = n) (h : w.ownsRow base 30 3 v n (M.flatMap encD)) (hs : ∀ x ∈ M, x.name.size ≤ maxLen ∧ x.loc.size ≤ maxLen ∧ In64 x.cls) :
    ∃ a cap, v = .slice a n cap ∧ DefRow w a n cap M ∧ (∀ b off, a = some ⟨b, off, none⟩ → base ≤ b) := by
  obtain ⟨a, cap, rfl, h2, h3⟩ := SRow.of_own (fun x _ => encD_len x) hl h
  refine ⟨a, cap, rfl, ⟨h2, hs, fun e => ?_⟩, h3⟩
  rcases h.2 with ⟨hv, _⟩ | ⟨g, cap', cur, hv, _⟩
  · injection hv
  · subst e
    injection hv with hv
    cases hv
theorem WaitRow.of_own {w : World} {base : Nat} {v : Value} {n : Nat} {M : List WaitD} (hl : M.length = n) (h : w.ownsRow base 64 2 v n (M.flatMap encT9)) (hs : ∀ x ∈ M, x.name.size ≤ maxLen ∧ In64 x.ticket) :
    ∃ a cap, v = .slice a n cap ∧ WaitRow w a n cap M ∧ (∀ b off, a = some ⟨b, off, none⟩ → base ≤ b) := by
  obtain ⟨a, cap, rfl, h2, h3⟩ := SRow.of_own (fun x _ => encT_len x) hl h
  refine ⟨a, cap, rfl, ⟨h2, hs, fun e => ?_⟩, h3⟩
  rcases h.2 with ⟨hv, _⟩ | ⟨g, cap', cur, hv, _⟩
  · injection hv
  · subst e
    injection hv with hv
    cases hv
theorem DefRow.drew {w : World} {a : Option Addr} {len cap : Nat} {L : List DefD} (h : DefRow w a len cap L) : DefRow w.drew a len cap L := ⟨h.row.drew, h.ok, h.hnil⟩
theorem WaitRow.drew {w : World} {a : Option Addr} {len cap : Nat} {L : List WaitD} (h : WaitRow w a len cap L) : WaitRow w.drew a len cap L := ⟨h.row.drew, h.ok, h.hnil⟩
theorem own_apart {w : World} {b1 b2 : Nat} {e1 e2 : TypeId} {s1 s2 n1 n2 : Nat} {v1 v2 : Value} {x1 x2 : List Value} (h1 : w.ownsRow b1 e1 s1 v1 n1 x1) (h2 : w.ownsRow b2 e2 s2 v2 n2 x2) (he : e1 ≠ e2) : ∀ k, v1.ownBlock = some k → v2.ownBlock ≠ some k := by
  intro k hk hk2
  rcases h1.2 with ⟨rfl, _⟩ | ⟨g, cap, cur, rfl, _, hg, _⟩
  · cases hk
  rcases h2.2 with ⟨rfl, _⟩ | ⟨g', cap', cur', rfl, _, hg', _⟩
  · cases hk2
  injection hk with hk
  injection hk2 with hk2
  dsimp only at hk hk2
  subst hk
  subst hk2
  rw [hg] at hg'
  injection hg' with hg'
  injection hg' with _ h4
  exact he h4
def OwnPostD (w : World) (L : List DefD) (e : Ending) (w' : World) : Prop := ∃ v, e = .returned v ∧ w'.ownsRow w.heap.size 30 3 v L.length (L.flatMap encD) ∧ Below w.heap.size w w'
def OwnPostT (w : World) (L : List WaitD) (e : Ending) (w' : World) : Prop := ∃ v, e = .returned v ∧ w'.ownsRow w.heap.size 64 2 v L.length (L.flatMap encT9) ∧ Below w.heap.size w w'
set_option maxHeartbeats 4000000 in
theorem cloneD_any (a : Option Addr) (len cap : Nat) (L : List DefD) (w : World) (h : DefRow w a len cap L) (h40 : len ≤ 1000000) :
    Calls Tryz.prog 84 #[.slice a len cap] w (OwnPostD w L) := by
  obtain ⟨i0, hi0, hz0, hz1, hz2⟩ := info_parts3 def_info
  have HL := Lib.hid h.hlen
  have q22 : ∀ (w : World) (a : Option Addr) (n c n' c' : Nat), (binOp .eql 25 (.slice a n c) (.slice none n' c')).run Tryz.prog w = .ok (.bool a.isNone) w := fun w a n c n' c' => Lib.run_eql_slice_nil w _ _ a n c n' c' Tryz.underlying25
  rcases a with _ | ad
  · have hc : cap = 0 := h.hnil rfl
    have h0 : len = 0 := by have := h.row.hcap; omega
    have hLn : L = [] := List.eq_nil_of_length_eq_zero (by rw [h.hlen, h0])
    subst hc; subst h0; subst hLn
    clear h
    go_enter Tryz.func84, Tryz.ntmps84
    go_wp2
    go_ret
    exact ⟨_, rfl, World.ownsRow_nil _ _ _ _, Below.refl _ _⟩
  · have H := Lib.hid h
    have HE := Lib.hid (own_empty (α := DefD) (enc := encD) (size := 3) w w.heap.size 30 (Nat.le_refl _))
    clear h
    go_enter Tryz.func84, Tryz.ntmps84
    go_wp2_with (first
      | (at_builtin
         refine wpList_append_rows rfl (.tmp 5) (.tmp 6) 25 rfl 30 i0 _ 3 40 Tryz.underlying25 hi0 hz0 hz1 hz2 rfl (by decide) w.heap.size _ 0 _ L rfl HE.out (some ad) len cap rfl (H.out.below ((Below.refl _ _).alloc (Nat.le_refl _) _)).row (fun x _ => encD_one x) (by unfold maxLen; omega) (by omega) (by simp) (fun h => by cases h) ?_
         intro v2 w2 hown2 hg2 hat2
         have HB2 := below_new (Below.refl _ _) hg2
         have HO2 := Lib.hid hown2
         clear hown2 hg2 hat2))
    go_ret
    refine ⟨_, rfl, ?_, HB2⟩
    have := HO2.out
    rw [HL.out]
    simpa using this
set_option maxHeartbeats 4000000 in
theorem cloneT_any (a : Option Addr) (len cap : Nat) (L : List WaitD) (w : World) (h : WaitRow w a len cap L) (h40 : len ≤ 1000000) :
    Calls Tryz.prog 85 #[.slice a len cap] w (OwnPostT w L) := by
  obtain ⟨i0, hi0, hz0, hz1, hz2⟩ := info_parts3 wait_info
  have HL := Lib.hid h.hlen
  have q22 : ∀ (w : World) (a : Option Addr) (n c n' c' : Nat), (binOp .eql 26 (.slice a n c) (.slice none n' c')).run Tryz.prog w = .ok (.bool a.isNone) w := fun w a n c n' c' => Lib.run_eql_slice_nil w _ _ a n c n' c' Tryz.underlying26
  rcases a with _ | ad
  · have hc : cap = 0 := h.hnil rfl
    have h0 : len = 0 := by have := h.row.hcap; omega
    have hLn : L = [] := List.eq_nil_of_length_eq_zero (by rw [h.hlen, h0])
    subst hc; subst h0; subst hLn
    clear h
    go_enter Tryz.func85, Tryz.ntmps85
    go_wp2
    go_ret
    exact ⟨_, rfl, World.ownsRow_nil _ _ _ _, Below.refl _ _⟩
  · have H := Lib.hid h
    have HE := Lib.hid (own_empty (α := WaitD) (enc := encT9) (size := 2) w w.heap.size 64 (Nat.le_refl _))
    clear h
    go_enter Tryz.func85, Tryz.ntmps85
    go_wp2_with (first
      | (at_builtin
         refine wpList_append_rows rfl (.tmp 5) (.tmp 6) 26 rfl 64 i0 _ 2 24 Tryz.underlying26 hi0 hz0 hz1 hz2 rfl (by decide) w.heap.size _ 0 _ L rfl HE.out (some ad) len cap rfl (H.out.below ((Below.refl _ _).alloc (Nat.le_refl _) _)).row (fun x _ => encT_one x) (by unfold maxLen; omega) (by omega) (by simp) (fun h => by cases h) ?_
         intro v2 w2 hown2 hg2 hat2
         have HB2 := below_new (Below.refl _ _) hg2
         have HO2 := Lib.hid hown2
         clear hown2 hg2 hat2))
    go_ret
    refine ⟨_, rfl, ?_, HB2⟩
    have := HO2.out
    rw [HL.out]
    simpa using this
structure OwnDesk (w W : World) (da : Option Addr) (dl dc : Nat) (wa : Option Addr) (wl wc : Nat) (L : List DefD) (M : List WaitD) : Prop where
  d : W.ownsRow w.heap.size 30 3 (.slice da dl dc) dl (L.flatMap encD)
  t : W.ownsRow w.heap.size 64 2 (.slice wa wl wc) wl (M.flatMap encT9)
  dr : DefRow W da dl dc L
  tr : WaitRow W wa wl wc M
  below : Below w.heap.size w W
theorem OwnDesk.keep {w W V : World} {da wa : Option Addr} {dl dc wl wc : Nat} {L : List DefD} {M : List WaitD} (h : OwnDesk w W da dl dc wa wl wc L M) (hb : Below W.heap.size W V) : OwnDesk w V da dl dc wa wl wc L M :=
  ⟨own_below h.d hb, own_below h.t hb, h.dr.below hb, h.tr.below hb, h.below.trans (hb.mono h.below.size)⟩
def FreshPost (w : World) (L : List DefD) (M : List WaitD) (nx : Int) (bz : Bool) (e : Ending) (w' : World) : Prop :=
  ∃ da dl dc wa wl wc, e = .returned (deskV da dl dc wa wl wc nx bz) ∧ OwnDesk w w' da dl dc wa wl wc L M
end Go.Proofs.YtkomeijlljcdgaaGreat
