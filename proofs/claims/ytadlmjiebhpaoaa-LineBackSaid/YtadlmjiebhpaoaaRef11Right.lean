/- instarref11's below, Right, Idle and Short. -/
import Derived.Test.YtadlmjiebhpaoaaLineIdle
import Derived.Test.YtadlmjiebhpaoaaExt
namespace Go.Proofs.Ytadlmjiebhpaoaa
open Go.RowKit
set_option maxHeartbeats 2000000 in
theorem refbelow11_any (a : Option Addr) (len cap : Nat) (L : List Int) (m : Nat) (w : World) (hi : IntRow w a len cap L) :
    Calls Try.prog 30 #[.slice a len cap, .int .i64 m] w fun e w' => e = .returned (.bool (L.all (inB m))) ∧ w = w' := by
  have HL := Lib.hid hi.hlen
  have h64 := hi.len64
  go_enter Try.func30, Try.ntmps30
  go_wp2
  go_loop [5] (fun i => ∃ k : Nat, k ≤ len ∧ i = .int .i64 k ∧ Hid (∀ (j : Nat) z, j < k → L[j]? = some z → inB m z = true)) (fun i => len - (intOf i).toNat)
  case atStart => exact ⟨0, Nat.zero_le _, rfl, Lib.hid (fun j _ hj => absurd hj (by omega))⟩
  case round =>
    obtain ⟨k, hk, rfl, HA⟩ := hrel
    by_cases hlt : k < len
    · obtain ⟨b, off, z, rfl, hb, hz, hc, hin⟩ := hi.get hlt
      have HZ := Lib.hid hz
      have i1 := hin.1
      have i2 := hin.2
      clear hz hin
      by_cases q1 : z < 0
      · have HR : Hid (L.all (inB m) = false) := Lib.hid (all_not HZ.out (inB_no1 q1))
        go_wp2
        go_ret
        exact ⟨retB HR.out.symm, rfl⟩
      by_cases q2 : (m : Int) ≤ z
      · have HR : Hid (L.all (inB m) = false) := Lib.hid (all_not HZ.out (inB_no2 q2))
        go_wp2
        go_ret
        exact ⟨retB HR.out.symm, rfl⟩
      have HG := Lib.hid (all_step HA.out HZ.out (inB_iff.2 ⟨by omega, by omega⟩))
      go_wp2
      go_round
      case rel => exact ⟨k + 1, by omega, by go_num, HG⟩
      case measure => simp [intOf]; omega
    · have HR : Hid (L.all (inB m) = true) := Lib.hid (all_done HA.out (by rw [HL.out]; omega))
      go_wp2
      go_ret
      exact ⟨retB HR.out.symm, rfl⟩
set_option maxHeartbeats 2000000 in
theorem refright11_any (v : LnV) (w : World) (ht : LineAt w v) :
    Calls Try.prog 9 #[v.val] w fun e w' => e = .returned (.bool (right11 v.dat)) ∧ Below w.heap.size w w' := by
  have HR : Hid (right11 v.dat = (v.S.all (fun x => x.l.all (inB v.tl)) && v.B.all (inB v.tl))) := Lib.hid (by
    unfold right11 LnV.dat
    dsimp only
    rw [ht.t.dlen]
    unfold datL
    rw [List.all_map]
    rfl)
  obtain ⟨R, hRe⟩ : ∃ R, right11 v.dat = R := ⟨_, rfl⟩
  rw [hRe] at HR ⊢
  clear hRe
  obtain ⟨ta, tl, tc, sa, sl, sc, ba, bl, bc, bz, T, S, B⟩ := v
  dsimp only at HR
  have h1 := Lib.hid (ht.below (below_one w (lineB ta tl tc sa sl sc ba bl bc bz)))
  have B1 := Lib.hid (LBox.new w ⟨ta, tl, tc, sa, sl, sc, ba, bl, bc, bz, T, S, B⟩)
  have HBW := Lib.hid (below_one w (lineB ta tl tc sa sl sc ba bl bc bz))
  have HS : Hid (S.length = sl) := Lib.hid ht.s.hlen
  have s64 : sl ≤ 9223372036854775807 := ht.s.len64
  have t64 : tl ≤ 9223372036854775807 := ht.t.len64
  clear ht
  have HH : Hid (∀ (a : Option Addr) (len cap : Nat) (L : List Int) (V : World) (q : Bool), IntRow V a len cap L → L.all (inB tl) = q → Calls Try.prog 30 #[.slice a len cap, .int .i64 tl] V fun e w' => e = .returned (.bool q) ∧ V = w') := Lib.hid (fun a len cap L V q h2 hq => by rw [← hq]; exact refbelow11_any a len cap L tl V h2)
  go_enter Try.func9, Try.ntmps9
  go_upto_region 1 with fail
  obtain ⟨W, hW⟩ : ∃ W, w.alloc (lineB ta tl tc sa sl sc ba bl bc bz) = W := ⟨_, rfl⟩
  rw [hW] at h1 B1 HBW ⊢
  clear hW
  have z0 : W.cell? ⟨w.heap.size, 0, none⟩ = some (.slice ta tl tc) := B1.out.c0
  have z1 : W.cell? ⟨w.heap.size, 1, none⟩ = some (.slice sa sl sc) := B1.out.c1
  have z2 : W.cell? ⟨w.heap.size, 2, none⟩ = some (.slice ba bl bc) := B1.out.c2
  go_wp2
  go_loopw [3] (fun i wr => ∃ k : Nat, k ≤ sl ∧ i = .int .i64 k ∧ Hid (Below W.heap.size W wr) ∧ Hid (∀ (j : Nat) x, j < k → S[j]? = some x → x.l.all (inB tl) = true)) (fun i _ => sl - (intOf i).toNat)
  case atStart => exact ⟨0, Nat.zero_le _, rfl, Lib.hid (Below.refl _ _), Lib.hid (fun j _ hj => absurd hj (by omega))⟩
  case round =>
    obtain ⟨k, hk, rfl, HB, HA⟩ := hrel
    have B2 := Lib.hid (B1.out.keep HB.out)
    have h2 := Lib.hid (h1.out.below HB.out)
    clear z0 z1 z2
    have z0 : wr.cell? ⟨w.heap.size, 0, none⟩ = some (.slice ta tl tc) := B2.out.c0
    have z1 : wr.cell? ⟨w.heap.size, 1, none⟩ = some (.slice sa sl sc) := B2.out.c1
    have z2 : wr.cell? ⟨w.heap.size, 2, none⟩ = some (.slice ba bl bc) := B2.out.c2
    by_cases hlt : k < sl
    · obtain ⟨b, off, x, ha, hb, hx, hc, hrow⟩ := h2.out.s.get hlt
      dsimp only at ha hx
      subst ha
      obtain ⟨xa, xn, xc, xl⟩ := x
      dsimp only at hc hrow
      have HX := Lib.hid hx
      have HRW : Hid (∀ x : Ext wr, IntRow x.v xa xn xc xl) := Lib.hid (fun x => hrow.int.below x.below)
      obtain ⟨q, hq⟩ : ∃ q, xl.all (inB tl) = q := ⟨_, rfl⟩
      have HQ := Lib.hid hq
      clear hx hrow hq
      go_upto_region 4 with fail
      have z0 := Ext.cell z0 B2.out.lt
      have z1 := Ext.cell z1 B2.out.lt
      have hc := Ext.cell hc hb
      refine wp_region_ext (by kernel_rfl) (by kernel_rfl) ?_
      repeat (go_big_quiet_step (first | (go_at_call 30; exact Ext.call_same (HH.out _ _ _ _ _ _ (HRW.out _) HQ.out))))
      refine wpQuiet_nil ?_
      intro w' hw'
      obtain ⟨⟨w8, hb8⟩, hw''⟩ := hw'
      dsimp only at hw''
      subst hw''
      clear z0 z1 hc
      cases q with
      | false =>
        have HF : Hid (R = false) := Lib.hid (by rw [HR.out, all_not (p := fun x : Hd Int => x.l.all (inB tl)) HX.out HQ.out]; rfl)
        go_wp2
        go_ret
        exact ⟨retB HF.out.symm, HBW.out.trans ((HB.out.trans (hb8.mono HB.out.size)).mono HBW.out.size)⟩
      | true =>
        have HG := Lib.hid (all_step HA.out HX.out HQ.out)
        go_wp2
        go_roundw
        case rel => exact ⟨k + 1, by omega, by go_num, Lib.hid (HB.out.trans (hb8.mono HB.out.size)), HG⟩
        case measure => simp [intOf]; omega
    · have HT : Hid (S.all (fun x => x.l.all (inB tl)) = true) := Lib.hid (all_done HA.out (by rw [HS.out]; omega))
      obtain ⟨q, hq⟩ : ∃ q, B.all (inB tl) = q := ⟨_, rfl⟩
      have HF : Hid (R = q) := Lib.hid (by rw [HR.out, HT.out, hq]; rfl)
      have HQ := Lib.hid hq
      have HIR : Hid (IntRow wr ba bl bc B) := Lib.hid h2.out.b
      clear hq
      go_wp2_with (go_at_call 30; (with_reducible refine (HH.out _ _ _ _ _ _ HIR.out HQ.out).mono ?_); rintro e w5 ⟨rfl, rfl⟩)
      go_ret
      exact ⟨retB HF.out.symm, HBW.out.trans (HB.out.mono HBW.out.size)⟩
set_option maxHeartbeats 2000000 in
theorem refidle11_any (v : LnV) (w : World) (ht : LineAt w v) :
    Calls Try.prog 17 #[v.val] w fun e w' => e = .returned (.bool (idle11 v.dat)) ∧ Below w.heap.size w w' := by
  have HR : Hid (idle11 v.dat = (decide (v.sl = 0) && decide (v.bl = 0) && !v.bz && v.T.all (fun x => emptyB x.l))) := Lib.hid (by
    unfold idle11 LnV.dat
    dsimp only
    rw [empty_n ht.s.dlen, empty_n ht.b.hlen]
    unfold datL
    rw [List.all_map]
    rfl)
  obtain ⟨R, hRe⟩ : ∃ R, idle11 v.dat = R := ⟨_, rfl⟩
  rw [hRe] at HR ⊢
  clear hRe
  obtain ⟨ta, tl, tc, sa, sl, sc, ba, bl, bc, bz, T, S, B⟩ := v
  dsimp only at HR
  have h1 : Hid (TdsRow (w.alloc (lineB ta tl tc sa sl sc ba bl bc bz)) ta tl tc T) := Lib.hid (ht.t.below (below_one w (lineB ta tl tc sa sl sc ba bl bc bz)))
  have HTN : Hid (T.length = tl) := Lib.hid ht.t.hlen
  have t64 : tl ≤ 9223372036854775807 := ht.t.len64
  have s64 : sl ≤ 9223372036854775807 := ht.s.len64
  have b64 : bl ≤ 9223372036854775807 := ht.b.len64
  clear ht
  go_enter Try.func17, Try.ntmps17
  go_wp2
  go_loop [3] (fun i => ∃ k : Nat, k ≤ tl ∧ i = .int .i64 k ∧ Hid (∀ (j : Nat) x, j < k → T[j]? = some x → emptyB x.l = true)) (fun i => tl - (intOf i).toNat)
  case atStart => exact ⟨0, Nat.zero_le _, rfl, Lib.hid (fun j _ hj => absurd hj (by omega))⟩
  case round =>
    obtain ⟨k, hk, rfl, HA⟩ := hrel
    by_cases hlt : k < tl
    · obtain ⟨b, off, x, ha, hb, hx, hc, hrow⟩ := h1.out.get hlt
      subst ha
      obtain ⟨xa, xn, xc, xl⟩ := x
      dsimp only at hc hrow
      have hb2 : b < w.heap.size + 1 := by simpa using hb
      have HX := Lib.hid hx
      have HE : Hid (emptyB xl = decide (xn = 0)) := Lib.hid (empty_n hrow.hlen)
      have x64 := hrow.len64
      clear hx hrow
      by_cases hz : xn = 0
      · subst hz
        have HG := Lib.hid (all_step HA.out HX.out (by show emptyB xl = true; rw [HE.out]; rfl))
        go_wp2
        go_round
        case rel => exact ⟨k + 1, by omega, by go_num, HG⟩
        case measure => simp [intOf]; omega
      · have HF : Hid (R = false) := Lib.hid (by rw [HR.out, all_not (p := fun x : Hd TodoD => emptyB x.l) HX.out (by show emptyB xl = false; rw [HE.out]; exact decide_eq_false hz), Bool.and_false])
        have e1 : ((xn : Int) != 0) = true := bne_iff_ne.2 (by omega)
        have e2 : ((xn : Int) == 0) = false := beq_eq_false_iff_ne.2 (by omega)
        go_wp2
        go_ret
        exact ⟨retB HF.out.symm, below_one _ _⟩
    · have HT : Hid (T.all (fun x => emptyB x.l) = true) := Lib.hid (all_done (p := fun x : Hd TodoD => emptyB x.l) HA.out (by rw [HTN.out]; omega))
      by_cases q1 : sl = 0
      rotate_left
      · have HF : Hid (R = false) := Lib.hid (by rw [HR.out, decide_eq_false q1]; rfl)
        have e1 : ((sl : Int) == 0) = false := beq_eq_false_iff_ne.2 (by omega)
        clear q1
        go_wp2
        go_ret
        exact ⟨retB HF.out.symm, below_one _ _⟩
      subst q1
      by_cases q2 : bl = 0
      rotate_left
      · have HF : Hid (R = false) := Lib.hid (by rw [HR.out, decide_eq_false q2, Bool.and_false]; rfl)
        have e1 : ((bl : Int) == 0) = false := beq_eq_false_iff_ne.2 (by omega)
        clear q2
        go_wp2
        go_ret
        exact ⟨retB HF.out.symm, below_one _ _⟩
      subst q2
      cases bz
      all_goals
        have HF : Hid (R = _) := Lib.hid (by rw [HR.out, HT.out])
        go_wp2
        go_ret
        exact ⟨retB (by rw [HF.out]; rfl), below_one _ _⟩
/-- Is a line not too much for a look? -/
def short11 (D : LnD) : Bool := decide (D.td.length ≤ 60) && decide (D.st.length ≤ 30) && decide (D.bk.length ≤ 60) && D.td.all (fun l => decide (l.length ≤ 60)) && D.st.all (fun l => decide (l.length ≤ 60))
theorem short11_small {D : LnD} (h : short11 D = true) : D.td.length ≤ 60 ∧ D.st.length ≤ 30 ∧ D.bk.length ≤ 60 ∧ (∀ l ∈ D.td, l.length ≤ 60) ∧ ∀ l ∈ D.st, l.length ≤ 60 := by
  unfold short11 at h
  simp only [Bool.and_eq_true, decide_eq_true_eq, List.all_eq_true] at h
  exact ⟨h.1.1.1.1, h.1.1.1.2, h.1.1.2, h.1.2, h.2⟩
set_option maxHeartbeats 2000000 in
theorem refshort11_any (v : LnV) (w : World) (ht : LineAt w v) :
    Calls Try.prog 8 #[v.val] w fun e w' => e = .returned (.bool (short11 v.dat)) ∧ Below w.heap.size w w' := by
  have HR : Hid (short11 v.dat = (decide (v.tl ≤ 60) && decide (v.sl ≤ 30) && decide (v.bl ≤ 60) && v.T.all (fun x => decide (x.l.length ≤ 60)) && v.S.all (fun x => decide (x.l.length ≤ 60)))) := Lib.hid (by
    unfold short11 LnV.dat
    dsimp only
    rw [ht.t.dlen, ht.s.dlen, ht.b.hlen]
    unfold datL
    rw [List.all_map, List.all_map]
    rfl)
  obtain ⟨R, hRe⟩ : ∃ R, short11 v.dat = R := ⟨_, rfl⟩
  rw [hRe] at HR ⊢
  clear hRe
  obtain ⟨ta, tl, tc, sa, sl, sc, ba, bl, bc, bz, T, S, B⟩ := v
  dsimp only at HR
  have h1 : Hid (TdsRow (w.alloc (lineB ta tl tc sa sl sc ba bl bc bz)) ta tl tc T) := Lib.hid (ht.t.below (below_one w (lineB ta tl tc sa sl sc ba bl bc bz)))
  have h2 : Hid (IssRow (w.alloc (lineB ta tl tc sa sl sc ba bl bc bz)) sa sl sc S) := Lib.hid (ht.s.below (below_one w (lineB ta tl tc sa sl sc ba bl bc bz)))
  have HTN : Hid (T.length = tl) := Lib.hid ht.t.hlen
  have HSN : Hid (S.length = sl) := Lib.hid ht.s.hlen
  have t64 : tl ≤ 9223372036854775807 := ht.t.len64
  have s64 : sl ≤ 9223372036854775807 := ht.s.len64
  have b64 : bl ≤ 9223372036854775807 := ht.b.len64
  clear ht
  by_cases q1 : (60 : Int) < (tl : Int)
  · have HF : Hid (R = false) := Lib.hid (by rw [HR.out, decide_eq_false (by omega : ¬ tl ≤ 60)]; rfl)
    go_enter Try.func8, Try.ntmps8
    go_wp2
    go_ret
    exact ⟨retB HF.out.symm, below_one _ _⟩
  by_cases q2 : (30 : Int) < (sl : Int)
  · have HF : Hid (R = false) := Lib.hid (by rw [HR.out, decide_eq_false (by omega : ¬ sl ≤ 30), Bool.and_false]; rfl)
    go_enter Try.func8, Try.ntmps8
    go_wp2
    go_ret
    exact ⟨retB HF.out.symm, below_one _ _⟩
  by_cases q3 : (60 : Int) < (bl : Int)
  · have HF : Hid (R = false) := Lib.hid (by rw [HR.out, decide_eq_false (by omega : ¬ bl ≤ 60), Bool.and_false]; rfl)
    go_enter Try.func8, Try.ntmps8
    go_wp2
    go_ret
    exact ⟨retB HF.out.symm, below_one _ _⟩
  have HR2 : Hid (R = (T.all (fun x => decide (x.l.length ≤ 60)) && S.all (fun x => decide (x.l.length ≤ 60)))) := Lib.hid (by rw [HR.out, decide_eq_true (by omega : tl ≤ 60), decide_eq_true (by omega : sl ≤ 30), decide_eq_true (by omega : bl ≤ 60)]; rfl)
  go_enter Try.func8, Try.ntmps8
  go_wp2
  go_loop [3] (fun i => ∃ k : Nat, k ≤ tl ∧ i = .int .i64 k ∧ Hid (∀ (j : Nat) x, j < k → T[j]? = some x → decide (x.l.length ≤ 60) = true)) (fun i => tl - (intOf i).toNat)
  case atStart => exact ⟨0, Nat.zero_le _, rfl, Lib.hid (fun j _ hj => absurd hj (by omega))⟩
  case round =>
    obtain ⟨k, hk, rfl, HA⟩ := hrel
    by_cases hlt : k < tl
    · obtain ⟨b, off, x, ha, hb, hx, hc, hrow⟩ := h1.out.get hlt
      subst ha
      obtain ⟨xa, xn, xc, xl⟩ := x
      dsimp only at hc hrow
      have hb2 : b < w.heap.size + 1 := by simpa using hb
      have HX := Lib.hid hx
      have HE : Hid (xl.length = xn) := Lib.hid hrow.hlen
      have x64 := hrow.len64
      clear hx hrow
      by_cases hz : (60 : Int) < (xn : Int)
      · have HF : Hid (R = false) := Lib.hid (by rw [HR2.out, all_not (p := fun x : Hd TodoD => decide (x.l.length ≤ 60)) HX.out (by show decide (xl.length ≤ 60) = false; rw [HE.out]; exact decide_eq_false (by omega))]; rfl)
        go_wp2
        go_ret
        exact ⟨retB HF.out.symm, below_one _ _⟩
      · have HG := Lib.hid (all_step (p := fun x : Hd TodoD => decide (x.l.length ≤ 60)) HA.out HX.out (by show decide (xl.length ≤ 60) = true; rw [HE.out]; exact decide_eq_true (by omega)))
        go_wp2
        go_round
        case rel => exact ⟨k + 1, by omega, by go_num, HG⟩
        case measure => simp [intOf]; omega
    · have HT : Hid (T.all (fun x => decide (x.l.length ≤ 60)) = true) := Lib.hid (all_done (p := fun x : Hd TodoD => decide (x.l.length ≤ 60)) HA.out (by rw [HTN.out]; omega))
      go_wp2
      go_loop [4] (fun i => ∃ k : Nat, k ≤ sl ∧ i = .int .i64 k ∧ Hid (∀ (j : Nat) x, j < k → S[j]? = some x → decide (x.l.length ≤ 60) = true)) (fun i => sl - (intOf i).toNat)
      case atStart => exact ⟨0, Nat.zero_le _, rfl, Lib.hid (fun j _ hj => absurd hj (by omega))⟩
      case round =>
        clear hk hlt HA
        obtain ⟨k, hk, rfl, HA⟩ := hrel
        by_cases hlt : k < sl
        · obtain ⟨b, off, x, ha, hb, hx, hc, hrow⟩ := h2.out.get hlt
          subst ha
          obtain ⟨xa, xn, xc, xl⟩ := x
          dsimp only at hc hrow
          have hb2 : b < w.heap.size + 1 := by simpa using hb
          have HX := Lib.hid hx
          have HE : Hid (xl.length = xn) := Lib.hid hrow.hlen
          have x64 := hrow.len64
          clear hx hrow
          by_cases hz : (60 : Int) < (xn : Int)
          · have HF : Hid (R = false) := Lib.hid (by rw [HR2.out, HT.out, all_not (p := fun x : Hd Int => decide (x.l.length ≤ 60)) HX.out (by show decide (xl.length ≤ 60) = false; rw [HE.out]; exact decide_eq_false (by omega))]; rfl)
            go_wp2
            go_ret
            exact ⟨retB HF.out.symm, below_one _ _⟩
          · have HG := Lib.hid (all_step (p := fun x : Hd Int => decide (x.l.length ≤ 60)) HA.out HX.out (by show decide (xl.length ≤ 60) = true; rw [HE.out]; exact decide_eq_true (by omega)))
            go_wp2
            go_round
            case rel => exact ⟨k + 1, by omega, by go_num, HG⟩
            case measure => simp [intOf]; omega
        · have HF : Hid (R = true) := Lib.hid (by rw [HR2.out, HT.out, all_done (p := fun x : Hd Int => decide (x.l.length ≤ 60)) HA.out (by rw [HSN.out]; omega)]; rfl)
          go_wp2
          go_ret
          exact ⟨retB HF.out.symm, below_one _ _⟩
end Go.Proofs.Ytadlmjiebhpaoaa
