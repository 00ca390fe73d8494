/- Texts joined in build order: WatchTold. -/
import Derived.Test.YtkfmengdffpcnaaGreatDoorA35
namespace Go.Proofs.YtkfmengdffpcnaaGreatDoor
open Go.RowKit
set_option maxHeartbeats 1000000 in
set_option maxRecDepth 100000 in
theorem indexS_any (a : Option Addr) (len cap : Nat) (L : List ByteArray) (s : ByteArray) (w : World) (h : StrRow w a len cap L) :
    Calls Tryz.prog 101 #[.slice a len cap, .string s] w fun e w' => ∃ z : Int, e = .returned (.int .i64 z) ∧ decide (0 ≤ z) = L.any (fun x => x.toList == s.toList) ∧ Below w.heap.size w w' := by
  have H := Lib.hid h
  have HL := Lib.hid h.hlen
  have h64 := h.len64
  have hcap := h.row.hcap
  have hmax := h.row.hmax
  have hcap64 : cap ≤ 9223372036854775807 := by unfold maxLen at hmax; omega
  clear h hmax
  go_enter Tryz.func101, Tryz.ntmps101
  go_wp2
  go_loopw [5, 8] (fun j i wr => ∃ k : Nat, k ≤ len ∧ i = .int .i64 k ∧ Hid (∀ (j : Nat) z, j < k → L[j]? = some z → (z.toList == s.toList) = false) ∧ Hid (Below w.heap.size w wr)) (fun _ i _ => len - (intOf i).toNat)
  case atStart => exact ⟨0, Nat.zero_le _, rfl, Lib.hid (fun j x hj => absurd hj (by omega)), Lib.hid (Below.refl _ _)⟩
  case round =>
    obtain ⟨k, hkl, rfl, HA, HR⟩ := hrel
    by_cases hlt : k < len
    · obtain ⟨b, off, y, rfl, hb, hy, y0, hys⟩ := (H.out.below HR.out).str hlt
      have HY := Lib.hid hy
      clear hy
      obtain ⟨q, hq⟩ : ∃ q, (s.toList == y.toList) = q := ⟨_, rfl⟩
      have HQ : Hid ((y.toList == s.toList) = q) := Lib.hid (by rw [← hq]; exact Bool.beq_comm ..)
      cases q with
      | true =>
        go_wp2
        go_ret
        refine ⟨k, rfl, ?_, HR.out⟩
        rw [decide_eq_true (by omega : (0 : Int) ≤ k)]
        exact (List.any_eq_true.2 ⟨y, List.mem_of_getElem? HY.out, HQ.out⟩).symm
      | false =>
        go_wp2
        go_roundw
        case rel => exact ⟨k + 1, by omega, by go_num, Lib.hid (fun j z hj hz => by
          rcases Nat.lt_or_ge j k with h1 | h1
          · exact HA.out j z h1 hz
          · obtain rfl : j = k := by omega
            rw [HY.out] at hz
            injection hz with hz
            subst hz
            exact HQ.out), HR⟩
        case measure => simp [intOf]; omega
    · have hkn : k = len := by omega
      subst hkn
      go_wp2
      go_ret
      refine ⟨-1, rfl, ?_, HR.out⟩
      rw [decide_eq_false (by omega)]
      refine (List.any_eq_false.2 fun y hy => ?_).symm
      obtain ⟨j, hj⟩ := List.getElem?_of_mem hy
      rw [HA.out j y (by have := (List.getElem?_eq_some_iff.1 hj).1; rw [HL.out] at this; exact this) hj]
      decide
set_option maxHeartbeats 1000000 in
set_option maxRecDepth 100000 in
theorem containsS_any (a : Option Addr) (len cap : Nat) (L : List ByteArray) (s : ByteArray) (w : World) (h : StrRow w a len cap L) :
    Calls Tryz.prog 67 #[.slice a len cap, .string s] w fun e w' => e = .returned (.bool (L.any (fun x => x.toList == s.toList))) ∧ Below w.heap.size w w' := by
  have C := Lib.hid (indexS_any a len cap L s w h)
  have h64 := h.len64
  clear h
  go_enter Tryz.func67, Tryz.ntmps67
  go_wp2_with (go_at_call 101; (with_reducible refine C.out.mono ?_); rintro e w1 ⟨z, rfl, hz, hb⟩; have HZ := Lib.hid hz; have HB := Lib.hid hb; clear hz hb)
  go_ret
  exact ⟨by rw [HZ.out]; rfl, HB.out⟩
set_option maxHeartbeats 2000000 in
set_option maxRecDepth 100000 in
theorem told_any (x : ClassD) (y : NoteD) (w : World) (h : ClassAt w x) : Calls Tryz.prog 40 #[x.val, noteV y] w fun e w' => e = .returned (.bool (toldC x.core y.kind y.name)) ∧ Below w.heap.size w w' := by
  obtain ⟨kind, node, src, dst, name, had, has, old, new⟩ := y
  have CH : Hid (∀ V, ClassAt V x → Calls Tryz.prog 12 #[x.val, .int .i64 kind] V fun e w' => e = .returned (.bool (hearsC x.core kind)) ∧ Below V.heap.size V w') := Lib.hid (fun V h => hears_any x kind V h)
  have CC : Hid (∀ V, ClassAt V x → Calls Tryz.prog 67 #[.slice x.wa x.wn x.wk, .string name] V fun e w' => e = .returned (.bool (x.core.watch.any (fun y => y.toList == name.toList))) ∧ Below V.heap.size V w') := Lib.hid (fun V h => containsS_any _ _ _ _ name V h.t)
  obtain ⟨qh, hqh⟩ : ∃ q, hearsC x.core kind = q := ⟨_, rfl⟩
  obtain ⟨qc, hqc⟩ : ∃ q, x.core.watch.any (fun y => y.toList == name.toList) = q := ⟨_, rfl⟩
  rw [hqh] at CH
  rw [hqc] at CC
  have HT : Hid (toldC x.core kind name = if kind = 4 then qc && qh else if kind = 1 ∨ kind = 2 ∨ kind = 3 then qh else false) := Lib.hid (by
    unfold toldC watchesC
    rw [hqc]
    split
    · next e => rw [← e, hqh]
    · split
      · exact hqh
      · rfl)
  dsimp only
  rw [HT.out]
  have HX := Lib.hid h
  obtain ⟨form, wa, wn, wk, watch, pa, pn, pk, peek, ma, mn, mc, make, ha, hn, hk, hooks⟩ := x
  dsimp only [ClassD.val] at CH CC ⊢
  obtain ⟨W0, hW0, B0, B1, HS, HB⟩ := boxes2 w #[.bool form, .slice wa wn wk, .slice pa pn pk, .slice ma mn mc, .slice ha hn hk] #[.int .i64 kind, .int .i64 node, .int .i64 src, .int .i64 dst, .string name, .bool had, .bool has, .string old, .string new] 51 71
  have HW0 := Lib.hid hW0
  have B0 := Lib.hid B0
  have B1 := Lib.hid B1
  have HB := Lib.hid HB
  have z0 := B0.out.c 0 _ rfl
  have z1 := B0.out.c 1 _ rfl
  have z2 := B0.out.c 2 _ rfl
  have z3 := B0.out.c 3 _ rfl
  have z4 := B0.out.c 4 _ rfl
  have n0 := B1.out.c 0 _ rfl
  have n4 := B1.out.c 4 _ rfl
  clear h hW0 hqh hqc HT
  obtain ⟨r, hr⟩ : ∃ r, (if kind = 4 then qc && qh else if kind = 1 ∨ kind = 2 ∨ kind = 3 then qh else false) = r := ⟨_, rfl⟩
  rw [hr]
  by_cases h4 : kind = 4
  · have e4 : (kind == 4) = true := beq_iff_eq.2 h4
    rw [if_pos h4] at hr
    have HR := Lib.hid hr
    clear hr h4
    go_enter Tryz.func40, Tryz.ntmps40
    go_upto_region 1 with fail
    rw [HW0.out]
    cases qc with
    | false =>
      go_wp2_with (go_at_call 67; (with_reducible refine (CC.out _ (HX.out.below HB.out)).mono ?_); rintro e w1 ⟨rfl, hb⟩; have HB1 := Lib.hid (HB.out.trans (hb.mono HB.out.size)); clear hb)
      go_ret
      exact ⟨by rw [← HR.out]; rfl, HB1.out⟩
    | true =>
      go_wp2_with (first
        | (go_at_call 67; (with_reducible refine (CC.out _ (HX.out.below HB.out)).mono ?_); rintro e w1 ⟨rfl, hb⟩; have HB1 := Lib.hid (HB.out.trans (hb.mono HB.out.size)); have B01 := Lib.hid (B0.out.keep hb); have B11 := Lib.hid (B1.out.keep hb); clear hb z0 z1 z2 z3 z4 n0 n4; have z0 := B01.out.c 0 _ rfl; have z1 := B01.out.c 1 _ rfl; have z2 := B01.out.c 2 _ rfl; have z3 := B01.out.c 3 _ rfl; have z4 := B01.out.c 4 _ rfl; have n0 := B11.out.c 0 _ rfl)
        | (go_at_call 12; (with_reducible refine (CH.out _ (HX.out.below HB1.out)).mono ?_); rintro e w2 ⟨rfl, hb⟩; have HB2 := Lib.hid (HB1.out.trans (hb.mono HB1.out.size)); clear hb))
      go_ret
      exact ⟨by rw [← HR.out]; rfl, HB2.out⟩
  · have e4 : (kind == 4) = false := beq_eq_false_iff_ne.2 h4
    rw [if_neg h4] at hr
    have tail : (kind == 1) = true ∨ ((kind == 1) = false ∧ (kind == 2) = true) ∨ ((kind == 1) = false ∧ (kind == 2) = false ∧ (kind == 3) = true) ∨ ((kind == 1) = false ∧ (kind == 2) = false ∧ (kind == 3) = false) := by
      cases kind == 1 <;> cases kind == 2 <;> cases kind == 3 <;> simp
    rcases tail with e1 | ⟨e1, e2⟩ | ⟨e1, e2, e3⟩ | ⟨e1, e2, e3⟩
    · rw [if_pos (.inl (beq_iff_eq.1 e1))] at hr
      have HR := Lib.hid hr
      clear hr h4
      go_enter Tryz.func40, Tryz.ntmps40
      go_upto_region 1 with fail
      rw [HW0.out]
      go_wp2_with (go_at_call 12; (with_reducible refine (CH.out _ (HX.out.below HB.out)).mono ?_); rintro e w2 ⟨rfl, hb⟩; have HB2 := Lib.hid (HB.out.trans (hb.mono HB.out.size)); clear hb)
      go_ret
      exact ⟨by rw [← HR.out]; rfl, HB2.out⟩
    · rw [if_pos (.inr (.inl (beq_iff_eq.1 e2)))] at hr
      have HR := Lib.hid hr
      clear hr h4
      go_enter Tryz.func40, Tryz.ntmps40
      go_upto_region 1 with fail
      rw [HW0.out]
      go_wp2_with (go_at_call 12; (with_reducible refine (CH.out _ (HX.out.below HB.out)).mono ?_); rintro e w2 ⟨rfl, hb⟩; have HB2 := Lib.hid (HB.out.trans (hb.mono HB.out.size)); clear hb)
      go_ret
      exact ⟨by rw [← HR.out]; rfl, HB2.out⟩
    · rw [if_pos (.inr (.inr (beq_iff_eq.1 e3)))] at hr
      have HR := Lib.hid hr
      clear hr h4
      go_enter Tryz.func40, Tryz.ntmps40
      go_upto_region 1 with fail
      rw [HW0.out]
      go_wp2_with (go_at_call 12; (with_reducible refine (CH.out _ (HX.out.below HB.out)).mono ?_); rintro e w2 ⟨rfl, hb⟩; have HB2 := Lib.hid (HB.out.trans (hb.mono HB.out.size)); clear hb)
      go_ret
      exact ⟨by rw [← HR.out]; rfl, HB2.out⟩
    · rw [if_neg (fun h => by
        rcases h with h | h | h
        · rw [beq_iff_eq.2 h] at e1; cases e1
        · rw [beq_iff_eq.2 h] at e2; cases e2
        · rw [beq_iff_eq.2 h] at e3; cases e3)] at hr
      have HR := Lib.hid hr
      clear hr h4
      go_enter Tryz.func40, Tryz.ntmps40
      go_upto_region 1 with fail
      rw [HW0.out]
      go_wp2_with fail
      go_ret
      exact ⟨by rw [← HR.out]; rfl, HB.out⟩
set_option maxHeartbeats 1000000 in
set_option maxRecDepth 100000 in
theorem watches_any (x : ClassD) (s : ByteArray) (w : World) (h : ClassAt w x) : Calls Tryz.prog 16 #[x.val, .string s] w fun e w' => e = .returned (.bool (watchesC x.core s)) ∧ Below w.heap.size w w' := by
  have CT : Hid (∀ V, ClassAt V x → Calls Tryz.prog 40 #[x.val, noteV ⟨4, 0, 0, 0, s, false, false, ⟨#[]⟩, ⟨#[]⟩⟩] V fun e w' => e = .returned (.bool (watchesC x.core s)) ∧ Below V.heap.size V w') := Lib.hid (fun V h => by
    have := told_any x ⟨4, 0, 0, 0, s, false, false, ⟨#[]⟩, ⟨#[]⟩⟩ V h
    rw [show toldC x.core (4 : Int) s = watchesC x.core s from if_pos rfl] at this
    exact this)
  obtain ⟨q, hq⟩ : ∃ q, watchesC x.core s = q := ⟨_, rfl⟩
  rw [hq] at CT ⊢
  have HX := Lib.hid h
  obtain ⟨form, wa, wn, wk, watch, pa, pn, pk, peek, ma, mn, mc, make, ha, hn, hk, hooks⟩ := x
  dsimp only [ClassD.val] at CT ⊢
  obtain ⟨W0, hW0, B0, HS, HB⟩ := boxes1 w #[.bool form, .slice wa wn wk, .slice pa pn pk, .slice ma mn mc, .slice ha hn hk] 51
  have HW0 := Lib.hid hW0
  have B0 := Lib.hid B0
  have HB := Lib.hid HB
  have z0 := B0.out.c 0 _ rfl
  have z1 := B0.out.c 1 _ rfl
  have z2 := B0.out.c 2 _ rfl
  have z3 := B0.out.c 3 _ rfl
  have z4 := B0.out.c 4 _ rfl
  clear h hW0 hq
  go_enter Tryz.func16, Tryz.ntmps16
  go_upto_region 1 with fail
  rw [HW0.out]
  go_wp2_with (go_at_call 40; (with_reducible refine (CT.out _ (HX.out.below HB.out)).mono ?_); rintro e w1 ⟨rfl, hb⟩; have HB1 := Lib.hid (HB.out.trans (hb.mono HB.out.size)); clear hb)
  go_ret
  exact ⟨rfl, HB1.out⟩
end Go.Proofs.YtkfmengdffpcnaaGreatDoor
