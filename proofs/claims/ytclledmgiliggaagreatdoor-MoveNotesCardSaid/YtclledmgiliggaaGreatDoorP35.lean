/- Texts joined in build order: MoveSetFn MoveUnset MoveToggle MoveBehind. -/
import Derived.Test.YtclledmgiliggaaGreatDoorP34
import Derived.Test.YtclledmgiliggaaGreatDoorP13
import Derived.Test.YtclledmgiliggaaGreatDoorP20
import Derived.Test.YtclledmgiliggaaGreatDoorP23
import Derived.Test.YtclledmgiliggaaGreatDoorP31
namespace Go.Proofs.YtclledmgiliggaaGreatDoor
open Go.RowKit
set_option maxHeartbeats 8000000 in
set_option maxRecDepth 100000 in
theorem mset_any (a : Option Addr) (len cap : Nat) (m : Int) (L : List NodeD) (n : Int) (s v : ByteArray) (w : World) (h : NodeRow w a len cap L) (hm : In64 m) (hn : In64 n) (hsz : s.size ≤ maxLen) (hvz : v.size ≤ maxLen) (hs : smallF L) (hg : ErrVar w) :
    Calls Tryz.prog 21 #[forV a len cap m, .int .i64 n, .string s, .string v] w (MvPost w m (setZ m (coreL L) n s.toList v)) := by
  have HCL : Hid ((coreL L).length = len) := Lib.hid (by rw [coreL_len, h.hlen])
  have hlen := h.len64
  have HS := Lib.hid hs
  have HSZ := Lib.hid hsz
  have HVZ := Lib.hid hvz
  have CB : Hid (∀ W, NodeRow W a len cap L → Calls Tryz.prog 46 #[forV a len cap m] W fun e w' => ∃ pw a2 cap2 M, e = .returned (workV pw) ∧ Begun W w' pw a2 len cap2 m M (coreL L)) := Lib.hid (fun W h1 => mbegin_any a len cap m L W h1 hs)
  obtain ⟨E, hE⟩ : ∃ E, elemE m (coreL L) n = E := ⟨_, rfl⟩
  have CM : Hid (∀ W, NodeRow W a len cap L → Calls Tryz.prog 64 #[forV a len cap m, .int .i64 n] W fun e w' => e = .returned (.int .i64 E) ∧ Below W.heap.size W w') := Lib.hid (fun W h1 => by
    rw [← hE]
    exact melem_any a len cap m L n W h1 hm hn hs)
  obtain ⟨w0, hw0, TW, HB0⟩ : ∃ w0, (w.alloc (forB a len cap m)).alloc zeroFB = w0 ∧ Hid (Two w w0 a len cap m L) ∧ Hid (Below w.heap.size w w0) := ⟨_, rfl, Lib.hid (Two.start h), Lib.hid ((below_box _ _).trans ((below_box _ _).mono (by simp)))⟩
  have HG := Lib.hid (hg.keep HB0.out)
  have HW0 := Lib.hid hw0
  have z0 := TW.out.bx.c0
  have z1 := TW.out.bx.c1
  have HH := Lib.hid h
  clear h hm hn hg hw0 hsz hvz
  by_cases h0 : E = 0
  · subst h0
    obtain ⟨k, rfl, hk, b, off, x, EI⟩ := elem_in HH.out hs hE
    have HK := Lib.hid hk
    have H1K : Hid (len ≤ 1000) := Lib.hid (by rw [← HH.out.hlen]; exact hs.1)
    have C4 := Lib.hid (stays EI.c4 EI.hb)
    have HEI := Lib.hid EI
    have hab := EI.ha
    subst hab
    have HAK := Lib.hid EI.is
    have HE := Lib.hid hE
    clear EI hE hs
    obtain ⟨lA, hlA⟩ : ∃ lA, setA x.core.attrs s.toList v = lA := ⟨_, rfl⟩
    have HLN : Hid (lA.length ≤ 1000) := Lib.hid (by rw [← hlA]; exact setA_len HEI.out.short)
    obtain ⟨E, hz⟩ : ∃ E, setE x.core.attrs s.toList v = E := ⟨_, rfl⟩
    have CA : Hid (∀ W, Below w.heap.size w W → Calls Tryz.prog 65 #[.slice x.aA x.aN x.aC, .string s, .string v] W (SetNew W lA E)) := Lib.hid (fun W hb => by
      rw [← hlA, ← hz]
      exact attrset_any _ _ _ _ s v W (HEI.out.row.below hb) HSZ.out HVZ.out HEI.out.short)
    by_cases h0 : E = 0
    · subst h0
      have HQ : Hid (setZ m (coreL L) k s.toList v = chgZ (coreL L) k s.toList lA) := Lib.hid (by
        unfold setZ
        rw [if_pos HE.out, ← HAK.out, if_pos hz, hlA])
      clear hz hlA
      go_enter Tryz.func21, Tryz.ntmps21
      go_upto_region 1 with fail
      rw [HW0.out]
      go_upto_region 2 with (go_at_call 46; (with_reducible refine (CB.out _ TW.out.bx.row).mono ?_); rintro e w1 ⟨pw, a2, cap2, M, rfl, hB⟩; have BG := Lib.hid hB; have TW1 := Lib.hid (TW.out.keep hB.below); have z0 := TW1.out.bx.c0; have z1 := TW1.out.bx.c1; clear hB)
      (
        have HD0 := Lib.hid BG.out.held
        have HBW := Lib.hid (held_below w1 pw)
        obtain ⟨wh, hwh⟩ : ∃ wh, w1.alloc (wkB pw) = wh := ⟨_, rfl⟩
        rw [hwh] at HD0 HBW ⊢
        have TW1 := Lib.hid (TW1.out.keep HBW.out)
        clear BG z0 z1 hwh
        have BG := HD0
        clear HD0
        have z0 := TW1.out.bx.c0
        have z1 := TW1.out.bx.c1
        have zw := BG.out.wc)
      go_wp2_with (first
        | (go_at_call 64; (with_reducible refine (CM.out _ TW1.out.bx.row).mono ?_); rintro e w2 ⟨rfl, hb⟩; have BG := Lib.hid (BG.out.keep hb); have TW1 := Lib.hid (TW1.out.keep hb); have z0 := TW1.out.bx.c0; have z1 := TW1.out.bx.c1; have c4 := C4.out _ (HB0.out.trans (BG.out.below.mono HB0.out.size)); clear hb)
        | (go_at_call 65; obtain ⟨g, ρ, rfl, hwk, hρ, hwb⟩ := BG.out.wk (by omega); have HBC := Lib.hid BG.out.core; obtain ⟨y, hy⟩ : ∃ y, M[k]? = some y := ⟨_, List.getElem?_eq_getElem (by rw [hwk.hlen]; exact HK.out)⟩; have HY := Lib.hid hy; (with_reducible refine (CA.out _ (HB0.out.trans (BG.out.below.mono HB0.out.size))).mono ?_); rintro e w3 ⟨al, ln, lc, rfl, halr, hb, haln⟩; have ALR := Lib.hid halr; have ARF : Hid (∀ b off, al = some ⟨b, off, none⟩ → 0 < ln → ρ b = 0 ∧ g < b) := (Lib.hid (fun b off e _ => ⟨hwk.fresh b (haln b off e), Nat.lt_of_lt_of_le hwk.glt (haln b off e)⟩)); have HRO := Lib.hid hρ; have HWB := Lib.hid hwb; have W2 := Lib.hid (hwk.keep hb); have BG := Lib.hid (BG.out.keep hb); have zw := BG.out.wc; have TW1 := Lib.hid (TW1.out.keep hb); have z0 := TW1.out.bx.c0; have z1 := TW1.out.bx.c1; clear hb hwk hρ hwb halr haln hy)
        | (go_at_call 66; (refine (mchange_any _ W2.out k HK.out H1K.out y HY.out s HSZ.out al ln lc _ ALR.out ARF.out (by simp)).mono ?_); rintro e w4 ⟨rfl, ρ3, M3, v3, N3, hW3, hT3, hA3, hM3, hN3⟩; obtain ⟨va, vc, rfl, hNR⟩ := hW3.notes; have W3 := Lib.hid hW3; have EM3 := Lib.hid hM3; have EN3 := Lib.hid hN3; have HB3 := Lib.hid (BG.out.below.trans (hT3.below BG.out.below.size HRO.out)); have A3 : Hid (∀ k, k < w0.heap.size → ρ3 k = 0) := (Lib.hid (fun k hk => (hA3 k (Nat.lt_of_lt_of_le hk BG.out.below.size)).trans (HRO.out k hk))); have zw := (hT3.cell BG.out.wlt HWB.out).trans BG.out.wc; clear hW3 hT3 hA3 hM3 hN3 hNR)
        | (go_at_call 48; (refine (mended_any W3.out).mono ?_); rintro e w4 ⟨rfl, hb⟩; have HB4 := Lib.hid (HB3.out.trans (hb.mono HB3.out.size)); have HB34 := Lib.hid hb; have TW4 := Lib.hid (TW.out.keep HB4.out); have d0 := TW4.out.rb.c0; have d1 := TW4.out.rb.c1; have f0 := TW4.out.rb.f0; have f1 := TW4.out.rb.f1; clear hb))
      (
        obtain ⟨q0, q1⟩ := stored2 TW4.out.rb (.slice (some ⟨g, 0, none⟩) len cap2) (.int .i64 m)
        obtain ⟨ρ5, W5⟩ := (W3.out.keep HB34.out).stored (b := w.heap.size + 1) (B := w0.heap.size) TW.out.rb.lt HB4.out.size A3.out 0 1 (.slice (some ⟨g, 0, none⟩) len cap2) (.int .i64 m)
        obtain ⟨va', vc', hv', NR5⟩ := W5.notes
        injection hv' with e2 e3 e4
        subst e2 e4
        have HB5 := ((HB0.out.trans (HB4.out.mono HB0.out.size)).setCell (p := ⟨w.heap.size + 1, 0, none⟩) (by show w.heap.size ≤ w.heap.size + 1; omega) (.slice (some ⟨g, 0, none⟩) len cap2)).setCell (p := ⟨w.heap.size + 1, 1, none⟩) (by show w.heap.size ≤ w.heap.size + 1; omega) (.int .i64 m)
        have hcd := chg_done (s := s.toList) (l := lA) (al := al) (ln := ln) (lc := lc) HBC.out HY.out
        refine bodyPost_ret (v := .tuple #[forV (some ⟨g, 0, none⟩) len cap2 m, .slice va N3.length vc, .int .i64 0]) ?_ rfl ⟨some ⟨g, 0, none⟩, len, cap2, M3, va, N3.length, vc, by rw [HQ.out]; rfl, W5.row, by rw [HQ.out, EM3.out]; exact hcd.1, by rw [EM3.out]; exact small_setA (small_core HBC.out HS.out) HY.out _ _ _ _ HLN.out, by rw [HQ.out, ← hcd.2, ← EN3.out]; exact NR5, HB5, (W3.out.news A3.out).mono HB0.out.size⟩)
      simp [results, Tryz.results21, go_sem, q0, q1]
    · have HQ : Hid (setZ m (coreL L) k s.toList v = (coreL L, [], E)) := Lib.hid (by
        unfold setZ
        rw [if_pos HE.out, ← HAK.out, hz, if_neg h0])
      have e1 : (E != 0) = true := bne_iff_ne.2 h0
      clear hz hlA h0
      go_enter Tryz.func21, Tryz.ntmps21
      go_upto_region 1 with fail
      rw [HW0.out]
      go_upto_region 2 with (go_at_call 46; (with_reducible refine (CB.out _ TW.out.bx.row).mono ?_); rintro e w1 ⟨pw, a2, cap2, M, rfl, hB⟩; have BG := Lib.hid hB; have TW1 := Lib.hid (TW.out.keep hB.below); have z0 := TW1.out.bx.c0; have z1 := TW1.out.bx.c1; clear hB)
      (
        have HD0 := Lib.hid BG.out.held
        have HBW := Lib.hid (held_below w1 pw)
        obtain ⟨wh, hwh⟩ : ∃ wh, w1.alloc (wkB pw) = wh := ⟨_, rfl⟩
        rw [hwh] at HD0 HBW ⊢
        have TW1 := Lib.hid (TW1.out.keep HBW.out)
        clear BG z0 z1 hwh
        have BG := HD0
        clear HD0
        have z0 := TW1.out.bx.c0
        have z1 := TW1.out.bx.c1
        have zw := BG.out.wc)
      go_upto_region 7 with (first
        | (go_at_call 64; (with_reducible refine (CM.out _ TW1.out.bx.row).mono ?_); rintro e w2 ⟨rfl, hb⟩; have BG := Lib.hid (BG.out.keep hb); have TW1 := Lib.hid (TW1.out.keep hb); have z0 := TW1.out.bx.c0; have z1 := TW1.out.bx.c1; have c4 := C4.out _ (HB0.out.trans (BG.out.below.mono HB0.out.size)); clear hb)
        | (go_at_call 65; (with_reducible refine (CA.out _ (HB0.out.trans (BG.out.below.mono HB0.out.size))).mono ?_); rintro e w3 ⟨al, ln, lc, rfl, -, hb, -⟩; have BG := Lib.hid (BG.out.keep hb); have zw := BG.out.wc; have TW1 := Lib.hid (TW1.out.keep hb); have z0 := TW1.out.bx.c0; have z1 := TW1.out.bx.c1; clear hb))
      (
        have BD := Lib.hid (BG.out.keep ((Below.refl _ _).drew))
        have zw := BG.out.wc
        go_region_with (first | (go_at_call 49; (refine (mrefuse_any _ _ _).mono ?_); rintro e w' ⟨rfl, rfl⟩) | (go_at_call 48; (refine (mrefused_any BD.out (HG.out.keep BD.out.below) _ _).mono ?_); rintro e w4 ⟨rfl, hb⟩; have BG4 := Lib.hid (BD.out.keep hb); have TW4 := Lib.hid (TW.out.keep BG4.out.below); have d0 := TW4.out.rb.c0; have d1 := TW4.out.rb.c1; have f0 := TW4.out.rb.f0; have f1 := TW4.out.rb.f1; clear hb))
        all_goals go_wp2)
      all_goals (
                  obtain ⟨q0, q1⟩ := stored2 TW4.out.rb (.slice a2 len cap2) (.int .i64 m)
                  have hlt0 := TW.out.rb.lt
                  have R5 := (BG4.out.row.far (q := w.heap.size + 1) (fun b off e => by have := BG4.out.rlo b off e; omega) (fun x hx => (BG4.out.new x hx).away hlt0) 0 (.slice a2 len cap2)).far (q := w.heap.size + 1) (fun b off e => by have := BG4.out.rlo b off e; omega) (fun x hx => (BG4.out.new x hx).away hlt0) 1 (.int .i64 m)
                  have HB5 := ((HB0.out.trans (BG4.out.below.mono HB0.out.size)).setCell (p := ⟨w.heap.size + 1, 0, none⟩) (by show w.heap.size ≤ w.heap.size + 1; omega) (.slice a2 len cap2)).setCell (p := ⟨w.heap.size + 1, 1, none⟩) (by show w.heap.size ≤ w.heap.size + 1; omega) (.int .i64 m)
                  refine bodyPost_ret (v := .tuple #[forV a2 len cap2 m, .slice none 0 0, .int .i64 E]) ?_ rfl ⟨a2, len, cap2, M, none, 0, 0, by rw [HQ.out], R5, by rw [HQ.out, BG4.out.core], small_core BG4.out.core HS.out, by rw [HQ.out]; exact NoteRow.nil _, HB5, fun k hk => ⟨fun b off e e2 => (by have := BG4.out.rlo b off e; have := HB0.out.size; omega), fun x hx => (BG4.out.new x hx).away (Nat.lt_of_lt_of_le hk HB0.out.size), fun b off e => (by cases e)⟩⟩)
      all_goals simp [results, Tryz.results21, go_sem, q0, q1]
  · have HQ : Hid (setZ m (coreL L) n s.toList v = (coreL L, [], E)) := Lib.hid (by
      unfold setZ
      rw [hE, if_neg h0])
    have e1 : (E != 0) = true := bne_iff_ne.2 h0
    clear hE h0 hs
    go_enter Tryz.func21, Tryz.ntmps21
    go_upto_region 1 with fail
    rw [HW0.out]
    go_upto_region 2 with (go_at_call 46; (with_reducible refine (CB.out _ TW.out.bx.row).mono ?_); rintro e w1 ⟨pw, a2, cap2, M, rfl, hB⟩; have BG := Lib.hid hB; have TW1 := Lib.hid (TW.out.keep hB.below); have z0 := TW1.out.bx.c0; have z1 := TW1.out.bx.c1; clear hB)
    (
      have HD0 := Lib.hid BG.out.held
      have HBW := Lib.hid (held_below w1 pw)
      obtain ⟨wh, hwh⟩ : ∃ wh, w1.alloc (wkB pw) = wh := ⟨_, rfl⟩
      rw [hwh] at HD0 HBW ⊢
      have TW1 := Lib.hid (TW1.out.keep HBW.out)
      clear BG z0 z1 hwh
      have BG := HD0
      clear HD0
      have z0 := TW1.out.bx.c0
      have z1 := TW1.out.bx.c1
      have zw := BG.out.wc)
    go_upto_region 4 with (first
      | (go_at_call 64; (with_reducible refine (CM.out _ TW1.out.bx.row).mono ?_); rintro e w2 ⟨rfl, hb⟩; have BG := Lib.hid (BG.out.keep hb); have TW1 := Lib.hid (TW1.out.keep hb); have z0 := TW1.out.bx.c0; have z1 := TW1.out.bx.c1; clear hb))
    (
      have BD := Lib.hid (BG.out.keep ((Below.refl _ _).drew))
      have zw := BG.out.wc
      go_region_with (first | (go_at_call 49; (refine (mrefuse_any _ _ _).mono ?_); rintro e w' ⟨rfl, rfl⟩) | (go_at_call 48; (refine (mrefused_any BD.out (HG.out.keep BD.out.below) _ _).mono ?_); rintro e w4 ⟨rfl, hb⟩; have BG4 := Lib.hid (BD.out.keep hb); have TW4 := Lib.hid (TW.out.keep BG4.out.below); have d0 := TW4.out.rb.c0; have d1 := TW4.out.rb.c1; have f0 := TW4.out.rb.f0; have f1 := TW4.out.rb.f1; clear hb))
      all_goals go_wp2)
    all_goals (
                obtain ⟨q0, q1⟩ := stored2 TW4.out.rb (.slice a2 len cap2) (.int .i64 m)
                have hlt0 := TW.out.rb.lt
                have R5 := (BG4.out.row.far (q := w.heap.size + 1) (fun b off e => by have := BG4.out.rlo b off e; omega) (fun x hx => (BG4.out.new x hx).away hlt0) 0 (.slice a2 len cap2)).far (q := w.heap.size + 1) (fun b off e => by have := BG4.out.rlo b off e; omega) (fun x hx => (BG4.out.new x hx).away hlt0) 1 (.int .i64 m)
                have HB5 := ((HB0.out.trans (BG4.out.below.mono HB0.out.size)).setCell (p := ⟨w.heap.size + 1, 0, none⟩) (by show w.heap.size ≤ w.heap.size + 1; omega) (.slice a2 len cap2)).setCell (p := ⟨w.heap.size + 1, 1, none⟩) (by show w.heap.size ≤ w.heap.size + 1; omega) (.int .i64 m)
                refine bodyPost_ret (v := .tuple #[forV a2 len cap2 m, .slice none 0 0, .int .i64 E]) ?_ rfl ⟨a2, len, cap2, M, none, 0, 0, by rw [HQ.out], R5, by rw [HQ.out, BG4.out.core], small_core BG4.out.core HS.out, by rw [HQ.out]; exact NoteRow.nil _, HB5, fun k hk => ⟨fun b off e e2 => (by have := BG4.out.rlo b off e; have := HB0.out.size; omega), fun x hx => (BG4.out.new x hx).away (Nat.lt_of_lt_of_le hk HB0.out.size), fun b off e => (by cases e)⟩⟩)
    all_goals simp [results, Tryz.results21, go_sem, q0, q1]
end Go.Proofs.YtclledmgiliggaaGreatDoor
namespace Go.Proofs.YtclledmgiliggaaGreatDoor
open Go.RowKit
def unsZ (m : Int) (F : List Core) (n : Int) (s : List UInt8) : List Core × List NoteD × Int :=
  if elemE m F n = 0 then (if fitE s = 0 then (if hasA (attrsK F n) s then chgZ F n s (remA (attrsK F n) s) else (F, [], 0)) else (F, [], fitE s)) else (F, [], elemE m F n)
set_option maxHeartbeats 8000000 in
set_option maxRecDepth 100000 in
theorem munset_any (a : Option Addr) (len cap : Nat) (m : Int) (L : List NodeD) (n : Int) (s : ByteArray) (w : World) (h : NodeRow w a len cap L) (hm : In64 m) (hn : In64 n) (hsz : s.size ≤ maxLen) (hs : smallF L) (hg : ErrVar w) :
    Calls Tryz.prog 22 #[forV a len cap m, .int .i64 n, .string s] w (MvPost w m (unsZ m (coreL L) n s.toList)) := by
  have HCL : Hid ((coreL L).length = len) := Lib.hid (by rw [coreL_len, h.hlen])
  have hlen := h.len64
  have HS := Lib.hid hs
  have HSZ := Lib.hid hsz
  have CB : Hid (∀ W, NodeRow W a len cap L → Calls Tryz.prog 46 #[forV a len cap m] W fun e w' => ∃ pw a2 cap2 M, e = .returned (workV pw) ∧ Begun W w' pw a2 len cap2 m M (coreL L)) := Lib.hid (fun W h1 => mbegin_any a len cap m L W h1 hs)
  obtain ⟨E, hE⟩ : ∃ E, elemE m (coreL L) n = E := ⟨_, rfl⟩
  have CM : Hid (∀ W, NodeRow W a len cap L → Calls Tryz.prog 64 #[forV a len cap m, .int .i64 n] W fun e w' => e = .returned (.int .i64 E) ∧ Below W.heap.size W w') := Lib.hid (fun W h1 => by
    rw [← hE]
    exact melem_any a len cap m L n W h1 hm hn hs)
  obtain ⟨w0, hw0, TW, HB0⟩ : ∃ w0, (w.alloc (forB a len cap m)).alloc zeroFB = w0 ∧ Hid (Two w w0 a len cap m L) ∧ Hid (Below w.heap.size w w0) := ⟨_, rfl, Lib.hid (Two.start h), Lib.hid ((below_box _ _).trans ((below_box _ _).mono (by simp)))⟩
  have HG := Lib.hid (hg.keep HB0.out)
  have HW0 := Lib.hid hw0
  have z0 := TW.out.bx.c0
  have z1 := TW.out.bx.c1
  have HH := Lib.hid h
  clear h hm hn hg hw0 hsz
  by_cases h0 : E = 0
  · subst h0
    obtain ⟨k, rfl, hk, b, off, x, EI⟩ := elem_in HH.out hs hE
    have HK := Lib.hid hk
    have H1K : Hid (len ≤ 1000) := Lib.hid (by rw [← HH.out.hlen]; exact hs.1)
    have C4 := Lib.hid (stays EI.c4 EI.hb)
    have HEI := Lib.hid EI
    have hab := EI.ha
    subst hab
    have HAK := Lib.hid EI.is
    have HE := Lib.hid hE
    clear EI hE hs
    obtain ⟨E, hz⟩ : ∃ E, fitE s.toList = E := ⟨_, rfl⟩
    have CF : Hid (∀ W, Calls Tryz.prog 67 #[.string s] W fun e w' => e = .returned (.tuple #[.string (ofL (fitL s.toList)), .int .i64 E]) ∧ Below W.heap.size W w') := Lib.hid (fun W => by
      rw [← hz]
      exact fit_any s W HSZ.out)
    by_cases h0 : E = 0
    · subst h0
      obtain ⟨lA, hlA⟩ : ∃ lA, remA x.core.attrs s.toList = lA := ⟨_, rfl⟩
      have HLN : Hid (lA.length ≤ 1000) := Lib.hid (by rw [← hlA]; exact remA_len HEI.out.short)
      obtain ⟨q, hq⟩ : ∃ q, hasA x.core.attrs s.toList = q := ⟨_, rfl⟩
      have CA : Hid (∀ W, Below w.heap.size w W → Calls Tryz.prog 68 #[.slice x.aA x.aN x.aC, .string s] W (RemNew W lA q)) := Lib.hid (fun W hb => by
        rw [← hlA, ← hq]
        exact attrrem_any _ _ _ _ s W (HEI.out.row.below hb) HSZ.out HEI.out.short)
      cases q with
      | true =>
        have HQ : Hid (unsZ m (coreL L) k s.toList = chgZ (coreL L) k s.toList lA) := Lib.hid (by
          unfold unsZ
          rw [if_pos HE.out, if_pos hz, ← HAK.out, hq, if_pos rfl, hlA])
        clear hz hlA hq
        go_enter Tryz.func22, Tryz.ntmps22
        go_upto_region 1 with fail
        rw [HW0.out]
        go_upto_region 2 with (go_at_call 46; (with_reducible refine (CB.out _ TW.out.bx.row).mono ?_); rintro e w1 ⟨pw, a2, cap2, M, rfl, hB⟩; have BG := Lib.hid hB; have TW1 := Lib.hid (TW.out.keep hB.below); have z0 := TW1.out.bx.c0; have z1 := TW1.out.bx.c1; clear hB)
        (
          have HD0 := Lib.hid BG.out.held
          have HBW := Lib.hid (held_below w1 pw)
          obtain ⟨wh, hwh⟩ : ∃ wh, w1.alloc (wkB pw) = wh := ⟨_, rfl⟩
          rw [hwh] at HD0 HBW ⊢
          have TW1 := Lib.hid (TW1.out.keep HBW.out)
          clear BG z0 z1 hwh
          have BG := HD0
          clear HD0
          have z0 := TW1.out.bx.c0
          have z1 := TW1.out.bx.c1
          have zw := BG.out.wc)
        go_wp2_with (first
          | (go_at_call 64; (with_reducible refine (CM.out _ TW1.out.bx.row).mono ?_); rintro e w2 ⟨rfl, hb⟩; have BG := Lib.hid (BG.out.keep hb); have TW1 := Lib.hid (TW1.out.keep hb); have z0 := TW1.out.bx.c0; have z1 := TW1.out.bx.c1; clear hb)
          | (go_at_call 67; (with_reducible refine (CF.out _).mono ?_); rintro e w5 ⟨rfl, hb⟩; have BG := Lib.hid (BG.out.keep hb); have zw := BG.out.wc; have TW1 := Lib.hid (TW1.out.keep hb); have z0 := TW1.out.bx.c0; have z1 := TW1.out.bx.c1; have c4 := C4.out _ (HB0.out.trans (BG.out.below.mono HB0.out.size)); clear hb)
          | (go_at_call 68; obtain ⟨g, ρ, rfl, hwk, hρ, hwb⟩ := BG.out.wk (by omega); have HBC := Lib.hid BG.out.core; obtain ⟨y, hy⟩ : ∃ y, M[k]? = some y := ⟨_, List.getElem?_eq_getElem (by rw [hwk.hlen]; exact HK.out)⟩; have HY := Lib.hid hy; (with_reducible refine (CA.out _ (HB0.out.trans (BG.out.below.mono HB0.out.size))).mono ?_); rintro e w3 ⟨al, ln, lc, rfl, halr, hb, haln⟩; have ALR := Lib.hid halr; have ARF : Hid (∀ b off, al = some ⟨b, off, none⟩ → 0 < ln → ρ b = 0 ∧ g < b) := (Lib.hid (fun b off e _ => ⟨hwk.fresh b (haln b off e), Nat.lt_of_lt_of_le hwk.glt (haln b off e)⟩)); have HRO := Lib.hid hρ; have HWB := Lib.hid hwb; have W2 := Lib.hid (hwk.keep hb); have BG := Lib.hid (BG.out.keep hb); have zw := BG.out.wc; have TW1 := Lib.hid (TW1.out.keep hb); have z0 := TW1.out.bx.c0; have z1 := TW1.out.bx.c1; clear hb hwk hρ hwb halr haln hy)
          | (go_at_call 66; (refine (mchange_any _ W2.out k HK.out H1K.out y HY.out s HSZ.out al ln lc _ ALR.out ARF.out (by simp)).mono ?_); rintro e w4 ⟨rfl, ρ3, M3, v3, N3, hW3, hT3, hA3, hM3, hN3⟩; obtain ⟨va, vc, rfl, hNR⟩ := hW3.notes; have W3 := Lib.hid hW3; have EM3 := Lib.hid hM3; have EN3 := Lib.hid hN3; have HB3 := Lib.hid (BG.out.below.trans (hT3.below BG.out.below.size HRO.out)); have A3 : Hid (∀ k, k < w0.heap.size → ρ3 k = 0) := (Lib.hid (fun k hk => (hA3 k (Nat.lt_of_lt_of_le hk BG.out.below.size)).trans (HRO.out k hk))); have zw := (hT3.cell BG.out.wlt HWB.out).trans BG.out.wc; clear hW3 hT3 hA3 hM3 hN3 hNR)
          | (go_at_call 48; (refine (mended_any W3.out).mono ?_); rintro e w4 ⟨rfl, hb⟩; have HB4 := Lib.hid (HB3.out.trans (hb.mono HB3.out.size)); have HB34 := Lib.hid hb; have TW4 := Lib.hid (TW.out.keep HB4.out); have d0 := TW4.out.rb.c0; have d1 := TW4.out.rb.c1; have f0 := TW4.out.rb.f0; have f1 := TW4.out.rb.f1; clear hb))
        (
          obtain ⟨q0, q1⟩ := stored2 TW4.out.rb (.slice (some ⟨g, 0, none⟩) len cap2) (.int .i64 m)
          obtain ⟨ρ5, W5⟩ := (W3.out.keep HB34.out).stored (b := w.heap.size + 1) (B := w0.heap.size) TW.out.rb.lt HB4.out.size A3.out 0 1 (.slice (some ⟨g, 0, none⟩) len cap2) (.int .i64 m)
          obtain ⟨va', vc', hv', NR5⟩ := W5.notes
          injection hv' with e2 e3 e4
          subst e2 e4
          have HB5 := ((HB0.out.trans (HB4.out.mono HB0.out.size)).setCell (p := ⟨w.heap.size + 1, 0, none⟩) (by show w.heap.size ≤ w.heap.size + 1; omega) (.slice (some ⟨g, 0, none⟩) len cap2)).setCell (p := ⟨w.heap.size + 1, 1, none⟩) (by show w.heap.size ≤ w.heap.size + 1; omega) (.int .i64 m)
          have hcd := chg_done (s := s.toList) (l := lA) (al := al) (ln := ln) (lc := lc) HBC.out HY.out
          refine bodyPost_ret (v := .tuple #[forV (some ⟨g, 0, none⟩) len cap2 m, .slice va N3.length vc, .int .i64 0]) ?_ rfl ⟨some ⟨g, 0, none⟩, len, cap2, M3, va, N3.length, vc, by rw [HQ.out]; rfl, W5.row, by rw [HQ.out, EM3.out]; exact hcd.1, by rw [EM3.out]; exact small_setA (small_core HBC.out HS.out) HY.out _ _ _ _ HLN.out, by rw [HQ.out, ← hcd.2, ← EN3.out]; exact NR5, HB5, (W3.out.news A3.out).mono HB0.out.size⟩)
        simp [results, Tryz.results22, go_sem, q0, q1]
      | false =>
        obtain ⟨E, hE⟩ : ∃ E : Int, E = 0 := ⟨_, rfl⟩
        have HQ : Hid (unsZ m (coreL L) k s.toList = (coreL L, [], E)) := Lib.hid (by
          unfold unsZ
          rw [if_pos HE.out, if_pos hz, ← HAK.out, hq, if_neg (by decide), hE])
        clear hz hlA hq
        go_enter Tryz.func22, Tryz.ntmps22
        go_upto_region 1 with fail
        rw [HW0.out]
        go_upto_region 2 with (go_at_call 46; (with_reducible refine (CB.out _ TW.out.bx.row).mono ?_); rintro e w1 ⟨pw, a2, cap2, M, rfl, hB⟩; have BG := Lib.hid hB; have TW1 := Lib.hid (TW.out.keep hB.below); have z0 := TW1.out.bx.c0; have z1 := TW1.out.bx.c1; clear hB)
        (
          have HD0 := Lib.hid BG.out.held
          have HBW := Lib.hid (held_below w1 pw)
          obtain ⟨wh, hwh⟩ : ∃ wh, w1.alloc (wkB pw) = wh := ⟨_, rfl⟩
          rw [hwh] at HD0 HBW ⊢
          have TW1 := Lib.hid (TW1.out.keep HBW.out)
          clear BG z0 z1 hwh
          have BG := HD0
          clear HD0
          have z0 := TW1.out.bx.c0
          have z1 := TW1.out.bx.c1
          have zw := BG.out.wc)
        go_wp2_with (first
          | (go_at_call 64; (with_reducible refine (CM.out _ TW1.out.bx.row).mono ?_); rintro e w2 ⟨rfl, hb⟩; have BG := Lib.hid (BG.out.keep hb); have TW1 := Lib.hid (TW1.out.keep hb); have z0 := TW1.out.bx.c0; have z1 := TW1.out.bx.c1; clear hb)
          | (go_at_call 67; (with_reducible refine (CF.out _).mono ?_); rintro e w5 ⟨rfl, hb⟩; have BG := Lib.hid (BG.out.keep hb); have zw := BG.out.wc; have TW1 := Lib.hid (TW1.out.keep hb); have z0 := TW1.out.bx.c0; have z1 := TW1.out.bx.c1; have c4 := C4.out _ (HB0.out.trans (BG.out.below.mono HB0.out.size)); clear hb)
          | (go_at_call 68; (with_reducible refine (CA.out _ (HB0.out.trans (BG.out.below.mono HB0.out.size))).mono ?_); rintro e w3 ⟨al, ln, lc, rfl, -, hb, -⟩; have BG := Lib.hid (BG.out.keep hb); have zw := BG.out.wc; have TW1 := Lib.hid (TW1.out.keep hb); have z0 := TW1.out.bx.c0; have z1 := TW1.out.bx.c1; clear hb)
          | (go_at_call 48; (refine (mend_any _ pw a2 none len cap2 0 0 m _ 0 BG.out.c0 BG.out.c1 BG.out.c2 BG.out.lt (fun W _ => mwhyNil_any W)).mono ?_); rintro e w4 ⟨rfl, hb⟩; have BG4 := Lib.hid (BG.out.keep hb); have TW4 := Lib.hid (TW.out.keep BG4.out.below); have d0 := TW4.out.rb.c0; have d1 := TW4.out.rb.c1; have f0 := TW4.out.rb.f0; have f1 := TW4.out.rb.f1; clear hb))
        (
          obtain ⟨q0, q1⟩ := stored2 TW4.out.rb (.slice a2 len cap2) (.int .i64 m)
          have hlt0 := TW.out.rb.lt
          have R5 := (BG4.out.row.far (q := w.heap.size + 1) (fun b off e => by have := BG4.out.rlo b off e; omega) (fun x hx => (BG4.out.new x hx).away hlt0) 0 (.slice a2 len cap2)).far (q := w.heap.size + 1) (fun b off e => by have := BG4.out.rlo b off e; omega) (fun x hx => (BG4.out.new x hx).away hlt0) 1 (.int .i64 m)
          have HB5 := ((HB0.out.trans (BG4.out.below.mono HB0.out.size)).setCell (p := ⟨w.heap.size + 1, 0, none⟩) (by show w.heap.size ≤ w.heap.size + 1; omega) (.slice a2 len cap2)).setCell (p := ⟨w.heap.size + 1, 1, none⟩) (by show w.heap.size ≤ w.heap.size + 1; omega) (.int .i64 m)
          refine bodyPost_ret (v := .tuple #[forV a2 len cap2 m, .slice none 0 0, .int .i64 E]) ?_ rfl ⟨a2, len, cap2, M, none, 0, 0, by rw [HQ.out], R5, by rw [HQ.out, BG4.out.core], small_core BG4.out.core HS.out, by rw [HQ.out]; exact NoteRow.nil _, HB5, fun k hk => ⟨fun b off e e2 => (by have := BG4.out.rlo b off e; have := HB0.out.size; omega), fun x hx => (BG4.out.new x hx).away (Nat.lt_of_lt_of_le hk HB0.out.size), fun b off e => (by cases e)⟩⟩)
        simp [results, Tryz.results22, go_sem, q0, q1, hE]
    · have HQ : Hid (unsZ m (coreL L) k s.toList = (coreL L, [], E)) := Lib.hid (by
        unfold unsZ
        rw [if_pos HE.out, hz, if_neg h0])
      have e1 : (E != 0) = true := bne_iff_ne.2 h0
      clear hz h0
      go_enter Tryz.func22, Tryz.ntmps22
      go_upto_region 1 with fail
      rw [HW0.out]
      go_upto_region 2 with (go_at_call 46; (with_reducible refine (CB.out _ TW.out.bx.row).mono ?_); rintro e w1 ⟨pw, a2, cap2, M, rfl, hB⟩; have BG := Lib.hid hB; have TW1 := Lib.hid (TW.out.keep hB.below); have z0 := TW1.out.bx.c0; have z1 := TW1.out.bx.c1; clear hB)
      (
        have HD0 := Lib.hid BG.out.held
        have HBW := Lib.hid (held_below w1 pw)
        obtain ⟨wh, hwh⟩ : ∃ wh, w1.alloc (wkB pw) = wh := ⟨_, rfl⟩
        rw [hwh] at HD0 HBW ⊢
        have TW1 := Lib.hid (TW1.out.keep HBW.out)
        clear BG z0 z1 hwh
        have BG := HD0
        clear HD0
        have z0 := TW1.out.bx.c0
        have z1 := TW1.out.bx.c1
        have zw := BG.out.wc)
      go_upto_region 7 with (first
        | (go_at_call 64; (with_reducible refine (CM.out _ TW1.out.bx.row).mono ?_); rintro e w2 ⟨rfl, hb⟩; have BG := Lib.hid (BG.out.keep hb); have TW1 := Lib.hid (TW1.out.keep hb); have z0 := TW1.out.bx.c0; have z1 := TW1.out.bx.c1; clear hb)
        | (go_at_call 67; (with_reducible refine (CF.out _).mono ?_); rintro e w5 ⟨rfl, hb⟩; have BG := Lib.hid (BG.out.keep hb); have zw := BG.out.wc; have TW1 := Lib.hid (TW1.out.keep hb); have z0 := TW1.out.bx.c0; have z1 := TW1.out.bx.c1; clear hb))
      (
        have BD := Lib.hid (BG.out.keep ((Below.refl _ _).drew))
        have zw := BG.out.wc
        go_region_with (first | (go_at_call 49; (refine (mrefuse_any _ _ _).mono ?_); rintro e w' ⟨rfl, rfl⟩) | (go_at_call 48; (refine (mrefused_any BD.out (HG.out.keep BD.out.below) _ _).mono ?_); rintro e w4 ⟨rfl, hb⟩; have BG4 := Lib.hid (BD.out.keep hb); have TW4 := Lib.hid (TW.out.keep BG4.out.below); have d0 := TW4.out.rb.c0; have d1 := TW4.out.rb.c1; have f0 := TW4.out.rb.f0; have f1 := TW4.out.rb.f1; clear hb))
        all_goals go_wp2)
      all_goals (
                  obtain ⟨q0, q1⟩ := stored2 TW4.out.rb (.slice a2 len cap2) (.int .i64 m)
                  have hlt0 := TW.out.rb.lt
                  have R5 := (BG4.out.row.far (q := w.heap.size + 1) (fun b off e => by have := BG4.out.rlo b off e; omega) (fun x hx => (BG4.out.new x hx).away hlt0) 0 (.slice a2 len cap2)).far (q := w.heap.size + 1) (fun b off e => by have := BG4.out.rlo b off e; omega) (fun x hx => (BG4.out.new x hx).away hlt0) 1 (.int .i64 m)
                  have HB5 := ((HB0.out.trans (BG4.out.below.mono HB0.out.size)).setCell (p := ⟨w.heap.size + 1, 0, none⟩) (by show w.heap.size ≤ w.heap.size + 1; omega) (.slice a2 len cap2)).setCell (p := ⟨w.heap.size + 1, 1, none⟩) (by show w.heap.size ≤ w.heap.size + 1; omega) (.int .i64 m)
                  refine bodyPost_ret (v := .tuple #[forV a2 len cap2 m, .slice none 0 0, .int .i64 E]) ?_ rfl ⟨a2, len, cap2, M, none, 0, 0, by rw [HQ.out], R5, by rw [HQ.out, BG4.out.core], small_core BG4.out.core HS.out, by rw [HQ.out]; exact NoteRow.nil _, HB5, fun k hk => ⟨fun b off e e2 => (by have := BG4.out.rlo b off e; have := HB0.out.size; omega), fun x hx => (BG4.out.new x hx).away (Nat.lt_of_lt_of_le hk HB0.out.size), fun b off e => (by cases e)⟩⟩)
      all_goals simp [results, Tryz.results22, go_sem, q0, q1]
  · have HQ : Hid (unsZ m (coreL L) n s.toList = (coreL L, [], E)) := Lib.hid (by
      unfold unsZ
      rw [hE, if_neg h0])
    have e1 : (E != 0) = true := bne_iff_ne.2 h0
    clear hE h0 hs
    go_enter Tryz.func22, Tryz.ntmps22
    go_upto_region 1 with fail
    rw [HW0.out]
    go_upto_region 2 with (go_at_call 46; (with_reducible refine (CB.out _ TW.out.bx.row).mono ?_); rintro e w1 ⟨pw, a2, cap2, M, rfl, hB⟩; have BG := Lib.hid hB; have TW1 := Lib.hid (TW.out.keep hB.below); have z0 := TW1.out.bx.c0; have z1 := TW1.out.bx.c1; clear hB)
    (
      have HD0 := Lib.hid BG.out.held
      have HBW := Lib.hid (held_below w1 pw)
      obtain ⟨wh, hwh⟩ : ∃ wh, w1.alloc (wkB pw) = wh := ⟨_, rfl⟩
      rw [hwh] at HD0 HBW ⊢
      have TW1 := Lib.hid (TW1.out.keep HBW.out)
      clear BG z0 z1 hwh
      have BG := HD0
      clear HD0
      have z0 := TW1.out.bx.c0
      have z1 := TW1.out.bx.c1
      have zw := BG.out.wc)
    go_upto_region 4 with (first
      | (go_at_call 64; (with_reducible refine (CM.out _ TW1.out.bx.row).mono ?_); rintro e w2 ⟨rfl, hb⟩; have BG := Lib.hid (BG.out.keep hb); have TW1 := Lib.hid (TW1.out.keep hb); have z0 := TW1.out.bx.c0; have z1 := TW1.out.bx.c1; clear hb))
    (
      have BD := Lib.hid (BG.out.keep ((Below.refl _ _).drew))
      have zw := BG.out.wc
      go_region_with (first | (go_at_call 49; (refine (mrefuse_any _ _ _).mono ?_); rintro e w' ⟨rfl, rfl⟩) | (go_at_call 48; (refine (mrefused_any BD.out (HG.out.keep BD.out.below) _ _).mono ?_); rintro e w4 ⟨rfl, hb⟩; have BG4 := Lib.hid (BD.out.keep hb); have TW4 := Lib.hid (TW.out.keep BG4.out.below); have d0 := TW4.out.rb.c0; have d1 := TW4.out.rb.c1; have f0 := TW4.out.rb.f0; have f1 := TW4.out.rb.f1; clear hb))
      all_goals go_wp2)
    all_goals (
                obtain ⟨q0, q1⟩ := stored2 TW4.out.rb (.slice a2 len cap2) (.int .i64 m)
                have hlt0 := TW.out.rb.lt
                have R5 := (BG4.out.row.far (q := w.heap.size + 1) (fun b off e => by have := BG4.out.rlo b off e; omega) (fun x hx => (BG4.out.new x hx).away hlt0) 0 (.slice a2 len cap2)).far (q := w.heap.size + 1) (fun b off e => by have := BG4.out.rlo b off e; omega) (fun x hx => (BG4.out.new x hx).away hlt0) 1 (.int .i64 m)
                have HB5 := ((HB0.out.trans (BG4.out.below.mono HB0.out.size)).setCell (p := ⟨w.heap.size + 1, 0, none⟩) (by show w.heap.size ≤ w.heap.size + 1; omega) (.slice a2 len cap2)).setCell (p := ⟨w.heap.size + 1, 1, none⟩) (by show w.heap.size ≤ w.heap.size + 1; omega) (.int .i64 m)
                refine bodyPost_ret (v := .tuple #[forV a2 len cap2 m, .slice none 0 0, .int .i64 E]) ?_ rfl ⟨a2, len, cap2, M, none, 0, 0, by rw [HQ.out], R5, by rw [HQ.out, BG4.out.core], small_core BG4.out.core HS.out, by rw [HQ.out]; exact NoteRow.nil _, HB5, fun k hk => ⟨fun b off e e2 => (by have := BG4.out.rlo b off e; have := HB0.out.size; omega), fun x hx => (BG4.out.new x hx).away (Nat.lt_of_lt_of_le hk HB0.out.size), fun b off e => (by cases e)⟩⟩)
    all_goals simp [results, Tryz.results22, go_sem, q0, q1]
end Go.Proofs.YtclledmgiliggaaGreatDoor
namespace Go.Proofs.YtclledmgiliggaaGreatDoor
open Go.RowKit
end Go.Proofs.YtclledmgiliggaaGreatDoor
namespace Go.Proofs.YtclledmgiliggaaGreatDoor
open Go.RowKit
def behK (F : List Core) (c : Int) : Int := match (kidsK F (parentK F c))[findN (kidsK F (parentK F c)) c + 1]? with | some z => z | none => -1
set_option maxHeartbeats 8000000 in
set_option maxRecDepth 100000 in
theorem mbehind_any (a : Option Addr) (len cap : Nat) (m : Int) (L : List NodeD) (n : Nat) (w : World) (h : NodeRow w a len cap L) (hr : rightF m (coreL L) = true) (hn : n < len) (hp : parentK (coreL L) n ≠ -1) :
    Calls Tryz.prog 54 #[forV a len cap m, .int .i64 n] w fun e w' => e = .returned (.int .i64 (behK (coreL L) n)) ∧ Below w.heap.size w w' := by
  have hlen := h.len64
  have BX := Lib.hid (Box.start (m := m) h)
  have HH := Lib.hid h
  obtain ⟨b, off, x, hab, hb, hx, hat, hok⟩ := HH.out.get hn
  subst hab
  rw [parentK_at (coreL_get hx)] at hp
  obtain ⟨p, y, i, hpp, hy, hnp, hfi, hi, hnd⟩ := out_par hr hx hp
  have hpl : p < len := by have := (List.getElem?_eq_some_iff.1 hy).1; rwa [h.hlen] at this
  obtain ⟨b2, off2, y2, hab, hb2, hy2, hat2, hok2⟩ := HH.out.get hpl
  injection hab with hab
  injection hab with e1 e2
  subst e1 e2
  obtain rfl : y = y2 := Option.some.inj (hy.symm.trans hy2)
  have c5 := hat.c5
  rw [hpp] at c5
  have C5 := Lib.hid (stays c5 hb)
  have C6 := Lib.hid (stays hat2.c6 hb2)
  have CX : Hid (∀ W, Below w.heap.size w W → Calls Tryz.prog 98 #[.slice y.kA y.kN y.kC, .int .i64 n] W fun e w' => e = .returned (.int .i64 i) ∧ W = w') := Lib.hid (fun W hb => by
    rw [← hfi]
    exact index_any _ _ _ _ _ W (hok2.kids.below hb))
  have HK : Hid (behK (coreL L) n = match y.core.kids[i + 1]? with | some z => z | none => -1) := Lib.hid (by
    have h1 : kidsK (coreL L) (parentK (coreL L) n) = y.core.kids := by rw [parentK_at (coreL_get hx), hpp, kidsK_get (coreL_get hy)]
    have h2 : findN y.core.kids n = i := by
      have := findZ_mem (List.mem_of_getElem? hi)
      omega
    unfold behK
    rw [h1, h2])
  have hk64 := hok2.kids.len64
  have hik : i < y.kN := by have := (List.getElem?_eq_some_iff.1 hi).1; rwa [hok2.kids.hlen] at this
  have KR : Hid (∀ W, Below w.heap.size w W → IntRow W y.kA y.kN y.kC y.core.kids) := Lib.hid (fun W hb => hok2.kids.below hb)
  have z0 := BX.out.c0
  by_cases hlt : i + 1 < y.kN
  · obtain ⟨bk, ok, z, hka, hbk, hz, hcz, hin⟩ := hok2.kids.get hlt
    have CZ := Lib.hid (stays hcz hbk)
    have HR : Hid (behK (coreL L) n = z) := Lib.hid (by rw [HK.out, hz])
    rw [hka] at C6
    rw [hka] at CX
    clear hat hok hx hp hb c5 hy hy2 hat2 hok2 hb2 hpp hr hfi hi hnd hz hcz hka hin hnp h
    go_enter Tryz.func54, Tryz.ntmps54
    go_upto_region 1 with fail
    have E0 := Ext.cell z0 BX.out.lt
    have E5 := Ext.stays C5.out BX.out.below
    have E6 := Ext.stays C6.out BX.out.below
    refine wp_region_ext (by kernel_rfl) (by kernel_rfl) ?_
    repeat (go_big_quiet_step (fail))
    refine wpQuiet_nil ?_
    intro w3 hw'
    obtain ⟨⟨w4, hb4⟩, hw''⟩ := hw'
    dsimp only at hw''
    subst hw''
    have BX := Lib.hid (BX.out.keep hb4)
    clear E0 E5 E6 hb4
    go_wp2_with (go_at_call 98; (with_reducible refine (CX.out _ BX.out.below).mono ?_); rintro e w5 ⟨rfl, rfl⟩; have cz := CZ.out _ BX.out.below)
    go_ret
    exact ⟨ret_int HR.out.symm, BX.out.below⟩
  · have HR : Hid (behK (coreL L) n = -1) := Lib.hid (by rw [HK.out, List.getElem?_eq_none (by rw [hok2.kids.hlen]; omega)])
    clear hat hok hx hp hb c5 hy hy2 hat2 hok2 hb2 hpp hr hfi hi hnd hnp h
    go_enter Tryz.func54, Tryz.ntmps54
    go_upto_region 1 with fail
    have E0 := Ext.cell z0 BX.out.lt
    have E5 := Ext.stays C5.out BX.out.below
    have E6 := Ext.stays C6.out BX.out.below
    refine wp_region_ext (by kernel_rfl) (by kernel_rfl) ?_
    repeat (go_big_quiet_step (fail))
    refine wpQuiet_nil ?_
    intro w3 hw'
    obtain ⟨⟨w4, hb4⟩, hw''⟩ := hw'
    dsimp only at hw''
    subst hw''
    have BX := Lib.hid (BX.out.keep hb4)
    clear E0 E5 E6 hb4
    go_wp2_with (go_at_call 98; (with_reducible refine (CX.out _ BX.out.below).mono ?_); rintro e w5 ⟨rfl, rfl⟩)
    go_ret
    exact ⟨ret_int HR.out.symm, BX.out.below⟩
theorem swap_gone {m : Int} {F G : List Core} {X Y C : Nat} {c : Core} (hX : X < F.length) (hY : Y < F.length) (ho : Out m F G C Y c) (hs : swapZ m F X Y C = 0) : mayZ m G X Y (-1) = 0 := by
  have hr := ho.right
  have hC := ho.lt
  have hpC : parentK F C = (Y : Int) := by rw [parentK_at ho.hx]; exact ho.hp
  obtain ⟨y, hy⟩ : ∃ y, F[Y]? = some y := ⟨_, List.getElem?_eq_getElem hY⟩
  obtain ⟨x, hx⟩ : ∃ x, F[X]? = some x := ⟨_, List.getElem?_eq_getElem hX⟩
  have hrG := ho.rightG
  have hXG : X < G.length := by rw [ho.ed.len]; exact hX
  have hYG : Y < G.length := by rw [ho.ed.len]; exact hY
  rw [swap_is hr hX hY hC hpC, refuse_zero] at hs
  obtain ⟨s1, hov, s3, s4, s5⟩ := hs
  have hXY : X ≠ Y := fun e => by subst e; rw [over_self hr hX] at hov; cases hov
  have hovG : overZ m G X Y = false := by
    cases hq : overZ m G X Y with
    | false => rfl
    | true =>
      have h1 := ((ho.over hX hY).1 ((overZ_iff hrG hXG hYG).1 hq)).1
      rw [(overZ_iff hr hX hY).2 h1] at hov
      cases hov
  rw [may_none hrG hXG hYG, refuse_zero, ho.ed.kindK, ho.ed.kindK]
  refine ⟨s1, hovG, s3, s4, fun e => ?_⟩
  have hd : docTakesB G X Y (-1) = docTakesB F X Y C := by
    have hyG := ho.ed.at_ Y y hy
    have hxG := ho.ed.at_ X x hx
    unfold docTakesB
    rw [kidsK_get hy, kidsK_get hyG, parts_at hx, parts_at hxG]
    have hk : (fun k => kindK G k == 2) = (fun k => kindK F k == 2) := by funext k; rw [ho.ed.kindK]
    rw [hk]
    show ((!(if x.kind = 3 then (if X = Y then x.kids.filter (fun z => z != (C : Int)) else x.kids) else [(X : Int)]).any (fun k => kindK F k == 2)) && decide (countNe (if Y = Y then y.kids.filter (fun z => z != (C : Int)) else y.kids) (-1) + (if x.kind = 3 then (if X = Y then x.kids.filter (fun z => z != (C : Int)) else x.kids) else [(X : Int)]).length ≤ 1)) = _
    rw [if_neg hXY, if_pos rfl, countNe_all (fun z hz => kids_nat hr hy z (List.mem_filter.1 hz).1)]
    have : (y.kids.filter (fun z => z != (C : Int))).length = countNe y.kids C := by unfold countNe; rw [List.countP_eq_length_filter]
    rw [this]
  rw [hd]
  exact s5 e
theorem swap_ok {m : Int} {F : List Core} {n p c : Int} (h : swapZ m F n p c = 0) : vknowsB m F n p c = true ∧ c ≠ -1 ∧ parentK F c = p := by
  unfold swapZ at h
  split at h
  · next hk =>
    refine ⟨hk, ?_⟩
    cases hq : (c != -1 && parentK F c == p) with
    | true =>
      rw [Bool.and_eq_true] at hq
      exact ⟨bne_iff_ne.1 hq.1, beq_iff_eq.1 hq.2⟩
    | false =>
      rw [hq] at h
      unfold refuseE at h
      split at h
      · cases h
      · rw [if_pos (by simp)] at h
        cases h
  · cases h
theorem beh_in {m : Int} {F G : List Core} {C Y : Nat} {c : Core} (ho : Out m F G C Y c) : behK F C = -1 ∨ ∃ s : Nat, behK F C = s ∧ s < F.length ∧ parentK G s = Y := by
  have hr := ho.right
  have hpC : parentK F C = (Y : Int) := by rw [parentK_at ho.hx]; exact ho.hp
  obtain ⟨y, hy⟩ : ∃ y, F[Y]? = some y := by
    obtain ⟨p, h1, h2, _⟩ := right_par hr ho.hx (by rw [ho.hp]; omega)
    rw [ho.hp] at h1
    have h3 : Y = p := by omega
    subst h3
    exact ⟨_, List.getElem?_eq_getElem h2⟩
  unfold behK
  rw [hpC, kidsK_get hy]
  cases hz : y.kids[findN y.kids C + 1]? with
  | none => exact .inl rfl
  | some z =>
    right
    have hm := List.mem_of_getElem? hz
    obtain ⟨d, h1, _, h3, _⟩ := (right_node hr hy).kids z hm
    obtain ⟨h4, h5, h6⟩ := getC_some h1
    have hzC : z ≠ (C : Int) := fun e => by
      have hcm : (C : Int) ∈ y.kids := by rw [← e]; exact hm
      have h7 := findN_mem hcm
      have h8 : y.kids[findN y.kids C]'h7 = (C : Int) := beq_iff_eq.1 (List.findIdx_getElem (p := fun z => z == (C : Int)) (w := h7))
      obtain ⟨h9, h10⟩ := List.getElem?_eq_some_iff.1 hz
      exact List.pairwise_iff_getElem.1 (right_node hr hy).once _ _ h7 h9 (Nat.lt_succ_self _) (by rw [h10, h8, e])
    refine ⟨z.toNat, by show z = _; omega, h5, ?_⟩
    have h11 := ho.ed.at_ z.toNat d h6
    rw [parentK_at h11]
    show (if z.toNat = C then -1 else d.parent) = (Y : Int)
    rw [if_neg (by omega), h3]
end Go.Proofs.YtclledmgiliggaaGreatDoor
