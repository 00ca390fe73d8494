/- Texts joined in build order: MoveToggle MoveBehind MoveReplace MoveAwake MoveAwake6 MoveBackMath. -/
import Derived.Test.YtcmlclfcdhkncaaGreatDoorK13
import Derived.Test.YtcmlclfcdhkncaaGreatDoorK11
import Derived.Test.YtcmlclfcdhkncaaGreatDoorK12
import Derived.Test.YtcmlclfcdhkncaaGreatDoorK02
import Derived.Test.YtcmlclfcdhkncaaGreatDoorK07
/- Package move: Toggle. -/
namespace Go.Proofs.YtcmlclfcdhkncaaGreatDoor
open Go.RowKit
/-- Toggle, as mathematics. -/
def togZ (m : Int) (F : List Core) (n : Int) (s : List UInt8) (f : Int) : List Core × List NoteD × Int :=
  if elemE m F n = 0 then (if togE (attrsK F n) s f = 0 then (if (hasA (attrsK F n) s != togB (attrsK F n) s f) = true then chgZ F n s (togA (attrsK F n) s f) else (F, [], 0)) else (F, [], togE (attrsK F n) s f)) else (F, [], elemE m F n)
set_option maxHeartbeats 8000000 in
set_option maxRecDepth 100000 in
theorem mtoggle_any (a : Option Addr) (len cap : Nat) (m : Int) (L : List NodeD) (n : Int) (s : ByteArray) (f : Int) (w : World) (h : NodeRow w a len cap L) (hm : In64 m) (hn : In64 n) (hsz : s.size ≤ maxLen) (hs : smallF L) (hg : ErrVar w) :
    Calls Tryz.prog 22 #[forV a len cap m, .int .i64 n, .string s, .int .i64 f] w (MvPost w m (togZ m (coreL L) n s.toList f)) := by
  have HCL : Hid ((coreL L).length = len) := Lib.hid (by rw [coreL_len, h.hlen])
  have hlen := h.len64
  have HS := Lib.hid hs
  have HSZ := Lib.hid hsz
  have CB : Hid (∀ W, NodeRow W a len cap L → Calls Tryz.prog 38 #[forV a len cap m] W fun e w' => ∃ pw a2 cap2 M, e = .returned (ptrV pw) ∧ Begun W w' pw a2 len cap2 m M (coreL L)) := Lib.hid (fun W h1 => mbegin_any a len cap m L W h1 hs)
  obtain ⟨E, hE⟩ : ∃ E, elemE m (coreL L) n = E := ⟨_, rfl⟩
  have CM : Hid (∀ W, NodeRow W a len cap L → Calls Tryz.prog 52 #[forV a len cap m, .int .i64 n] W fun e w' => e = .returned (.int .i64 E) ∧ Below W.heap.size W w') := Lib.hid (fun W h1 => by
    rw [← hE]
    exact melem_any a len cap m L n W h1 hm hn hs)
  obtain ⟨w0, hw0, TW, HB0⟩ : ∃ w0, (w.alloc (forB a len cap m)).alloc zeroFB = w0 ∧ Hid (Two w w0 a len cap m L) ∧ Hid (Below w.heap.size w w0) := ⟨_, rfl, Lib.hid (Two.start h), Lib.hid ((below_box _ _).trans ((below_box _ _).mono (by simp)))⟩
  have HG := Lib.hid (hg.keep HB0.out)
  have HW0 := Lib.hid hw0
  have z0 := TW.out.bx.c0
  have z1 := TW.out.bx.c1
  have HH := Lib.hid h
  clear h hm hn hg hw0 hsz
  by_cases h0 : E = 0
  · subst h0
    obtain ⟨k, rfl, hk, b, off, x, EI⟩ := elem_in HH.out hs hE
    have HK := Lib.hid hk
    have H1K : Hid (len ≤ 1000) := Lib.hid (by rw [← HH.out.hlen]; exact hs.1)
    have C4 := Lib.hid (stays EI.c4 EI.hb)
    have HEI := Lib.hid EI
    have hab := EI.ha
    subst hab
    have HAK := Lib.hid EI.is
    have HE := Lib.hid hE
    clear EI hE hs
    obtain ⟨E, hz⟩ : ∃ E, togE x.core.attrs s.toList f = E := ⟨_, rfl⟩
    obtain ⟨lA, hlA⟩ : ∃ lA, togA x.core.attrs s.toList f = lA := ⟨_, rfl⟩
    have HLN : Hid (lA.length ≤ 1000) := Lib.hid (by rw [← hlA]; exact togA_len HEI.out.short)
    obtain ⟨q, hq⟩ : ∃ q, togB x.core.attrs s.toList f = q := ⟨_, rfl⟩
    obtain ⟨p, hp⟩ : ∃ p, hasA x.core.attrs s.toList = p := ⟨_, rfl⟩
    have CA : Hid (∀ W, Below w.heap.size w W → Calls Tryz.prog 57 #[.slice x.aA x.aN x.aC, .string s, .int .i64 f] W (TogNew W lA q E)) := Lib.hid (fun W hb => by
      rw [← hlA, ← hq, ← hz]
      exact attrtog_any _ _ _ _ s f W (HEI.out.row.below hb) HSZ.out HEI.out.short)
    have CG : Hid (∀ W, Below w.heap.size w W → Calls Tryz.prog 58 #[.slice x.aA x.aN x.aC, .string s] W fun e w' => e = .returned (.tuple #[.string (valA x.core.attrs s.toList), .bool p]) ∧ Below W.heap.size W w') := Lib.hid (fun W hb => by
      rw [← hp]
      exact attrget_any _ _ _ _ s W (HEI.out.row.below hb) HSZ.out)
    by_cases h0 : E = 0
    · subst h0
      by_cases hpq : (p != q) = true
      · have HQ : Hid (togZ m (coreL L) k s.toList f = chgZ (coreL L) k s.toList lA) := Lib.hid (by
          unfold togZ
          rw [if_pos HE.out, ← HAK.out, if_pos hz, hp, hq, if_pos hpq, hlA])
        clear hz hlA hq hp
        obtain ⟨rfl, rfl⟩ | ⟨rfl, rfl⟩ : (p = true ∧ q = false) ∨ (p = false ∧ q = true) := by revert hpq; cases p <;> cases q <;> decide
        all_goals clear hpq
        · go_enter Tryz.func22, Tryz.ntmps22
          go_upto_region 1 with fail
          rw [HW0.out]
          go_wp2_with (first
            | (go_at_call 38; (with_reducible refine (CB.out _ TW.out.bx.row).mono ?_); rintro e w1 ⟨pw, a2, cap2, M, rfl, hB⟩; have BG := Lib.hid hB; have TW1 := Lib.hid (TW.out.keep hB.below); have z0 := TW1.out.bx.c0; have z1 := TW1.out.bx.c1; clear hB)
            | (go_at_call 52; (with_reducible refine (CM.out _ TW1.out.bx.row).mono ?_); rintro e w2 ⟨rfl, hb⟩; have BG := Lib.hid (BG.out.keep hb); have TW1 := Lib.hid (TW1.out.keep hb); have z0 := TW1.out.bx.c0; have z1 := TW1.out.bx.c1; have c4 := C4.out _ (HB0.out.trans (BG.out.below.mono HB0.out.size)); clear hb)
            | (go_at_call 57; obtain ⟨g, ρ, rfl, hwk, hρ⟩ := BG.out.wk (by omega); have HBC := Lib.hid BG.out.core; obtain ⟨y, hy⟩ : ∃ y, M[k]? = some y := ⟨_, List.getElem?_eq_getElem (by rw [hwk.hlen]; exact HK.out)⟩; have HY := Lib.hid hy; (with_reducible refine (CA.out _ (HB0.out.trans (BG.out.below.mono HB0.out.size))).mono ?_); rintro e w3 ⟨al, ln, lc, rfl, halr, hb, haln⟩; have ALR := Lib.hid halr; have ARF : Hid (∀ b off, al = some ⟨b, off, none⟩ → 0 < ln → ρ b = 0 ∧ g < b) := (Lib.hid (fun b off e _ => ⟨hwk.fresh b (haln b off e), Nat.lt_of_lt_of_le hwk.glt (haln b off e)⟩)); have HRO := Lib.hid hρ; have W2 := Lib.hid (hwk.keep hb); have BG := Lib.hid (BG.out.keep hb); have TW1 := Lib.hid (TW1.out.keep hb); have z0 := TW1.out.bx.c0; have z1 := TW1.out.bx.c1; have c4 := C4.out _ (HB0.out.trans (BG.out.below.mono HB0.out.size)); clear hb hwk hρ halr haln hy)
            | (go_at_call 58; (with_reducible refine (CG.out _ (HB0.out.trans (BG.out.below.mono HB0.out.size))).mono ?_); rintro e w5 ⟨rfl, hb⟩; have BG := Lib.hid (BG.out.keep hb); have TW1 := Lib.hid (TW1.out.keep hb); have z0 := TW1.out.bx.c0; have z1 := TW1.out.bx.c1; have W2 := Lib.hid (W2.out.keep hb); have ALR := Lib.hid (ALR.out.below hb); clear hb)
            | (go_at_call 54; (refine (mchange_any _ W2.out k HK.out H1K.out y HY.out s HSZ.out al ln lc _ ALR.out ARF.out (by simp)).mono ?_); rintro e w4 ⟨rfl, ρ3, M3, v3, N3, hW3, hT3, hA3, hM3, hN3⟩; obtain ⟨va, vc, rfl, hNR⟩ := hW3.notes; have W3 := Lib.hid hW3; have EM3 := Lib.hid hM3; have EN3 := Lib.hid hN3; have HB3 := Lib.hid (BG.out.below.trans (hT3.below BG.out.below.size HRO.out)); have A3 : Hid (∀ k, k < w0.heap.size → ρ3 k = 0) := (Lib.hid (fun k hk => (hA3 k (Nat.lt_of_lt_of_le hk BG.out.below.size)).trans (HRO.out k hk))); clear hW3 hT3 hA3 hM3 hN3 hNR)
            | (go_at_call 39; (refine (mended_any W3.out).mono ?_); rintro e w4 ⟨rfl, hb⟩; have HB4 := Lib.hid (HB3.out.trans (hb.mono HB3.out.size)); have HB34 := Lib.hid hb; have TW4 := Lib.hid (TW.out.keep HB4.out); have d0 := TW4.out.rb.c0; have d1 := TW4.out.rb.c1; have f0 := TW4.out.rb.f0; have f1 := TW4.out.rb.f1; clear hb))
          (
            obtain ⟨q0, q1⟩ := stored2 TW4.out.rb (.slice (some ⟨g, 0, none⟩) len cap2) (.int .i64 m)
            obtain ⟨ρ5, W5⟩ := (W3.out.keep HB34.out).stored (b := w.heap.size + 1) (B := w0.heap.size) TW.out.rb.lt HB4.out.size A3.out 0 1 (.slice (some ⟨g, 0, none⟩) len cap2) (.int .i64 m)
            obtain ⟨va', vc', hv', NR5⟩ := W5.notes
            injection hv' with e2 e3 e4
            subst e2 e4
            have HB5 := ((HB0.out.trans (HB4.out.mono HB0.out.size)).setCell (p := ⟨w.heap.size + 1, 0, none⟩) (by show w.heap.size ≤ w.heap.size + 1; omega) (.slice (some ⟨g, 0, none⟩) len cap2)).setCell (p := ⟨w.heap.size + 1, 1, none⟩) (by show w.heap.size ≤ w.heap.size + 1; omega) (.int .i64 m)
            have hcd := chg_done (s := s.toList) (l := lA) (al := al) (ln := ln) (lc := lc) HBC.out HY.out
            refine bodyPost_ret (v := .tuple #[forV (some ⟨g, 0, none⟩) len cap2 m, .slice va N3.length vc, .int .i64 0]) ?_ rfl ⟨some ⟨g, 0, none⟩, len, cap2, M3, va, N3.length, vc, by rw [HQ.out]; rfl, W5.row, by rw [HQ.out, EM3.out]; exact hcd.1, by rw [EM3.out]; exact small_setA (small_core HBC.out HS.out) HY.out _ _ _ _ HLN.out, by rw [HQ.out, ← hcd.2, ← EN3.out]; exact NR5, HB5, (W3.out.news A3.out).mono HB0.out.size⟩)
          simp [results, Tryz.results22, go_sem, q0, q1]
        · go_enter Tryz.func22, Tryz.ntmps22
          go_upto_region 1 with fail
          rw [HW0.out]
          go_wp2_with (first
            | (go_at_call 38; (with_reducible refine (CB.out _ TW.out.bx.row).mono ?_); rintro e w1 ⟨pw, a2, cap2, M, rfl, hB⟩; have BG := Lib.hid hB; have TW1 := Lib.hid (TW.out.keep hB.below); have z0 := TW1.out.bx.c0; have z1 := TW1.out.bx.c1; clear hB)
            | (go_at_call 52; (with_reducible refine (CM.out _ TW1.out.bx.row).mono ?_); rintro e w2 ⟨rfl, hb⟩; have BG := Lib.hid (BG.out.keep hb); have TW1 := Lib.hid (TW1.out.keep hb); have z0 := TW1.out.bx.c0; have z1 := TW1.out.bx.c1; have c4 := C4.out _ (HB0.out.trans (BG.out.below.mono HB0.out.size)); clear hb)
            | (go_at_call 57; obtain ⟨g, ρ, rfl, hwk, hρ⟩ := BG.out.wk (by omega); have HBC := Lib.hid BG.out.core; obtain ⟨y, hy⟩ : ∃ y, M[k]? = some y := ⟨_, List.getElem?_eq_getElem (by rw [hwk.hlen]; exact HK.out)⟩; have HY := Lib.hid hy; (with_reducible refine (CA.out _ (HB0.out.trans (BG.out.below.mono HB0.out.size))).mono ?_); rintro e w3 ⟨al, ln, lc, rfl, halr, hb, haln⟩; have ALR := Lib.hid halr; have ARF : Hid (∀ b off, al = some ⟨b, off, none⟩ → 0 < ln → ρ b = 0 ∧ g < b) := (Lib.hid (fun b off e _ => ⟨hwk.fresh b (haln b off e), Nat.lt_of_lt_of_le hwk.glt (haln b off e)⟩)); have HRO := Lib.hid hρ; have W2 := Lib.hid (hwk.keep hb); have BG := Lib.hid (BG.out.keep hb); have TW1 := Lib.hid (TW1.out.keep hb); have z0 := TW1.out.bx.c0; have z1 := TW1.out.bx.c1; have c4 := C4.out _ (HB0.out.trans (BG.out.below.mono HB0.out.size)); clear hb hwk hρ halr haln hy)
            | (go_at_call 58; (with_reducible refine (CG.out _ (HB0.out.trans (BG.out.below.mono HB0.out.size))).mono ?_); rintro e w5 ⟨rfl, hb⟩; have BG := Lib.hid (BG.out.keep hb); have TW1 := Lib.hid (TW1.out.keep hb); have z0 := TW1.out.bx.c0; have z1 := TW1.out.bx.c1; have W2 := Lib.hid (W2.out.keep hb); have ALR := Lib.hid (ALR.out.below hb); clear hb)
            | (go_at_call 54; (refine (mchange_any _ W2.out k HK.out H1K.out y HY.out s HSZ.out al ln lc _ ALR.out ARF.out (by simp)).mono ?_); rintro e w4 ⟨rfl, ρ3, M3, v3, N3, hW3, hT3, hA3, hM3, hN3⟩; obtain ⟨va, vc, rfl, hNR⟩ := hW3.notes; have W3 := Lib.hid hW3; have EM3 := Lib.hid hM3; have EN3 := Lib.hid hN3; have HB3 := Lib.hid (BG.out.below.trans (hT3.below BG.out.below.size HRO.out)); have A3 : Hid (∀ k, k < w0.heap.size → ρ3 k = 0) := (Lib.hid (fun k hk => (hA3 k (Nat.lt_of_lt_of_le hk BG.out.below.size)).trans (HRO.out k hk))); clear hW3 hT3 hA3 hM3 hN3 hNR)
            | (go_at_call 39; (refine (mended_any W3.out).mono ?_); rintro e w4 ⟨rfl, hb⟩; have HB4 := Lib.hid (HB3.out.trans (hb.mono HB3.out.size)); have HB34 := Lib.hid hb; have TW4 := Lib.hid (TW.out.keep HB4.out); have d0 := TW4.out.rb.c0; have d1 := TW4.out.rb.c1; have f0 := TW4.out.rb.f0; have f1 := TW4.out.rb.f1; clear hb))
          (
            obtain ⟨q0, q1⟩ := stored2 TW4.out.rb (.slice (some ⟨g, 0, none⟩) len cap2) (.int .i64 m)
            obtain ⟨ρ5, W5⟩ := (W3.out.keep HB34.out).stored (b := w.heap.size + 1) (B := w0.heap.size) TW.out.rb.lt HB4.out.size A3.out 0 1 (.slice (some ⟨g, 0, none⟩) len cap2) (.int .i64 m)
            obtain ⟨va', vc', hv', NR5⟩ := W5.notes
            injection hv' with e2 e3 e4
            subst e2 e4
            have HB5 := ((HB0.out.trans (HB4.out.mono HB0.out.size)).setCell (p := ⟨w.heap.size + 1, 0, none⟩) (by show w.heap.size ≤ w.heap.size + 1; omega) (.slice (some ⟨g, 0, none⟩) len cap2)).setCell (p := ⟨w.heap.size + 1, 1, none⟩) (by show w.heap.size ≤ w.heap.size + 1; omega) (.int .i64 m)
            have hcd := chg_done (s := s.toList) (l := lA) (al := al) (ln := ln) (lc := lc) HBC.out HY.out
            refine bodyPost_ret (v := .tuple #[forV (some ⟨g, 0, none⟩) len cap2 m, .slice va N3.length vc, .int .i64 0]) ?_ rfl ⟨some ⟨g, 0, none⟩, len, cap2, M3, va, N3.length, vc, by rw [HQ.out]; rfl, W5.row, by rw [HQ.out, EM3.out]; exact hcd.1, by rw [EM3.out]; exact small_setA (small_core HBC.out HS.out) HY.out _ _ _ _ HLN.out, by rw [HQ.out, ← hcd.2, ← EN3.out]; exact NR5, HB5, (W3.out.news A3.out).mono HB0.out.size⟩)
          simp [results, Tryz.results22, go_sem, q0, q1]
      · obtain ⟨E, hE⟩ : ∃ E : Int, E = 0 := ⟨_, rfl⟩
        have HQ : Hid (togZ m (coreL L) k s.toList f = (coreL L, [], E)) := Lib.hid (by
          unfold togZ
          rw [if_pos HE.out, ← HAK.out, if_pos hz, hp, hq, if_neg hpq, hE])
        clear hz hlA hq hp
        obtain ⟨rfl, rfl⟩ | ⟨rfl, rfl⟩ : (p = true ∧ q = true) ∨ (p = false ∧ q = false) := by revert hpq; cases p <;> cases q <;> decide
        all_goals clear hpq
        · go_enter Tryz.func22, Tryz.ntmps22
          go_upto_region 1 with fail
          rw [HW0.out]
          go_wp2_with (first
            | (go_at_call 38; (with_reducible refine (CB.out _ TW.out.bx.row).mono ?_); rintro e w1 ⟨pw, a2, cap2, M, rfl, hB⟩; have BG := Lib.hid hB; have TW1 := Lib.hid (TW.out.keep hB.below); have z0 := TW1.out.bx.c0; have z1 := TW1.out.bx.c1; clear hB)
            | (go_at_call 52; (with_reducible refine (CM.out _ TW1.out.bx.row).mono ?_); rintro e w2 ⟨rfl, hb⟩; have BG := Lib.hid (BG.out.keep hb); have TW1 := Lib.hid (TW1.out.keep hb); have z0 := TW1.out.bx.c0; have z1 := TW1.out.bx.c1; have c4 := C4.out _ (HB0.out.trans (BG.out.below.mono HB0.out.size)); clear hb)
            | (go_at_call 57; (with_reducible refine (CA.out _ (HB0.out.trans (BG.out.below.mono HB0.out.size))).mono ?_); rintro e w3 ⟨al, ln, lc, rfl, -, hb, -⟩; have BG := Lib.hid (BG.out.keep hb); have TW1 := Lib.hid (TW1.out.keep hb); have z0 := TW1.out.bx.c0; have z1 := TW1.out.bx.c1; have c4 := C4.out _ (HB0.out.trans (BG.out.below.mono HB0.out.size)); clear hb)
            | (go_at_call 58; (with_reducible refine (CG.out _ (HB0.out.trans (BG.out.below.mono HB0.out.size))).mono ?_); rintro e w5 ⟨rfl, hb⟩; have BG := Lib.hid (BG.out.keep hb); have TW1 := Lib.hid (TW1.out.keep hb); have z0 := TW1.out.bx.c0; have z1 := TW1.out.bx.c1; clear hb)
            | (go_at_call 39; (refine (mend_any _ pw a2 none len cap2 0 0 m _ 0 BG.out.c0 BG.out.c1 BG.out.c2 BG.out.lt (fun W _ => mwhyNil_any W)).mono ?_); rintro e w4 ⟨rfl, hb⟩; have BG4 := Lib.hid (BG.out.keep hb); have TW4 := Lib.hid (TW.out.keep BG4.out.below); have d0 := TW4.out.rb.c0; have d1 := TW4.out.rb.c1; have f0 := TW4.out.rb.f0; have f1 := TW4.out.rb.f1; clear hb))
          (
            obtain ⟨q0, q1⟩ := stored2 TW4.out.rb (.slice a2 len cap2) (.int .i64 m)
            have hlt0 := TW.out.rb.lt
            have R5 := (BG4.out.row.far (q := w.heap.size + 1) (fun b off e => by have := BG4.out.rlo b off e; omega) (fun x hx => (BG4.out.new x hx).away hlt0) 0 (.slice a2 len cap2)).far (q := w.heap.size + 1) (fun b off e => by have := BG4.out.rlo b off e; omega) (fun x hx => (BG4.out.new x hx).away hlt0) 1 (.int .i64 m)
            have HB5 := ((HB0.out.trans (BG4.out.below.mono HB0.out.size)).setCell (p := ⟨w.heap.size + 1, 0, none⟩) (by show w.heap.size ≤ w.heap.size + 1; omega) (.slice a2 len cap2)).setCell (p := ⟨w.heap.size + 1, 1, none⟩) (by show w.heap.size ≤ w.heap.size + 1; omega) (.int .i64 m)
            refine bodyPost_ret (v := .tuple #[forV a2 len cap2 m, .slice none 0 0, .int .i64 E]) ?_ rfl ⟨a2, len, cap2, M, none, 0, 0, by rw [HQ.out], R5, by rw [HQ.out, BG4.out.core], small_core BG4.out.core HS.out, by rw [HQ.out]; exact NoteRow.nil _, HB5, fun k hk => ⟨fun b off e e2 => (by have := BG4.out.rlo b off e; have := HB0.out.size; omega), fun x hx => (BG4.out.new x hx).away (Nat.lt_of_lt_of_le hk HB0.out.size), fun b off e => (by cases e)⟩⟩)
          simp [results, Tryz.results22, go_sem, q0, q1, hE]
        · go_enter Tryz.func22, Tryz.ntmps22
          go_upto_region 1 with fail
          rw [HW0.out]
          go_wp2_with (first
            | (go_at_call 38; (with_reducible refine (CB.out _ TW.out.bx.row).mono ?_); rintro e w1 ⟨pw, a2, cap2, M, rfl, hB⟩; have BG := Lib.hid hB; have TW1 := Lib.hid (TW.out.keep hB.below); have z0 := TW1.out.bx.c0; have z1 := TW1.out.bx.c1; clear hB)
            | (go_at_call 52; (with_reducible refine (CM.out _ TW1.out.bx.row).mono ?_); rintro e w2 ⟨rfl, hb⟩; have BG := Lib.hid (BG.out.keep hb); have TW1 := Lib.hid (TW1.out.keep hb); have z0 := TW1.out.bx.c0; have z1 := TW1.out.bx.c1; have c4 := C4.out _ (HB0.out.trans (BG.out.below.mono HB0.out.size)); clear hb)
            | (go_at_call 57; (with_reducible refine (CA.out _ (HB0.out.trans (BG.out.below.mono HB0.out.size))).mono ?_); rintro e w3 ⟨al, ln, lc, rfl, -, hb, -⟩; have BG := Lib.hid (BG.out.keep hb); have TW1 := Lib.hid (TW1.out.keep hb); have z0 := TW1.out.bx.c0; have z1 := TW1.out.bx.c1; have c4 := C4.out _ (HB0.out.trans (BG.out.below.mono HB0.out.size)); clear hb)
            | (go_at_call 58; (with_reducible refine (CG.out _ (HB0.out.trans (BG.out.below.mono HB0.out.size))).mono ?_); rintro e w5 ⟨rfl, hb⟩; have BG := Lib.hid (BG.out.keep hb); have TW1 := Lib.hid (TW1.out.keep hb); have z0 := TW1.out.bx.c0; have z1 := TW1.out.bx.c1; clear hb)
            | (go_at_call 39; (refine (mend_any _ pw a2 none len cap2 0 0 m _ 0 BG.out.c0 BG.out.c1 BG.out.c2 BG.out.lt (fun W _ => mwhyNil_any W)).mono ?_); rintro e w4 ⟨rfl, hb⟩; have BG4 := Lib.hid (BG.out.keep hb); have TW4 := Lib.hid (TW.out.keep BG4.out.below); have d0 := TW4.out.rb.c0; have d1 := TW4.out.rb.c1; have f0 := TW4.out.rb.f0; have f1 := TW4.out.rb.f1; clear hb))
          (
            obtain ⟨q0, q1⟩ := stored2 TW4.out.rb (.slice a2 len cap2) (.int .i64 m)
            have hlt0 := TW.out.rb.lt
            have R5 := (BG4.out.row.far (q := w.heap.size + 1) (fun b off e => by have := BG4.out.rlo b off e; omega) (fun x hx => (BG4.out.new x hx).away hlt0) 0 (.slice a2 len cap2)).far (q := w.heap.size + 1) (fun b off e => by have := BG4.out.rlo b off e; omega) (fun x hx => (BG4.out.new x hx).away hlt0) 1 (.int .i64 m)
            have HB5 := ((HB0.out.trans (BG4.out.below.mono HB0.out.size)).setCell (p := ⟨w.heap.size + 1, 0, none⟩) (by show w.heap.size ≤ w.heap.size + 1; omega) (.slice a2 len cap2)).setCell (p := ⟨w.heap.size + 1, 1, none⟩) (by show w.heap.size ≤ w.heap.size + 1; omega) (.int .i64 m)
            refine bodyPost_ret (v := .tuple #[forV a2 len cap2 m, .slice none 0 0, .int .i64 E]) ?_ rfl ⟨a2, len, cap2, M, none, 0, 0, by rw [HQ.out], R5, by rw [HQ.out, BG4.out.core], small_core BG4.out.core HS.out, by rw [HQ.out]; exact NoteRow.nil _, HB5, fun k hk => ⟨fun b off e e2 => (by have := BG4.out.rlo b off e; have := HB0.out.size; omega), fun x hx => (BG4.out.new x hx).away (Nat.lt_of_lt_of_le hk HB0.out.size), fun b off e => (by cases e)⟩⟩)
          simp [results, Tryz.results22, go_sem, q0, q1, hE]
    · have HQ : Hid (togZ m (coreL L) k s.toList f = (coreL L, [], E)) := Lib.hid (by
        unfold togZ
        rw [if_pos HE.out, ← HAK.out, hz, if_neg h0])
      have e1 : (E != 0) = true := bne_iff_ne.2 h0
      clear hz h0 hlA hq hp
      go_enter Tryz.func22, Tryz.ntmps22
      go_upto_region 1 with fail
      rw [HW0.out]
      go_wp2_with (first
        | (go_at_call 38; (with_reducible refine (CB.out _ TW.out.bx.row).mono ?_); rintro e w1 ⟨pw, a2, cap2, M, rfl, hB⟩; have BG := Lib.hid hB; have TW1 := Lib.hid (TW.out.keep hB.below); have z0 := TW1.out.bx.c0; have z1 := TW1.out.bx.c1; clear hB)
        | (go_at_call 52; (with_reducible refine (CM.out _ TW1.out.bx.row).mono ?_); rintro e w2 ⟨rfl, hb⟩; have BG := Lib.hid (BG.out.keep hb); have TW1 := Lib.hid (TW1.out.keep hb); have z0 := TW1.out.bx.c0; have z1 := TW1.out.bx.c1; have c4 := C4.out _ (HB0.out.trans (BG.out.below.mono HB0.out.size)); clear hb)
        | (go_at_call 57; (with_reducible refine (CA.out _ (HB0.out.trans (BG.out.below.mono HB0.out.size))).mono ?_); rintro e w3 ⟨al, ln, lc, rfl, -, hb, -⟩; have BG := Lib.hid (BG.out.keep hb); have TW1 := Lib.hid (TW1.out.keep hb); have z0 := TW1.out.bx.c0; have z1 := TW1.out.bx.c1; clear hb)
        | (go_at_call 40; (refine (mrefuse_any _ _ _).mono ?_); rintro e w' ⟨rfl, rfl⟩)
        | (go_at_call 39; (refine (mrefused_any BG.out (HG.out.keep BG.out.below) _ _).mono ?_); rintro e w4 ⟨rfl, hb⟩; have BG4 := Lib.hid (BG.out.keep hb); have TW4 := Lib.hid (TW.out.keep BG4.out.below); have d0 := TW4.out.rb.c0; have d1 := TW4.out.rb.c1; have f0 := TW4.out.rb.f0; have f1 := TW4.out.rb.f1; clear hb))
      (
        obtain ⟨q0, q1⟩ := stored2 TW4.out.rb (.slice a2 len cap2) (.int .i64 m)
        have hlt0 := TW.out.rb.lt
        have R5 := (BG4.out.row.far (q := w.heap.size + 1) (fun b off e => by have := BG4.out.rlo b off e; omega) (fun x hx => (BG4.out.new x hx).away hlt0) 0 (.slice a2 len cap2)).far (q := w.heap.size + 1) (fun b off e => by have := BG4.out.rlo b off e; omega) (fun x hx => (BG4.out.new x hx).away hlt0) 1 (.int .i64 m)
        have HB5 := ((HB0.out.trans (BG4.out.below.mono HB0.out.size)).setCell (p := ⟨w.heap.size + 1, 0, none⟩) (by show w.heap.size ≤ w.heap.size + 1; omega) (.slice a2 len cap2)).setCell (p := ⟨w.heap.size + 1, 1, none⟩) (by show w.heap.size ≤ w.heap.size + 1; omega) (.int .i64 m)
        refine bodyPost_ret (v := .tuple #[forV a2 len cap2 m, .slice none 0 0, .int .i64 E]) ?_ rfl ⟨a2, len, cap2, M, none, 0, 0, by rw [HQ.out], R5, by rw [HQ.out, BG4.out.core], small_core BG4.out.core HS.out, by rw [HQ.out]; exact NoteRow.nil _, HB5, fun k hk => ⟨fun b off e e2 => (by have := BG4.out.rlo b off e; have := HB0.out.size; omega), fun x hx => (BG4.out.new x hx).away (Nat.lt_of_lt_of_le hk HB0.out.size), fun b off e => (by cases e)⟩⟩)
      simp [results, Tryz.results22, go_sem, q0, q1]
  · have HQ : Hid (togZ m (coreL L) n s.toList f = (coreL L, [], E)) := Lib.hid (by
      unfold togZ
      rw [hE, if_neg h0])
    have e1 : (E != 0) = true := bne_iff_ne.2 h0
    clear hE h0 hs
    go_enter Tryz.func22, Tryz.ntmps22
    go_upto_region 1 with fail
    rw [HW0.out]
    go_wp2_with (first | (go_at_call 38; (with_reducible refine (CB.out _ TW.out.bx.row).mono ?_); rintro e w1 ⟨pw, a2, cap2, M, rfl, hB⟩; have BG := Lib.hid hB; have TW1 := Lib.hid (TW.out.keep hB.below); have z0 := TW1.out.bx.c0; have z1 := TW1.out.bx.c1; clear hB) | (go_at_call 52; (with_reducible refine (CM.out _ TW1.out.bx.row).mono ?_); rintro e w2 ⟨rfl, hb⟩; have BG := Lib.hid (BG.out.keep hb); have TW1 := Lib.hid (TW1.out.keep hb); have z0 := TW1.out.bx.c0; have z1 := TW1.out.bx.c1; clear hb) | (go_at_call 40; (refine (mrefuse_any _ _ _).mono ?_); rintro e w' ⟨rfl, rfl⟩) | (go_at_call 39; (refine (mrefused_any BG.out (HG.out.keep BG.out.below) _ _).mono ?_); rintro e w4 ⟨rfl, hb⟩; have BG4 := Lib.hid (BG.out.keep hb); have TW4 := Lib.hid (TW.out.keep BG4.out.below); have d0 := TW4.out.rb.c0; have d1 := TW4.out.rb.c1; have f0 := TW4.out.rb.f0; have f1 := TW4.out.rb.f1; clear hb))
    (
      obtain ⟨q0, q1⟩ := stored2 TW4.out.rb (.slice a2 len cap2) (.int .i64 m)
      have hlt0 := TW.out.rb.lt
      have R5 := (BG4.out.row.far (q := w.heap.size + 1) (fun b off e => by have := BG4.out.rlo b off e; omega) (fun x hx => (BG4.out.new x hx).away hlt0) 0 (.slice a2 len cap2)).far (q := w.heap.size + 1) (fun b off e => by have := BG4.out.rlo b off e; omega) (fun x hx => (BG4.out.new x hx).away hlt0) 1 (.int .i64 m)
      have HB5 := ((HB0.out.trans (BG4.out.below.mono HB0.out.size)).setCell (p := ⟨w.heap.size + 1, 0, none⟩) (by show w.heap.size ≤ w.heap.size + 1; omega) (.slice a2 len cap2)).setCell (p := ⟨w.heap.size + 1, 1, none⟩) (by show w.heap.size ≤ w.heap.size + 1; omega) (.int .i64 m)
      refine bodyPost_ret (v := .tuple #[forV a2 len cap2 m, .slice none 0 0, .int .i64 E]) ?_ rfl ⟨a2, len, cap2, M, none, 0, 0, by rw [HQ.out], R5, by rw [HQ.out, BG4.out.core], small_core BG4.out.core HS.out, by rw [HQ.out]; exact NoteRow.nil _, HB5, fun k hk => ⟨fun b off e e2 => (by have := BG4.out.rlo b off e; have := HB0.out.size; omega), fun x hx => (BG4.out.new x hx).away (Nat.lt_of_lt_of_le hk HB0.out.size), fun b off e => (by cases e)⟩⟩)
    simp [results, Tryz.results22, go_sem, q0, q1]
end Go.Proofs.YtcmlclfcdhkncaaGreatDoor
/- Package move: behind; what may be put when a child has gone out. -/
namespace Go.Proofs.YtcmlclfcdhkncaaGreatDoor
open Go.RowKit
/-- The child behind a child. -/
def behK (F : List Core) (c : Int) : Int := match (kidsK F (parentK F c))[findN (kidsK F (parentK F c)) c + 1]? with | some z => z | none => -1
set_option maxHeartbeats 8000000 in
set_option maxRecDepth 100000 in
theorem mbehind_any (a : Option Addr) (len cap : Nat) (m : Int) (L : List NodeD) (n : Nat) (w : World) (h : NodeRow w a len cap L) (hr : rightF m (coreL L) = true) (hn : n < len) (hp : parentK (coreL L) n ≠ -1) :
    Calls Tryz.prog 45 #[forV a len cap m, .int .i64 n] w fun e w' => e = .returned (.int .i64 (behK (coreL L) n)) ∧ Below w.heap.size w w' := by
  have hlen := h.len64
  have BX := Lib.hid (Box.start (m := m) h)
  have HH := Lib.hid h
  obtain ⟨b, off, x, hab, hb, hx, hat, hok⟩ := HH.out.get hn
  subst hab
  rw [parentK_at (coreL_get hx)] at hp
  obtain ⟨p, y, i, hpp, hy, hnp, hfi, hi, hnd⟩ := out_par hr hx hp
  have hpl : p < len := by have := (List.getElem?_eq_some_iff.1 hy).1; rwa [h.hlen] at this
  obtain ⟨b2, off2, y2, hab, hb2, hy2, hat2, hok2⟩ := HH.out.get hpl
  injection hab with hab
  injection hab with e1 e2
  subst e1 e2
  obtain rfl : y = y2 := Option.some.inj (hy.symm.trans hy2)
  have c5 := hat.c5
  rw [hpp] at c5
  have C5 := Lib.hid (stays c5 hb)
  have C6 := Lib.hid (stays hat2.c6 hb2)
  have CX : Hid (∀ W, Below w.heap.size w W → Calls Tryz.prog 86 #[.slice y.kA y.kN y.kC, .int .i64 n] W fun e w' => e = .returned (.int .i64 i) ∧ W = w') := Lib.hid (fun W hb => by
    rw [← hfi]
    exact index_any _ _ _ _ _ W (hok2.kids.below hb))
  have HK : Hid (behK (coreL L) n = match y.core.kids[i + 1]? with | some z => z | none => -1) := Lib.hid (by
    have h1 : kidsK (coreL L) (parentK (coreL L) n) = y.core.kids := by rw [parentK_at (coreL_get hx), hpp, kidsK_get (coreL_get hy)]
    have h2 : findN y.core.kids n = i := by
      have := findZ_mem (List.mem_of_getElem? hi)
      omega
    unfold behK
    rw [h1, h2])
  have hk64 := hok2.kids.len64
  have hik : i < y.kN := by have := (List.getElem?_eq_some_iff.1 hi).1; rwa [hok2.kids.hlen] at this
  have KR : Hid (∀ W, Below w.heap.size w W → IntRow W y.kA y.kN y.kC y.core.kids) := Lib.hid (fun W hb => hok2.kids.below hb)
  have z0 := BX.out.c0
  by_cases hlt : i + 1 < y.kN
  · obtain ⟨bk, ok, z, hka, hbk, hz, hcz, hin⟩ := hok2.kids.get hlt
    have CZ := Lib.hid (stays hcz hbk)
    have HR : Hid (behK (coreL L) n = z) := Lib.hid (by rw [HK.out, hz])
    rw [hka] at C6
    rw [hka] at CX
    clear hat hok hx hp hb c5 hy hy2 hat2 hok2 hb2 hpp hr hfi hi hnd hz hcz hka hin hnp h
    go_enter Tryz.func45, Tryz.ntmps45
    go_upto_region 1 with fail
    have E0 := Ext.cell z0 BX.out.lt
    have E5 := Ext.stays C5.out BX.out.below
    have E6 := Ext.stays C6.out BX.out.below
    refine wp_region_ext (by kernel_rfl) (by kernel_rfl) ?_
    repeat (go_big_quiet_step (fail))
    refine wpQuiet_nil ?_
    intro w3 hw'
    obtain ⟨⟨w4, hb4⟩, hw''⟩ := hw'
    dsimp only at hw''
    subst hw''
    have BX := Lib.hid (BX.out.keep hb4)
    clear E0 E5 E6 hb4
    go_wp2_with (go_at_call 86; (with_reducible refine (CX.out _ BX.out.below).mono ?_); rintro e w5 ⟨rfl, rfl⟩; have cz := CZ.out _ BX.out.below)
    go_ret
    exact ⟨ret_int HR.out.symm, BX.out.below⟩
  · have HR : Hid (behK (coreL L) n = -1) := Lib.hid (by rw [HK.out, List.getElem?_eq_none (by rw [hok2.kids.hlen]; omega)])
    clear hat hok hx hp hb c5 hy hy2 hat2 hok2 hb2 hpp hr hfi hi hnd hnp h
    go_enter Tryz.func45, Tryz.ntmps45
    go_upto_region 1 with fail
    have E0 := Ext.cell z0 BX.out.lt
    have E5 := Ext.stays C5.out BX.out.below
    have E6 := Ext.stays C6.out BX.out.below
    refine wp_region_ext (by kernel_rfl) (by kernel_rfl) ?_
    repeat (go_big_quiet_step (fail))
    refine wpQuiet_nil ?_
    intro w3 hw'
    obtain ⟨⟨w4, hb4⟩, hw''⟩ := hw'
    dsimp only at hw''
    subst hw''
    have BX := Lib.hid (BX.out.keep hb4)
    clear E0 E5 E6 hb4
    go_wp2_with (go_at_call 86; (with_reducible refine (CX.out _ BX.out.below).mono ?_); rintro e w5 ⟨rfl, rfl⟩)
    go_ret
    exact ⟨ret_int HR.out.symm, BX.out.below⟩
/-- Who may stand in a child's place may be put there when the child has gone out. -/
theorem swap_gone {m : Int} {F G : List Core} {X Y C : Nat} {c : Core} (hX : X < F.length) (hY : Y < F.length) (ho : Out m F G C Y c) (hs : swapZ m F X Y C = 0) : mayZ m G X Y (-1) = 0 := by
  have hr := ho.right
  have hC := ho.lt
  have hpC : parentK F C = (Y : Int) := by rw [parentK_at ho.hx]; exact ho.hp
  obtain ⟨y, hy⟩ : ∃ y, F[Y]? = some y := ⟨_, List.getElem?_eq_getElem hY⟩
  obtain ⟨x, hx⟩ : ∃ x, F[X]? = some x := ⟨_, List.getElem?_eq_getElem hX⟩
  have hrG := ho.rightG
  have hXG : X < G.length := by rw [ho.ed.len]; exact hX
  have hYG : Y < G.length := by rw [ho.ed.len]; exact hY
  rw [swap_is hr hX hY hC hpC, refuse_zero] at hs
  obtain ⟨s1, hov, s3, s4, s5⟩ := hs
  have hXY : X ≠ Y := fun e => by subst e; rw [over_self hr hX] at hov; cases hov
  have hovG : overZ m G X Y = false := by
    cases hq : overZ m G X Y with
    | false => rfl
    | true =>
      have h1 := ((ho.over hX hY).1 ((overZ_iff hrG hXG hYG).1 hq)).1
      rw [(overZ_iff hr hX hY).2 h1] at hov
      cases hov
  rw [may_none hrG hXG hYG, refuse_zero, ho.ed.kindK, ho.ed.kindK]
  refine ⟨s1, hovG, s3, s4, fun e => ?_⟩
  have hd : docTakesB G X Y (-1) = docTakesB F X Y C := by
    have hyG := ho.ed.at_ Y y hy
    have hxG := ho.ed.at_ X x hx
    unfold docTakesB
    rw [kidsK_get hy, kidsK_get hyG, parts_at hx, parts_at hxG]
    have hk : (fun k => kindK G k == 2) = (fun k => kindK F k == 2) := by funext k; rw [ho.ed.kindK]
    rw [hk]
    show ((!(if x.kind = 3 then (if X = Y then x.kids.filter (fun z => z != (C : Int)) else x.kids) else [(X : Int)]).any (fun k => kindK F k == 2)) && decide (countNe (if Y = Y then y.kids.filter (fun z => z != (C : Int)) else y.kids) (-1) + (if x.kind = 3 then (if X = Y then x.kids.filter (fun z => z != (C : Int)) else x.kids) else [(X : Int)]).length ≤ 1)) = _
    rw [if_neg hXY, if_pos rfl, countNe_all (fun z hz => kids_nat hr hy z (List.mem_filter.1 hz).1)]
    have : (y.kids.filter (fun z => z != (C : Int))).length = countNe y.kids C := by unfold countNe; rw [List.countP_eq_length_filter]
    rw [this]
  rw [hd]
  exact s5 e
/-- What a swap asks for, in the forest's own words. -/
theorem swap_ok {m : Int} {F : List Core} {n p c : Int} (h : swapZ m F n p c = 0) : vknowsB m F n p c = true ∧ c ≠ -1 ∧ parentK F c = p := by
  unfold swapZ at h
  split at h
  · next hk =>
    refine ⟨hk, ?_⟩
    cases hq : (c != -1 && parentK F c == p) with
    | true =>
      rw [Bool.and_eq_true] at hq
      exact ⟨bne_iff_ne.1 hq.1, beq_iff_eq.1 hq.2⟩
    | false =>
      rw [hq] at h
      unfold refuseE at h
      split at h
      · cases h
      · rw [if_pos (by simp)] at h
        cases h
  · cases h
/-- Who is sought behind a child is none, or a child of the same parent that stays. -/
theorem beh_in {m : Int} {F G : List Core} {C Y : Nat} {c : Core} (ho : Out m F G C Y c) : behK F C = -1 ∨ ∃ s : Nat, behK F C = s ∧ s < F.length ∧ parentK G s = Y := by
  have hr := ho.right
  have hpC : parentK F C = (Y : Int) := by rw [parentK_at ho.hx]; exact ho.hp
  obtain ⟨y, hy⟩ : ∃ y, F[Y]? = some y := by
    obtain ⟨p, h1, h2, _⟩ := right_par hr ho.hx (by rw [ho.hp]; omega)
    rw [ho.hp] at h1
    have h3 : Y = p := by omega
    subst h3
    exact ⟨_, List.getElem?_eq_getElem h2⟩
  unfold behK
  rw [hpC, kidsK_get hy]
  cases hz : y.kids[findN y.kids C + 1]? with
  | none => exact .inl rfl
  | some z =>
    right
    have hm := List.mem_of_getElem? hz
    obtain ⟨d, h1, _, h3, _⟩ := (right_node hr hy).kids z hm
    obtain ⟨h4, h5, h6⟩ := getC_some h1
    have hzC : z ≠ (C : Int) := fun e => by
      have hcm : (C : Int) ∈ y.kids := by rw [← e]; exact hm
      have h7 := findN_mem hcm
      have h8 : y.kids[findN y.kids C]'h7 = (C : Int) := beq_iff_eq.1 (List.findIdx_getElem (p := fun z => z == (C : Int)) (w := h7))
      obtain ⟨h9, h10⟩ := List.getElem?_eq_some_iff.1 hz
      exact List.pairwise_iff_getElem.1 (right_node hr hy).once _ _ h7 h9 (Nat.lt_succ_self _) (by rw [h10, h8, e])
    refine ⟨z.toNat, by show z = _; omega, h5, ?_⟩
    have h11 := ho.ed.at_ z.toNat d h6
    rw [parentK_at h11]
    show (if z.toNat = C then -1 else d.parent) = (Y : Int)
    rw [if_neg (by omega), h3]
end Go.Proofs.YtcmlclfcdhkncaaGreatDoor
/- Package move: Replace. -/
namespace Go.Proofs.YtcmlclfcdhkncaaGreatDoor
open Go.RowKit
/-- Replace, as mathematics. -/
def repS (m : Int) (F : List Core) (n p c : Int) : St :=
  putS (outS (F, []) c.toNat) n.toNat p.toNat (beforeZ m (outS (F, []) c.toNat).1 n p (behK F c))
def repZ (m : Int) (F : List Core) (n p c : Int) : List Core × List NoteD × Int :=
  if swapZ m F n p c = 0 then ((repS m F n p c).1, (repS m F n p c).2, 0) else (F, [], swapZ m F n p c)
/-- When the child has gone out, the other may be put ahead of who was sought. -/
theorem rep_may {m : Int} {F : List Core} {n p c : Nat} (h : swapZ m F n p c = 0) : mayZ m (outS (F, []) c).1 n p (behK F c) = 0 ∧ parentK F c ≠ -1 := by
  obtain ⟨hk, _, hpc⟩ := swap_ok h
  obtain ⟨hr, ⟨n', e1, hn⟩, ⟨p', e2, hp⟩, hcc⟩ := vknows_nat hk
  obtain rfl : n = n' := by omega
  obtain rfl : p = p' := by omega
  have hc : c < F.length := by
    rcases hcc with e | ⟨k, e, hl⟩
    · omega
    · obtain rfl : c = k := by omega
      exact hl
  have hx : F[c]? = some F[c] := List.getElem?_eq_getElem hc
  have hne : parentK F c ≠ -1 := by rw [hpc]; omega
  refine ⟨?_, hne⟩
  have hne2 := hne
  have hpc2 := hpc
  rw [parentK_at hx] at hne2 hpc2
  obtain ⟨q, hq1, _, ho⟩ := mvOut_out hr hx hne2
  rw [hpc2] at hq1
  obtain rfl : p = q := by omega
  have h1 := swap_gone hn hp ho h
  have e3 : (outS (F, []) c).1 = mvOut F c := by
    unfold outS
    rw [if_neg hne]
  rw [e3]
  rcases beh_in ho with e | ⟨s, e, hs, hps⟩
  · rw [e]; exact h1
  · have hrG := ho.rightG
    have hnG : n < (mvOut F c).length := by rw [ho.ed.len]; exact hn
    have hpG : p < (mvOut F c).length := by rw [ho.ed.len]; exact hp
    have hsG : s < (mvOut F c).length := by rw [ho.ed.len]; exact hs
    rw [e, may_is hrG hnG hpG hsG hps, ← may_none hrG hnG hpG]
    exact h1
theorem beh_64 {m : Int} {F : List Core} {C Y : Nat} {c : Core} (ho : Out m F (mvOut F C) C Y c) (hl : F.length ≤ 1000) : In64 (behK F C) := by
  rcases beh_in ho with e | ⟨s, e, hs, _⟩
  · rw [e]; exact ⟨by decide, by decide⟩
  · rw [e]; exact ⟨by omega, by omega⟩
theorem rep_64 {m : Int} {F : List Core} {n p c : Nat} (h : swapZ m F n p c = 0) (hl : F.length ≤ 1000) : In64 (behK F c) := by
  obtain ⟨hk, _, _⟩ := swap_ok h
  obtain ⟨hr, _, _, hcc⟩ := vknows_nat hk
  have hc : c < F.length := by
    rcases hcc with e | ⟨k, e, hl⟩
    · omega
    · obtain rfl : c = k := by omega
      exact hl
  have hx : F[c]? = some F[c] := List.getElem?_eq_getElem hc
  have hne := (rep_may h).2
  rw [parentK_at hx] at hne
  obtain ⟨q, _, _, ho⟩ := mvOut_out hr hx hne
  exact beh_64 ho hl
theorem out_short {m : Int} {F : List Core} {c : Nat} (h : rightF m F = true) (hc : c < F.length) : ((outS (F, []) c).2).length ≤ 70000000 := by
  have h1 := tellN_len h hc (note 2)
  unfold outS
  split
  · exact Nat.zero_le _
  · dsimp only
    split
    · rw [List.nil_append]
      omega
    · exact Nat.zero_le _
set_option maxHeartbeats 8000000 in
set_option maxRecDepth 100000 in
theorem mreplace_any (a : Option Addr) (len cap : Nat) (m : Int) (L : List NodeD) (n p c : Int) (w : World) (h : NodeRow w a len cap L) (hm : In64 m) (hn : In64 n) (hp : In64 p) (hc : In64 c) (hs : smallF L) (hg : ErrVar w) :
    Calls Tryz.prog 13 #[forV a len cap m, .int .i64 n, .int .i64 p, .int .i64 c] w (MvPost w m (repZ m (coreL L) n p c)) := by
  have HCL : Hid ((coreL L).length = len) := Lib.hid (by rw [coreL_len, h.hlen])
  have HS := Lib.hid hs
  have HM := Lib.hid hm
  have CB : Hid (∀ W, NodeRow W a len cap L → Calls Tryz.prog 38 #[forV a len cap m] W fun e w' => ∃ pw a2 cap2 M, e = .returned (ptrV pw) ∧ Begun W w' pw a2 len cap2 m M (coreL L)) := Lib.hid (fun W h1 => mbegin_any a len cap m L W h1 hs)
  obtain ⟨E, hE⟩ : ∃ E, swapZ m (coreL L) n p c = E := ⟨_, rfl⟩
  have CM : Hid (∀ W, NodeRow W a len cap L → Calls Tryz.prog 44 #[forV a len cap m, .int .i64 n, .int .i64 p, .int .i64 c] W fun e w' => e = .returned (.int .i64 E) ∧ Below W.heap.size W w') := Lib.hid (fun W h1 => by
    rw [← hE]
    exact vswap_any a len cap m L n p c W h1 hm hn hp hc hs)
  obtain ⟨w0, hw0, TW, HB0⟩ : ∃ w0, (w.alloc (forB a len cap m)).alloc zeroFB = w0 ∧ Hid (Two w w0 a len cap m L) ∧ Hid (Below w.heap.size w w0) := ⟨_, rfl, Lib.hid (Two.start h), Lib.hid ((below_box _ _).trans ((below_box _ _).mono (by simp)))⟩
  have HG := Lib.hid (hg.keep HB0.out)
  have HW0 := Lib.hid hw0
  have z0 := TW.out.bx.c0
  have z1 := TW.out.bx.c1
  have HE := Lib.hid hE
  have HH := Lib.hid h
  clear h hs hm hn hp hc hg hw0 hE
  by_cases h0 : E = 0
  · subst h0
    obtain ⟨hk, hcne, _⟩ := swap_ok HE.out
    obtain ⟨hr, ⟨N0, rfl, hN⟩, ⟨P0, rfl, hP⟩, hcc⟩ := vknows_nat hk
    obtain ⟨C0, rfl, hC⟩ : ∃ k : Nat, c = k ∧ k < (coreL L).length := hcc.resolve_left hcne
    have hl1k : (coreL L).length ≤ 1000 := by rw [coreL_len]; exact HS.out.1
    rw [HCL.out] at hN hP hC
    have HN := Lib.hid hN
    have HP := Lib.hid hP
    have HC := Lib.hid hC
    have HRR := Lib.hid hr
    have HMAY := Lib.hid (rep_may HE.out)
    obtain ⟨s, hsv⟩ : ∃ s, behK (coreL L) C0 = s := ⟨_, rfl⟩
    have HB64 : Hid (In64 s) := Lib.hid (by rw [← hsv]; exact rep_64 HE.out hl1k)
    have CH : Hid (∀ W, NodeRow W a len cap L → Calls Tryz.prog 45 #[forV a len cap m, .int .i64 C0] W fun e w' => e = .returned (.int .i64 s) ∧ Below W.heap.size W w') := Lib.hid (fun W h1 => by
      rw [← hsv]
      exact mbehind_any a len cap m L C0 W h1 HRR.out HC.out HMAY.out.2)
    have HSV := Lib.hid hsv
    have HQ : Hid (repZ m (coreL L) N0 P0 C0 = ((repS m (coreL L) N0 P0 C0).1, (repS m (coreL L) N0 P0 C0).2, 0)) := Lib.hid (by
      unfold repZ
      rw [if_pos HE.out])
    have HRS : Hid (repS m (coreL L) N0 P0 C0 = putS (outS (coreL L, []) C0) N0 P0 (beforeZ m (outS (coreL L, []) C0).1 N0 P0 s)) := Lib.hid (by
      unfold repS
      rw [HSV.out]
      simp only [Int.toNat_natCast])
    clear hk hr hcne hcc hN hP hC hl1k hsv
    go_enter Tryz.func13, Tryz.ntmps13
    go_upto_region 1 with fail
    rw [HW0.out]
    go_wp2_with (first
      | (go_at_call 38; (with_reducible refine (CB.out _ TW.out.bx.row).mono ?_); rintro e w1 ⟨pw, a2, cap2, M, rfl, hB⟩; have BG := Lib.hid hB; have TW1 := Lib.hid (TW.out.keep hB.below); have z0 := TW1.out.bx.c0; have z1 := TW1.out.bx.c1; clear hB)
      | (go_at_call 44; (with_reducible refine (CM.out _ TW1.out.bx.row).mono ?_); rintro e w2 ⟨rfl, hb⟩; have BG := Lib.hid (BG.out.keep hb); have TW1 := Lib.hid (TW1.out.keep hb); have z0 := TW1.out.bx.c0; have z1 := TW1.out.bx.c1; clear hb)
      | (go_at_call 45; (with_reducible refine (CH.out _ TW1.out.bx.row).mono ?_); rintro e w2 ⟨rfl, hb⟩; have BG := Lib.hid (BG.out.keep hb); have TW1 := Lib.hid (TW1.out.keep hb); have z0 := TW1.out.bx.c0; have z1 := TW1.out.bx.c1; clear hb)
      | (go_at_call 43; obtain ⟨g, ρ, rfl, hwk, hρ⟩ := BG.out.wk (by have := HN.out; omega); have HBC := Lib.hid BG.out.core; (refine (mgoOut_any _ hwk (by rw [HBC.out]; exact HRR.out) (small_core HBC.out HS.out) C0 HC.out (by rw [HBC.out]; exact HMAY.out.2) (by simp)).mono ?_); rintro e w3 ⟨rfl, ρ2, M2, v2, N2, hW3, hT3, hA3, hE3, hS3, hR3⟩; have W2 := Lib.hid hW3; have E2 := Lib.hid hE3; have S2 := Lib.hid hS3; have HB2 := Lib.hid (BG.out.below.trans (hT3.below BG.out.below.size hρ)); have A2 : Hid (∀ k, k < w0.heap.size → ρ2 k = 0) := (Lib.hid (fun k hk => (hA3 k (Nat.lt_of_lt_of_le hk BG.out.below.size)).trans (hρ k hk))); clear hW3 hT3 hA3 hE3 hS3 hR3 hwk hρ)
      | (go_at_call 41; (refine (mput_any _ W2.out HM.out S2.out N0 P0 s HB64.out HN.out HP.out (by have h1 := congrArg Prod.fst E2.out; simp only at h1; rw [h1, HBC.out, ← HSV.out]; exact HMAY.out.1) (by have h1 := congrArg Prod.snd E2.out; simp only at h1; rw [h1, HBC.out]; exact out_short HRR.out (by rw [HCL.out]; exact HC.out))).mono ?_); rintro e w3 ⟨rfl, ρ3, M3, v3, N3, hW3, hT3, hA3, hE3, hS3, hR3⟩; obtain ⟨va, vc, rfl, hNR⟩ := hW3.notes; have W3 := Lib.hid hW3; have E3 := Lib.hid hE3; have S3 := Lib.hid hS3; have HB3 := Lib.hid (HB2.out.trans (hT3.below HB2.out.size A2.out)); have A3 : Hid (∀ k, k < w0.heap.size → ρ3 k = 0) := (Lib.hid (fun k hk => (hA3 k (Nat.lt_of_lt_of_le hk HB2.out.size)).trans (A2.out k hk))); clear hW3 hT3 hA3 hE3 hS3 hR3 hNR)
      | (go_at_call 39; (refine (mended_any W3.out).mono ?_); rintro e w4 ⟨rfl, hb⟩; have HB4 := Lib.hid (HB3.out.trans (hb.mono HB3.out.size)); have HB34 := Lib.hid hb; have TW4 := Lib.hid (TW.out.keep HB4.out); have d0 := TW4.out.rb.c0; have d1 := TW4.out.rb.c1; have f0 := TW4.out.rb.f0; have f1 := TW4.out.rb.f1; clear hb))
    obtain ⟨q0, q1⟩ := stored2 TW4.out.rb (.slice (some ⟨g, 0, none⟩) len cap2) (.int .i64 m)
    obtain ⟨ρ5, W5⟩ := (W3.out.keep HB34.out).stored (b := w.heap.size + 1) (B := w0.heap.size) TW.out.rb.lt HB4.out.size A3.out 0 1 (.slice (some ⟨g, 0, none⟩) len cap2) (.int .i64 m)
    obtain ⟨va', vc', hv', NR5⟩ := W5.notes
    injection hv' with e2 e3 e4
    subst e2 e4
    have HB5 := ((HB0.out.trans (HB4.out.mono HB0.out.size)).setCell (p := ⟨w.heap.size + 1, 0, none⟩) (by show w.heap.size ≤ w.heap.size + 1; omega) (.slice (some ⟨g, 0, none⟩) len cap2)).setCell (p := ⟨w.heap.size + 1, 1, none⟩) (by show w.heap.size ≤ w.heap.size + 1; omega) (.int .i64 m)
    have hfin : (coreL M3, N3) = repS m (coreL L) N0 P0 C0 := by
      have h1 := E2.out
      rw [HBC.out] at h1
      have h2 := congrArg Prod.fst h1
      simp only at h2
      rw [HRS.out, ← h1]
      exact E3.out
    refine bodyPost_ret (v := .tuple #[forV (some ⟨g, 0, none⟩) len cap2 m, .slice va N3.length vc, .int .i64 0]) ?_ rfl ⟨some ⟨g, 0, none⟩, len, cap2, M3, va, N3.length, vc, by rw [HQ.out], W5.row, by rw [HQ.out, ← hfin], S3.out, by rw [HQ.out, ← hfin]; exact NR5, HB5, (W3.out.news A3.out).mono HB0.out.size⟩
    simp [results, Tryz.results13, go_sem, q0, q1]
  · have e1 : (E != 0) = true := bne_iff_ne.2 h0
    have HQ : Hid (repZ m (coreL L) n p c = (coreL L, [], E)) := Lib.hid (by
      unfold repZ
      rw [HE.out, if_neg h0])
    clear h0
    go_enter Tryz.func13, Tryz.ntmps13
    go_upto_region 1 with fail
    rw [HW0.out]
    go_wp2_with (first
      | (go_at_call 38; (with_reducible refine (CB.out _ TW.out.bx.row).mono ?_); rintro e w1 ⟨pw, a2, cap2, M, rfl, hB⟩; have BG := Lib.hid hB; have TW1 := Lib.hid (TW.out.keep hB.below); have z0 := TW1.out.bx.c0; have z1 := TW1.out.bx.c1; clear hB)
      | (go_at_call 44; (with_reducible refine (CM.out _ TW1.out.bx.row).mono ?_); rintro e w2 ⟨rfl, hb⟩; have BG := Lib.hid (BG.out.keep hb); clear hb)
      | (go_at_call 40; (refine (mrefuse_any _ _ _).mono ?_); rintro e w' ⟨rfl, rfl⟩)
      | (go_at_call 39; (refine (mrefused_any BG.out (HG.out.keep BG.out.below) _ _).mono ?_); rintro e w4 ⟨rfl, hb⟩; have BG4 := Lib.hid (BG.out.keep hb); have TW4 := Lib.hid (TW.out.keep BG4.out.below); have d0 := TW4.out.rb.c0; have d1 := TW4.out.rb.c1; have f0 := TW4.out.rb.f0; have f1 := TW4.out.rb.f1; clear hb))
    (
      obtain ⟨q0, q1⟩ := stored2 TW4.out.rb (.slice a2 len cap2) (.int .i64 m)
      have hlt0 := TW.out.rb.lt
      have R5 := (BG4.out.row.far (q := w.heap.size + 1) (fun b off e => by have := BG4.out.rlo b off e; omega) (fun x hx => (BG4.out.new x hx).away hlt0) 0 (.slice a2 len cap2)).far (q := w.heap.size + 1) (fun b off e => by have := BG4.out.rlo b off e; omega) (fun x hx => (BG4.out.new x hx).away hlt0) 1 (.int .i64 m)
      have HB5 := ((HB0.out.trans (BG4.out.below.mono HB0.out.size)).setCell (p := ⟨w.heap.size + 1, 0, none⟩) (by show w.heap.size ≤ w.heap.size + 1; omega) (.slice a2 len cap2)).setCell (p := ⟨w.heap.size + 1, 1, none⟩) (by show w.heap.size ≤ w.heap.size + 1; omega) (.int .i64 m)
      refine bodyPost_ret (v := .tuple #[forV a2 len cap2 m, .slice none 0 0, .int .i64 E]) ?_ rfl ⟨a2, len, cap2, M, none, 0, 0, by rw [HQ.out], R5, by rw [HQ.out, BG4.out.core], small_core BG4.out.core HS.out, by rw [HQ.out]; exact NoteRow.nil _, HB5, fun k hk => ⟨fun b off e e2 => (by have := BG4.out.rlo b off e; have := HB0.out.size; omega), fun x hx => (BG4.out.new x hx).away (Nat.lt_of_lt_of_le hk HB0.out.size), fun b off e => (by cases e)⟩⟩)
    simp [results, Tryz.results13, go_sem, q0, q1]
end Go.Proofs.YtcmlclfcdhkncaaGreatDoor
/- instarlaw06's awake, over the contracts of packages forest and move. -/
namespace Go.Proofs.YtcmlclfcdhkncaaGreatDoor
open Go.RowKit
def mv1 : List Core := [docC]
def mvF3 : List Core := (insZ 5 f2 1 0 (-1)).1
def mvF4 : List Core := (setZ 5 mvF3 1 [66] ⟨#[49]⟩).1
def mvF5 : List Core := (remZ 5 mvF4 1).1
def mvN1 : List NoteD := [⟨1, 1, 0, 0, ⟨#[]⟩, false, false, ⟨#[]⟩, ⟨#[]⟩⟩]
def mvN2 : List NoteD := [⟨4, 1, 0, 0, ⟨#[98]⟩, false, true, ⟨#[]⟩, ⟨#[49]⟩⟩]
def mvN3 : List NoteD := [⟨2, 1, 0, 0, ⟨#[]⟩, false, false, ⟨#[]⟩, ⟨#[]⟩⟩]
theorem mva1 : insZ 5 f2 1 0 (-1) = (mvF3, mvN1, 0) := by decide +kernel
theorem mva2 : setZ 5 mvF3 1 [66] ⟨#[49]⟩ = (mvF4, mvN2, 0) := by decide +kernel
theorem mva3 : remZ 5 mvF4 1 = (mvF5, mvN3, 0) := by decide +kernel
theorem mva4 : remZ 5 mvF5 1 = (mvF5, [], 6) := by decide +kernel
theorem mva5 : newL 5 = mv1 ∧ newM 5 = 5 ∧ newE 5 = 0 := by decide +kernel
theorem mva6 : makeE 5 mv1 (pC 112) = 0 ∧ makeN 5 mv1 (pC 112) = 1 ∧ makeL 5 mv1 (pC 112) = f2 := fa2
/-- A forest in a box that is written, in which no text lies. -/
structure MBox (w W : World) (g : Nat) (a : Option Addr) (len cap : Nat) (m : Int) (L : List NodeD) (F : List Core) : Prop where
  box : Box w W g a len cap m L F
  free : ∀ o, W.frozen? ⟨g, o, none⟩ = false
  nt : ∀ j s, W.cell? ⟨g, j, none⟩ ≠ some (.string s)
theorem MBox.new {w W : World} {a : Option Addr} {len cap : Nat} {m : Int} {L : List NodeD} {F : List Core} (hb : Below w.heap.size w W) (h : NodeRow W a len cap L) (hc : coreL L = F) : MBox w (W.alloc (forB a len cap m)) W.heap.size a len cap m L F := by
  refine ⟨⟨h.below (below_box _ _), hc, hb.size, by simp, cell_of_row (W.alloc (forB a len cap m)) W.heap.size 0 _ 24 (0, 0) (heap_alloc_new W _), cell_of_row (W.alloc (forB a len cap m)) W.heap.size 1 _ 24 (0, 0) (heap_alloc_new W _), hb.alloc hb.size _⟩, fun o => row_free (heap_alloc_new W _) o, fun j s => ?_⟩
  exact box_notext (Below.refl _ _)
theorem MBox.keep {w W W2 : World} {g : Nat} {a : Option Addr} {len cap : Nat} {m : Int} {L : List NodeD} {F : List Core} (h : MBox w W g a len cap m L F) (hb : Below W.heap.size W W2) : MBox w W2 g a len cap m L F :=
  ⟨h.box.keep hb, fun o => (hb.frozen (p := ⟨g, o, none⟩) h.box.lt).trans (h.free o), fun j s => by rw [hb.cell (p := ⟨g, j, none⟩) h.box.lt]; exact h.nt j s⟩
theorem MBox.put {w W : World} {g : Nat} {a a2 : Option Addr} {len cap len2 cap2 : Nat} {m m2 : Int} {L L2 : List NodeD} {F F2 : List Core} (h : MBox w W g a len cap m L F) (hr : NodeRow ((W.setCell ⟨g, 0, none⟩ (.slice a2 len2 cap2)).setCell ⟨g, 1, none⟩ (.int .i64 m2)) a2 len2 cap2 L2) (hc : coreL L2 = F2) :
    MBox w ((W.setCell ⟨g, 0, none⟩ (.slice a2 len2 cap2)).setCell ⟨g, 1, none⟩ (.int .i64 m2)) g a2 len2 cap2 m2 L2 F2 := by
  have n1 := notext_set (o := 0) (u := .slice a2 len2 cap2) h.nt h.box.c0 (fun s e => by cases e)
  have c1 : (W.setCell ⟨g, 0, none⟩ (.slice a2 len2 cap2)).cell? ⟨g, 1, none⟩ = some (.int .i64 m) := (World.cell?_setCell_other _ _ _ _ (fun e => by injection e with _ e; omega)).trans h.box.c1
  refine ⟨⟨hr, hc, h.box.low, by simpa [World.setCell] using h.box.lt, ?_, World.cell?_setCell_same _ _ _ c1, (h.box.below.setCell (p := ⟨g, 0, none⟩) h.box.low _).setCell (p := ⟨g, 1, none⟩) h.box.low _⟩, fun o => by rw [World.frozen?_setCell, World.frozen?_setCell]; exact h.free o, notext_set n1 c1 (fun s e => by cases e)⟩
  exact (World.cell?_setCell_other _ _ _ _ (fun e => by injection e with _ e; omega)).trans (World.cell?_setCell_same _ _ _ h.box.c0)
theorem MBox.set {w W : World} {g : Nat} {a a2 : Option Addr} {len cap len2 cap2 : Nat} {m m2 : Int} {L L2 : List NodeD} {F F2 : List Core} (h : MBox w W g a len cap m L F) (h2 : NodeRow W a2 len2 cap2 L2) (hc : coreL L2 = F2) (hk : ∀ x ∈ L2, x.core.kids = [] ∧ x.core.attrs = []) :
    MBox w ((W.setCell ⟨g, 0, none⟩ (.slice a2 len2 cap2)).setCell ⟨g, 1, none⟩ (.int .i64 m2)) g a2 len2 cap2 m2 L2 F2 :=
  h.put ((h2.setBox h.nt hk _).setBox (notext_set (o := 0) (u := .slice a2 len2 cap2) h.nt h.box.c0 (fun s e => by cases e)) hk _) hc
theorem MBox.mv {w W W2 : World} {g : Nat} {a a2 va : Option Addr} {len cap len2 cap2 : Nat} {m m2 : Int} {L L2 : List NodeD} {F F2 : List Core} (h : MBox w W g a len cap m L F) (hb : Below W.heap.size W W2) (h2 : NodeRow W2 a2 len2 cap2 L2) (hc : coreL L2 = F2) (hn : MvNew W.heap.size a2 va L2) :
    MBox w ((W2.setCell ⟨g, 0, none⟩ (.slice a2 len2 cap2)).setCell ⟨g, 1, none⟩ (.int .i64 m2)) g a2 len2 cap2 m2 L2 F2 :=
  (h.keep hb).put ((h2.far (hn g h.box.lt).1 (hn g h.box.lt).2.1 0 _).far (hn g h.box.lt).1 (hn g h.box.lt).2.1 1 _) hc
/-- Notes, behind stores into a box that lay there before. -/
theorem NoteRow.far {W : World} {a : Option Addr} {len cap q : Nat} {N : List NoteD} (h : NoteRow W a len cap N) (ha : ∀ b off, a = some ⟨b, off, none⟩ → b ≠ q) (o : Nat) (u : Value) : NoteRow (W.setCell ⟨q, o, none⟩ u) a len cap N :=
  ⟨h.row.keep (by simp [World.setCell]) (fun b off he _ o' => World.cell?_setCell_other _ _ _ _ (fun e => by injection e with e _; exact ha b off he e.symm)), h.ok, h.hnil⟩
theorem NoteRow.one {W : World} {a : Option Addr} {len cap : Nat} {x : NoteD} (h : NoteRow W a len cap [x]) : len = 1 ∧ ∃ b off, a = some ⟨b, off, none⟩ ∧ b < W.heap.size ∧ ∀ j v, (encO x)[j]? = some v → W.cell? ⟨b, off + j, none⟩ = some v := by
  have hl : 1 = len := h.row.hlen
  subst hl
  obtain ⟨b, off, y, h1, h2, h3, _, h5⟩ := h.row.get (k := 0) (by decide)
  obtain rfl : x = y := Option.some.inj h3
  exact ⟨rfl, b, off, h1, h2, fun j v hv => by have := h5 j v hv; rwa [Nat.zero_mul, Nat.add_zero] at this⟩
theorem mvSmall {L : List NodeD} {F : List Core} (h : coreL L = F) (hd : decide (F.length ≤ 1000 ∧ ∀ c ∈ F, c.kids.length ≤ 1000 ∧ c.attrs.length ≤ 1000 ∧ c.name.size ≤ 1000) = true) : smallF L := by
  have hd := of_decide_eq_true hd
  refine ⟨by rw [← coreL_len, h]; exact hd.1, fun x hx => ?_⟩
  have hm : x.core ∈ F := by rw [← h]; exact List.mem_map.2 ⟨x, hx, rfl⟩
  exact hd.2 _ hm
end Go.Proofs.YtcmlclfcdhkncaaGreatDoor
/- instarlaw06's awake, over the contracts of packages forest and move. -/
namespace Go.Proofs.YtcmlclfcdhkncaaGreatDoor
open Go.RowKit
set_option maxHeartbeats 8000000 in
set_option maxRecDepth 100000 in
theorem awake6_any (w : World) (hg : ErrVar w) : Calls Tryz.prog 9 #[] w fun e w' => e = .returned (.bool true) ∧ Below w.heap.size w w' := by
  have inm : In64 (-1) := ⟨by decide, by decide⟩
  have HG := Lib.hid hg
  have C0 : Hid (∀ W, Calls Tryz.prog 36 #[.int .i64 5] W (ForPost W mv1 5 [.int .i64 0])) := Lib.hid (fun W => by
    have := newFn_any 5 W in5
    rwa [mva5.1, mva5.2.1, mva5.2.2] at this)
  have C1 : Hid (∀ W a len cap L, NodeRow W a len cap L → coreL L = mv1 → Calls Tryz.prog 37 #[forV a len cap 5, pV 112] W (ForPost W f2 5 [.int .i64 1, .int .i64 0])) := Lib.hid (fun W a len cap L h hc => by
    have := makeFn_any a len cap 5 L (pD 112) W h (pD_ok _ _) in5 (mvSmall hc (by decide +kernel)) (pD_small _)
    rw [hc, show (pD 112).core = pC 112 from rfl, mva6.1, mva6.2.1, mva6.2.2] at this
    exact this)
  have C2 : Hid (∀ W a len cap L, NodeRow W a len cap L → coreL L = f2 → ErrVar W → Calls Tryz.prog 11 #[forV a len cap 5, .int .i64 1, .int .i64 0, .int .i64 (-1)] W (MvPost W 5 (mvF3, mvN1, 0))) := Lib.hid (fun W a len cap L h hc hg => by
    have := minsert_any a len cap 5 L 1 0 (-1) W h in5 in1 in0 inm (small2 hc) hg
    rwa [hc, mva1] at this)
  have C3 : Hid (∀ W a len cap L, NodeRow W a len cap L → coreL L = mvF3 → ErrVar W → Calls Tryz.prog 20 #[forV a len cap 5, .int .i64 1, .string ⟨#[66]⟩, .string ⟨#[49]⟩] W (MvPost W 5 (mvF4, mvN2, 0))) := Lib.hid (fun W a len cap L h hc hg => by
    have := mset_any a len cap 5 L 1 ⟨#[66]⟩ ⟨#[49]⟩ W h in5 in1 (by decide) (by decide) (mvSmall hc (by decide +kernel)) hg
    rw [show (⟨#[66]⟩ : ByteArray).toList = [66] from toList_ofL [66], hc, mva2] at this
    exact this)
  have C4 : Hid (∀ W a len cap L, NodeRow W a len cap L → coreL L = mvF4 → ErrVar W → Calls Tryz.prog 12 #[forV a len cap 5, .int .i64 1] W (MvPost W 5 (mvF5, mvN3, 0))) := Lib.hid (fun W a len cap L h hc hg => by
    have := mremove_any a len cap 5 L 1 W h in5 in1 (mvSmall hc (by decide +kernel)) hg
    rwa [hc, mva3] at this)
  have C5 : Hid (∀ W a len cap L, NodeRow W a len cap L → coreL L = mvF5 → ErrVar W → Calls Tryz.prog 12 #[forV a len cap 5, .int .i64 1] W (MvPost W 5 (mvF5, [], 6))) := Lib.hid (fun W a len cap L h hc hg => by
    have := mremove_any a len cap 5 L 1 W h in5 in1 (mvSmall hc (by decide +kernel)) hg
    rwa [hc, mva4] at this)
  clear inm hg
  go_enter Tryz.func9, Tryz.ntmps9
  go_wp2_with (first
    | (go_at_call 36; refine (C0.out _).mono ?_; rintro e w1 ⟨a1, len1, cap1, L1, rfl, hr1, hc1, hb1⟩; have B1 := Lib.hid (MBox.new (m := 5) hb1 hr1 hc1); (have z0 := (B1).out.box.c0; have z1 := (B1).out.box.c1; have xf0 := (B1).out.free 0; have xf1 := (B1).out.free 1); clear hr1 hc1 hb1)
    | (go_at_call 37; ((with_reducible refine (C1.out _ _ _ _ _ B1.out.box.row B1.out.box.core).mono ?_); rintro e w2 ⟨a2, len2, cap2, L2, rfl, hr2, hc2, hb2⟩)
       have BX := Lib.hid (B1.out.keep hb2)
       clear z0 z1 xf0 xf1
       (have z0 := (BX).out.box.c0; have z1 := (BX).out.box.c1; have xf0 := (BX).out.free 0; have xf1 := (BX).out.free 1)
       have B2 := Lib.hid (BX.out.set (m2 := 5) hr2 hc2 (bare2 hc2))
       clear hr2 hc2 hb2)
    | (go_at_call 11; ((with_reducible refine (C2.out _ _ _ _ _ B2.out.box.row B2.out.box.core (HG.out.keep B2.out.box.below)).mono ?_); rintro e w3 ⟨a3, len3, cap3, L3, va3, vl3, vc3, rfl, hr3, hc3, -, hn3, hb3, hf3⟩)
       have BX := Lib.hid (B2.out.keep hb3)
       clear z0 z1 xf0 xf1
       (have z0 := (BX).out.box.c0; have z1 := (BX).out.box.c1; have xf0 := (BX).out.free 0; have xf1 := (BX).out.free 1)
       have B3 := Lib.hid (B2.out.mv (m2 := 5) hb3 hr3 hc3 hf3)
       have N1 := Lib.hid ((hn3.far (hf3 _ B2.out.box.lt).2.2 0 (.slice a3 len3 cap3)).far (hf3 _ B2.out.box.lt).2.2 1 (.int .i64 5))
       have A1 := Lib.hid ((hf3 _ B2.out.box.lt).2.2)
       clear hr3 hc3 hn3 hb3 hf3)
    | (go_at_call 20; ((with_reducible refine (C3.out _ _ _ _ _ B3.out.box.row B3.out.box.core (HG.out.keep B3.out.box.below)).mono ?_); rintro e w4 ⟨a4, len4, cap4, L4, va4, vl4, vc4, rfl, hr4, hc4, -, hn4, hb4, hf4⟩)
       have BX := Lib.hid (B3.out.keep hb4)
       clear z0 z1 xf0 xf1
       (have z0 := (BX).out.box.c0; have z1 := (BX).out.box.c1; have xf0 := (BX).out.free 0; have xf1 := (BX).out.free 1)
       have B4 := Lib.hid (B3.out.mv (m2 := 5) hb4 hr4 hc4 hf4)
       have N2 := Lib.hid ((hn4.far (hf4 _ B3.out.box.lt).2.2 0 (.slice a4 len4 cap4)).far (hf4 _ B3.out.box.lt).2.2 1 (.int .i64 5))
       have N1 := Lib.hid (((N1.out.below hb4).far A1.out 0 (.slice a4 len4 cap4)).far A1.out 1 (.int .i64 5))
       have A2 := Lib.hid ((hf4 _ B3.out.box.lt).2.2)
       clear hr4 hc4 hn4 hb4 hf4)
    | (go_at_call 12; ((with_reducible refine (C4.out _ _ _ _ _ B4.out.box.row B4.out.box.core (HG.out.keep B4.out.box.below)).mono ?_); rintro e w5 ⟨a5, len5, cap5, L5, va5, vl5, vc5, rfl, hr5, hc5, -, hn5, hb5, hf5⟩)
       have BX := Lib.hid (B4.out.keep hb5)
       clear z0 z1 xf0 xf1
       (have z0 := (BX).out.box.c0; have z1 := (BX).out.box.c1; have xf0 := (BX).out.free 0; have xf1 := (BX).out.free 1)
       have B5 := Lib.hid (B4.out.mv (m2 := 5) hb5 hr5 hc5 hf5)
       have N3 := Lib.hid ((hn5.far (hf5 _ B4.out.box.lt).2.2 0 (.slice a5 len5 cap5)).far (hf5 _ B4.out.box.lt).2.2 1 (.int .i64 5))
       have N2 := Lib.hid (((N2.out.below hb5).far A2.out 0 (.slice a5 len5 cap5)).far A2.out 1 (.int .i64 5))
       have N1 := Lib.hid (((N1.out.below hb5).far A1.out 0 (.slice a5 len5 cap5)).far A1.out 1 (.int .i64 5))
       clear hr5 hc5 hn5 hb5 hf5)
    | (go_at_call 12; ((with_reducible refine (C5.out _ _ _ _ _ B5.out.box.row B5.out.box.core (HG.out.keep B5.out.box.below)).mono ?_); rintro e w6 ⟨a6, len6, cap6, L6, va6, vl6, vc6, rfl, -, -, -, -, hb6, -⟩)
       have HX := Lib.hid (hb6.trans ((below_box w6 (forB a6 len6 cap6 5)).mono hb6.size))
       have BE := Lib.hid (B5.out.box.below.trans (HX.out.mono B5.out.box.below.size))
       obtain ⟨rfl, b1, o1, rfl, -, k1⟩ := (N1.out.below HX.out).one
       obtain ⟨rfl, b2, o2, rfl, -, k2⟩ := (N2.out.below HX.out).one
       obtain ⟨rfl, b3, o3, rfl, -, k3⟩ := (N3.out.below HX.out).one
       have p0 := k1 0 _ rfl
       have p1 := k1 1 _ rfl
       have p2 := k1 2 _ rfl
       have p3 := k1 3 _ rfl
       have p4 := k1 4 _ rfl
       have p5 := k1 5 _ rfl
       have p6 := k1 6 _ rfl
       have p7 := k1 7 _ rfl
       have p8 := k1 8 _ rfl
       have q0 := k2 0 _ rfl
       have q1 := k2 1 _ rfl
       have q2 := k2 2 _ rfl
       have q3 := k2 3 _ rfl
       have q4 := k2 4 _ rfl
       have q5 := k2 5 _ rfl
       have q6 := k2 6 _ rfl
       have q7 := k2 7 _ rfl
       have q8 := k2 8 _ rfl
       have r0 := k3 0 _ rfl
       rw [Nat.add_zero] at p0 q0 r0
       clear z0 z1 xf0 xf1 hb6 k1 k2 k3))
  go_ret
  exact ⟨rfl, BE.out⟩
end Go.Proofs.YtcmlclfcdhkncaaGreatDoor
/- What MoveBack asks, over data. Plain mathematics, no program. -/
namespace Go.Proofs.YtcmlclfcdhkncaaGreatDoor
open Go.RowKit
theorem findN_mid {A B : List Int} {y : Int} (h : y ∉ A) : findN (A ++ y :: B) y = A.length := by
  unfold findN
  have h1 : List.findIdx (fun z => z == y) A = A.length := List.findIdx_eq_length_of_false (fun z hz => beq_eq_false_iff_ne.2 (fun e => h (by rw [← e]; exact hz)))
  rw [List.findIdx_append, h1, if_neg (Nat.lt_irrefl _)]
  simp [List.findIdx_cons]
/-- A child that was taken out goes back ahead of who stood behind it. -/
theorem insB_erase {l : List Int} {z : Int} {i : Nat} (hn : l.Nodup) (h0 : ∀ y ∈ l, 0 ≤ y) (hi : l[i]? = some z) : insB (l.eraseIdx i) (match l[i + 1]? with | some y => y | none => -1) z = l := by
  obtain ⟨hl, he⟩ := List.getElem?_eq_some_iff.1 hi
  obtain ⟨A, B, hAB, hA⟩ : ∃ A B, l = A ++ z :: B ∧ A.length = i := ⟨l.take i, l.drop (i + 1), by rw [← he, ← List.drop_eq_getElem_cons hl, List.take_append_drop], by rw [List.length_take]; omega⟩
  subst hAB hA
  have e1 : (A ++ z :: B).eraseIdx A.length = A ++ B := by rw [List.eraseIdx_append_of_length_le (Nat.le_refl _), Nat.sub_self]; rfl
  have e2 : (A ++ z :: B)[A.length + 1]? = B[0]? := by rw [List.getElem?_append_right (by omega), show A.length + 1 - A.length = 1 by omega]; rfl
  rw [e1, e2]
  cases B with
  | nil => show insB (A ++ []) (-1) z = _; unfold insB; rw [if_pos rfl, List.append_nil]
  | cons y B =>
    show insB (A ++ y :: B) y z = _
    have hy : 0 ≤ y := h0 y (by simp)
    have hyA : y ∉ A := fun h => by
      have := (List.nodup_append.1 hn).2.2 y h y (by simp)
      exact this rfl
    unfold insB
    rw [if_neg (by omega), findN_mid hyA, List.take_left' rfl, List.drop_left' rfl]
/-- A child may stand where it stood. -/
theorem back_swap {m : Int} {F : List Core} (hr : rightF m F = true) {n p : Nat} {x : Core} (hx : F[n]? = some x) (hp : x.parent = (p : Int)) (hpl : p < F.length) (hnp : n ≠ p) : swapZ m F n p n = 0 := by
  have hn : n < F.length := (List.getElem?_eq_some_iff.1 hx).1
  have hne : x.parent ≠ -1 := by rw [hp]; omega
  obtain ⟨q, hq1, _, ho⟩ := mvOut_out hr hx hne
  rw [hp] at hq1
  obtain rfl : p = q := by omega
  refine (swap_facts hn hpl ho).same rfl ?_
  cases hq : overZ m F n p with
  | false => rfl
  | true => exact absurd ((treeS hr).holds_anti hn hpl ((overZ_iff hr hn hpl).1 hq) (holds_par (parS_parent hx hp))) hnp
/-- Who is taken out and put back ahead of who stood behind stands as before. -/
theorem back_ins {m : Int} {F : List Core} (hr : rightF m F = true) {n p : Nat} {x y : Core} (hx : F[n]? = some x) (hp : x.parent = (p : Int)) (hy : F[p]? = some y) (hnp : n ≠ p) :
    insZ m (mvOut F n) n p (behK F n) = (F, if connF F n then tellN F n (note 1) else [], 0) := by
  have hn : n < F.length := (List.getElem?_eq_some_iff.1 hx).1
  have hpl : p < F.length := (List.getElem?_eq_some_iff.1 hy).1
  have hne : x.parent ≠ -1 := by rw [hp]; omega
  have hnek : parentK F n ≠ -1 := by rw [parentK_at hx]; exact hne
  obtain ⟨q, hq1, _, ho⟩ := mvOut_out hr hx hne
  rw [hp] at hq1
  obtain rfl : p = q := by omega
  have hmay := (rep_may (back_swap hr hx hp hpl hnp)).1
  have e0 : (outS (F, []) n).1 = mvOut F n := by unfold outS; rw [if_neg hnek]
  rw [e0] at hmay
  have hxG := ho.ed.at_ n x hx
  have hyG := ho.ed.at_ p y hy
  have hpG : parentK (mvOut F n) n = -1 := by rw [parentK_at hxG]; show (if n = n then (-1 : Int) else x.parent) = -1; rw [if_pos rfl]
  have hbn : behK F n ≠ (n : Int) := fun e => by
    rcases beh_in ho with h1 | ⟨s, h1, _, h2⟩
    · rw [e] at h1; omega
    · rw [e] at h1
      obtain rfl : n = s := by omega
      rw [hpG] at h2
      omega
  have hbf : beforeZ m (mvOut F n) n p (behK F n) = behK F n := by unfold beforeZ; rw [if_pos hmay, if_neg hbn]
  have hk3 : kindK (mvOut F n) n ≠ 3 := by
    rw [ho.ed.kindK, kindK_at hx]
    rcases ho.kind with e | e <;> omega
  have hparts : partsZ (mvOut F n) n = [(n : Int)] := by
    rw [parts_at hxG, if_neg (by rw [kindK_at hxG] at hk3; exact hk3)]
  have hdoc : docK (mvOut F n) n = docK (mvOut F n) p := by
    rw [docK_at hxG, docK_at hyG]
    show x.doc = y.doc
    rcases (right_node hr hx).par with e | ⟨_, d, h1, _, h3⟩
    · exact absurd e hne
    · rw [hp, getC_nat, hy] at h1
      obtain rfl := Option.some.inj h1
      obtain ⟨c, h4, _, _, h5⟩ := (right_node hr hy).kids n h3
      rw [getC_nat, hx] at h4
      rw [Option.some.inj h4]
      exact h5
  have hover : overS (mvOut F n, []) n (docK (mvOut F n) p) = (mvOut F n, []) := by
    have h1 : outS (mvOut F n, []) n = (mvOut F n, []) := by unfold outS; rw [if_pos hpG]
    unfold overS
    rw [h1]
    dsimp only
    rw [if_pos hdoc]
  have hmem : (n : Int) ∈ y.kids := by
    rcases (right_node hr hx).par with e | ⟨_, d, h1, _, h3⟩
    · exact absurd e hne
    · rw [hp, getC_nat, hy] at h1
      rw [Option.some.inj h1]
      exact h3
  obtain ⟨i, hi1, hi2⟩ := find_at hmem
  have hnd := (right_node hr hy).once
  have hfn : findN y.kids n = i := by have := findZ_mem hmem; omega
  have hbk : behK F n = match y.kids[i + 1]? with | some z => z | none => -1 := by
    unfold behK
    rw [parentK_at hx, hp, kidsK_get hy, hfn]
    all_goals (cases y.kids[i + 1]? <;> rfl)
  have hback : mvIn (mvOut F n) n p (behK F n) = F := by
    apply List.ext_getElem?
    intro j
    have hin := edF_edit (mvOut F n) (fun j c => if j = n then (p : Int) else c.parent) (fun j c => if j = p then insB c.kids (behK F n) n else c.kids) (fun _ c => c.doc)
    cases hj : F[j]? with
    | none =>
      have h1 := List.getElem?_eq_none_iff.1 hj
      refine List.getElem?_eq_none ?_
      unfold mvIn
      rw [hin.len, ho.ed.len]
      exact h1
    | some c =>
      have h1 := hin.at_ j _ (ho.ed.at_ j c hj)
      unfold mvIn
      rw [h1]
      congr 1
      unfold edC
      dsimp only
      have hP : (if j = n then (p : Int) else if j = n then -1 else c.parent) = c.parent := by
        by_cases e : j = n
        · subst e
          rw [hx] at hj
          rw [if_pos rfl, ← Option.some.inj hj, hp]
        · rw [if_neg e, if_neg e]
      have hK : (if j = p then insB (if j = p then c.kids.filter (fun z => z != (n : Int)) else c.kids) (behK F n) n else if j = p then c.kids.filter (fun z => z != (n : Int)) else c.kids) = c.kids := by
        by_cases e : j = p
        · subst e
          rw [hy] at hj
          obtain rfl := Option.some.inj hj
          rw [if_pos rfl, if_pos rfl, hbk, ← erase_filter hnd hi2]
          exact insB_erase hnd (kids_nat hr hy) hi2
        · rw [if_neg e, if_neg e]
      rw [hP, hK]
  unfold insZ
  rw [if_pos hmay, hbf, Int.toNat_natCast, Int.toNat_natCast]
  have hput : putS (mvOut F n, []) n p (behK F n) = (F, if connF F n then tellN F n (note 1) else []) := by
    unfold putS
    dsimp only
    rw [hparts, if_neg hk3]
    show inS p (behK F n) (mvOut F n, []) ((n : Int)).toNat = _
    rw [Int.toNat_natCast]
    unfold inS
    dsimp only
    rw [hover]
    dsimp only
    rw [hback]
    cases connF F n <;> simp
  rw [hput]
end Go.Proofs.YtcmlclfcdhkncaaGreatDoor
