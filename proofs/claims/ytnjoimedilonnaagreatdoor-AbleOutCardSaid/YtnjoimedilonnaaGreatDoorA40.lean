/- Texts joined in build order: MoveUnset. -/
import Derived.Test.YtnjoimedilonnaaGreatDoorA39
import Derived.Test.YtnjoimedilonnaaGreatDoorA16
namespace Go.Proofs.YtnjoimedilonnaaGreatDoor
open Go.RowKit
def unsZ (m : Int) (F : List Core) (n : Int) (s : List UInt8) : List Core × List NoteD × Int :=
  if elemE m F n = 0 then (if fitE s = 0 then (if hasA (attrsK F n) s then chgZ F n s (remA (attrsK F n) s) else (F, [], 0)) else (F, [], fitE s)) else (F, [], elemE m F n)
set_option maxHeartbeats 8000000 in
set_option maxRecDepth 100000 in
theorem munset_any (a : Option Addr) (len cap : Nat) (m : Int) (L : List NodeD) (n : Int) (s : ByteArray) (w : World) (h : NodeRow w a len cap L) (hm : In64 m) (hn : In64 n) (hsz : s.size ≤ maxLen) (hs : smallF L) (hg : ErrVar w) :
    Calls Tryz.prog 16 #[forV a len cap m, .int .i64 n, .string s] w (MvPost w m (unsZ m (coreL L) n s.toList)) := by
  have HCL : Hid ((coreL L).length = len) := Lib.hid (by rw [coreL_len, h.hlen])
  have hlen := h.len64
  have HS := Lib.hid hs
  have HSZ := Lib.hid hsz
  have CB : Hid (∀ W, NodeRow W a len cap L → Calls Tryz.prog 24 #[forV a len cap m] W fun e w' => ∃ pw a2 cap2 M, e = .returned (workV pw) ∧ Begun W w' pw a2 len cap2 m M (coreL L)) := Lib.hid (fun W h1 => mbegin_any a len cap m L W h1 hs)
  obtain ⟨E, hE⟩ : ∃ E, elemE m (coreL L) n = E := ⟨_, rfl⟩
  have CM : Hid (∀ W, NodeRow W a len cap L → Calls Tryz.prog 25 #[forV a len cap m, .int .i64 n] W fun e w' => e = .returned (.int .i64 E) ∧ Below W.heap.size W w') := Lib.hid (fun W h1 => by
    rw [← hE]
    exact melem_any a len cap m L n W h1 hm hn hs)
  obtain ⟨w0, hw0, TW, HB0⟩ : ∃ w0, (w.alloc (forB a len cap m)).alloc zeroFB = w0 ∧ Hid (Two w w0 a len cap m L) ∧ Hid (Below w.heap.size w w0) := ⟨_, rfl, Lib.hid (Two.start h), Lib.hid ((below_box _ _).trans ((below_box _ _).mono (by simp)))⟩
  have HG := Lib.hid (hg.keep HB0.out)
  have HW0 := Lib.hid hw0
  have z0 := TW.out.bx.c0
  have z1 := TW.out.bx.c1
  have HH := Lib.hid h
  clear h hm hn hg hw0 hsz
  by_cases h0 : E = 0
  · subst h0
    obtain ⟨k, rfl, hk, b, off, x, EI⟩ := elem_in HH.out hs hE
    have HK := Lib.hid hk
    have H1K : Hid (len ≤ 1000) := Lib.hid (by rw [← HH.out.hlen]; exact hs.1)
    have C4 := Lib.hid (stays EI.c4 EI.hb)
    have HEI := Lib.hid EI
    have hab := EI.ha
    subst hab
    have HAK := Lib.hid EI.is
    have HE := Lib.hid hE
    clear EI hE hs
    obtain ⟨E, hz⟩ : ∃ E, fitE s.toList = E := ⟨_, rfl⟩
    have CF : Hid (∀ W, Calls Tryz.prog 38 #[.string s] W fun e w' => e = .returned (.tuple #[.string (ofL (fitL s.toList)), .int .i64 E]) ∧ Below W.heap.size W w') := Lib.hid (fun W => by
      rw [← hz]
      exact fit_any s W HSZ.out)
    by_cases h0 : E = 0
    · subst h0
      obtain ⟨lA, hlA⟩ : ∃ lA, remA x.core.attrs s.toList = lA := ⟨_, rfl⟩
      have HLN : Hid (lA.length ≤ 1000) := Lib.hid (by rw [← hlA]; exact remA_len HEI.out.short)
      obtain ⟨q, hq⟩ : ∃ q, hasA x.core.attrs s.toList = q := ⟨_, rfl⟩
      have CA : Hid (∀ W, Below w.heap.size w W → Calls Tryz.prog 39 #[.slice x.aA x.aN x.aC, .string s] W (RemNew W lA q)) := Lib.hid (fun W hb => by
        rw [← hlA, ← hq]
        exact attrrem_any _ _ _ _ s W (HEI.out.row.below hb) HSZ.out HEI.out.short)
      cases q with
      | true =>
        have HQ : Hid (unsZ m (coreL L) k s.toList = chgZ (coreL L) k s.toList lA) := Lib.hid (by
          unfold unsZ
          rw [if_pos HE.out, if_pos hz, ← HAK.out, hq, if_pos rfl, hlA])
        clear hz hlA hq
        go_enter Tryz.func16, Tryz.ntmps16
        go_upto_region 1 with fail
        rw [HW0.out]
        go_upto_region 2 with (go_at_call 24; (with_reducible refine (CB.out _ TW.out.bx.row).mono ?_); rintro e w1 ⟨pw, a2, cap2, M, rfl, hB⟩; have BG := Lib.hid hB; have TW1 := Lib.hid (TW.out.keep hB.below); have z0 := TW1.out.bx.c0; have z1 := TW1.out.bx.c1; clear hB)
        (
          have HD0 := Lib.hid BG.out.held
          have HBW := Lib.hid (held_below w1 pw)
          obtain ⟨wh, hwh⟩ : ∃ wh, w1.alloc (wkB pw) = wh := ⟨_, rfl⟩
          rw [hwh] at HD0 HBW ⊢
          have TW1 := Lib.hid (TW1.out.keep HBW.out)
          clear BG z0 z1 hwh
          have BG := HD0
          clear HD0
          have z0 := TW1.out.bx.c0
          have z1 := TW1.out.bx.c1
          have zw := BG.out.wc)
        go_wp2_with (first
          | (go_at_call 25; (with_reducible refine (CM.out _ TW1.out.bx.row).mono ?_); rintro e w2 ⟨rfl, hb⟩; have BG := Lib.hid (BG.out.keep hb); have TW1 := Lib.hid (TW1.out.keep hb); have z0 := TW1.out.bx.c0; have z1 := TW1.out.bx.c1; clear hb)
          | (go_at_call 38; (with_reducible refine (CF.out _).mono ?_); rintro e w5 ⟨rfl, hb⟩; have BG := Lib.hid (BG.out.keep hb); have zw := BG.out.wc; have TW1 := Lib.hid (TW1.out.keep hb); have z0 := TW1.out.bx.c0; have z1 := TW1.out.bx.c1; have c4 := C4.out _ (HB0.out.trans (BG.out.below.mono HB0.out.size)); clear hb)
          | (go_at_call 39; obtain ⟨g, ρ, rfl, hwk, hρ, hwb⟩ := BG.out.wk (by omega); have HBC := Lib.hid BG.out.core; obtain ⟨y, hy⟩ : ∃ y, M[k]? = some y := ⟨_, List.getElem?_eq_getElem (by rw [hwk.hlen]; exact HK.out)⟩; have HY := Lib.hid hy; (with_reducible refine (CA.out _ (HB0.out.trans (BG.out.below.mono HB0.out.size))).mono ?_); rintro e w3 ⟨al, ln, lc, rfl, halr, hb, haln⟩; have ALR := Lib.hid halr; have ARF : Hid (∀ b off, al = some ⟨b, off, none⟩ → 0 < ln → ρ b = 0 ∧ g < b) := (Lib.hid (fun b off e _ => ⟨hwk.fresh b (haln b off e), Nat.lt_of_lt_of_le hwk.glt (haln b off e)⟩)); have HRO := Lib.hid hρ; have HWB := Lib.hid hwb; have W2 := Lib.hid (hwk.keep hb); have BG := Lib.hid (BG.out.keep hb); have zw := BG.out.wc; have TW1 := Lib.hid (TW1.out.keep hb); have z0 := TW1.out.bx.c0; have z1 := TW1.out.bx.c1; clear hb hwk hρ hwb halr haln hy)
          | (go_at_call 29; (refine (mchange_any _ W2.out k HK.out H1K.out y HY.out s HSZ.out al ln lc _ ALR.out ARF.out (by simp)).mono ?_); rintro e w4 ⟨rfl, ρ3, M3, v3, N3, hW3, hT3, hA3, hM3, hN3⟩; obtain ⟨va, vc, rfl, hNR⟩ := hW3.notes; have W3 := Lib.hid hW3; have EM3 := Lib.hid hM3; have EN3 := Lib.hid hN3; have HB3 := Lib.hid (BG.out.below.trans (hT3.below BG.out.below.size HRO.out)); have A3 : Hid (∀ k, k < w0.heap.size → ρ3 k = 0) := (Lib.hid (fun k hk => (hA3 k (Nat.lt_of_lt_of_le hk BG.out.below.size)).trans (HRO.out k hk))); have zw := (hT3.cell BG.out.wlt HWB.out).trans BG.out.wc; clear hW3 hT3 hA3 hM3 hN3 hNR)
          | (go_at_call 26; (refine (mended_any W3.out).mono ?_); rintro e w4 ⟨rfl, hb⟩; have HB4 := Lib.hid (HB3.out.trans (hb.mono HB3.out.size)); have HB34 := Lib.hid hb; have TW4 := Lib.hid (TW.out.keep HB4.out); have d0 := TW4.out.rb.c0; have d1 := TW4.out.rb.c1; have f0 := TW4.out.rb.f0; have f1 := TW4.out.rb.f1; clear hb))
        (
          obtain ⟨q0, q1⟩ := stored2 TW4.out.rb (.slice (some ⟨g, 0, none⟩) len cap2) (.int .i64 m)
          obtain ⟨ρ5, W5⟩ := (W3.out.keep HB34.out).stored (b := w.heap.size + 1) (B := w0.heap.size) TW.out.rb.lt HB4.out.size A3.out 0 1 (.slice (some ⟨g, 0, none⟩) len cap2) (.int .i64 m)
          obtain ⟨va', vc', hv', NR5⟩ := W5.notes
          injection hv' with e2 e3 e4
          subst e2 e4
          have HB5 := ((HB0.out.trans (HB4.out.mono HB0.out.size)).setCell (p := ⟨w.heap.size + 1, 0, none⟩) (by show w.heap.size ≤ w.heap.size + 1; omega) (.slice (some ⟨g, 0, none⟩) len cap2)).setCell (p := ⟨w.heap.size + 1, 1, none⟩) (by show w.heap.size ≤ w.heap.size + 1; omega) (.int .i64 m)
          have hcd := chg_done (s := s.toList) (l := lA) (al := al) (ln := ln) (lc := lc) HBC.out HY.out
          refine bodyPost_ret (v := .tuple #[forV (some ⟨g, 0, none⟩) len cap2 m, .slice va N3.length vc, .int .i64 0]) ?_ rfl ⟨some ⟨g, 0, none⟩, len, cap2, M3, va, N3.length, vc, by rw [HQ.out]; rfl, W5.row, by rw [HQ.out, EM3.out]; exact hcd.1, by rw [EM3.out]; exact small_setA (small_core HBC.out HS.out) HY.out _ _ _ _ HLN.out, by rw [HQ.out, ← hcd.2, ← EN3.out]; exact NR5, HB5, (W3.out.news A3.out).mono HB0.out.size⟩)
        simp [results, Tryz.results16, go_sem, q0, q1]
      | false =>
        obtain ⟨E, hE⟩ : ∃ E : Int, E = 0 := ⟨_, rfl⟩
        have HQ : Hid (unsZ m (coreL L) k s.toList = (coreL L, [], E)) := Lib.hid (by
          unfold unsZ
          rw [if_pos HE.out, if_pos hz, ← HAK.out, hq, if_neg (by decide), hE])
        clear hz hlA hq
        go_enter Tryz.func16, Tryz.ntmps16
        go_upto_region 1 with fail
        rw [HW0.out]
        go_upto_region 2 with (go_at_call 24; (with_reducible refine (CB.out _ TW.out.bx.row).mono ?_); rintro e w1 ⟨pw, a2, cap2, M, rfl, hB⟩; have BG := Lib.hid hB; have TW1 := Lib.hid (TW.out.keep hB.below); have z0 := TW1.out.bx.c0; have z1 := TW1.out.bx.c1; clear hB)
        (
          have HD0 := Lib.hid BG.out.held
          have HBW := Lib.hid (held_below w1 pw)
          obtain ⟨wh, hwh⟩ : ∃ wh, w1.alloc (wkB pw) = wh := ⟨_, rfl⟩
          rw [hwh] at HD0 HBW ⊢
          have TW1 := Lib.hid (TW1.out.keep HBW.out)
          clear BG z0 z1 hwh
          have BG := HD0
          clear HD0
          have z0 := TW1.out.bx.c0
          have z1 := TW1.out.bx.c1
          have zw := BG.out.wc)
        go_wp2_with (first
          | (go_at_call 25; (with_reducible refine (CM.out _ TW1.out.bx.row).mono ?_); rintro e w2 ⟨rfl, hb⟩; have BG := Lib.hid (BG.out.keep hb); have TW1 := Lib.hid (TW1.out.keep hb); have z0 := TW1.out.bx.c0; have z1 := TW1.out.bx.c1; clear hb)
          | (go_at_call 38; (with_reducible refine (CF.out _).mono ?_); rintro e w5 ⟨rfl, hb⟩; have BG := Lib.hid (BG.out.keep hb); have zw := BG.out.wc; have TW1 := Lib.hid (TW1.out.keep hb); have z0 := TW1.out.bx.c0; have z1 := TW1.out.bx.c1; have c4 := C4.out _ (HB0.out.trans (BG.out.below.mono HB0.out.size)); clear hb)
          | (go_at_call 39; (with_reducible refine (CA.out _ (HB0.out.trans (BG.out.below.mono HB0.out.size))).mono ?_); rintro e w3 ⟨al, ln, lc, rfl, -, hb, -⟩; have BG := Lib.hid (BG.out.keep hb); have zw := BG.out.wc; have TW1 := Lib.hid (TW1.out.keep hb); have z0 := TW1.out.bx.c0; have z1 := TW1.out.bx.c1; clear hb)
          | (go_at_call 26; (refine (mend_any _ pw a2 none len cap2 0 0 m _ 0 BG.out.c0 BG.out.c1 BG.out.c2 BG.out.lt (fun W _ => mwhyNil_any W)).mono ?_); rintro e w4 ⟨rfl, hb⟩; have BG4 := Lib.hid (BG.out.keep hb); have TW4 := Lib.hid (TW.out.keep BG4.out.below); have d0 := TW4.out.rb.c0; have d1 := TW4.out.rb.c1; have f0 := TW4.out.rb.f0; have f1 := TW4.out.rb.f1; clear hb))
        (
          obtain ⟨q0, q1⟩ := stored2 TW4.out.rb (.slice a2 len cap2) (.int .i64 m)
          have hlt0 := TW.out.rb.lt
          have R5 := (BG4.out.row.far (q := w.heap.size + 1) (fun b off e => by have := BG4.out.rlo b off e; omega) (fun x hx => (BG4.out.new x hx).away hlt0) 0 (.slice a2 len cap2)).far (q := w.heap.size + 1) (fun b off e => by have := BG4.out.rlo b off e; omega) (fun x hx => (BG4.out.new x hx).away hlt0) 1 (.int .i64 m)
          have HB5 := ((HB0.out.trans (BG4.out.below.mono HB0.out.size)).setCell (p := ⟨w.heap.size + 1, 0, none⟩) (by show w.heap.size ≤ w.heap.size + 1; omega) (.slice a2 len cap2)).setCell (p := ⟨w.heap.size + 1, 1, none⟩) (by show w.heap.size ≤ w.heap.size + 1; omega) (.int .i64 m)
          refine bodyPost_ret (v := .tuple #[forV a2 len cap2 m, .slice none 0 0, .int .i64 E]) ?_ rfl ⟨a2, len, cap2, M, none, 0, 0, by rw [HQ.out], R5, by rw [HQ.out, BG4.out.core], small_core BG4.out.core HS.out, by rw [HQ.out]; exact NoteRow.nil _, HB5, fun k hk => ⟨fun b off e e2 => (by have := BG4.out.rlo b off e; have := HB0.out.size; omega), fun x hx => (BG4.out.new x hx).away (Nat.lt_of_lt_of_le hk HB0.out.size), fun b off e => (by cases e)⟩⟩)
        simp [results, Tryz.results16, go_sem, q0, q1, hE]
    · have HQ : Hid (unsZ m (coreL L) k s.toList = (coreL L, [], E)) := Lib.hid (by
        unfold unsZ
        rw [if_pos HE.out, hz, if_neg h0])
      have e1 : (E != 0) = true := bne_iff_ne.2 h0
      clear hz h0
      go_enter Tryz.func16, Tryz.ntmps16
      go_upto_region 1 with fail
      rw [HW0.out]
      go_upto_region 2 with (go_at_call 24; (with_reducible refine (CB.out _ TW.out.bx.row).mono ?_); rintro e w1 ⟨pw, a2, cap2, M, rfl, hB⟩; have BG := Lib.hid hB; have TW1 := Lib.hid (TW.out.keep hB.below); have z0 := TW1.out.bx.c0; have z1 := TW1.out.bx.c1; clear hB)
      (
        have HD0 := Lib.hid BG.out.held
        have HBW := Lib.hid (held_below w1 pw)
        obtain ⟨wh, hwh⟩ : ∃ wh, w1.alloc (wkB pw) = wh := ⟨_, rfl⟩
        rw [hwh] at HD0 HBW ⊢
        have TW1 := Lib.hid (TW1.out.keep HBW.out)
        clear BG z0 z1 hwh
        have BG := HD0
        clear HD0
        have z0 := TW1.out.bx.c0
        have z1 := TW1.out.bx.c1
        have zw := BG.out.wc)
      go_upto_region 7 with (first
        | (go_at_call 25; (with_reducible refine (CM.out _ TW1.out.bx.row).mono ?_); rintro e w2 ⟨rfl, hb⟩; have BG := Lib.hid (BG.out.keep hb); have TW1 := Lib.hid (TW1.out.keep hb); have z0 := TW1.out.bx.c0; have z1 := TW1.out.bx.c1; clear hb)
        | (go_at_call 38; (with_reducible refine (CF.out _).mono ?_); rintro e w5 ⟨rfl, hb⟩; have BG := Lib.hid (BG.out.keep hb); have zw := BG.out.wc; have TW1 := Lib.hid (TW1.out.keep hb); have z0 := TW1.out.bx.c0; have z1 := TW1.out.bx.c1; clear hb))
      (
        have BD := Lib.hid (BG.out.keep ((Below.refl _ _).drew))
        have zw := BG.out.wc
        go_region_with (first | (go_at_call 27; (refine (mrefuse_any _ _ _).mono ?_); rintro e w' ⟨rfl, rfl⟩) | (go_at_call 26; (refine (mrefused_any BD.out (HG.out.keep BD.out.below) _ _).mono ?_); rintro e w4 ⟨rfl, hb⟩; have BG4 := Lib.hid (BD.out.keep hb); have TW4 := Lib.hid (TW.out.keep BG4.out.below); have d0 := TW4.out.rb.c0; have d1 := TW4.out.rb.c1; have f0 := TW4.out.rb.f0; have f1 := TW4.out.rb.f1; clear hb))
        all_goals go_wp2)
      all_goals (
                  obtain ⟨q0, q1⟩ := stored2 TW4.out.rb (.slice a2 len cap2) (.int .i64 m)
                  have hlt0 := TW.out.rb.lt
                  have R5 := (BG4.out.row.far (q := w.heap.size + 1) (fun b off e => by have := BG4.out.rlo b off e; omega) (fun x hx => (BG4.out.new x hx).away hlt0) 0 (.slice a2 len cap2)).far (q := w.heap.size + 1) (fun b off e => by have := BG4.out.rlo b off e; omega) (fun x hx => (BG4.out.new x hx).away hlt0) 1 (.int .i64 m)
                  have HB5 := ((HB0.out.trans (BG4.out.below.mono HB0.out.size)).setCell (p := ⟨w.heap.size + 1, 0, none⟩) (by show w.heap.size ≤ w.heap.size + 1; omega) (.slice a2 len cap2)).setCell (p := ⟨w.heap.size + 1, 1, none⟩) (by show w.heap.size ≤ w.heap.size + 1; omega) (.int .i64 m)
                  refine bodyPost_ret (v := .tuple #[forV a2 len cap2 m, .slice none 0 0, .int .i64 E]) ?_ rfl ⟨a2, len, cap2, M, none, 0, 0, by rw [HQ.out], R5, by rw [HQ.out, BG4.out.core], small_core BG4.out.core HS.out, by rw [HQ.out]; exact NoteRow.nil _, HB5, fun k hk => ⟨fun b off e e2 => (by have := BG4.out.rlo b off e; have := HB0.out.size; omega), fun x hx => (BG4.out.new x hx).away (Nat.lt_of_lt_of_le hk HB0.out.size), fun b off e => (by cases e)⟩⟩)
      all_goals simp [results, Tryz.results16, go_sem, q0, q1]
  · have HQ : Hid (unsZ m (coreL L) n s.toList = (coreL L, [], E)) := Lib.hid (by
      unfold unsZ
      rw [hE, if_neg h0])
    have e1 : (E != 0) = true := bne_iff_ne.2 h0
    clear hE h0 hs
    go_enter Tryz.func16, Tryz.ntmps16
    go_upto_region 1 with fail
    rw [HW0.out]
    go_upto_region 2 with (go_at_call 24; (with_reducible refine (CB.out _ TW.out.bx.row).mono ?_); rintro e w1 ⟨pw, a2, cap2, M, rfl, hB⟩; have BG := Lib.hid hB; have TW1 := Lib.hid (TW.out.keep hB.below); have z0 := TW1.out.bx.c0; have z1 := TW1.out.bx.c1; clear hB)
    (
      have HD0 := Lib.hid BG.out.held
      have HBW := Lib.hid (held_below w1 pw)
      obtain ⟨wh, hwh⟩ : ∃ wh, w1.alloc (wkB pw) = wh := ⟨_, rfl⟩
      rw [hwh] at HD0 HBW ⊢
      have TW1 := Lib.hid (TW1.out.keep HBW.out)
      clear BG z0 z1 hwh
      have BG := HD0
      clear HD0
      have z0 := TW1.out.bx.c0
      have z1 := TW1.out.bx.c1
      have zw := BG.out.wc)
    go_upto_region 4 with (first
      | (go_at_call 25; (with_reducible refine (CM.out _ TW1.out.bx.row).mono ?_); rintro e w2 ⟨rfl, hb⟩; have BG := Lib.hid (BG.out.keep hb); have TW1 := Lib.hid (TW1.out.keep hb); have z0 := TW1.out.bx.c0; have z1 := TW1.out.bx.c1; clear hb))
    (
      have BD := Lib.hid (BG.out.keep ((Below.refl _ _).drew))
      have zw := BG.out.wc
      go_region_with (first | (go_at_call 27; (refine (mrefuse_any _ _ _).mono ?_); rintro e w' ⟨rfl, rfl⟩) | (go_at_call 26; (refine (mrefused_any BD.out (HG.out.keep BD.out.below) _ _).mono ?_); rintro e w4 ⟨rfl, hb⟩; have BG4 := Lib.hid (BD.out.keep hb); have TW4 := Lib.hid (TW.out.keep BG4.out.below); have d0 := TW4.out.rb.c0; have d1 := TW4.out.rb.c1; have f0 := TW4.out.rb.f0; have f1 := TW4.out.rb.f1; clear hb))
      all_goals go_wp2)
    all_goals (
                obtain ⟨q0, q1⟩ := stored2 TW4.out.rb (.slice a2 len cap2) (.int .i64 m)
                have hlt0 := TW.out.rb.lt
                have R5 := (BG4.out.row.far (q := w.heap.size + 1) (fun b off e => by have := BG4.out.rlo b off e; omega) (fun x hx => (BG4.out.new x hx).away hlt0) 0 (.slice a2 len cap2)).far (q := w.heap.size + 1) (fun b off e => by have := BG4.out.rlo b off e; omega) (fun x hx => (BG4.out.new x hx).away hlt0) 1 (.int .i64 m)
                have HB5 := ((HB0.out.trans (BG4.out.below.mono HB0.out.size)).setCell (p := ⟨w.heap.size + 1, 0, none⟩) (by show w.heap.size ≤ w.heap.size + 1; omega) (.slice a2 len cap2)).setCell (p := ⟨w.heap.size + 1, 1, none⟩) (by show w.heap.size ≤ w.heap.size + 1; omega) (.int .i64 m)
                refine bodyPost_ret (v := .tuple #[forV a2 len cap2 m, .slice none 0 0, .int .i64 E]) ?_ rfl ⟨a2, len, cap2, M, none, 0, 0, by rw [HQ.out], R5, by rw [HQ.out, BG4.out.core], small_core BG4.out.core HS.out, by rw [HQ.out]; exact NoteRow.nil _, HB5, fun k hk => ⟨fun b off e e2 => (by have := BG4.out.rlo b off e; have := HB0.out.size; omega), fun x hx => (BG4.out.new x hx).away (Nat.lt_of_lt_of_le hk HB0.out.size), fun b off e => (by cases e)⟩⟩)
    all_goals simp [results, Tryz.results16, go_sem, q0, q1]
end Go.Proofs.YtnjoimedilonnaaGreatDoor
