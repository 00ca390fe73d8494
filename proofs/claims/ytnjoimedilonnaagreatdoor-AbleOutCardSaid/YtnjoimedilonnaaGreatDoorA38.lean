/- Texts joined in build order: MoveRemove. -/
import Derived.Test.YtnjoimedilonnaaGreatDoorA37
namespace Go.Proofs.YtnjoimedilonnaaGreatDoor
open Go.RowKit
theorem rootZ_iff {m : Int} {F : List Core} {n : Int} : (rootZ m F n != -1) = thereF m F n := by
  unfold rootZ
  cases thereF m F n with
  | false => rfl
  | true =>
    rw [if_pos rfl]
    exact bne_iff_ne.2 (by omega)
set_option maxHeartbeats 4000000 in
theorem mknows_any (a : Option Addr) (len cap : Nat) (m : Int) (L : List NodeD) (n : Int) (w : World) (h : NodeRow w a len cap L) (hm : In64 m) (hn : In64 n) (hs : smallF L) :
    Calls Tryz.prog 34 #[forV a len cap m, .int .i64 n] w fun e w' => e = .returned (.bool (thereF m (coreL L) n)) ∧ Below w.heap.size w w' := by
  have BX := Lib.hid (Box.start (m := m) h)
  have CR : Hid (∀ W, NodeRow W a len cap L → Calls Tryz.prog 56 #[forV a len cap m, .int .i64 n] W fun e w' => e = .returned (.int .i64 (rootZ m (coreL L) n)) ∧ Below W.heap.size W w') := Lib.hid (fun W h1 => rootFn_any a len cap m L n W h1 hm hn hs)
  have HR := Lib.hid (rootZ_iff (m := m) (F := coreL L) (n := n))
  have z0 := BX.out.c0
  have z1 := BX.out.c1
  obtain ⟨r, hr⟩ : ∃ r, rootZ m (coreL L) n = r := ⟨_, rfl⟩
  rw [hr] at CR HR
  clear h hm hn hs hr
  go_enter Tryz.func34, Tryz.ntmps34
  go_wp2_with (go_at_call 56; (with_reducible refine (CR.out _ BX.out.row).mono ?_); rintro e w1 ⟨rfl, hb⟩; have BX := Lib.hid (BX.out.keep hb); clear hb)
  go_ret
  exact ⟨ret_bool HR.out, BX.out.below⟩
def remZ (m : Int) (F : List Core) (n : Int) : List Core × List NoteD × Int :=
  if thereF m F n then (if parentK F n = -1 then (F, [], 6) else ((outS (F, []) n.toNat).1, (outS (F, []) n.toNat).2, 0)) else (F, [], 1)
set_option maxHeartbeats 8000000 in
set_option maxRecDepth 100000 in
theorem mremove_any (a : Option Addr) (len cap : Nat) (m : Int) (L : List NodeD) (n : Int) (w : World) (h : NodeRow w a len cap L) (hm : In64 m) (hn : In64 n) (hs : smallF L) (hg : ErrVar w) :
    Calls Tryz.prog 14 #[forV a len cap m, .int .i64 n] w (MvPost w m (remZ m (coreL L) n)) := by
  have HCL : Hid ((coreL L).length = len) := Lib.hid (by rw [coreL_len, h.hlen])
  have hlen := h.len64
  have HS := Lib.hid hs
  have CB : Hid (∀ W, NodeRow W a len cap L → Calls Tryz.prog 24 #[forV a len cap m] W fun e w' => ∃ pw a2 cap2 M, e = .returned (workV pw) ∧ Begun W w' pw a2 len cap2 m M (coreL L)) := Lib.hid (fun W h1 => mbegin_any a len cap m L W h1 hs)
  obtain ⟨q, hq⟩ : ∃ q, thereF m (coreL L) n = q := ⟨_, rfl⟩
  have CM : Hid (∀ W, NodeRow W a len cap L → Calls Tryz.prog 34 #[forV a len cap m, .int .i64 n] W fun e w' => e = .returned (.bool q) ∧ Below W.heap.size W w') := Lib.hid (fun W h1 => by
    rw [← hq]
    exact mknows_any a len cap m L n W h1 hm hn hs)
  obtain ⟨w0, hw0, TW, HB0⟩ : ∃ w0, (w.alloc (forB a len cap m)).alloc zeroFB = w0 ∧ Hid (Two w w0 a len cap m L) ∧ Hid (Below w.heap.size w w0) := ⟨_, rfl, Lib.hid (Two.start h), Lib.hid ((below_box _ _).trans ((below_box _ _).mono (by simp)))⟩
  have HG := Lib.hid (hg.keep HB0.out)
  have HW0 := Lib.hid hw0
  have z0 := TW.out.bx.c0
  have z1 := TW.out.bx.c1
  have HH := Lib.hid h
  clear h hs hm hn hg hw0
  cases q with
  | false =>
    obtain ⟨E, hE⟩ : ∃ E : Int, E = 1 := ⟨_, rfl⟩
    have HQ : Hid (remZ m (coreL L) n = (coreL L, [], E)) := Lib.hid (by
      unfold remZ
      rw [hq, hE]
      rfl)
    clear hq
    go_enter Tryz.func14, Tryz.ntmps14
    go_upto_region 1 with fail
    rw [HW0.out]
    go_upto_region 2 with (go_at_call 24; (with_reducible refine (CB.out _ TW.out.bx.row).mono ?_); rintro e w1 ⟨pw, a2, cap2, M, rfl, hB⟩; have BG := Lib.hid hB; have TW1 := Lib.hid (TW.out.keep hB.below); have z0 := TW1.out.bx.c0; have z1 := TW1.out.bx.c1; clear hB)
    (
      have HD0 := Lib.hid BG.out.held
      have HBW := Lib.hid (held_below w1 pw)
      obtain ⟨wh, hwh⟩ : ∃ wh, w1.alloc (wkB pw) = wh := ⟨_, rfl⟩
      rw [hwh] at HD0 HBW ⊢
      have TW1 := Lib.hid (TW1.out.keep HBW.out)
      clear BG z0 z1 hwh
      have BG := HD0
      clear HD0
      have z0 := TW1.out.bx.c0
      have z1 := TW1.out.bx.c1
      have zw := BG.out.wc)
    go_upto_region 3 with (first
      | (go_at_call 34; (with_reducible refine (CM.out _ TW1.out.bx.row).mono ?_); rintro e w2 ⟨rfl, hb⟩; have BG := Lib.hid (BG.out.keep hb); have zw := BG.out.wc; have TW1 := Lib.hid (TW1.out.keep hb); have z0 := TW1.out.bx.c0; have z1 := TW1.out.bx.c1; clear hb))
    (
      have BD := Lib.hid (BG.out.keep ((Below.refl _ _).drew))
      have zw := BG.out.wc
      go_region_with (first | (go_at_call 27; (refine (mrefuse_any _ _ _).mono ?_); rintro e w' ⟨rfl, rfl⟩) | (go_at_call 26; (refine (mrefused_any BD.out (HG.out.keep BD.out.below) _ _).mono ?_); rintro e w4 ⟨rfl, hb⟩; have BG4 := Lib.hid (BD.out.keep hb); have TW4 := Lib.hid (TW.out.keep BG4.out.below); have d0 := TW4.out.rb.c0; have d1 := TW4.out.rb.c1; have f0 := TW4.out.rb.f0; have f1 := TW4.out.rb.f1; clear hb))
      all_goals go_wp2)
    all_goals (
                obtain ⟨q0, q1⟩ := stored2 TW4.out.rb (.slice a2 len cap2) (.int .i64 m)
                have hlt0 := TW.out.rb.lt
                have R5 := (BG4.out.row.far (q := w.heap.size + 1) (fun b off e => by have := BG4.out.rlo b off e; omega) (fun x hx => (BG4.out.new x hx).away hlt0) 0 (.slice a2 len cap2)).far (q := w.heap.size + 1) (fun b off e => by have := BG4.out.rlo b off e; omega) (fun x hx => (BG4.out.new x hx).away hlt0) 1 (.int .i64 m)
                have HB5 := ((HB0.out.trans (BG4.out.below.mono HB0.out.size)).setCell (p := ⟨w.heap.size + 1, 0, none⟩) (by show w.heap.size ≤ w.heap.size + 1; omega) (.slice a2 len cap2)).setCell (p := ⟨w.heap.size + 1, 1, none⟩) (by show w.heap.size ≤ w.heap.size + 1; omega) (.int .i64 m)
                refine bodyPost_ret (v := .tuple #[forV a2 len cap2 m, .slice none 0 0, .int .i64 E]) ?_ rfl ⟨a2, len, cap2, M, none, 0, 0, by rw [HQ.out], R5, by rw [HQ.out, BG4.out.core], small_core BG4.out.core HS.out, by rw [HQ.out]; exact NoteRow.nil _, HB5, fun k hk => ⟨fun b off e e2 => (by have := BG4.out.rlo b off e; have := HB0.out.size; omega), fun x hx => (BG4.out.new x hx).away (Nat.lt_of_lt_of_le hk HB0.out.size), fun b off e => (by cases e)⟩⟩)
    all_goals simp [results, Tryz.results14, go_sem, q0, q1, hE]
  | true =>
    obtain ⟨hr, k, rfl, hk⟩ := there_nat hq
    rw [HCL.out] at hk
    obtain ⟨b, off, x, hab, hb, hx, hat, -⟩ := HH.out.get hk
    subst hab
    have C5 := Lib.hid (stays hat.c5 hb)
    have HXP : Hid (parentK (coreL L) k = x.core.parent) := Lib.hid (parentK_at (coreL_get hx))
    have HRR := Lib.hid hr
    have HQ0 := Lib.hid hq
    clear hat hx hb hq hr
    by_cases hp : x.core.parent = -1
    · obtain ⟨E, hE⟩ : ∃ E : Int, E = 6 := ⟨_, rfl⟩
      have HQ : Hid (remZ m (coreL L) k = (coreL L, [], E)) := Lib.hid (by
        unfold remZ
        rw [HQ0.out, if_pos rfl, if_pos (by rw [HXP.out]; exact hp), hE])
      have e1 : (x.core.parent == -1) = true := beq_iff_eq.2 hp
      clear hp
      go_enter Tryz.func14, Tryz.ntmps14
      go_upto_region 1 with fail
      rw [HW0.out]
      go_upto_region 2 with (go_at_call 24; (with_reducible refine (CB.out _ TW.out.bx.row).mono ?_); rintro e w1 ⟨pw, a2, cap2, M, rfl, hB⟩; have BG := Lib.hid hB; have TW1 := Lib.hid (TW.out.keep hB.below); have z0 := TW1.out.bx.c0; have z1 := TW1.out.bx.c1; clear hB)
      (
        have HD0 := Lib.hid BG.out.held
        have HBW := Lib.hid (held_below w1 pw)
        obtain ⟨wh, hwh⟩ : ∃ wh, w1.alloc (wkB pw) = wh := ⟨_, rfl⟩
        rw [hwh] at HD0 HBW ⊢
        have TW1 := Lib.hid (TW1.out.keep HBW.out)
        clear BG z0 z1 hwh
        have BG := HD0
        clear HD0
        have z0 := TW1.out.bx.c0
        have z1 := TW1.out.bx.c1
        have zw := BG.out.wc)
      go_upto_region 5 with (first
        | (go_at_call 34; (with_reducible refine (CM.out _ TW1.out.bx.row).mono ?_); rintro e w2 ⟨rfl, hb⟩; have BG := Lib.hid (BG.out.keep hb); have zw := BG.out.wc; have TW1 := Lib.hid (TW1.out.keep hb); have z0 := TW1.out.bx.c0; have z1 := TW1.out.bx.c1; have c5 := C5.out _ (HB0.out.trans (BG.out.below.mono HB0.out.size)); clear hb))
      (
        have BD := Lib.hid (BG.out.keep ((Below.refl _ _).drew))
        have zw := BG.out.wc
        go_region_with (first | (go_at_call 27; (refine (mrefuse_any _ _ _).mono ?_); rintro e w' ⟨rfl, rfl⟩) | (go_at_call 26; (refine (mrefused_any BD.out (HG.out.keep BD.out.below) _ _).mono ?_); rintro e w4 ⟨rfl, hb⟩; have BG4 := Lib.hid (BD.out.keep hb); have TW4 := Lib.hid (TW.out.keep BG4.out.below); have d0 := TW4.out.rb.c0; have d1 := TW4.out.rb.c1; have f0 := TW4.out.rb.f0; have f1 := TW4.out.rb.f1; clear hb))
        all_goals go_wp2)
      all_goals (
                  obtain ⟨q0, q1⟩ := stored2 TW4.out.rb (.slice a2 len cap2) (.int .i64 m)
                  have hlt0 := TW.out.rb.lt
                  have R5 := (BG4.out.row.far (q := w.heap.size + 1) (fun b off e => by have := BG4.out.rlo b off e; omega) (fun x hx => (BG4.out.new x hx).away hlt0) 0 (.slice a2 len cap2)).far (q := w.heap.size + 1) (fun b off e => by have := BG4.out.rlo b off e; omega) (fun x hx => (BG4.out.new x hx).away hlt0) 1 (.int .i64 m)
                  have HB5 := ((HB0.out.trans (BG4.out.below.mono HB0.out.size)).setCell (p := ⟨w.heap.size + 1, 0, none⟩) (by show w.heap.size ≤ w.heap.size + 1; omega) (.slice a2 len cap2)).setCell (p := ⟨w.heap.size + 1, 1, none⟩) (by show w.heap.size ≤ w.heap.size + 1; omega) (.int .i64 m)
                  refine bodyPost_ret (v := .tuple #[forV a2 len cap2 m, .slice none 0 0, .int .i64 E]) ?_ rfl ⟨a2, len, cap2, M, none, 0, 0, by rw [HQ.out], R5, by rw [HQ.out, BG4.out.core], small_core BG4.out.core HS.out, by rw [HQ.out]; exact NoteRow.nil _, HB5, fun k hk => ⟨fun b off e e2 => (by have := BG4.out.rlo b off e; have := HB0.out.size; omega), fun x hx => (BG4.out.new x hx).away (Nat.lt_of_lt_of_le hk HB0.out.size), fun b off e => (by cases e)⟩⟩)
      all_goals simp [results, Tryz.results14, go_sem, q0, q1, hE]
    · have HQ : Hid (remZ m (coreL L) k = ((outS (coreL L, []) k).1, (outS (coreL L, []) k).2, 0)) := Lib.hid (by
        unfold remZ
        rw [HQ0.out, if_pos rfl, if_neg (by rw [HXP.out]; exact hp), Int.toNat_natCast])
      have e1 : (x.core.parent == -1) = false := beq_eq_false_iff_ne.2 hp
      have HP := Lib.hid hp
      clear hp
      go_enter Tryz.func14, Tryz.ntmps14
      go_upto_region 1 with fail
      rw [HW0.out]
      go_upto_region 2 with (go_at_call 24; (with_reducible refine (CB.out _ TW.out.bx.row).mono ?_); rintro e w1 ⟨pw, a2, cap2, M, rfl, hB⟩; have BG := Lib.hid hB; have TW1 := Lib.hid (TW.out.keep hB.below); have z0 := TW1.out.bx.c0; have z1 := TW1.out.bx.c1; clear hB)
      (
        have HD0 := Lib.hid BG.out.held
        have HBW := Lib.hid (held_below w1 pw)
        obtain ⟨wh, hwh⟩ : ∃ wh, w1.alloc (wkB pw) = wh := ⟨_, rfl⟩
        rw [hwh] at HD0 HBW ⊢
        have TW1 := Lib.hid (TW1.out.keep HBW.out)
        clear BG z0 z1 hwh
        have BG := HD0
        clear HD0
        have z0 := TW1.out.bx.c0
        have z1 := TW1.out.bx.c1
        have zw := BG.out.wc)
      go_wp2_with (first
        | (go_at_call 34; (with_reducible refine (CM.out _ TW1.out.bx.row).mono ?_); rintro e w2 ⟨rfl, hb⟩; have BG := Lib.hid (BG.out.keep hb); have zw := BG.out.wc; have TW1 := Lib.hid (TW1.out.keep hb); have z0 := TW1.out.bx.c0; have z1 := TW1.out.bx.c1; have c5 := C5.out _ (HB0.out.trans (BG.out.below.mono HB0.out.size)); clear hb)
        | (go_at_call 35; obtain ⟨g, ρ, rfl, hwk, hρ, hwb⟩ := BG.out.wk (by omega); have HBC := Lib.hid BG.out.core; (refine (mgoOut_any _ hwk (by rw [HBC.out]; exact HRR.out) (small_core HBC.out HS.out) k hk (by rw [HBC.out, HXP.out]; exact HP.out) (by simp)).mono ?_); rintro e w3 ⟨rfl, ρ3, M3, v3, N3, hW3, hT3, hA3, hE3, hS3, hR3⟩; obtain ⟨va, vc, rfl, hNR⟩ := hW3.notes; have W3 := Lib.hid hW3; have E3 := Lib.hid hE3; have S3 := Lib.hid hS3; have HB3 := Lib.hid (BG.out.below.trans (hT3.below BG.out.below.size hρ)); have A3 : Hid (∀ k, k < w0.heap.size → ρ3 k = 0) := (Lib.hid (fun k hk => (hA3 k (Nat.lt_of_lt_of_le hk BG.out.below.size)).trans (hρ k hk))); have zw := (hT3.cell BG.out.wlt hwb).trans BG.out.wc; clear hW3 hT3 hA3 hE3 hS3 hR3 hNR hwk hρ hwb)
        | (go_at_call 26; (refine (mended_any W3.out).mono ?_); rintro e w4 ⟨rfl, hb⟩; have HB4 := Lib.hid (HB3.out.trans (hb.mono HB3.out.size)); have HB34 := Lib.hid hb; have TW4 := Lib.hid (TW.out.keep HB4.out); have d0 := TW4.out.rb.c0; have d1 := TW4.out.rb.c1; have f0 := TW4.out.rb.f0; have f1 := TW4.out.rb.f1; clear hb))
      (
        obtain ⟨q0, q1⟩ := stored2 TW4.out.rb (.slice (some ⟨g, 0, none⟩) len cap2) (.int .i64 m)
        obtain ⟨ρ5, W5⟩ := (W3.out.keep HB34.out).stored (b := w.heap.size + 1) (B := w0.heap.size) TW.out.rb.lt HB4.out.size A3.out 0 1 (.slice (some ⟨g, 0, none⟩) len cap2) (.int .i64 m)
        obtain ⟨va', vc', hv', NR5⟩ := W5.notes
        injection hv' with e2 e3 e4
        subst e2 e4
        have HB5 := ((HB0.out.trans (HB4.out.mono HB0.out.size)).setCell (p := ⟨w.heap.size + 1, 0, none⟩) (by show w.heap.size ≤ w.heap.size + 1; omega) (.slice (some ⟨g, 0, none⟩) len cap2)).setCell (p := ⟨w.heap.size + 1, 1, none⟩) (by show w.heap.size ≤ w.heap.size + 1; omega) (.int .i64 m)
        refine bodyPost_ret (v := .tuple #[forV (some ⟨g, 0, none⟩) len cap2 m, .slice va N3.length vc, .int .i64 0]) ?_ rfl ⟨some ⟨g, 0, none⟩, len, cap2, M3, va, N3.length, vc, by rw [HQ.out], W5.row, by rw [HQ.out, ← HBC.out, ← E3.out], S3.out, by rw [HQ.out, ← HBC.out, ← E3.out]; exact NR5, HB5, (W3.out.news A3.out).mono HB0.out.size⟩)
      simp [results, Tryz.results14, go_sem, q0, q1]
end Go.Proofs.YtnjoimedilonnaaGreatDoor
