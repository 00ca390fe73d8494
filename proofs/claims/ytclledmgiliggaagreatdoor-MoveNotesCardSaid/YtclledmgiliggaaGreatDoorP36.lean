/- Texts joined in build order: MoveReplace MoveBackMath. -/
import Derived.Test.YtclledmgiliggaaGreatDoorP35
namespace Go.Proofs.YtclledmgiliggaaGreatDoor
open Go.RowKit
def repS (m : Int) (F : List Core) (n p c : Int) : St :=
  putS (outS (F, []) c.toNat) n.toNat p.toNat (beforeZ m (outS (F, []) c.toNat).1 n p (behK F c))
def repZ (m : Int) (F : List Core) (n p c : Int) : List Core × List NoteD × Int :=
  if swapZ m F n p c = 0 then ((repS m F n p c).1, (repS m F n p c).2, 0) else (F, [], swapZ m F n p c)
theorem rep_may {m : Int} {F : List Core} {n p c : Nat} (h : swapZ m F n p c = 0) : mayZ m (outS (F, []) c).1 n p (behK F c) = 0 ∧ parentK F c ≠ -1 := by
  obtain ⟨hk, _, hpc⟩ := swap_ok h
  obtain ⟨hr, ⟨n', e1, hn⟩, ⟨p', e2, hp⟩, hcc⟩ := vknows_nat hk
  obtain rfl : n = n' := by omega
  obtain rfl : p = p' := by omega
  have hc : c < F.length := by
    rcases hcc with e | ⟨k, e, hl⟩
    · omega
    · obtain rfl : c = k := by omega
      exact hl
  have hx : F[c]? = some F[c] := List.getElem?_eq_getElem hc
  have hne : parentK F c ≠ -1 := by rw [hpc]; omega
  refine ⟨?_, hne⟩
  have hne2 := hne
  have hpc2 := hpc
  rw [parentK_at hx] at hne2 hpc2
  obtain ⟨q, hq1, _, ho⟩ := mvOut_out hr hx hne2
  rw [hpc2] at hq1
  obtain rfl : p = q := by omega
  have h1 := swap_gone hn hp ho h
  have e3 : (outS (F, []) c).1 = mvOut F c := by
    unfold outS
    rw [if_neg hne]
  rw [e3]
  rcases beh_in ho with e | ⟨s, e, hs, hps⟩
  · rw [e]; exact h1
  · have hrG := ho.rightG
    have hnG : n < (mvOut F c).length := by rw [ho.ed.len]; exact hn
    have hpG : p < (mvOut F c).length := by rw [ho.ed.len]; exact hp
    have hsG : s < (mvOut F c).length := by rw [ho.ed.len]; exact hs
    rw [e, may_is hrG hnG hpG hsG hps, ← may_none hrG hnG hpG]
    exact h1
theorem beh_64 {m : Int} {F : List Core} {C Y : Nat} {c : Core} (ho : Out m F (mvOut F C) C Y c) (hl : F.length ≤ 1000) : In64 (behK F C) := by
  rcases beh_in ho with e | ⟨s, e, hs, _⟩
  · rw [e]; exact ⟨by decide, by decide⟩
  · rw [e]; exact ⟨by omega, by omega⟩
theorem rep_64 {m : Int} {F : List Core} {n p c : Nat} (h : swapZ m F n p c = 0) (hl : F.length ≤ 1000) : In64 (behK F c) := by
  obtain ⟨hk, _, _⟩ := swap_ok h
  obtain ⟨hr, _, _, hcc⟩ := vknows_nat hk
  have hc : c < F.length := by
    rcases hcc with e | ⟨k, e, hl⟩
    · omega
    · obtain rfl : c = k := by omega
      exact hl
  have hx : F[c]? = some F[c] := List.getElem?_eq_getElem hc
  have hne := (rep_may h).2
  rw [parentK_at hx] at hne
  obtain ⟨q, _, _, ho⟩ := mvOut_out hr hx hne
  exact beh_64 ho hl
theorem out_short {m : Int} {F : List Core} {c : Nat} (h : rightF m F = true) (hc : c < F.length) : ((outS (F, []) c).2).length ≤ 70000000 := by
  have h1 := tellN_len h hc (note 2)
  unfold outS
  split
  · exact Nat.zero_le _
  · dsimp only
    split
    · rw [List.nil_append]
      omega
    · exact Nat.zero_le _
set_option maxHeartbeats 8000000 in
set_option maxRecDepth 100000 in
theorem mreplace_any (a : Option Addr) (len cap : Nat) (m : Int) (L : List NodeD) (n p c : Int) (w : World) (h : NodeRow w a len cap L) (hm : In64 m) (hn : In64 n) (hp : In64 p) (hc : In64 c) (hs : smallF L) (hg : ErrVar w) :
    Calls Tryz.prog 13 #[forV a len cap m, .int .i64 n, .int .i64 p, .int .i64 c] w (MvPost w m (repZ m (coreL L) n p c)) := by
  have HCL : Hid ((coreL L).length = len) := Lib.hid (by rw [coreL_len, h.hlen])
  have HS := Lib.hid hs
  have HM := Lib.hid hm
  have CB : Hid (∀ W, NodeRow W a len cap L → Calls Tryz.prog 46 #[forV a len cap m] W fun e w' => ∃ pw a2 cap2 M, e = .returned (workV pw) ∧ Begun W w' pw a2 len cap2 m M (coreL L)) := Lib.hid (fun W h1 => mbegin_any a len cap m L W h1 hs)
  obtain ⟨E, hE⟩ : ∃ E, swapZ m (coreL L) n p c = E := ⟨_, rfl⟩
  have CM : Hid (∀ W, NodeRow W a len cap L → Calls Tryz.prog 53 #[forV a len cap m, .int .i64 n, .int .i64 p, .int .i64 c] W fun e w' => e = .returned (.int .i64 E) ∧ Below W.heap.size W w') := Lib.hid (fun W h1 => by
    rw [← hE]
    exact vswap_any a len cap m L n p c W h1 hm hn hp hc hs)
  obtain ⟨w0, hw0, TW, HB0⟩ : ∃ w0, (w.alloc (forB a len cap m)).alloc zeroFB = w0 ∧ Hid (Two w w0 a len cap m L) ∧ Hid (Below w.heap.size w w0) := ⟨_, rfl, Lib.hid (Two.start h), Lib.hid ((below_box _ _).trans ((below_box _ _).mono (by simp)))⟩
  have HG := Lib.hid (hg.keep HB0.out)
  have HW0 := Lib.hid hw0
  have z0 := TW.out.bx.c0
  have z1 := TW.out.bx.c1
  have HE := Lib.hid hE
  have HH := Lib.hid h
  clear h hs hm hn hp hc hg hw0 hE
  by_cases h0 : E = 0
  · subst h0
    obtain ⟨hk, hcne, _⟩ := swap_ok HE.out
    obtain ⟨hr, ⟨N0, rfl, hN⟩, ⟨P0, rfl, hP⟩, hcc⟩ := vknows_nat hk
    obtain ⟨C0, rfl, hC⟩ : ∃ k : Nat, c = k ∧ k < (coreL L).length := hcc.resolve_left hcne
    have hl1k : (coreL L).length ≤ 1000 := by rw [coreL_len]; exact HS.out.1
    rw [HCL.out] at hN hP hC
    have HN := Lib.hid hN
    have HP := Lib.hid hP
    have HC := Lib.hid hC
    have HRR := Lib.hid hr
    have HMAY := Lib.hid (rep_may HE.out)
    obtain ⟨s, hsv⟩ : ∃ s, behK (coreL L) C0 = s := ⟨_, rfl⟩
    have HB64 : Hid (In64 s) := Lib.hid (by rw [← hsv]; exact rep_64 HE.out hl1k)
    have CH : Hid (∀ W, NodeRow W a len cap L → Calls Tryz.prog 54 #[forV a len cap m, .int .i64 C0] W fun e w' => e = .returned (.int .i64 s) ∧ Below W.heap.size W w') := Lib.hid (fun W h1 => by
      rw [← hsv]
      exact mbehind_any a len cap m L C0 W h1 HRR.out HC.out HMAY.out.2)
    have HSV := Lib.hid hsv
    have HQ : Hid (repZ m (coreL L) N0 P0 C0 = ((repS m (coreL L) N0 P0 C0).1, (repS m (coreL L) N0 P0 C0).2, 0)) := Lib.hid (by
      unfold repZ
      rw [if_pos HE.out])
    have HRS : Hid (repS m (coreL L) N0 P0 C0 = putS (outS (coreL L, []) C0) N0 P0 (beforeZ m (outS (coreL L, []) C0).1 N0 P0 s)) := Lib.hid (by
      unfold repS
      rw [HSV.out]
      simp only [Int.toNat_natCast])
    clear hk hr hcne hcc hN hP hC hl1k hsv
    go_enter Tryz.func13, Tryz.ntmps13
    go_upto_region 1 with fail
    rw [HW0.out]
    go_upto_region 2 with (go_at_call 46; (with_reducible refine (CB.out _ TW.out.bx.row).mono ?_); rintro e w1 ⟨pw, a2, cap2, M, rfl, hB⟩; have BG := Lib.hid hB; have TW1 := Lib.hid (TW.out.keep hB.below); have z0 := TW1.out.bx.c0; have z1 := TW1.out.bx.c1; clear hB)
    (
      have HD0 := Lib.hid BG.out.held
      have HBW := Lib.hid (held_below w1 pw)
      obtain ⟨wh, hwh⟩ : ∃ wh, w1.alloc (wkB pw) = wh := ⟨_, rfl⟩
      rw [hwh] at HD0 HBW ⊢
      have TW1 := Lib.hid (TW1.out.keep HBW.out)
      clear BG z0 z1 hwh
      have BG := HD0
      clear HD0
      have z0 := TW1.out.bx.c0
      have z1 := TW1.out.bx.c1
      have zw := BG.out.wc)
    go_wp2_with (first
      | (go_at_call 53; (with_reducible refine (CM.out _ TW1.out.bx.row).mono ?_); rintro e w2 ⟨rfl, hb⟩; have BG := Lib.hid (BG.out.keep hb); have zw := BG.out.wc; have TW1 := Lib.hid (TW1.out.keep hb); have z0 := TW1.out.bx.c0; have z1 := TW1.out.bx.c1; clear hb)
      | (go_at_call 54; (with_reducible refine (CH.out _ TW1.out.bx.row).mono ?_); rintro e w2 ⟨rfl, hb⟩; have BG := Lib.hid (BG.out.keep hb); have zw := BG.out.wc; have TW1 := Lib.hid (TW1.out.keep hb); have z0 := TW1.out.bx.c0; have z1 := TW1.out.bx.c1; clear hb)
      | (go_at_call 52; obtain ⟨g, ρ, rfl, hwk, hρ, hwb⟩ := BG.out.wk (by have := HN.out; omega); have HBC := Lib.hid BG.out.core; (refine (mgoOut_any _ hwk (by rw [HBC.out]; exact HRR.out) (small_core HBC.out HS.out) C0 HC.out (by rw [HBC.out]; exact HMAY.out.2) (by simp)).mono ?_); rintro e w3 ⟨rfl, ρ2, M2, v2, N2, hW3, hT3, hA3, hE3, hS3, hR3⟩; have W2 := Lib.hid hW3; have E2 := Lib.hid hE3; have S2 := Lib.hid hS3; have HB2 := Lib.hid (BG.out.below.trans (hT3.below BG.out.below.size hρ)); have A2 : Hid (∀ k, k < w0.heap.size → ρ2 k = 0) := (Lib.hid (fun k hk => (hA3 k (Nat.lt_of_lt_of_le hk BG.out.below.size)).trans (hρ k hk))); have zw := (hT3.cell BG.out.wlt hwb).trans BG.out.wc; have ZB : Hid (ρ2 w1.heap.size = 0 ∧ w1.heap.size < w3.heap.size) := (Lib.hid ⟨(hA3 _ BG.out.wlt).trans hwb, Nat.lt_of_lt_of_le BG.out.wlt hT3.size⟩); have ZW := Lib.hid zw; clear hW3 hT3 hA3 hE3 hS3 hR3 hwk hρ hwb)
      | (go_at_call 50; (refine (mput_any _ W2.out HM.out S2.out N0 P0 s HB64.out HN.out HP.out (by have h1 := congrArg Prod.fst E2.out; simp only at h1; rw [h1, HBC.out, ← HSV.out]; exact HMAY.out.1) (by have h1 := congrArg Prod.snd E2.out; simp only at h1; rw [h1, HBC.out]; exact out_short HRR.out (by rw [HCL.out]; exact HC.out))).mono ?_); rintro e w5 ⟨rfl, ρ3, M3, v3, N3, hW3, hT3, hA3, hE3, hS3, hR3⟩; obtain ⟨va, vc, rfl, hNR⟩ := hW3.notes; have W3 := Lib.hid hW3; have E3 := Lib.hid hE3; have S3 := Lib.hid hS3; have HB3 := Lib.hid (HB2.out.trans (hT3.below HB2.out.size A2.out)); have A3 : Hid (∀ k, k < w0.heap.size → ρ3 k = 0) := (Lib.hid (fun k hk => (hA3 k (Nat.lt_of_lt_of_le hk HB2.out.size)).trans (A2.out k hk))); have zw := (hT3.cell ZB.out.2 ZB.out.1).trans ZW.out; clear hW3 hT3 hA3 hE3 hS3 hR3 hNR)
      | (go_at_call 48; (refine (mended_any W3.out).mono ?_); rintro e w4 ⟨rfl, hb⟩; have HB4 := Lib.hid (HB3.out.trans (hb.mono HB3.out.size)); have HB34 := Lib.hid hb; have TW4 := Lib.hid (TW.out.keep HB4.out); have d0 := TW4.out.rb.c0; have d1 := TW4.out.rb.c1; have f0 := TW4.out.rb.f0; have f1 := TW4.out.rb.f1; clear hb))
    obtain ⟨q0, q1⟩ := stored2 TW4.out.rb (.slice (some ⟨g, 0, none⟩) len cap2) (.int .i64 m)
    obtain ⟨ρ5, W5⟩ := (W3.out.keep HB34.out).stored (b := w.heap.size + 1) (B := w0.heap.size) TW.out.rb.lt HB4.out.size A3.out 0 1 (.slice (some ⟨g, 0, none⟩) len cap2) (.int .i64 m)
    obtain ⟨va', vc', hv', NR5⟩ := W5.notes
    injection hv' with e2 e3 e4
    subst e2 e4
    have HB5 := ((HB0.out.trans (HB4.out.mono HB0.out.size)).setCell (p := ⟨w.heap.size + 1, 0, none⟩) (by show w.heap.size ≤ w.heap.size + 1; omega) (.slice (some ⟨g, 0, none⟩) len cap2)).setCell (p := ⟨w.heap.size + 1, 1, none⟩) (by show w.heap.size ≤ w.heap.size + 1; omega) (.int .i64 m)
    have hfin : (coreL M3, N3) = repS m (coreL L) N0 P0 C0 := by
      have h1 := E2.out
      rw [HBC.out] at h1
      have h2 := congrArg Prod.fst h1
      simp only at h2
      rw [HRS.out, ← h1]
      exact E3.out
    refine bodyPost_ret (v := .tuple #[forV (some ⟨g, 0, none⟩) len cap2 m, .slice va N3.length vc, .int .i64 0]) ?_ rfl ⟨some ⟨g, 0, none⟩, len, cap2, M3, va, N3.length, vc, by rw [HQ.out], W5.row, by rw [HQ.out, ← hfin], S3.out, by rw [HQ.out, ← hfin]; exact NR5, HB5, (W3.out.news A3.out).mono HB0.out.size⟩
    simp [results, Tryz.results13, go_sem, q0, q1]
  · have e1 : (E != 0) = true := bne_iff_ne.2 h0
    have HQ : Hid (repZ m (coreL L) n p c = (coreL L, [], E)) := Lib.hid (by
      unfold repZ
      rw [HE.out, if_neg h0])
    clear h0
    go_enter Tryz.func13, Tryz.ntmps13
    go_upto_region 1 with fail
    rw [HW0.out]
    go_upto_region 2 with (go_at_call 46; (with_reducible refine (CB.out _ TW.out.bx.row).mono ?_); rintro e w1 ⟨pw, a2, cap2, M, rfl, hB⟩; have BG := Lib.hid hB; have TW1 := Lib.hid (TW.out.keep hB.below); have z0 := TW1.out.bx.c0; have z1 := TW1.out.bx.c1; clear hB)
    (
      have HD0 := Lib.hid BG.out.held
      have HBW := Lib.hid (held_below w1 pw)
      obtain ⟨wh, hwh⟩ : ∃ wh, w1.alloc (wkB pw) = wh := ⟨_, rfl⟩
      rw [hwh] at HD0 HBW ⊢
      have TW1 := Lib.hid (TW1.out.keep HBW.out)
      clear BG z0 z1 hwh
      have BG := HD0
      clear HD0
      have z0 := TW1.out.bx.c0
      have z1 := TW1.out.bx.c1
      have zw := BG.out.wc)
    go_upto_region 4 with (first
      | (go_at_call 53; (with_reducible refine (CM.out _ TW1.out.bx.row).mono ?_); rintro e w2 ⟨rfl, hb⟩; have BG := Lib.hid (BG.out.keep hb); have zw := BG.out.wc; clear hb))
    (
      have BD := Lib.hid (BG.out.keep ((Below.refl _ _).drew))
      have zw := BG.out.wc
      go_region_with (first | (go_at_call 49; (refine (mrefuse_any _ _ _).mono ?_); rintro e w' ⟨rfl, rfl⟩) | (go_at_call 48; (refine (mrefused_any BD.out (HG.out.keep BD.out.below) _ _).mono ?_); rintro e w4 ⟨rfl, hb⟩; have BG4 := Lib.hid (BD.out.keep hb); have TW4 := Lib.hid (TW.out.keep BG4.out.below); have d0 := TW4.out.rb.c0; have d1 := TW4.out.rb.c1; have f0 := TW4.out.rb.f0; have f1 := TW4.out.rb.f1; clear hb))
      all_goals go_wp2)
    all_goals (
                obtain ⟨q0, q1⟩ := stored2 TW4.out.rb (.slice a2 len cap2) (.int .i64 m)
                have hlt0 := TW.out.rb.lt
                have R5 := (BG4.out.row.far (q := w.heap.size + 1) (fun b off e => by have := BG4.out.rlo b off e; omega) (fun x hx => (BG4.out.new x hx).away hlt0) 0 (.slice a2 len cap2)).far (q := w.heap.size + 1) (fun b off e => by have := BG4.out.rlo b off e; omega) (fun x hx => (BG4.out.new x hx).away hlt0) 1 (.int .i64 m)
                have HB5 := ((HB0.out.trans (BG4.out.below.mono HB0.out.size)).setCell (p := ⟨w.heap.size + 1, 0, none⟩) (by show w.heap.size ≤ w.heap.size + 1; omega) (.slice a2 len cap2)).setCell (p := ⟨w.heap.size + 1, 1, none⟩) (by show w.heap.size ≤ w.heap.size + 1; omega) (.int .i64 m)
                refine bodyPost_ret (v := .tuple #[forV a2 len cap2 m, .slice none 0 0, .int .i64 E]) ?_ rfl ⟨a2, len, cap2, M, none, 0, 0, by rw [HQ.out], R5, by rw [HQ.out, BG4.out.core], small_core BG4.out.core HS.out, by rw [HQ.out]; exact NoteRow.nil _, HB5, fun k hk => ⟨fun b off e e2 => (by have := BG4.out.rlo b off e; have := HB0.out.size; omega), fun x hx => (BG4.out.new x hx).away (Nat.lt_of_lt_of_le hk HB0.out.size), fun b off e => (by cases e)⟩⟩)
    all_goals simp [results, Tryz.results13, go_sem, q0, q1]
end Go.Proofs.YtclledmgiliggaaGreatDoor
namespace Go.Proofs.YtclledmgiliggaaGreatDoor
open Go.RowKit
end Go.Proofs.YtclledmgiliggaaGreatDoor
