/- Texts joined in build order: ForestFit3. -/
import Derived.Test.YtkfmengdffpcnaaGreatDoorA06
namespace Go.Proofs.YtkfmengdffpcnaaGreatDoor
open Go.RowKit
def hostB (F : List Core) (i : Int) (x : Core) : Bool := match getC F x.host with | some h => h.kind == 1 && h.under == i && h.doc == x.doc | none => false
def underB (F : List Core) (i : Int) (x : Core) : Bool := match getC F x.under with | some u => u.kind == 4 && u.host == i | none => false
def shadowB (F : List Core) (i : Int) (x : Core) : Bool :=
  if x.kind = 4 then hostB F i x && x.under == -1 else if x.kind = 1 then x.host == -1 && (x.under == -1 || underB F i x) else x.host == -1 && x.under == -1
theorem hostB_no {F : List Core} {i : Int} {x : Core} (h : isKd F x.host 1 = false) : hostB F i x = false := by
  unfold isKd at h
  unfold hostB
  cases hg : getC F x.host with
  | none => rfl
  | some c => rw [hg] at h; dsimp only at h ⊢; rw [h]; rfl
theorem underB_no {F : List Core} {i : Int} {x : Core} (h : isKd F x.under 4 = false) : underB F i x = false := by
  unfold isKd at h
  unfold underB
  cases hg : getC F x.under with
  | none => rfl
  | some c => rw [hg] at h; dsimp only at h ⊢; rw [h]; rfl
theorem stays {w : World} {p : Addr} {v : Value} (h : w.cell? p = some v) (hp : p.block < w.heap.size) : ∀ W, Below w.heap.size w W → W.cell? p = some v := fun _ hb => (hb.cell hp).trans h
theorem Ext.stays {w w1 : World} {p : Addr} {v : Value} (h : ∀ W, Below w.heap.size w W → W.cell? p = some v) (hb : Below w.heap.size w w1) : ∀ x : Ext w1, x.v.cell? p = some v := fun x => h _ (hb.trans (x.below.mono hb.size))
set_option maxHeartbeats 8000000 in
set_option maxRecDepth 100000 in
theorem shadowFits_any (a : Option Addr) (len cap : Nat) (L : List NodeD) (n : Nat) (x : NodeD) (w : World) (h : NodeRow w a len cap L) (hx : L[n]? = some x) :
    Calls Tryz.prog 71 #[.slice a len cap, .int .i64 n] w fun e w' => e = .returned (.bool (shadowB (coreL L) n x.core)) ∧ Below w.heap.size w w' := by
  have hl := h.len64
  have hnl : n < len := by rw [← h.hlen]; exact (List.getElem?_eq_some_iff.1 hx).1
  have HL := Lib.hid h.hlen
  obtain ⟨b, off, x', rfl, hb, hx', hc, hok⟩ := h.get hnl
  obtain rfl : x = x' := Option.some.inj (hx.symm.trans hx')
  have c0 := hc.c0
  have C7 := Lib.hid (stays hc.c7 hb)
  have C8 := Lib.hid (stays hc.c8 hb)
  have C9 := Lib.hid (stays hc.c9 hb)
  have D7 := C9
  have D8 := C9
  have D9 := C9
  have CJ : Hid (∀ z k, In64 z → ∀ W, Below w.heap.size w W → Calls Tryz.prog 41 #[.slice (some ⟨b, off, none⟩) len cap, .int .i64 z, .int .i64 k] W fun e w' => e = .returned (.bool (isKd (coreL L) z k)) ∧ W = w') :=
    Lib.hid (fun z k hz W hb => is_any _ len cap L z k _ (h.below hb) hz)
  have HH := Lib.hid h
  have IH := Lib.hid hok.host
  have IU := Lib.hid hok.under
  have HB := Lib.hid hb
  clear hc hx hx' hok hb h
  by_cases k4 : x.core.kind = 4
  · have CI := Lib.hid (CJ.out x.core.host 1 IH.out)
    have HR : Hid (shadowB (coreL L) n x.core = (hostB (coreL L) n x.core && x.core.under == -1)) := Lib.hid (by unfold shadowB; rw [if_pos k4])
    rw [k4] at c0
    have C0 := Lib.hid (stays c0 HB.out)
    clear c0 k4 CJ IH IU
    cases q1 : isKd (coreL L) x.core.host 1 with
    | false =>
      have HR : Hid (shadowB (coreL L) n x.core = false) := Lib.hid (by rw [HR.out, hostB_no q1, Bool.false_and])
      rw [q1] at CI
      clear q1
      (
        go_enter Tryz.func71, Tryz.ntmps71
        go_wp2
        have E7 := Ext.stays C7.out (Below.refl _ _)
        have E8 := Ext.stays C8.out (Below.refl _ _)
        refine wp_region_ext (by kernel_rfl) (by kernel_rfl) ?_
        repeat (go_big_quiet_step (fail))
        refine wpQuiet_nil ?_
        intro w' hw'
        obtain ⟨⟨w2, hb2⟩, hw''⟩ := hw'
        dsimp only at hw''
        subst hw''
        clear E7 E8
        have c0 := C0.out _ hb2
        have c7 := C7.out _ hb2
        have c8 := C8.out _ hb2
        have c9 := C9.out _ hb2
        have d7 := D7.out _ hb2
        go_wp2_with (go_at_call 41; ((with_reducible refine (CI.out _ hb2).mono ?_); rintro e w' ⟨rfl, rfl⟩)))
      (
        have E0 := Ext.stays C0.out hb2
        have E7 := Ext.stays C7.out hb2
        have E8 := Ext.stays C8.out hb2
        have E9 := Ext.stays C9.out hb2
        have F8 := Ext.stays D8.out hb2
        have F9 := Ext.stays D9.out hb2
        have EI := Lib.hid (fun (x : Ext w') => CI.out _ (hb2.trans (x.below.mono hb2.size)))
        refine wp_region_ext (by kernel_rfl) (by kernel_rfl) ?_
        repeat (go_big_quiet_step (first | (go_at_call 41; exact Ext.call_same (EI.out _))))
        refine wpQuiet_nil ?_
        intro w3 hw'
        obtain ⟨⟨w4, hb4⟩, hw''⟩ := hw'
        dsimp only at hw''
        subst hw''
        have hb3 := hb2.trans (hb4.mono hb2.size)
        clear E0 E7 E8 E9 F8 F9 EI hb2
        go_wp2)
      (go_ret; exact ⟨ret_bool HR.out.symm, by assumption⟩)
    | true =>
      rw [q1] at CI
      obtain ⟨j, y, hj, hy, hyk⟩ := isKd_get q1
      have HH2 : Hid (hostB (coreL L) n x.core = (y.core.under == (n : Int) && y.core.doc == x.core.doc)) := Lib.hid (by
        unfold hostB
        rw [hj, getC_nat, coreL_get hy]
        dsimp only
        rw [hyk]
        rfl)
      have hjl : j < len := by rw [← HL.out]; exact (List.getElem?_eq_some_iff.1 hy).1
      obtain ⟨b2, off2, y', hab, hb2, hy', hcy, hoky⟩ := HH.out.get hjl
      obtain rfl : y = y' := Option.some.inj (hy.symm.trans hy')
      injection hab with hab
      injection hab with e1 e2
      subst e1 e2
      have d8 := hcy.c8
      have d9 := hcy.c9
      rw [hj] at C7 CI
      have HB2 := Lib.hid hb2
      clear q1 hj hy hyk hcy hoky hy' hb2
      have D9 := Lib.hid (stays d9 HB2.out)
      by_cases p1 : y.core.under = (n : Int)
      rotate_left
      · have f1 : (y.core.under == (n : Int)) = false := beq_eq_false_iff_ne.2 p1
        have HR : Hid (shadowB (coreL L) n x.core = false) := Lib.hid (by rw [HR.out, HH2.out, f1]; rfl)
        have D8 := Lib.hid (stays d8 HB2.out)
        clear p1 d8 d9
        (
          go_enter Tryz.func71, Tryz.ntmps71
          go_wp2
          have E7 := Ext.stays C7.out (Below.refl _ _)
          have E8 := Ext.stays C8.out (Below.refl _ _)
          refine wp_region_ext (by kernel_rfl) (by kernel_rfl) ?_
          repeat (go_big_quiet_step (fail))
          refine wpQuiet_nil ?_
          intro w' hw'
          obtain ⟨⟨w2, hb2⟩, hw''⟩ := hw'
          dsimp only at hw''
          subst hw''
          clear E7 E8
          have c0 := C0.out _ hb2
          have c7 := C7.out _ hb2
          have c8 := C8.out _ hb2
          have c9 := C9.out _ hb2
          have d7 := D7.out _ hb2
          go_wp2_with (go_at_call 41; ((with_reducible refine (CI.out _ hb2).mono ?_); rintro e w' ⟨rfl, rfl⟩)))
        (
          have E0 := Ext.stays C0.out hb2
          have E7 := Ext.stays C7.out hb2
          have E8 := Ext.stays C8.out hb2
          have E9 := Ext.stays C9.out hb2
          have F8 := Ext.stays D8.out hb2
          have F9 := Ext.stays D9.out hb2
          have EI := Lib.hid (fun (x : Ext w') => CI.out _ (hb2.trans (x.below.mono hb2.size)))
          refine wp_region_ext (by kernel_rfl) (by kernel_rfl) ?_
          repeat (go_big_quiet_step (first | (go_at_call 41; exact Ext.call_same (EI.out _))))
          refine wpQuiet_nil ?_
          intro w3 hw'
          obtain ⟨⟨w4, hb4⟩, hw''⟩ := hw'
          dsimp only at hw''
          subst hw''
          have hb3 := hb2.trans (hb4.mono hb2.size)
          clear E0 E7 E8 E9 F8 F9 EI hb2
          go_wp2)
        (go_ret; exact ⟨ret_bool HR.out.symm, by assumption⟩)
      rw [p1] at d8
      have D8 := Lib.hid (stays d8 HB2.out)
      clear d8
      have f1 : ((n : Int) == (n : Int)) = true := by simp
      by_cases p2 : y.core.doc = x.core.doc
      rotate_left
      · have f2 : (y.core.doc == x.core.doc) = false := beq_eq_false_iff_ne.2 p2
        have HR : Hid (shadowB (coreL L) n x.core = false) := Lib.hid (by rw [HR.out, HH2.out, f2]; simp)
        clear p1 p2 d9
        (
          go_enter Tryz.func71, Tryz.ntmps71
          go_wp2
          have E7 := Ext.stays C7.out (Below.refl _ _)
          have E8 := Ext.stays C8.out (Below.refl _ _)
          refine wp_region_ext (by kernel_rfl) (by kernel_rfl) ?_
          repeat (go_big_quiet_step (fail))
          refine wpQuiet_nil ?_
          intro w' hw'
          obtain ⟨⟨w2, hb2⟩, hw''⟩ := hw'
          dsimp only at hw''
          subst hw''
          clear E7 E8
          have c0 := C0.out _ hb2
          have c7 := C7.out _ hb2
          have c8 := C8.out _ hb2
          have c9 := C9.out _ hb2
          have d7 := D7.out _ hb2
          go_wp2_with (go_at_call 41; ((with_reducible refine (CI.out _ hb2).mono ?_); rintro e w' ⟨rfl, rfl⟩)))
        (
          have E0 := Ext.stays C0.out hb2
          have E7 := Ext.stays C7.out hb2
          have E8 := Ext.stays C8.out hb2
          have E9 := Ext.stays C9.out hb2
          have F8 := Ext.stays D8.out hb2
          have F9 := Ext.stays D9.out hb2
          have EI := Lib.hid (fun (x : Ext w') => CI.out _ (hb2.trans (x.below.mono hb2.size)))
          refine wp_region_ext (by kernel_rfl) (by kernel_rfl) ?_
          repeat (go_big_quiet_step (first | (go_at_call 41; exact Ext.call_same (EI.out _))))
          refine wpQuiet_nil ?_
          intro w3 hw'
          obtain ⟨⟨w4, hb4⟩, hw''⟩ := hw'
          dsimp only at hw''
          subst hw''
          have hb3 := hb2.trans (hb4.mono hb2.size)
          clear E0 E7 E8 E9 F8 F9 EI hb2
          go_wp2)
        (go_ret; exact ⟨ret_bool HR.out.symm, by assumption⟩)
      rw [p2] at d9
      have D9 := Lib.hid (stays d9 HB2.out)
      clear d9
      have f2 : (x.core.doc == x.core.doc) = true := by simp
      have HR : Hid (shadowB (coreL L) n x.core = (x.core.under == -1)) := Lib.hid (by rw [HR.out, HH2.out, p1, p2]; simp)
      clear p1 p2
      (
        go_enter Tryz.func71, Tryz.ntmps71
        go_wp2
        have E7 := Ext.stays C7.out (Below.refl _ _)
        have E8 := Ext.stays C8.out (Below.refl _ _)
        refine wp_region_ext (by kernel_rfl) (by kernel_rfl) ?_
        repeat (go_big_quiet_step (fail))
        refine wpQuiet_nil ?_
        intro w' hw'
        obtain ⟨⟨w2, hb2⟩, hw''⟩ := hw'
        dsimp only at hw''
        subst hw''
        clear E7 E8
        have c0 := C0.out _ hb2
        have c7 := C7.out _ hb2
        have c8 := C8.out _ hb2
        have c9 := C9.out _ hb2
        have d7 := D7.out _ hb2
        go_wp2_with (go_at_call 41; ((with_reducible refine (CI.out _ hb2).mono ?_); rintro e w' ⟨rfl, rfl⟩)))
      (
        have E0 := Ext.stays C0.out hb2
        have E7 := Ext.stays C7.out hb2
        have E8 := Ext.stays C8.out hb2
        have E9 := Ext.stays C9.out hb2
        have F8 := Ext.stays D8.out hb2
        have F9 := Ext.stays D9.out hb2
        have EI := Lib.hid (fun (x : Ext w') => CI.out _ (hb2.trans (x.below.mono hb2.size)))
        refine wp_region_ext (by kernel_rfl) (by kernel_rfl) ?_
        repeat (go_big_quiet_step (first | (go_at_call 41; exact Ext.call_same (EI.out _))))
        refine wpQuiet_nil ?_
        intro w3 hw'
        obtain ⟨⟨w4, hb4⟩, hw''⟩ := hw'
        dsimp only at hw''
        subst hw''
        have hb3 := hb2.trans (hb4.mono hb2.size)
        clear E0 E7 E8 E9 F8 F9 EI hb2
        go_wp2)
      (go_ret; exact ⟨ret_bool HR.out.symm, by assumption⟩)
  have f4 : (x.core.kind == 4) = false := beq_eq_false_iff_ne.2 k4
  by_cases k1 : x.core.kind = 1
  rotate_left
  · have f1 : (x.core.kind == 1) = false := beq_eq_false_iff_ne.2 k1
    have HR : Hid (shadowB (coreL L) n x.core = (x.core.host == -1 && x.core.under == -1)) := Lib.hid (by unfold shadowB; rw [if_neg k4, if_neg k1])
    have C0 := Lib.hid (stays c0 HB.out)
    have CI := Lib.hid (CJ.out x.core.under 4 IU.out)
    clear c0 k4 k1 CJ IH IU HH
    cases p1 : (x.core.host == -1) with
    | false =>
      rw [p1, Bool.false_and] at HR
      (
        go_enter Tryz.func71, Tryz.ntmps71
        go_wp2
        have E7 := Ext.stays C7.out (Below.refl _ _)
        have E8 := Ext.stays C8.out (Below.refl _ _)
        refine wp_region_ext (by kernel_rfl) (by kernel_rfl) ?_
        repeat (go_big_quiet_step (fail))
        refine wpQuiet_nil ?_
        intro w' hw'
        obtain ⟨⟨w2, hb2⟩, hw''⟩ := hw'
        dsimp only at hw''
        subst hw''
        clear E7 E8
        have c0 := C0.out _ hb2
        have c7 := C7.out _ hb2
        have c8 := C8.out _ hb2
        have c9 := C9.out _ hb2
        have d7 := D7.out _ hb2
        go_wp2_with (go_at_call 41; ((with_reducible refine (CI.out _ hb2).mono ?_); rintro e w' ⟨rfl, rfl⟩)))
      (go_ret; exact ⟨ret_bool HR.out.symm, by assumption⟩)
    | true =>
      rw [p1, Bool.true_and] at HR
      (
        go_enter Tryz.func71, Tryz.ntmps71
        go_wp2
        have E7 := Ext.stays C7.out (Below.refl _ _)
        have E8 := Ext.stays C8.out (Below.refl _ _)
        refine wp_region_ext (by kernel_rfl) (by kernel_rfl) ?_
        repeat (go_big_quiet_step (fail))
        refine wpQuiet_nil ?_
        intro w' hw'
        obtain ⟨⟨w2, hb2⟩, hw''⟩ := hw'
        dsimp only at hw''
        subst hw''
        clear E7 E8
        have c0 := C0.out _ hb2
        have c7 := C7.out _ hb2
        have c8 := C8.out _ hb2
        have c9 := C9.out _ hb2
        have d7 := D7.out _ hb2
        go_wp2_with (go_at_call 41; ((with_reducible refine (CI.out _ hb2).mono ?_); rintro e w' ⟨rfl, rfl⟩)))
      (go_ret; exact ⟨ret_bool HR.out.symm, by assumption⟩)
  have CI := Lib.hid (CJ.out x.core.under 4 IU.out)
  have HR : Hid (shadowB (coreL L) n x.core = (x.core.host == -1 && (x.core.under == -1 || underB (coreL L) n x.core))) := Lib.hid (by unfold shadowB; rw [if_neg k4, if_pos k1])
  rw [k1] at c0
  have C0 := Lib.hid (stays c0 HB.out)
  clear c0 k4 k1 f4 CJ IH IU
  cases p1 : (x.core.host == -1) with
  | false =>
    rw [p1, Bool.false_and] at HR
    (
      go_enter Tryz.func71, Tryz.ntmps71
      go_wp2
      have E7 := Ext.stays C7.out (Below.refl _ _)
      have E8 := Ext.stays C8.out (Below.refl _ _)
      refine wp_region_ext (by kernel_rfl) (by kernel_rfl) ?_
      repeat (go_big_quiet_step (fail))
      refine wpQuiet_nil ?_
      intro w' hw'
      obtain ⟨⟨w2, hb2⟩, hw''⟩ := hw'
      dsimp only at hw''
      subst hw''
      clear E7 E8
      have c0 := C0.out _ hb2
      have c7 := C7.out _ hb2
      have c8 := C8.out _ hb2
      have c9 := C9.out _ hb2
      have d7 := D7.out _ hb2
      go_wp2_with (go_at_call 41; ((with_reducible refine (CI.out _ hb2).mono ?_); rintro e w' ⟨rfl, rfl⟩)))
    (go_ret; exact ⟨ret_bool HR.out.symm, by assumption⟩)
  | true =>
    rw [p1, Bool.true_and] at HR
    cases p2 : (x.core.under == -1) with
    | true =>
      rw [p2, Bool.true_or] at HR
      (
        go_enter Tryz.func71, Tryz.ntmps71
        go_wp2
        have E7 := Ext.stays C7.out (Below.refl _ _)
        have E8 := Ext.stays C8.out (Below.refl _ _)
        refine wp_region_ext (by kernel_rfl) (by kernel_rfl) ?_
        repeat (go_big_quiet_step (fail))
        refine wpQuiet_nil ?_
        intro w' hw'
        obtain ⟨⟨w2, hb2⟩, hw''⟩ := hw'
        dsimp only at hw''
        subst hw''
        clear E7 E8
        have c0 := C0.out _ hb2
        have c7 := C7.out _ hb2
        have c8 := C8.out _ hb2
        have c9 := C9.out _ hb2
        have d7 := D7.out _ hb2
        go_wp2_with (go_at_call 41; ((with_reducible refine (CI.out _ hb2).mono ?_); rintro e w' ⟨rfl, rfl⟩)))
      (go_ret; exact ⟨ret_bool HR.out.symm, by assumption⟩)
    | false =>
      rw [p2, Bool.false_or] at HR
      cases q1 : isKd (coreL L) x.core.under 4 with
      | false =>
        have HR : Hid (shadowB (coreL L) n x.core = false) := Lib.hid (by rw [HR.out, underB_no q1])
        rw [q1] at CI
        clear q1
        (
          go_enter Tryz.func71, Tryz.ntmps71
          go_wp2
          have E7 := Ext.stays C7.out (Below.refl _ _)
          have E8 := Ext.stays C8.out (Below.refl _ _)
          refine wp_region_ext (by kernel_rfl) (by kernel_rfl) ?_
          repeat (go_big_quiet_step (fail))
          refine wpQuiet_nil ?_
          intro w' hw'
          obtain ⟨⟨w2, hb2⟩, hw''⟩ := hw'
          dsimp only at hw''
          subst hw''
          clear E7 E8
          have c0 := C0.out _ hb2
          have c7 := C7.out _ hb2
          have c8 := C8.out _ hb2
          have c9 := C9.out _ hb2
          have d7 := D7.out _ hb2
          go_wp2_with (go_at_call 41; ((with_reducible refine (CI.out _ hb2).mono ?_); rintro e w' ⟨rfl, rfl⟩)))
        (go_ret; exact ⟨ret_bool HR.out.symm, by assumption⟩)
      | true =>
        rw [q1] at CI
        obtain ⟨j, y, hj, hy, hyk⟩ := isKd_get q1
        have HR : Hid (shadowB (coreL L) n x.core = (y.core.host == (n : Int))) := Lib.hid (by
          rw [HR.out]
          unfold underB
          rw [hj, getC_nat, coreL_get hy]
          dsimp only
          rw [hyk]
          rfl)
        have hjl : j < len := by rw [← HL.out]; exact (List.getElem?_eq_some_iff.1 hy).1
        obtain ⟨b2, off2, y', hab, hb2, hy', hcy, hoky⟩ := HH.out.get hjl
        obtain rfl : y = y' := Option.some.inj (hy.symm.trans hy')
        injection hab with hab
        injection hab with e1 e2
        subst e1 e2
        have D7 := Lib.hid (stays hcy.c7 hb2)
        rw [hj] at C8 CI p2
        clear q1 hj hy hyk hcy hoky hy' hb2
        (
          go_enter Tryz.func71, Tryz.ntmps71
          go_wp2
          have E7 := Ext.stays C7.out (Below.refl _ _)
          have E8 := Ext.stays C8.out (Below.refl _ _)
          refine wp_region_ext (by kernel_rfl) (by kernel_rfl) ?_
          repeat (go_big_quiet_step (fail))
          refine wpQuiet_nil ?_
          intro w' hw'
          obtain ⟨⟨w2, hb2⟩, hw''⟩ := hw'
          dsimp only at hw''
          subst hw''
          clear E7 E8
          have c0 := C0.out _ hb2
          have c7 := C7.out _ hb2
          have c8 := C8.out _ hb2
          have c9 := C9.out _ hb2
          have d7 := D7.out _ hb2
          go_wp2_with (go_at_call 41; ((with_reducible refine (CI.out _ hb2).mono ?_); rintro e w' ⟨rfl, rfl⟩)))
        (go_ret; exact ⟨ret_bool HR.out.symm, by assumption⟩)
end Go.Proofs.YtkfmengdffpcnaaGreatDoor
