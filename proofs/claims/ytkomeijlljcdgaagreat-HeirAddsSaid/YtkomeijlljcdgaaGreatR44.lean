/- Texts joined in build order: PrintFresh HeirAwakeM HeirAwake HeirAt Ref10Small. -/
import Derived.Test.YtkomeijlljcdgaaGreatR43
import Derived.Test.YtkomeijlljcdgaaGreatR31
import Derived.Test.YtkomeijlljcdgaaGreatR17
import Derived.Test.YtkomeijlljcdgaaGreatR07
import Derived.Test.YtkomeijlljcdgaaGreatR04
import Derived.Deep.RegionHeld3
import Derived.Test.YtkomeijlljcdgaaGreatR37
import Derived.Test.YtkomeijlljcdgaaGreatR15
import Derived.Test.YtkomeijlljcdgaaGreatR12
import Derived.Deep.DeepCutAuto
import Derived.Deep.QuietTactic
import Derived.BigQuiet
namespace Go.Proofs.YtkomeijlljcdgaaGreat
open Go.RowKit
set_option maxHeartbeats 4000000 in
set_option maxRecDepth 100000 in
theorem pRead_ok (a : Option Addr) (len cap : Nat) (m : Int) (L : List NodeD) (dn : Nat) (s : BL) (F1 : List Core) (c : Core) (w : World) (h : NodeRow w a len cap L) (hm : In64 m) (hs : smallF L) (hk : rootZ m (coreL L) dn ≠ -1) (hc : (coreL L)[dn]? = some c) (hck : c.kind = 0) (hl : s.length ≤ 16384)
    {fu : Nat} (hr : readM dn fu .node s (coreL L) = some ([], F1)) (hri : rightF 400 F1 = true) (hF : (F1.length : Int) ≤ m) :
    Calls Tryz.prog 60 #[forV a len cap m, .int .i64 (dn : Int), .string (strB s)] w (WkFor w m F1 [.int .i64 (len : Int), .int .i64 0]) := by
  have CR : Hid (∀ W, NodeRow W a len cap L → Calls Tryz.prog 92 #[forV a len cap m, .int .i64 (dn : Int), .string (strB s)] W (WkFor W m F1 [.int .i64 0])) := Lib.hid (fun W h1 => pread_ok a len cap m L dn s F1 c W h1 hm hs hk hc hck hl hr hri hF)
  have hlen : (len : Int) ≤ 9223372036854775807 := by have := h.len64; omega
  obtain ⟨w0, hw0, BX, RB, HB0⟩ : ∃ w0, (w.alloc (forB a len cap m)).alloc (.cells #[.slice none 0 0, .int .i64 0] 24) = w0 ∧ Hid (Box w w0 w.heap.size a len cap m L (coreL L)) ∧ Hid (Box2 w0 (w.heap.size + 1) (.slice none 0 0) (.int .i64 0)) ∧ Hid (w0.heap.size = w.heap.size + 2) := by
    refine ⟨_, rfl, Lib.hid ((Box.start h).keep (below_box _ _)), Lib.hid (Box2.newAt (by simp)), Lib.hid (by simp)⟩
  have HW0 := Lib.hid hw0
  have z0 := BX.out.c0
  have z1 := BX.out.c1
  obtain ⟨S, hS⟩ : ∃ S, strB s = S := ⟨_, rfl⟩
  rw [hS] at CR ⊢
  clear h hm hs hk hc hck hl hr hri hF hw0 hS
  go_enter Tryz.func60, Tryz.ntmps60
  go_upto_region 1 with fail
  rw [HW0.out]
  go_upto_region 4 with (go_at_call 92; (with_reducible refine (CR.out _ BX.out.row).mono ?_); rintro e w1 ⟨ρ, pw, g, cap1, len1, M, v, rfl, hWk, hsm, hcm, hb, hlo⟩; have HWK := Lib.hid hWk; have HSM := Lib.hid hsm; have HCM := Lib.hid hcm; have HB1 := Lib.hid hb; have HLO := Lib.hid hlo; clear hWk hsm hcm hb hlo z0 z1)
  obtain ⟨w2, tb, hw2, htb, HB2, NB⟩ : ∃ w2 tb, w1.alloc (forB (some ⟨g, 0, none⟩) len1 cap1 m) = w2 ∧ w1.heap.size = tb ∧ Hid (Below w1.heap.size w1 w2) ∧ Hid (Box2 w2 tb (.slice (some ⟨g, 0, none⟩) len1 cap1) (.int .i64 m)) := ⟨_, _, rfl, rfl, Lib.hid (below_box _ _), Lib.hid (Box2.new w1 _ _ _)⟩
  rw [hw2, htb]
  clear hw2
  have HTB := Lib.hid htb
  clear htb
  have HB3 := Lib.hid (HB1.out.trans (HB2.out.mono HB1.out.size))
  have BX2 := Lib.hid (BX.out.keep HB3.out)
  have RB2 := Lib.hid (RB.out.keep HB3.out)
  have hs1 := HB1.out.size
  have hs0 := HB0.out
  have htb := HTB.out
  have z0 := BX2.out.c0
  have n0 := NB.out.c0
  have n1 := NB.out.c1
  have d0 := RB2.out.c0
  have d1 := RB2.out.c1
  have f0 := RB2.out.f0
  have f1 := RB2.out.f1
  have hne1 : w.heap.size + 1 ≠ tb := by omega
  have hne2 : tb ≠ w.heap.size + 1 := by omega
  have hne3 : w.heap.size + 1 ≠ w.heap.size := by omega
  have hne4 : w.heap.size ≠ w.heap.size + 1 := by omega
  go_region_held3 (fun w' => w'.cell? ⟨w.heap.size, 0, none⟩ = some (.slice a len cap) ∧ w'.cell? ⟨tb, 0, none⟩ = some (.slice (some ⟨g, 0, none⟩) len1 cap1) ∧ w'.cell? ⟨tb, 1, none⟩ = some (.int .i64 m)) (go_keep) (fail)
  all_goals go_wp2
  all_goals
    have q0 : ((w2.setCell ⟨w.heap.size + 1, 0, none⟩ (.slice (some ⟨g, 0, none⟩) len1 cap1)).setCell ⟨w.heap.size + 1, 1, none⟩ (.int .i64 m)).cell? ⟨w.heap.size + 1, 0, none⟩ = some (.slice (some ⟨g, 0, none⟩) len1 cap1) := (World.cell?_setCell_other _ _ _ _ (fun e => by injection e with _ e; omega)).trans (World.cell?_setCell_same _ _ _ d0)
    have q1 : ((w2.setCell ⟨w.heap.size + 1, 0, none⟩ (.slice (some ⟨g, 0, none⟩) len1 cap1)).setCell ⟨w.heap.size + 1, 1, none⟩ (.int .i64 m)).cell? ⟨w.heap.size + 1, 1, none⟩ = some (.int .i64 m) := World.cell?_setCell_same _ _ _ ((World.cell?_setCell_other _ _ _ _ (fun e => by injection e with _ e; omega)).trans d1)
    have hWK := (HWK.out.keep HB2.out).stored2 (b := w.heap.size + 1) (B := w0.heap.size) (by omega) HB3.out.size HLO.out (.slice (some ⟨g, 0, none⟩) len1 cap1) (.int .i64 m)
    have hBE : Below w.heap.size w (((w2.setCell ⟨w.heap.size + 1, 0, none⟩ (.slice (some ⟨g, 0, none⟩) len1 cap1)).setCell ⟨w.heap.size + 1, 1, none⟩ (.int .i64 m)).drew) :=
      ((BX2.out.below.setCell (p := ⟨w.heap.size + 1, 0, none⟩) (by show w.heap.size ≤ w.heap.size + 1; omega) _).setCell (p := ⟨w.heap.size + 1, 1, none⟩) (by show w.heap.size ≤ w.heap.size + 1; omega) _).drew
    refine bodyPost_ret (v := .tuple #[forV (some ⟨g, 0, none⟩) len1 cap1 m, .int .i64 (len : Int), .int .i64 0]) ?_ rfl ⟨_, pw, g, cap1, len1, M, v, rfl, hWK.keep ((Below.refl _ _).drew), HSM.out, HCM.out, hBE, fun k hk => ?_⟩
    · simp [results, Tryz.results60, go_sem, q0, q1]
    · unfold upd
      rw [if_neg (fun e => by injection e with e; omega)]
      exact HLO.out k (by omega)
set_option maxHeartbeats 4000000 in
set_option maxRecDepth 100000 in
theorem pFresh_ok (m : Int) (s : BL) (F1 : List Core) (w : World) (hm : In64 m) (hm1 : 1 ≤ m) (hm2 : m ≤ 400) (hl : s.length ≤ 16384) {fu : Nat} (hr : readM 0 fu .node s [docC] = some ([], F1)) (hri : rightF 400 F1 = true) (hF : (F1.length : Int) ≤ m) :
    Calls Tryz.prog 30 #[.string (strB s), .int .i64 m] w (WkFor w m F1 [.int .i64 1, .int .i64 0]) := by
  have hok : newOk m = true := by unfold newOk; rw [decide_eq_true hm1, decide_eq_true hm2]; rfl
  have CN : Hid (∀ W, Calls Tryz.prog 59 #[.int .i64 m] W (ForPost W [docC] m [.int .i64 0])) := Lib.hid (fun W => by
    have := newFn_any m W hm
    rwa [show newL m = [docC] by unfold newL; rw [if_pos hok], show newM m = m by unfold newM; rw [if_pos hok], show newE m = 0 by unfold newE; rw [if_pos hok]] at this)
  have CR : Hid (∀ W a len cap L, NodeRow W a len cap L → coreL L = [docC] → Calls Tryz.prog 60 #[forV a len cap m, .int .i64 0, .string (strB s)] W (WkFor W m F1 [.int .i64 1, .int .i64 0])) := Lib.hid (fun W a len cap L h1 h2 => by
    have hlen : len = 1 := by have := congrArg List.length h2; rw [coreL_len, h1.hlen] at this; exact this
    subst hlen
    obtain ⟨y, rfl⟩ : ∃ y, L = [y] := by
      have := h1.hlen
      cases L with
      | nil => cases this
      | cons y t => cases t with
        | nil => exact ⟨y, rfl⟩
        | cons _ _ => simp at this
    have hy : y.core = docC := by unfold coreL at h2; simpa using h2
    have hro : rootZ m [docC] ((0 : Nat) : Int) ≠ -1 := by
      unfold rootZ thereF
      rw [right_doc, hok]
      simp
    exact pRead_ok a 1 cap m [y] 0 s F1 docC W h1 hm (doc_small hy) (by rw [h2]; exact hro) (by rw [h2]; rfl) rfl hl (by rw [h2]; exact hr) hri hF)
  obtain ⟨w0, hw0, RB, HB0⟩ : ∃ w0, w.alloc (.cells #[.slice none 0 0, .int .i64 0] 24) = w0 ∧ Hid (Box2 w0 w.heap.size (.slice none 0 0) (.int .i64 0)) ∧ Hid (Below w.heap.size w w0) := by
    refine ⟨_, rfl, Lib.hid (Box2.new w _ _ _), Lib.hid (below_box _ _)⟩
  have HW0 := Lib.hid hw0
  obtain ⟨S, hS⟩ : ∃ S, strB s = S := ⟨_, rfl⟩
  rw [hS] at CR ⊢
  clear hm hm1 hm2 hl hr hri hF hok hw0 hS
  go_enter Tryz.func30, Tryz.ntmps30
  go_upto_region 1 with fail
  rw [HW0.out]
  go_upto_region 4 with (go_at_call 59; (refine (CN.out _).mono ?_); rintro e w1 ⟨a1, len1, cap1, L1, rfl, hr1, hc1, hb1⟩; have HR1 := Lib.hid hr1; have HC1 := Lib.hid hc1; have HB1 := Lib.hid hb1; clear hr1 hc1 hb1)
  obtain ⟨w2, tb, hw2, htb, HB2, NB, HR2⟩ : ∃ w2 tb, w1.alloc (forB a1 len1 cap1 m) = w2 ∧ w1.heap.size = tb ∧ Hid (Below w1.heap.size w1 w2) ∧ Hid (Box2 w2 tb (.slice a1 len1 cap1) (.int .i64 m)) ∧ Hid (NodeRow w2 a1 len1 cap1 L1) := ⟨_, _, rfl, rfl, Lib.hid (below_box _ _), Lib.hid (Box2.new w1 _ _ _), Lib.hid (HR1.out.below (below_box _ _))⟩
  rw [hw2, htb]
  clear hw2
  have HTB := Lib.hid htb
  clear htb
  have RB2 := Lib.hid ((RB.out.keep HB1.out).keep HB2.out)
  have n0 := NB.out.c0
  have n1 := NB.out.c1
  go_upto_region 5 with (go_at_call 60; (with_reducible refine (CR.out _ _ _ _ _ HR2.out HC1.out).mono ?_); rintro e w3 ⟨ρ, pw, g, cap3, len3, M, v, rfl, hWk, hsm, hcm, hb, hlo⟩; have HWK := Lib.hid hWk; have HSM := Lib.hid hsm; have HCM := Lib.hid hcm; have HB3 := Lib.hid hb; have HLO := Lib.hid hlo; clear n0 n1; have n0 := (NB.out.keep hb).c0; have n1 := (NB.out.keep hb).c1; have nf0 := (NB.out.keep hb).f0; have nf1 := (NB.out.keep hb).f1; clear hWk hsm hcm hb hlo)
  have hs0 := HB0.out.size
  have hs1 := HB1.out.size
  have hs2 := HB2.out.size
  have htb := HTB.out
  have hlt0 := RB.out.lt
  have htl := NB.out.lt
  have hne : w.heap.size ≠ tb := by omega
  have hne' : tb ≠ w.heap.size := by omega
  have RB3 := Lib.hid (RB2.out.keep HB3.out)
  obtain ⟨W4, hW4, HWK4, HB4, HZ4, M0, M1, D0, D1, DF⟩ : ∃ W4, (w3.setCell ⟨tb, 0, none⟩ (.slice (some ⟨g, 0, none⟩) len3 cap3)).setCell ⟨tb, 1, none⟩ (.int .i64 m) = W4 ∧ Hid (Wk (upd ρ (some tb) 4) W4 pw g cap3 len3 m M v []) ∧ Hid (Below w.heap.size w W4) ∧ Hid (w.heap.size + 1 ≤ W4.heap.size) ∧ Hid (W4.cell? ⟨tb, 0, none⟩ = some (.slice (some ⟨g, 0, none⟩) len3 cap3)) ∧ Hid (W4.cell? ⟨tb, 1, none⟩ = some (.int .i64 m)) ∧ Hid (W4.cell? ⟨w.heap.size, 0, none⟩ = some (.slice none 0 0)) ∧ Hid (W4.cell? ⟨w.heap.size, 1, none⟩ = some (.int .i64 0)) ∧ Hid (∀ o, W4.frozen? ⟨w.heap.size, o, none⟩ = w3.frozen? ⟨w.heap.size, o, none⟩) := by
    refine ⟨_, rfl, Lib.hid (HWK.out.stored2 htl HB3.out.size HLO.out _ _), Lib.hid ?_, Lib.hid (by have := HB3.out.size; simp only [World.setCell, Array.size_modify]; omega), Lib.hid ?_, Lib.hid ?_, Lib.hid ?_, Lib.hid ?_, Lib.hid ?_⟩
    · have hb := ((HB0.out.trans (HB1.out.mono hs0)).trans (HB2.out.mono (by omega))).trans (HB3.out.mono (by omega))
      exact (hb.setCell (p := ⟨tb, 0, none⟩) (by show w.heap.size ≤ tb; omega) _).setCell (p := ⟨tb, 1, none⟩) (by show w.heap.size ≤ tb; omega) _
    · exact (World.cell?_setCell_other _ _ _ _ (fun e => by injection e with _ e; omega)).trans (World.cell?_setCell_same _ _ _ n0)
    · exact World.cell?_setCell_same _ _ _ ((World.cell?_setCell_other _ _ _ _ (fun e => by injection e with _ e; omega)).trans n1)
    · exact ((World.cell?_setCell_other _ _ _ _ (fun e => by injection e with e _; exact hne' e)).trans (World.cell?_setCell_other _ _ _ _ (fun e => by injection e with e _; exact hne' e))).trans RB3.out.c0
    · exact ((World.cell?_setCell_other _ _ _ _ (fun e => by injection e with e _; exact hne' e)).trans (World.cell?_setCell_other _ _ _ _ (fun e => by injection e with e _; exact hne' e))).trans RB3.out.c1
    · intro o
      rw [World.frozen?_setCell, World.frozen?_setCell]
  rw [hW4]
  clear hW4 n0 n1 nf0 nf1
  have n0 := M0.out
  have n1 := M1.out
  have d0 := D0.out
  have d1 := D1.out
  have f0 : W4.frozen? ⟨w.heap.size, 0, none⟩ = false := (DF.out 0).trans RB3.out.f0
  have f1 : W4.frozen? ⟨w.heap.size, 1, none⟩ = false := (DF.out 1).trans RB3.out.f1
  go_wp2
  have q0 : ((W4.setCell ⟨w.heap.size, 0, none⟩ (.slice (some ⟨g, 0, none⟩) len3 cap3)).setCell ⟨w.heap.size, 1, none⟩ (.int .i64 m)).cell? ⟨w.heap.size, 0, none⟩ = some (.slice (some ⟨g, 0, none⟩) len3 cap3) := (World.cell?_setCell_other _ _ _ _ (fun e => by injection e with _ e; omega)).trans (World.cell?_setCell_same _ _ _ d0)
  have q1 : ((W4.setCell ⟨w.heap.size, 0, none⟩ (.slice (some ⟨g, 0, none⟩) len3 cap3)).setCell ⟨w.heap.size, 1, none⟩ (.int .i64 m)).cell? ⟨w.heap.size, 1, none⟩ = some (.int .i64 m) := World.cell?_setCell_same _ _ _ ((World.cell?_setCell_other _ _ _ _ (fun e => by injection e with _ e; omega)).trans d1)
  have hlow : ∀ k, k < w.heap.size + 1 → upd ρ (some tb) 4 k = 0 := fun k hk => by
    unfold upd
    rw [if_neg (fun e => by injection e with e; omega)]
    exact HLO.out k (by omega)
  have hWK := HWK4.out.stored2 (b := w.heap.size) (B := w.heap.size + 1) (by omega) HZ4.out hlow (.slice (some ⟨g, 0, none⟩) len3 cap3) (.int .i64 m)
  have hBE : Below w.heap.size w ((W4.setCell ⟨w.heap.size, 0, none⟩ (.slice (some ⟨g, 0, none⟩) len3 cap3)).setCell ⟨w.heap.size, 1, none⟩ (.int .i64 m)) := (HB4.out.setCell (p := ⟨w.heap.size, 0, none⟩) (Nat.le_refl _) _).setCell (p := ⟨w.heap.size, 1, none⟩) (Nat.le_refl _) _
  refine bodyPost_ret (v := .tuple #[forV (some ⟨g, 0, none⟩) len3 cap3 m, .int .i64 1, .int .i64 0]) ?_ rfl ⟨_, pw, g, cap3, len3, M, v, rfl, hWK, HSM.out, HCM.out, hBE, fun k hk => ?_⟩
  · simp [results, Tryz.results30, go_sem, q0, q1]
  · unfold upd
    rw [if_neg (fun e => by injection e with e; omega)]
    exact hlow k (by omega)
end Go.Proofs.YtkomeijlljcdgaaGreat
namespace Go.Proofs.YtkomeijlljcdgaaGreat
open Go.RowKit
abbrev xaA : ByteArray := ⟨#[120, 45, 97]⟩
abbrev xbA : ByteArray := ⟨#[120, 45, 98]⟩
abbrev bA : ByteArray := ⟨#[98]⟩
abbrev pA : ByteArray := ⟨#[112]⟩
abbrev aw10D : List DefD := [⟨xaA, xaA, 0⟩, ⟨xbA, bA, 1⟩]
theorem ha1 : readM 0 (aw10.length + 3) .node aw10 [docC] = some ([], aw10F) := by decide +kernel
theorem ha2 : rightF 400 aw10F = true ∧ rightF 9 aw10F = true := by decide +kernel
theorem ha3 : triesZ 9 aw10F 1 ⟨aw10D, [], 0, false⟩ = [⟨2, upT 0⟩, ⟨3, upT 1⟩] := by decide +kernel
theorem ha4 : heirsZ 9 aw10F xaA xaA = [] := by decide +kernel
theorem ha5 : fateZ 9 aw10F 4 ⟨aw10D, [], 0, false⟩ = -1 ∧ fateZ 9 aw10F 3 ⟨aw10D, [], 0, false⟩ = 1 := by decide +kernel
theorem ha6 : bornZ pA.toList (⟨#[]⟩ : ByteArray).toList = 0 ∧ bornZ xaA.toList (⟨#[]⟩ : ByteArray).toList = 1 := by decide +kernel
end Go.Proofs.YtkomeijlljcdgaaGreat
namespace Go.Proofs.YtkomeijlljcdgaaGreat
open Go.RowKit
abbrev defsC : Obj := .cells #[.string xaA, .string xaA, .int .i64 0, .string xbA, .string bA, .int .i64 1] 30
theorem defs_at (w : World) (j : Nat) (v : Value) (h : (#[.string xaA, .string xaA, .int .i64 0, .string xbA, .string bA, .int .i64 1] : Array Value)[j]? = some v) : (w.alloc defsC).cell? ⟨w.heap.size, j, none⟩ = some v := by
  exact (cell_of_row _ w.heap.size j _ 30 (0, 0) (heap_alloc_new w _)).trans h
theorem two_defs (w : World) : DefRow (w.alloc defsC) (some ⟨w.heap.size, 0, none⟩) 2 2 aw10D := by
  have c := defs_at w
  refine ⟨⟨rfl, Nat.le_refl _, by unfold maxLen; omega, fun x hx => by simp at hx; rcases hx with rfl | rfl <;> rfl, .inr ⟨w.heap.size, 0, rfl, by simp, fun i x j v hx hv => ?_⟩⟩, fun x hx => by simp at hx; rcases hx with rfl | rfl <;> (unfold In64; decide), fun e => by cases e⟩
  have hj : j < 3 := by
    have := (List.getElem?_eq_some_iff.1 hv).1
    match i, hx with
    | 0, hx => simp at hx; subst hx; simpa [encD] using this
    | 1, hx => simp at hx; subst hx; simpa [encD] using this
  match i, hx with
  | 0, hx =>
    simp at hx; subst hx
    match j, hj, hv with
    | 0, _, hv => simp [encD] at hv; subst hv; exact c 0 _ rfl
    | 1, _, hv => simp [encD] at hv; subst hv; exact c 1 _ rfl
    | 2, _, hv => simp [encD] at hv; subst hv; exact c 2 _ rfl
  | 1, hx =>
    simp at hx; subst hx
    match j, hj, hv with
    | 0, _, hv => simp [encD] at hv; subst hv; exact c 3 _ rfl
    | 1, _, hv => simp [encD] at hv; subst hv; exact c 4 _ rfl
    | 2, _, hv => simp [encD] at hv; subst hv; exact c 5 _ rfl
theorem ha_keep (V : World) (T1 T4 g len cap bd b5 o5 : Nat) {W X : World} (l1 : T1 < V.heap.size) (l4 : T4 < V.heap.size) (ld : bd < V.heap.size) (l5 : b5 < V.heap.size)
    (h : W.cell? ⟨T1, 0, none⟩ = some (.slice (some ⟨g, 0, none⟩) len cap) ∧ W.cell? ⟨T1, 1, none⟩ = some (.int .i64 9) ∧ W.cell? ⟨T4, 0, none⟩ = some (.slice (some ⟨bd, 0, none⟩) 2 2) ∧ W.cell? ⟨T4, 1, none⟩ = some (.slice none 0 0) ∧ W.cell? ⟨T4, 2, none⟩ = some (.int .i64 0) ∧ W.cell? ⟨T4, 3, none⟩ = some (.bool false) ∧ W.cell? ⟨bd, 0, none⟩ = some (.string xaA) ∧ W.cell? ⟨bd, 1, none⟩ = some (.string xaA) ∧ W.cell? ⟨bd, 2, none⟩ = some (.int .i64 0) ∧ W.cell? ⟨b5, o5, none⟩ = some (.int .i64 2) ∧ W.cell? ⟨b5, o5 + 11, none⟩ = some (.int .i64 3) ∧ W.cell? ⟨b5, o5 + 12, none⟩ = some (.int .i64 9) ∧ W.cell? ⟨b5, o5 + 13, none⟩ = some (.int .i64 1) ∧ W.cell? ⟨b5, o5 + 14, none⟩ = some (.string ⟨#[]⟩) ∧ W.cell? ⟨b5, o5 + 15, none⟩ = some (.bool false) ∧ W.cell? ⟨b5, o5 + 16, none⟩ = some (.bool false) ∧ W.cell? ⟨b5, o5 + 17, none⟩ = some (.string ⟨#[]⟩) ∧ W.cell? ⟨b5, o5 + 18, none⟩ = some (.string ⟨#[]⟩) ∧ W.cell? ⟨b5, o5 + 19, none⟩ = some (.int .i64 0) ∧ W.cell? ⟨b5, o5 + 20, none⟩ = some (.int .i64 0) ∧ W.cell? ⟨b5, o5 + 21, none⟩ = some (.bool false) ∧ Below V.heap.size V W) (hb : Below W.heap.size W X) :
    X.cell? ⟨T1, 0, none⟩ = some (.slice (some ⟨g, 0, none⟩) len cap) ∧ X.cell? ⟨T1, 1, none⟩ = some (.int .i64 9) ∧ X.cell? ⟨T4, 0, none⟩ = some (.slice (some ⟨bd, 0, none⟩) 2 2) ∧ X.cell? ⟨T4, 1, none⟩ = some (.slice none 0 0) ∧ X.cell? ⟨T4, 2, none⟩ = some (.int .i64 0) ∧ X.cell? ⟨T4, 3, none⟩ = some (.bool false) ∧ X.cell? ⟨bd, 0, none⟩ = some (.string xaA) ∧ X.cell? ⟨bd, 1, none⟩ = some (.string xaA) ∧ X.cell? ⟨bd, 2, none⟩ = some (.int .i64 0) ∧ X.cell? ⟨b5, o5, none⟩ = some (.int .i64 2) ∧ X.cell? ⟨b5, o5 + 11, none⟩ = some (.int .i64 3) ∧ X.cell? ⟨b5, o5 + 12, none⟩ = some (.int .i64 9) ∧ X.cell? ⟨b5, o5 + 13, none⟩ = some (.int .i64 1) ∧ X.cell? ⟨b5, o5 + 14, none⟩ = some (.string ⟨#[]⟩) ∧ X.cell? ⟨b5, o5 + 15, none⟩ = some (.bool false) ∧ X.cell? ⟨b5, o5 + 16, none⟩ = some (.bool false) ∧ X.cell? ⟨b5, o5 + 17, none⟩ = some (.string ⟨#[]⟩) ∧ X.cell? ⟨b5, o5 + 18, none⟩ = some (.string ⟨#[]⟩) ∧ X.cell? ⟨b5, o5 + 19, none⟩ = some (.int .i64 0) ∧ X.cell? ⟨b5, o5 + 20, none⟩ = some (.int .i64 0) ∧ X.cell? ⟨b5, o5 + 21, none⟩ = some (.bool false) ∧ Below V.heap.size V X := by
  obtain ⟨c0, c1, c2, c3, c4, c5, c6, c7, c8, c9, c10, c11, c12, c13, c14, c15, c16, c17, c18, c19, c20, hB⟩ := h
  have hs := hB.size
  refine ⟨(hb.cell (p := ⟨_, _, none⟩) (by simp only; omega)).trans c0, (hb.cell (p := ⟨_, _, none⟩) (by simp only; omega)).trans c1, (hb.cell (p := ⟨_, _, none⟩) (by simp only; omega)).trans c2, (hb.cell (p := ⟨_, _, none⟩) (by simp only; omega)).trans c3, (hb.cell (p := ⟨_, _, none⟩) (by simp only; omega)).trans c4, (hb.cell (p := ⟨_, _, none⟩) (by simp only; omega)).trans c5, (hb.cell (p := ⟨_, _, none⟩) (by simp only; omega)).trans c6, (hb.cell (p := ⟨_, _, none⟩) (by simp only; omega)).trans c7, (hb.cell (p := ⟨_, _, none⟩) (by simp only; omega)).trans c8, (hb.cell (p := ⟨_, _, none⟩) (by simp only; omega)).trans c9, (hb.cell (p := ⟨_, _, none⟩) (by simp only; omega)).trans c10, (hb.cell (p := ⟨_, _, none⟩) (by simp only; omega)).trans c11, (hb.cell (p := ⟨_, _, none⟩) (by simp only; omega)).trans c12, (hb.cell (p := ⟨_, _, none⟩) (by simp only; omega)).trans c13, (hb.cell (p := ⟨_, _, none⟩) (by simp only; omega)).trans c14, (hb.cell (p := ⟨_, _, none⟩) (by simp only; omega)).trans c15, (hb.cell (p := ⟨_, _, none⟩) (by simp only; omega)).trans c16, (hb.cell (p := ⟨_, _, none⟩) (by simp only; omega)).trans c17, (hb.cell (p := ⟨_, _, none⟩) (by simp only; omega)).trans c18, (hb.cell (p := ⟨_, _, none⟩) (by simp only; omega)).trans c19, (hb.cell (p := ⟨_, _, none⟩) (by simp only; omega)).trans c20, hB.trans (hb.mono hB.size)⟩
set_option maxHeartbeats 8000000 in
set_option maxRecDepth 100000 in
theorem awake10_any (w : World) : Calls Tryz.prog 7 #[] w fun e w' => e = .returned (.bool true) ∧ Below w.heap.size w w' := by
  have CF : Hid (∀ W, Calls Tryz.prog 30 #[.string ⟨#[60, 112, 62, 60, 120, 45, 97, 62, 60, 47, 120, 45, 97, 62, 60, 98, 33, 120, 45, 98, 62, 60, 47, 98, 62, 60, 120, 45, 98, 62, 60, 47, 120, 45, 98, 62, 60, 47, 112, 62]⟩, .int .i64 9] W (WkFor W 9 aw10F [.int .i64 1, .int .i64 0])) := Lib.hid (fun W => pFresh_ok 9 aw10 aw10F W ⟨by decide, by decide⟩ (by decide) (by decide) (by decide) ha1 ha2.1 (by decide))
  go_enter Tryz.func7, Tryz.ntmps7
  go_upto_region 3 with (go_at_call 30; (with_reducible refine (CF.out _).mono ?_); rintro e w1 ⟨ρ, pw, g, cap, len, M, v, rfl, hWk, hsm, hcm, hb, -⟩; have HR := Lib.hid hWk.row; have HSM := Lib.hid hsm; have HCM := Lib.hid hcm; have HB1 := Lib.hid hb; clear hWk hsm hcm hb)
  obtain ⟨W, hW⟩ : ∃ W, ((w1.alloc (forB (some ⟨g, 0, none⟩) len cap 9)).alloc defsC).alloc (deskB (some ⟨w1.heap.size + 1, 0, none⟩) 2 2 none 0 0 0 false) = W := ⟨_, rfl⟩
  have hs1 : (w1.alloc (forB (some ⟨g, 0, none⟩) len cap 9)).heap.size = w1.heap.size + 1 := by simp
  have hs2 : ((w1.alloc (forB (some ⟨g, 0, none⟩) len cap 9)).alloc defsC).heap.size = w1.heap.size + 1 + 1 := by simp
  have b1 := below_box w1 (forB (some ⟨g, 0, none⟩) len cap 9)
  have b2 := below_box (w1.alloc (forB (some ⟨g, 0, none⟩) len cap 9)) defsC
  have b3 := below_box ((w1.alloc (forB (some ⟨g, 0, none⟩) len cap 9)).alloc defsC) (deskB (some ⟨w1.heap.size + 1, 0, none⟩) 2 2 none 0 0 0 false)
  have hdr := two_defs (w1.alloc (forB (some ⟨g, 0, none⟩) len cap 9))
  have hda := defs_at (w1.alloc (forB (some ⟨g, 0, none⟩) len cap 9))
  rw [hs1] at hdr hda
  have hb23 := b2.trans (b3.mono b2.size)
  have hb123 := b1.trans (hb23.mono b1.size)
  have hcd : ∀ j v, (#[.slice (some ⟨w1.heap.size + 1, 0, none⟩) 2 2, .slice none 0 0, .int .i64 0, .bool false] : Array Value)[j]? = some v → W.cell? ⟨w1.heap.size + 1 + 1, j, none⟩ = some v := fun j v h => by
    rw [← hW, ← hs2]
    exact (cell_of_row _ _ j _ 28 (0, 0) (heap_alloc_new _ _)).trans h
  have hcf : ∀ j v, (#[.slice (some ⟨g, 0, none⟩) len cap, .int .i64 9] : Array Value)[j]? = some v → W.cell? ⟨w1.heap.size, j, none⟩ = some v := fun j v h => by
    rw [← hW]
    rw [hb23.cell (p := ⟨w1.heap.size, j, none⟩) (by simp)]
    exact (cell_of_row _ _ j _ 24 (0, 0) (heap_alloc_new _ _)).trans h
  have hsW : W.heap.size = w1.heap.size + 3 := by rw [← hW]; simp
  have hdw : ∀ j v, (#[.string xaA, .string xaA, .int .i64 0, .string xbA, .string bA, .int .i64 1] : Array Value)[j]? = some v → W.cell? ⟨w1.heap.size + 1, j, none⟩ = some v := fun j v h => by
    rw [← hW, b3.cell (p := ⟨w1.heap.size + 1, j, none⟩) (by rw [hs2]; simp)]
    exact hda j v h
  have HDR : Hid (DefRow W (some ⟨w1.heap.size + 1, 0, none⟩) 2 2 aw10D) := Lib.hid (by rw [← hW]; exact hdr.below b3)
  have HR : Hid (NodeRow W (some ⟨g, 0, none⟩) len cap M) := Lib.hid (by rw [← hW]; exact HR.out.below hb123)
  have HB1 : Hid (Below w.heap.size w W) := Lib.hid (by rw [← hW]; exact HB1.out.trans (hb123.mono HB1.out.size))
  have z0 := hcf 0 _ rfl
  have z1 := hcf 1 _ rfl
  have d0 := hcd 0 _ rfl
  have d1 := hcd 1 _ rfl
  have d2 := hcd 2 _ rfl
  have d3 := hcd 3 _ rfl
  have e0 := hdw 0 _ rfl
  have e1 := hdw 1 _ rfl
  have e2 := hdw 2 _ rfl
  rw [hW]
  obtain ⟨T1, hT1⟩ : ∃ T, w1.heap.size = T := ⟨_, rfl⟩
  obtain ⟨bd, hbd⟩ : ∃ T, T1 + 1 = T := ⟨_, rfl⟩
  obtain ⟨T4, hT4⟩ : ∃ T, bd + 1 = T := ⟨_, rfl⟩
  have hl1 : T1 < W.heap.size ∧ bd < W.heap.size ∧ T4 < W.heap.size := by omega
  clear hW b1 b2 b3 hdr hda hb23 hb123 hcd hcf hdw hs1 hs2 hsW
  rw [hT1] at HDR z0 z1 d0 d1 d2 d3 e0 e1 e2 ⊢
  rw [hbd] at HDR d0 d1 d2 d3 e0 e1 e2 ⊢
  rw [hT4] at d0 d1 d2 d3 ⊢
  have HLT := Lib.hid hl1
  clear hT1 hbd hT4 hl1
  have CT : Hid (∀ X, Below W.heap.size W X → Calls Tryz.prog 16 #[forV (some ⟨g, 0, none⟩) len cap 9, .int .i64 1, deskV (some ⟨bd, 0, none⟩) 2 2 none 0 0 0 false] X (DuePost X [⟨2, upT 0⟩, ⟨3, upT 1⟩])) := Lib.hid (fun X hb => by
    have h := tries_any (some ⟨g, 0, none⟩) len cap 9 1 M (some ⟨bd, 0, none⟩) 2 2 none 0 0 0 false aw10D [] X (HR.out.below hb) ⟨by decide, by decide⟩ ⟨by decide, by decide⟩ HSM.out (HDR.out.below hb) (WaitRow.nil X)
    rw [HCM.out, ha3] at h
    exact h)
  have CH : Hid (∀ X, Below W.heap.size W X → Calls Tryz.prog 15 #[forV (some ⟨g, 0, none⟩) len cap 9, .agg #[.string xaA, .string xaA, .int .i64 0]] X (OrdPost X [])) := Lib.hid (fun X hb => by
    have h := heirs_any (some ⟨g, 0, none⟩) len cap 9 M xaA xaA 0 X (HR.out.below hb) ⟨by decide, by decide⟩ HSM.out
    rw [HCM.out, ha4] at h
    exact h)
  have CA : Hid (∀ X, Below W.heap.size W X → Calls Tryz.prog 14 #[forV (some ⟨g, 0, none⟩) len cap 9, .int .i64 4, deskV (some ⟨bd, 0, none⟩) 2 2 none 0 0 0 false] X fun e w' => e = .returned (.int .i64 (-1)) ∧ Below X.heap.size X w') := Lib.hid (fun X hb => by
    have h := fateFn_any (some ⟨g, 0, none⟩) len cap 9 M 4 (some ⟨bd, 0, none⟩) 2 2 none 0 0 0 false aw10D [] X (HR.out.below hb) ⟨by decide, by decide⟩ ⟨by decide, by decide⟩ HSM.out (HDR.out.below hb) (WaitRow.nil X)
    rw [HCM.out, ha5.1] at h
    exact h)
  have CB : Hid (∀ X, Below W.heap.size W X → Calls Tryz.prog 14 #[forV (some ⟨g, 0, none⟩) len cap 9, .int .i64 3, deskV (some ⟨bd, 0, none⟩) 2 2 none 0 0 0 false] X fun e w' => e = .returned (.int .i64 1) ∧ Below X.heap.size X w') := Lib.hid (fun X hb => by
    have h := fateFn_any (some ⟨g, 0, none⟩) len cap 9 M 3 (some ⟨bd, 0, none⟩) 2 2 none 0 0 0 false aw10D [] X (HR.out.below hb) ⟨by decide, by decide⟩ ⟨by decide, by decide⟩ HSM.out (HDR.out.below hb) (WaitRow.nil X)
    rw [HCM.out, ha5.2] at h
    exact h)
  have CP : Hid (∀ X, Calls Tryz.prog 10 #[.string ⟨#[112]⟩, .string ⟨#[]⟩] X fun e w' => e = .returned (.int .i64 0) ∧ Below X.heap.size X w') := Lib.hid (fun X => by
    have h := born_any pA ⟨#[]⟩ X (by decide)
    rw [ha6.1] at h
    exact h)
  have CQ : Hid (∀ X, Calls Tryz.prog 10 #[.string ⟨#[120, 45, 97]⟩, .string ⟨#[]⟩] X fun e w' => e = .returned (.int .i64 1) ∧ Below X.heap.size X w') := Lib.hid (fun X => by
    have h := born_any xaA ⟨#[]⟩ X (by decide)
    rw [ha6.2] at h
    exact h)
  go_upto_region 4 with (go_at_call 16; (with_reducible refine (CT.out _ (Below.refl _ _)).mono ?_); rintro e V ⟨a5, l5, c5, rfl, hdu, hbv⟩; have hl5 : l5 = 2 := hdu.row.hlen.symm; subst hl5; have HDU := Lib.hid hdu; have HBV := Lib.hid hbv; clear hdu hbv)
  obtain ⟨b5, o5, ha5', hb5, hc5⟩ : ∃ b off, a5 = some ⟨b, off, none⟩ ∧ b < V.heap.size ∧ ∀ i x j v, ([⟨2, upT 0⟩, ⟨3, upT 1⟩] : List DueD)[i]? = some x → (encU x)[j]? = some v → V.cell? ⟨b, off + i * 11 + j, none⟩ = some v := by
    rcases HDU.out.row.cells with h | h
    · cases h
    · exact h
  subst ha5'
  have HBW := Lib.hid HBV.out
  have SV : (fun w' => w'.cell? ⟨T1, 0, none⟩ = some (.slice (some ⟨g, 0, none⟩) len cap) ∧ w'.cell? ⟨T1, 1, none⟩ = some (.int .i64 9) ∧ w'.cell? ⟨T4, 0, none⟩ = some (.slice (some ⟨bd, 0, none⟩) 2 2) ∧ w'.cell? ⟨T4, 1, none⟩ = some (.slice none 0 0) ∧ w'.cell? ⟨T4, 2, none⟩ = some (.int .i64 0) ∧ w'.cell? ⟨T4, 3, none⟩ = some (.bool false) ∧ w'.cell? ⟨bd, 0, none⟩ = some (.string xaA) ∧ w'.cell? ⟨bd, 1, none⟩ = some (.string xaA) ∧ w'.cell? ⟨bd, 2, none⟩ = some (.int .i64 0) ∧ w'.cell? ⟨b5, o5, none⟩ = some (.int .i64 2) ∧ w'.cell? ⟨b5, o5 + 11, none⟩ = some (.int .i64 3) ∧ w'.cell? ⟨b5, o5 + 12, none⟩ = some (.int .i64 9) ∧ w'.cell? ⟨b5, o5 + 13, none⟩ = some (.int .i64 1) ∧ w'.cell? ⟨b5, o5 + 14, none⟩ = some (.string ⟨#[]⟩) ∧ w'.cell? ⟨b5, o5 + 15, none⟩ = some (.bool false) ∧ w'.cell? ⟨b5, o5 + 16, none⟩ = some (.bool false) ∧ w'.cell? ⟨b5, o5 + 17, none⟩ = some (.string ⟨#[]⟩) ∧ w'.cell? ⟨b5, o5 + 18, none⟩ = some (.string ⟨#[]⟩) ∧ w'.cell? ⟨b5, o5 + 19, none⟩ = some (.int .i64 0) ∧ w'.cell? ⟨b5, o5 + 20, none⟩ = some (.int .i64 0) ∧ w'.cell? ⟨b5, o5 + 21, none⟩ = some (.bool false) ∧ Below V.heap.size V w') V := by
    have k : ∀ {b o : Nat} {x : Option Value}, b < W.heap.size → W.cell? ⟨b, o, none⟩ = x → V.cell? ⟨b, o, none⟩ = x := fun hb h => (HBV.out.cell (p := ⟨_, _, none⟩) hb).trans h
    have k1 := HLT.out
    refine ⟨k k1.1 z0, k k1.1 z1, k k1.2.2 d0, k k1.2.2 d1, k k1.2.2 d2, k k1.2.2 d3, k k1.2.1 e0, k k1.2.1 e1, k k1.2.1 e2, ?_⟩
    refine ⟨hc5 0 _ 0 _ rfl rfl, hc5 1 _ 0 _ rfl rfl, hc5 1 _ 1 _ rfl rfl, hc5 1 _ 2 _ rfl rfl, hc5 1 _ 3 _ rfl rfl, hc5 1 _ 4 _ rfl rfl, hc5 1 _ 5 _ rfl rfl, hc5 1 _ 6 _ rfl rfl, hc5 1 _ 7 _ rfl rfl, hc5 1 _ 8 _ rfl rfl, hc5 1 _ 9 _ rfl rfl, hc5 1 _ 10 _ rfl rfl, Below.refl _ _⟩
  dsimp only at SV
  have HLV : Hid (T1 < V.heap.size ∧ T4 < V.heap.size ∧ bd < V.heap.size ∧ b5 < V.heap.size) := Lib.hid (by have h1 := HLT.out; have h2 := HBV.out.size; omega)
  clear z0 z1 d0 d1 d2 d3 e0 e1 e2 hc5 hb5 HLT
  go_region_held3 (fun w' => w'.cell? ⟨T1, 0, none⟩ = some (.slice (some ⟨g, 0, none⟩) len cap) ∧ w'.cell? ⟨T1, 1, none⟩ = some (.int .i64 9) ∧ w'.cell? ⟨T4, 0, none⟩ = some (.slice (some ⟨bd, 0, none⟩) 2 2) ∧ w'.cell? ⟨T4, 1, none⟩ = some (.slice none 0 0) ∧ w'.cell? ⟨T4, 2, none⟩ = some (.int .i64 0) ∧ w'.cell? ⟨T4, 3, none⟩ = some (.bool false) ∧ w'.cell? ⟨bd, 0, none⟩ = some (.string xaA) ∧ w'.cell? ⟨bd, 1, none⟩ = some (.string xaA) ∧ w'.cell? ⟨bd, 2, none⟩ = some (.int .i64 0) ∧ w'.cell? ⟨b5, o5, none⟩ = some (.int .i64 2) ∧ w'.cell? ⟨b5, o5 + 11, none⟩ = some (.int .i64 3) ∧ w'.cell? ⟨b5, o5 + 12, none⟩ = some (.int .i64 9) ∧ w'.cell? ⟨b5, o5 + 13, none⟩ = some (.int .i64 1) ∧ w'.cell? ⟨b5, o5 + 14, none⟩ = some (.string ⟨#[]⟩) ∧ w'.cell? ⟨b5, o5 + 15, none⟩ = some (.bool false) ∧ w'.cell? ⟨b5, o5 + 16, none⟩ = some (.bool false) ∧ w'.cell? ⟨b5, o5 + 17, none⟩ = some (.string ⟨#[]⟩) ∧ w'.cell? ⟨b5, o5 + 18, none⟩ = some (.string ⟨#[]⟩) ∧ w'.cell? ⟨b5, o5 + 19, none⟩ = some (.int .i64 0) ∧ w'.cell? ⟨b5, o5 + 20, none⟩ = some (.int .i64 0) ∧ w'.cell? ⟨b5, o5 + 21, none⟩ = some (.bool false) ∧ Below V.heap.size V w')
    (first | assumption | exact ha_keep V T1 T4 g len cap bd b5 o5 HLV.out.1 HLV.out.2.1 HLV.out.2.2.1 HLV.out.2.2.2 (by assumption) (by assumption) | exact ha_keep V T1 T4 g len cap bd b5 o5 HLV.out.1 HLV.out.2.1 HLV.out.2.2.1 HLV.out.2.2.2 SV (Below.refl _ _).drew)
    (first
      | (go_at_call 15; (with_reducible refine (CH.out _ (HBV.out.trans (((‹_ ∧ _ ∧ _ ∧ _ ∧ _ ∧ _ ∧ _ ∧ _ ∧ _ ∧ _ ∧ _ ∧ _ ∧ _ ∧ _ ∧ _ ∧ _ ∧ _ ∧ _ ∧ _ ∧ _ ∧ _ ∧ Below _ _ _›).2.2.2.2.2.2.2.2.2.2.2.2.2.2.2.2.2.2.2.2.2).mono HBV.out.size))).mono ?_); rintro e w' ⟨a6, l6, c6, rfl, hr6, hb⟩; have hl6 : l6 = 0 := hr6.row.hlen.symm; subst hl6; clear hr6)
      | (go_at_call 14; (with_reducible refine (CA.out _ (HBV.out.trans (((‹_ ∧ _ ∧ _ ∧ _ ∧ _ ∧ _ ∧ _ ∧ _ ∧ _ ∧ _ ∧ _ ∧ _ ∧ _ ∧ _ ∧ _ ∧ _ ∧ _ ∧ _ ∧ _ ∧ _ ∧ _ ∧ Below _ _ _›).2.2.2.2.2.2.2.2.2.2.2.2.2.2.2.2.2.2.2.2.2).mono HBV.out.size))).mono ?_); rintro e w' ⟨rfl, hb⟩)
      | (go_at_call 14; (with_reducible refine (CB.out _ (HBV.out.trans (((‹_ ∧ _ ∧ _ ∧ _ ∧ _ ∧ _ ∧ _ ∧ _ ∧ _ ∧ _ ∧ _ ∧ _ ∧ _ ∧ _ ∧ _ ∧ _ ∧ _ ∧ _ ∧ _ ∧ _ ∧ _ ∧ Below _ _ _›).2.2.2.2.2.2.2.2.2.2.2.2.2.2.2.2.2.2.2.2.2).mono HBV.out.size))).mono ?_); rintro e w' ⟨rfl, hb⟩)
      | (go_at_call 10; (with_reducible refine (CP.out _).mono ?_); rintro e w' ⟨rfl, hb⟩)
      | (go_at_call 10; (with_reducible refine (CQ.out _).mono ?_); rintro e w' ⟨rfl, hb⟩))
  have HBE : Hid (Below w.heap.size w w') := Lib.hid (HB1.out.trans ((HBV.out.trans (((‹_ ∧ _ ∧ _ ∧ _ ∧ _ ∧ _ ∧ _ ∧ _ ∧ _ ∧ _ ∧ _ ∧ _ ∧ _ ∧ _ ∧ _ ∧ _ ∧ _ ∧ _ ∧ _ ∧ _ ∧ _ ∧ Below _ _ _›).2.2.2.2.2.2.2.2.2.2.2.2.2.2.2.2.2.2.2.2.2).mono HBV.out.size)).mono HB1.out.size))
  go_wp2
  go_ret
  exact ⟨rfl, HBE.out⟩
end Go.Proofs.YtkomeijlljcdgaaGreat
namespace Go.Proofs.YtkomeijlljcdgaaGreat
open Go.RowKit
structure FD (w W : World) (gf gd : Nat) (a : Option Addr) (len cap : Nat) (m : Int) (K : List NodeD) (da : Option Addr) (dl dc : Nat) (wa : Option Addr) (wl wc : Nat) (nx : Int) (bz : Bool) (L : List DefD) (M : List WaitD) : Prop where
  f : Box w W gf a len cap m K (coreL K)
  d : DBox w W gd da dl dc wa wl wc nx bz L M
section
variable {w W V : World} {gf gd : Nat} {a : Option Addr} {len cap : Nat} {m : Int} {K : List NodeD} {da wa : Option Addr} {dl dc wl wc : Nat} {nx : Int} {bz : Bool} {L : List DefD} {M : List WaitD}
theorem FD.keep (h : FD w W gf gd a len cap m K da dl dc wa wl wc nx bz L M) (hb : Below W.heap.size W V) : FD w V gf gd a len cap m K da dl dc wa wl wc nx bz L M := ⟨h.f.keep hb, h.d.keep hb⟩
theorem FD.lt (h : FD w W gf gd a len cap m K da dl dc wa wl wc nx bz L M) : gf < W.heap.size ∧ gd < W.heap.size := ⟨h.f.lt, h.d.lt⟩
theorem FD.start (h0 : NodeRow w a len cap K) (hd : DefRow w da dl dc L) (ht : WaitRow w wa wl wc M) : FD w ((w.alloc (forB a len cap m)).alloc (deskB da dl dc wa wl wc nx bz)) w.heap.size (w.heap.size + 1) a len cap m K da dl dc wa wl wc nx bz L M := by
  have hb := below_box w (forB a len cap m)
  have hb2 := below_box (w.alloc (forB a len cap m)) (deskB da dl dc wa wl wc nx bz)
  have hs : (w.alloc (forB a len cap m)).heap.size = w.heap.size + 1 := by simp
  have h2 := DBox.start (nx := nx) (bz := bz) (hd.below hb) (ht.below hb)
  rw [hs] at h2
  exact ⟨(Box.start h0).keep hb2, ⟨h2.d, h2.t, by omega, h2.lt, h2.c0, h2.c1, h2.c2, h2.c3, hb.trans (hb2.mono (by omega))⟩⟩
end
end Go.Proofs.YtkomeijlljcdgaaGreat
namespace Go.Proofs.YtkomeijlljcdgaaGreat
open Go.RowKit
set_option maxHeartbeats 1000000 in
set_option maxRecDepth 100000 in
theorem refborn_any (s is : ByteArray) (w : World) (hs : s.size ≤ 1000000) (hi : is.size ≤ maxLen) : Calls Tryz.prog 11 #[.string s, .string is] w fun e w' => e = .returned (.int .i64 (bornZ s.toList is.toList)) ∧ Below w.heap.size w w' := by
  have CC := Lib.hid (refcustom_any s w hs)
  obtain ⟨q, hq⟩ : ∃ q, customL s.toList = q := ⟨_, rfl⟩
  rw [hq] at CC
  have n1 : is.size ≤ 9223372036854775807 := by unfold maxLen at hi; omega
  have HLE := tl_len is
  by_cases h0 : (0 : Int) < (is.size : Int)
  · have HB : Hid (bornZ s.toList is.toList = 1) := Lib.hid (by
      unfold bornZ
      rw [hq]
      cases e : is.toList with
      | nil => rw [e] at HLE; simp at HLE; omega
      | cons x l => simp)
    clear hq HLE hs
    cases q
    all_goals
      go_enter Tryz.func11, Tryz.ntmps11
      go_wp2_with (go_at_call 32; (with_reducible refine CC.out.mono ?_); rintro e w1 ⟨rfl, hb⟩; have HW := Lib.hid hb; clear hb)
      go_ret
      exact ⟨by rw [HB.out]; rfl, HW.out⟩
  · have HB : Hid (bornZ s.toList is.toList = if q = true then 1 else 0) := Lib.hid (by
      unfold bornZ
      rw [hq]
      cases e : is.toList with
      | nil => simp
      | cons x l => rw [e] at HLE; simp at HLE; omega)
    clear hq HLE hs
    cases q
    all_goals
      go_enter Tryz.func11, Tryz.ntmps11
      go_wp2_with (go_at_call 32; (with_reducible refine CC.out.mono ?_); rintro e w1 ⟨rfl, hb⟩; have HW := Lib.hid hb; clear hb)
      go_ret
      exact ⟨by rw [HB.out]; rfl, HW.out⟩
set_option maxHeartbeats 2000000 in
set_option maxRecDepth 100000 in
theorem reffate10_any (a : Option Addr) (len cap : Nat) (m : Int) (K : List NodeD) (t : Nat) (da : Option Addr) (dl dc : Nat) (wa : Option Addr) (wl wc : Nat) (nx : Int) (bz : Bool) (L : List DefD) (M : List WaitD) (c : Core) (w : World) (h : NodeRow w a len cap K) (ht : t < len) (hd : DefRow w da dl dc L) (hw : WaitRow w wa wl wc M) (hr : rightK ⟨L, M, nx, bz⟩ = true) (hc : (coreL K)[t]? = some c) :
    Calls Tryz.prog 19 #[forV a len cap m, .int .i64 t, deskV da dl dc wa wl wc nx bz] w fun e w' => e = .returned (.int .i64 (fateC ⟨L, M, nx, bz⟩ c)) ∧ Below w.heap.size w w' := by
  have FX := Lib.hid (FD.start (m := m) (nx := nx) (bz := bz) h hd hw)
  have hl0 := h.len64
  have z0 := FX.out.f.c0
  have z1 := FX.out.f.c1
  have d0 := FX.out.d.c0
  have d1 := FX.out.d.c1
  have d2 := FX.out.d.c2
  have d3 := FX.out.d.c3
  obtain ⟨b, off, nd, rfl, hb0, hnd, hat, hok⟩ := FX.out.f.row.get ht
  obtain rfl : c = nd.core := Option.some.inj (hc.symm.trans (coreL_get hnd))
  have OK := Lib.hid hok
  obtain ⟨x0, x1, x2, x3, x4, x5, x6, x7, x8, x9⟩ := hat
  obtain ⟨fz, hfz⟩ : ∃ z, fateC ⟨L, M, nx, bz⟩ nd.core = z := ⟨_, rfl⟩
  rw [hfz]
  have HFZ : Hid ((if nd.core.kind = 1 ∧ nd.core.doc = 0 then findZ2 L nd.core.name.toList nd.core.is.toList else -1) = fz) := Lib.hid (by
    rw [← hfz]
    unfold fateC ifRight
    rw [if_pos hr])
  clear h hd hw hc hok hnd hfz hr
  go_enter Tryz.func19, Tryz.ntmps19
  go_upto_region 2 with fail
  obtain ⟨W, hW, NK⟩ : ∃ W, ((w.alloc (forB (some ⟨b, off, none⟩) len cap m)).alloc (deskB da dl dc wa wl wc nx bz)).alloc (nodB nd) = W ∧ Hid (NKeep ((w.alloc (forB (some ⟨b, off, none⟩) len cap m)).alloc (deskB da dl dc wa wl wc nx bz)) W nd) := ⟨_, rfl, Lib.hid (NKeep.start OK.out)⟩
  rw [hW]
  have hs2 : ((w.alloc (forB (some ⟨b, off, none⟩) len cap m)).alloc (deskB da dl dc wa wl wc nx bz)).heap.size = w.heap.size + 1 + 1 := by simp
  have NX := NK.out.box
  rw [hs2] at NX
  have FX := Lib.hid (FX.out.keep NK.out.below)
  clear hW x0 x1 x2 x3 x4 x5 x6 x7 x8 x9 z0 z1 d0 d1 d2 d3 hb0 NK OK hs2
  have x0 := NX.c0
  have x1 := NX.c1
  have x2 := NX.c2
  have x9 := NX.c9
  have d0 := FX.out.d.c0
  have d1 := FX.out.d.c1
  have d2 := FX.out.d.c2
  have d3 := FX.out.d.c3
  clear NX
  by_cases hk : nd.core.kind = 1
  · have ek : (nd.core.kind != 1) = false := by rw [hk]; rfl
    by_cases ho : nd.core.doc = 0
    · have eo : (nd.core.doc != 0) = false := by rw [ho]; rfl
      have HF : Hid (findZ2 L nd.core.name.toList nd.core.is.toList = fz) := Lib.hid (by rw [← HFZ.out, if_pos ⟨hk, ho⟩])
      have CF : Hid (∀ V, DefRow V da dl dc L → Calls Tryz.prog 41 #[deskV da dl dc wa wl wc nx bz, .string nd.core.name, .string nd.core.is] V fun e w' => e = .returned (.int .i64 fz) ∧ Below V.heap.size V w') := Lib.hid (fun V h1 => by
        have h := reffind9_any da dl dc wa wl wc nx bz L nd.core.name nd.core.is V h1
        rw [HF.out] at h
        exact h)
      clear hk ho HFZ HF
      go_wp2_with (go_at_call 41; (with_reducible refine (CF.out _ FX.out.d.d).mono ?_); rintro e w1 ⟨rfl, hb⟩; have HB := Lib.hid (FX.out.f.below.trans (hb.mono FX.out.f.below.size)); clear hb)
      go_ret
      exact ⟨rfl, HB.out⟩
    · have eo : (nd.core.doc != 0) = true := bne_iff_ne.2 ho
      have HF : Hid (fz = -1) := Lib.hid (by rw [← HFZ.out, if_neg (fun h => ho h.2)])
      clear hk ho HFZ
      go_wp2
      go_ret
      exact ⟨by rw [HF.out]; rfl, FX.out.f.below⟩
  · have ek : (nd.core.kind != 1) = true := bne_iff_ne.2 hk
    have HF : Hid (fz = -1) := Lib.hid (by rw [← HFZ.out, if_neg (fun h => hk h.1)])
    clear hk HFZ
    go_wp2
    go_ret
    exact ⟨by rw [HF.out]; rfl, FX.out.f.below⟩
set_option maxHeartbeats 2000000 in
set_option maxRecDepth 100000 in
theorem refdues_same (a : Option Addr) (len cap : Nat) (b : Option Addr) (len2 cap2 : Nat) (T : List DueD) (w : World) (ha : DueRow w a len cap T) (hb : DueRow w b len2 cap2 T) (hup : ∀ u ∈ T, ∃ t j : Int, u = ⟨t, upT j⟩) :
    Calls Tryz.prog 20 #[.slice a len cap, .slice b len2 cap2] w fun e w' => e = .returned (.bool true) ∧ Below w.heap.size w w' := by
  have e1 : T.length = len := ha.row.hlen
  have e2 : T.length = len2 := hb.row.hlen
  obtain rfl : len2 = len := e2.symm.trans e1
  have hl0 : (len2 : Int) ≤ 9223372036854775807 := by have h1 := ha.row.hcap; have h2 := ha.row.hmax; unfold maxLen at h2; omega
  have HA := Lib.hid ha
  have HBB := Lib.hid hb
  have HU := Lib.hid hup
  clear ha hb hup e1 e2
  go_enter Tryz.func20, Tryz.ntmps20
  go_wp2_with fail
  go_loopw [5] (fun i wr => ∃ k : Nat, k ≤ len2 ∧ i = .int .i64 k ∧ Hid (Below w.heap.size w wr)) (fun i _ => len2 - (intOf i).toNat)
  case atStart => exact ⟨0, Nat.zero_le _, rfl, Lib.hid (Below.refl _ _)⟩
  case round =>
    obtain ⟨k, hk, rfl, HB⟩ := hrel
    by_cases hlt : k < len2
    · obtain ⟨ab, ao, u, rfl, hab, hu, -, huc⟩ := (HA.out.below HB.out).row.get hlt
      obtain ⟨bb, bo, u2, rfl, hbb, hu2, -, hvc⟩ := (HBB.out.below HB.out).row.get hlt
      obtain rfl : u2 = u := Option.some.inj (hu2.symm.trans hu)
      obtain ⟨t, j, rfl⟩ := HU.out _ (List.mem_of_getElem? hu)
      have s0 := Ext.cell (show wr.cell? ⟨ab, ao + k * 11, none⟩ = some (.int .i64 t) from huc 0 _ rfl) hab
      have s1 := Ext.cell (show wr.cell? ⟨ab, ao + k * 11 + 1, none⟩ = some (.int .i64 9) from huc 1 _ rfl) hab
      have s2 := Ext.cell (show wr.cell? ⟨ab, ao + k * 11 + 2, none⟩ = some (.int .i64 j) from huc 2 _ rfl) hab
      have s3 := Ext.cell (show wr.cell? ⟨ab, ao + k * 11 + 3, none⟩ = some (.string ⟨#[]⟩) from huc 3 _ rfl) hab
      have s4 := Ext.cell (show wr.cell? ⟨ab, ao + k * 11 + 4, none⟩ = some (.bool false) from huc 4 _ rfl) hab
      have s5 := Ext.cell (show wr.cell? ⟨ab, ao + k * 11 + 5, none⟩ = some (.bool false) from huc 5 _ rfl) hab
      have s6 := Ext.cell (show wr.cell? ⟨ab, ao + k * 11 + 6, none⟩ = some (.string ⟨#[]⟩) from huc 6 _ rfl) hab
      have s7 := Ext.cell (show wr.cell? ⟨ab, ao + k * 11 + 7, none⟩ = some (.string ⟨#[]⟩) from huc 7 _ rfl) hab
      have s8 := Ext.cell (show wr.cell? ⟨ab, ao + k * 11 + 8, none⟩ = some (.int .i64 0) from huc 8 _ rfl) hab
      have s9 := Ext.cell (show wr.cell? ⟨ab, ao + k * 11 + 9, none⟩ = some (.int .i64 0) from huc 9 _ rfl) hab
      have s10 := Ext.cell (show wr.cell? ⟨ab, ao + k * 11 + 10, none⟩ = some (.bool false) from huc 10 _ rfl) hab
      have t0 := Ext.cell (show wr.cell? ⟨bb, bo + k * 11, none⟩ = some (.int .i64 t) from hvc 0 _ rfl) hbb
      have t1 := Ext.cell (show wr.cell? ⟨bb, bo + k * 11 + 1, none⟩ = some (.int .i64 9) from hvc 1 _ rfl) hbb
      have t2 := Ext.cell (show wr.cell? ⟨bb, bo + k * 11 + 2, none⟩ = some (.int .i64 j) from hvc 2 _ rfl) hbb
      have t3 := Ext.cell (show wr.cell? ⟨bb, bo + k * 11 + 3, none⟩ = some (.string ⟨#[]⟩) from hvc 3 _ rfl) hbb
      have t4 := Ext.cell (show wr.cell? ⟨bb, bo + k * 11 + 4, none⟩ = some (.bool false) from hvc 4 _ rfl) hbb
      have t5 := Ext.cell (show wr.cell? ⟨bb, bo + k * 11 + 5, none⟩ = some (.bool false) from hvc 5 _ rfl) hbb
      have t6 := Ext.cell (show wr.cell? ⟨bb, bo + k * 11 + 6, none⟩ = some (.string ⟨#[]⟩) from hvc 6 _ rfl) hbb
      have t7 := Ext.cell (show wr.cell? ⟨bb, bo + k * 11 + 7, none⟩ = some (.string ⟨#[]⟩) from hvc 7 _ rfl) hbb
      have t8 := Ext.cell (show wr.cell? ⟨bb, bo + k * 11 + 8, none⟩ = some (.int .i64 0) from hvc 8 _ rfl) hbb
      have t9 := Ext.cell (show wr.cell? ⟨bb, bo + k * 11 + 9, none⟩ = some (.int .i64 0) from hvc 9 _ rfl) hbb
      have t10 := Ext.cell (show wr.cell? ⟨bb, bo + k * 11 + 10, none⟩ = some (.bool false) from hvc 10 _ rfl) hbb
      clear huc hvc hu hu2 hab hbb
      go_upto_region 6 with fail
      refine wp_region_ext (by kernel_rfl) (by kernel_rfl) ?_
      repeat (go_big_quiet_step (fail))
      refine wpQuiet_nil ?_
      intro w' hw'
      obtain ⟨⟨w8, hb8⟩, hw''⟩ := hw'
      dsimp only at hw''
      subst hw''
      clear s0 s1 s2 s3 s4 s5 s6 s7 s8 s9 s10 t0 t1 t2 t3 t4 t5 t6 t7 t8 t9 t10
      have HBE : Hid (Below w.heap.size w w') := Lib.hid (HB.out.trans (hb8.mono HB.out.size))
      clear hb8
      go_wp2
      go_roundw
      case rel => exact ⟨k + 1, by omega, by go_num, HBE⟩
      case measure => simp [intOf]; omega
    · have hkd : k = len2 := by omega
      subst hkd
      go_wp2
      go_ret
      exact ⟨rfl, HB.out⟩
end Go.Proofs.YtkomeijlljcdgaaGreat
