/- Texts joined in build order: PrintFresh AbleAwake AbleBegin. -/
import Derived.Test.YtnjoimedilonnaaGreatC45
import Derived.Test.YtnjoimedilonnaaGreatC43
import Derived.Test.YtnjoimedilonnaaGreatC41
import Derived.Test.YtnjoimedilonnaaGreatC07
import Derived.Test.YtnjoimedilonnaaGreatC13
import Derived.Test.YtnjoimedilonnaaGreatC27
namespace Go.Proofs.YtnjoimedilonnaaGreat
open Go.RowKit
set_option maxHeartbeats 4000000 in
set_option maxRecDepth 100000 in
theorem pRead_ok (a : Option Addr) (len cap : Nat) (m : Int) (L : List NodeD) (dn : Nat) (s : BL) (F1 : List Core) (c : Core) (w : World) (h : NodeRow w a len cap L) (hm : In64 m) (hs : smallF L) (hk : rootZ m (coreL L) dn ≠ -1) (hc : (coreL L)[dn]? = some c) (hck : c.kind = 0) (hl : s.length ≤ 16384)
    {fu : Nat} (hr : readM dn fu .node s (coreL L) = some ([], F1)) (hri : rightF 400 F1 = true) (hF : (F1.length : Int) ≤ m) :
    Calls Tryz.prog 23 #[forV a len cap m, .int .i64 (dn : Int), .string (strB s)] w (WkFor w m F1 [.int .i64 (len : Int), .int .i64 0]) := by
  have CR : Hid (∀ W, NodeRow W a len cap L → Calls Tryz.prog 39 #[forV a len cap m, .int .i64 (dn : Int), .string (strB s)] W (WkFor W m F1 [.int .i64 0])) := Lib.hid (fun W h1 => pread_ok a len cap m L dn s F1 c W h1 hm hs hk hc hck hl hr hri hF)
  have hlen : (len : Int) ≤ 9223372036854775807 := by have := h.len64; omega
  obtain ⟨w0, hw0, BX, RB, HB0⟩ : ∃ w0, (w.alloc (forB a len cap m)).alloc (.cells #[.slice none 0 0, .int .i64 0] 24) = w0 ∧ Hid (Box w w0 w.heap.size a len cap m L (coreL L)) ∧ Hid (Box2 w0 (w.heap.size + 1) (.slice none 0 0) (.int .i64 0)) ∧ Hid (w0.heap.size = w.heap.size + 2) := by
    refine ⟨_, rfl, Lib.hid ((Box.start h).keep (below_box _ _)), Lib.hid (Box2.newAt (by simp)), Lib.hid (by simp)⟩
  have HW0 := Lib.hid hw0
  have z0 := BX.out.c0
  have z1 := BX.out.c1
  obtain ⟨S, hS⟩ : ∃ S, strB s = S := ⟨_, rfl⟩
  rw [hS] at CR ⊢
  clear h hm hs hk hc hck hl hr hri hF hw0 hS
  go_enter Tryz.func23, Tryz.ntmps23
  go_upto_region 1 with fail
  rw [HW0.out]
  go_upto_region 4 with (go_at_call 39; (with_reducible refine (CR.out _ BX.out.row).mono ?_); rintro e w1 ⟨ρ, pw, g, cap1, len1, M, v, rfl, hWk, hsm, hcm, hb, hlo⟩; have HWK := Lib.hid hWk; have HSM := Lib.hid hsm; have HCM := Lib.hid hcm; have HB1 := Lib.hid hb; have HLO := Lib.hid hlo; clear hWk hsm hcm hb hlo z0 z1)
  obtain ⟨w2, tb, hw2, htb, HB2, NB⟩ : ∃ w2 tb, w1.alloc (forB (some ⟨g, 0, none⟩) len1 cap1 m) = w2 ∧ w1.heap.size = tb ∧ Hid (Below w1.heap.size w1 w2) ∧ Hid (Box2 w2 tb (.slice (some ⟨g, 0, none⟩) len1 cap1) (.int .i64 m)) := ⟨_, _, rfl, rfl, Lib.hid (below_box _ _), Lib.hid (Box2.new w1 _ _ _)⟩
  rw [hw2, htb]
  clear hw2
  have HTB := Lib.hid htb
  clear htb
  have HB3 := Lib.hid (HB1.out.trans (HB2.out.mono HB1.out.size))
  have BX2 := Lib.hid (BX.out.keep HB3.out)
  have RB2 := Lib.hid (RB.out.keep HB3.out)
  have hs1 := HB1.out.size
  have hs0 := HB0.out
  have htb := HTB.out
  have z0 := BX2.out.c0
  have n0 := NB.out.c0
  have n1 := NB.out.c1
  have d0 := RB2.out.c0
  have d1 := RB2.out.c1
  have f0 := RB2.out.f0
  have f1 := RB2.out.f1
  have hne1 : w.heap.size + 1 ≠ tb := by omega
  have hne2 : tb ≠ w.heap.size + 1 := by omega
  have hne3 : w.heap.size + 1 ≠ w.heap.size := by omega
  have hne4 : w.heap.size ≠ w.heap.size + 1 := by omega
  go_region_held3 (fun w' => w'.cell? ⟨w.heap.size, 0, none⟩ = some (.slice a len cap) ∧ w'.cell? ⟨tb, 0, none⟩ = some (.slice (some ⟨g, 0, none⟩) len1 cap1) ∧ w'.cell? ⟨tb, 1, none⟩ = some (.int .i64 m)) (go_keep) (fail)
  all_goals go_wp2
  all_goals
    have q0 : ((w2.setCell ⟨w.heap.size + 1, 0, none⟩ (.slice (some ⟨g, 0, none⟩) len1 cap1)).setCell ⟨w.heap.size + 1, 1, none⟩ (.int .i64 m)).cell? ⟨w.heap.size + 1, 0, none⟩ = some (.slice (some ⟨g, 0, none⟩) len1 cap1) := (World.cell?_setCell_other _ _ _ _ (fun e => by injection e with _ e; omega)).trans (World.cell?_setCell_same _ _ _ d0)
    have q1 : ((w2.setCell ⟨w.heap.size + 1, 0, none⟩ (.slice (some ⟨g, 0, none⟩) len1 cap1)).setCell ⟨w.heap.size + 1, 1, none⟩ (.int .i64 m)).cell? ⟨w.heap.size + 1, 1, none⟩ = some (.int .i64 m) := World.cell?_setCell_same _ _ _ ((World.cell?_setCell_other _ _ _ _ (fun e => by injection e with _ e; omega)).trans d1)
    have hWK := (HWK.out.keep HB2.out).stored2 (b := w.heap.size + 1) (B := w0.heap.size) (by omega) HB3.out.size HLO.out (.slice (some ⟨g, 0, none⟩) len1 cap1) (.int .i64 m)
    have hBE : Below w.heap.size w (((w2.setCell ⟨w.heap.size + 1, 0, none⟩ (.slice (some ⟨g, 0, none⟩) len1 cap1)).setCell ⟨w.heap.size + 1, 1, none⟩ (.int .i64 m)).drew) :=
      ((BX2.out.below.setCell (p := ⟨w.heap.size + 1, 0, none⟩) (by show w.heap.size ≤ w.heap.size + 1; omega) _).setCell (p := ⟨w.heap.size + 1, 1, none⟩) (by show w.heap.size ≤ w.heap.size + 1; omega) _).drew
    refine bodyPost_ret (v := .tuple #[forV (some ⟨g, 0, none⟩) len1 cap1 m, .int .i64 (len : Int), .int .i64 0]) ?_ rfl ⟨_, pw, g, cap1, len1, M, v, rfl, hWK.keep ((Below.refl _ _).drew), HSM.out, HCM.out, hBE, fun k hk => ?_⟩
    · simp [results, Tryz.results23, go_sem, q0, q1]
    · unfold upd
      rw [if_neg (fun e => by injection e with e; omega)]
      exact HLO.out k (by omega)
set_option maxHeartbeats 4000000 in
set_option maxRecDepth 100000 in
theorem pFresh_ok (m : Int) (s : BL) (F1 : List Core) (w : World) (hm : In64 m) (hm1 : 1 ≤ m) (hm2 : m ≤ 400) (hl : s.length ≤ 16384) {fu : Nat} (hr : readM 0 fu .node s [docC] = some ([], F1)) (hri : rightF 400 F1 = true) (hF : (F1.length : Int) ≤ m) :
    Calls Tryz.prog 12 #[.string (strB s), .int .i64 m] w (WkFor w m F1 [.int .i64 1, .int .i64 0]) := by
  have hok : newOk m = true := by unfold newOk; rw [decide_eq_true hm1, decide_eq_true hm2]; rfl
  have CN : Hid (∀ W, Calls Tryz.prog 22 #[.int .i64 m] W (ForPost W [docC] m [.int .i64 0])) := Lib.hid (fun W => by
    have := newFn_any m W hm
    rwa [show newL m = [docC] by unfold newL; rw [if_pos hok], show newM m = m by unfold newM; rw [if_pos hok], show newE m = 0 by unfold newE; rw [if_pos hok]] at this)
  have CR : Hid (∀ W a len cap L, NodeRow W a len cap L → coreL L = [docC] → Calls Tryz.prog 23 #[forV a len cap m, .int .i64 0, .string (strB s)] W (WkFor W m F1 [.int .i64 1, .int .i64 0])) := Lib.hid (fun W a len cap L h1 h2 => by
    have hlen : len = 1 := by have := congrArg List.length h2; rw [coreL_len, h1.hlen] at this; exact this
    subst hlen
    obtain ⟨y, rfl⟩ : ∃ y, L = [y] := by
      have := h1.hlen
      cases L with
      | nil => cases this
      | cons y t => cases t with
        | nil => exact ⟨y, rfl⟩
        | cons _ _ => simp at this
    have hy : y.core = docC := by unfold coreL at h2; simpa using h2
    have hro : rootZ m [docC] ((0 : Nat) : Int) ≠ -1 := by
      unfold rootZ thereF
      rw [right_doc, hok]
      simp
    exact pRead_ok a 1 cap m [y] 0 s F1 docC W h1 hm (doc_small hy) (by rw [h2]; exact hro) (by rw [h2]; rfl) rfl hl (by rw [h2]; exact hr) hri hF)
  obtain ⟨w0, hw0, RB, HB0⟩ : ∃ w0, w.alloc (.cells #[.slice none 0 0, .int .i64 0] 24) = w0 ∧ Hid (Box2 w0 w.heap.size (.slice none 0 0) (.int .i64 0)) ∧ Hid (Below w.heap.size w w0) := by
    refine ⟨_, rfl, Lib.hid (Box2.new w _ _ _), Lib.hid (below_box _ _)⟩
  have HW0 := Lib.hid hw0
  obtain ⟨S, hS⟩ : ∃ S, strB s = S := ⟨_, rfl⟩
  rw [hS] at CR ⊢
  clear hm hm1 hm2 hl hr hri hF hok hw0 hS
  go_enter Tryz.func12, Tryz.ntmps12
  go_upto_region 1 with fail
  rw [HW0.out]
  go_upto_region 4 with (go_at_call 22; (refine (CN.out _).mono ?_); rintro e w1 ⟨a1, len1, cap1, L1, rfl, hr1, hc1, hb1⟩; have HR1 := Lib.hid hr1; have HC1 := Lib.hid hc1; have HB1 := Lib.hid hb1; clear hr1 hc1 hb1)
  obtain ⟨w2, tb, hw2, htb, HB2, NB, HR2⟩ : ∃ w2 tb, w1.alloc (forB a1 len1 cap1 m) = w2 ∧ w1.heap.size = tb ∧ Hid (Below w1.heap.size w1 w2) ∧ Hid (Box2 w2 tb (.slice a1 len1 cap1) (.int .i64 m)) ∧ Hid (NodeRow w2 a1 len1 cap1 L1) := ⟨_, _, rfl, rfl, Lib.hid (below_box _ _), Lib.hid (Box2.new w1 _ _ _), Lib.hid (HR1.out.below (below_box _ _))⟩
  rw [hw2, htb]
  clear hw2
  have HTB := Lib.hid htb
  clear htb
  have RB2 := Lib.hid ((RB.out.keep HB1.out).keep HB2.out)
  have n0 := NB.out.c0
  have n1 := NB.out.c1
  go_upto_region 5 with (go_at_call 23; (with_reducible refine (CR.out _ _ _ _ _ HR2.out HC1.out).mono ?_); rintro e w3 ⟨ρ, pw, g, cap3, len3, M, v, rfl, hWk, hsm, hcm, hb, hlo⟩; have HWK := Lib.hid hWk; have HSM := Lib.hid hsm; have HCM := Lib.hid hcm; have HB3 := Lib.hid hb; have HLO := Lib.hid hlo; clear n0 n1; have n0 := (NB.out.keep hb).c0; have n1 := (NB.out.keep hb).c1; have nf0 := (NB.out.keep hb).f0; have nf1 := (NB.out.keep hb).f1; clear hWk hsm hcm hb hlo)
  have hs0 := HB0.out.size
  have hs1 := HB1.out.size
  have hs2 := HB2.out.size
  have htb := HTB.out
  have hlt0 := RB.out.lt
  have htl := NB.out.lt
  have hne : w.heap.size ≠ tb := by omega
  have hne' : tb ≠ w.heap.size := by omega
  have RB3 := Lib.hid (RB2.out.keep HB3.out)
  obtain ⟨W4, hW4, HWK4, HB4, HZ4, M0, M1, D0, D1, DF⟩ : ∃ W4, (w3.setCell ⟨tb, 0, none⟩ (.slice (some ⟨g, 0, none⟩) len3 cap3)).setCell ⟨tb, 1, none⟩ (.int .i64 m) = W4 ∧ Hid (Wk (upd ρ (some tb) 4) W4 pw g cap3 len3 m M v []) ∧ Hid (Below w.heap.size w W4) ∧ Hid (w.heap.size + 1 ≤ W4.heap.size) ∧ Hid (W4.cell? ⟨tb, 0, none⟩ = some (.slice (some ⟨g, 0, none⟩) len3 cap3)) ∧ Hid (W4.cell? ⟨tb, 1, none⟩ = some (.int .i64 m)) ∧ Hid (W4.cell? ⟨w.heap.size, 0, none⟩ = some (.slice none 0 0)) ∧ Hid (W4.cell? ⟨w.heap.size, 1, none⟩ = some (.int .i64 0)) ∧ Hid (∀ o, W4.frozen? ⟨w.heap.size, o, none⟩ = w3.frozen? ⟨w.heap.size, o, none⟩) := by
    refine ⟨_, rfl, Lib.hid (HWK.out.stored2 htl HB3.out.size HLO.out _ _), Lib.hid ?_, Lib.hid (by have := HB3.out.size; simp only [World.setCell, Array.size_modify]; omega), Lib.hid ?_, Lib.hid ?_, Lib.hid ?_, Lib.hid ?_, Lib.hid ?_⟩
    · have hb := ((HB0.out.trans (HB1.out.mono hs0)).trans (HB2.out.mono (by omega))).trans (HB3.out.mono (by omega))
      exact (hb.setCell (p := ⟨tb, 0, none⟩) (by show w.heap.size ≤ tb; omega) _).setCell (p := ⟨tb, 1, none⟩) (by show w.heap.size ≤ tb; omega) _
    · exact (World.cell?_setCell_other _ _ _ _ (fun e => by injection e with _ e; omega)).trans (World.cell?_setCell_same _ _ _ n0)
    · exact World.cell?_setCell_same _ _ _ ((World.cell?_setCell_other _ _ _ _ (fun e => by injection e with _ e; omega)).trans n1)
    · exact ((World.cell?_setCell_other _ _ _ _ (fun e => by injection e with e _; exact hne' e)).trans (World.cell?_setCell_other _ _ _ _ (fun e => by injection e with e _; exact hne' e))).trans RB3.out.c0
    · exact ((World.cell?_setCell_other _ _ _ _ (fun e => by injection e with e _; exact hne' e)).trans (World.cell?_setCell_other _ _ _ _ (fun e => by injection e with e _; exact hne' e))).trans RB3.out.c1
    · intro o
      rw [World.frozen?_setCell, World.frozen?_setCell]
  rw [hW4]
  clear hW4 n0 n1 nf0 nf1
  have n0 := M0.out
  have n1 := M1.out
  have d0 := D0.out
  have d1 := D1.out
  have f0 : W4.frozen? ⟨w.heap.size, 0, none⟩ = false := (DF.out 0).trans RB3.out.f0
  have f1 : W4.frozen? ⟨w.heap.size, 1, none⟩ = false := (DF.out 1).trans RB3.out.f1
  go_wp2
  have q0 : ((W4.setCell ⟨w.heap.size, 0, none⟩ (.slice (some ⟨g, 0, none⟩) len3 cap3)).setCell ⟨w.heap.size, 1, none⟩ (.int .i64 m)).cell? ⟨w.heap.size, 0, none⟩ = some (.slice (some ⟨g, 0, none⟩) len3 cap3) := (World.cell?_setCell_other _ _ _ _ (fun e => by injection e with _ e; omega)).trans (World.cell?_setCell_same _ _ _ d0)
  have q1 : ((W4.setCell ⟨w.heap.size, 0, none⟩ (.slice (some ⟨g, 0, none⟩) len3 cap3)).setCell ⟨w.heap.size, 1, none⟩ (.int .i64 m)).cell? ⟨w.heap.size, 1, none⟩ = some (.int .i64 m) := World.cell?_setCell_same _ _ _ ((World.cell?_setCell_other _ _ _ _ (fun e => by injection e with _ e; omega)).trans d1)
  have hlow : ∀ k, k < w.heap.size + 1 → upd ρ (some tb) 4 k = 0 := fun k hk => by
    unfold upd
    rw [if_neg (fun e => by injection e with e; omega)]
    exact HLO.out k (by omega)
  have hWK := HWK4.out.stored2 (b := w.heap.size) (B := w.heap.size + 1) (by omega) HZ4.out hlow (.slice (some ⟨g, 0, none⟩) len3 cap3) (.int .i64 m)
  have hBE : Below w.heap.size w ((W4.setCell ⟨w.heap.size, 0, none⟩ (.slice (some ⟨g, 0, none⟩) len3 cap3)).setCell ⟨w.heap.size, 1, none⟩ (.int .i64 m)) := (HB4.out.setCell (p := ⟨w.heap.size, 0, none⟩) (Nat.le_refl _) _).setCell (p := ⟨w.heap.size, 1, none⟩) (Nat.le_refl _) _
  refine bodyPost_ret (v := .tuple #[forV (some ⟨g, 0, none⟩) len3 cap3 m, .int .i64 1, .int .i64 0]) ?_ rfl ⟨_, pw, g, cap3, len3, M, v, rfl, hWK, HSM.out, HCM.out, hBE, fun k hk => ?_⟩
  · simp [results, Tryz.results12, go_sem, q0, q1]
  · unfold upd
    rw [if_neg (fun e => by injection e with e; omega)]
    exact hlow k (by omega)
end Go.Proofs.YtnjoimedilonnaaGreat
namespace Go.Proofs.YtnjoimedilonnaaGreat
open Go.RowKit
def aw14S : BL := [60, 102, 105, 101, 108, 100, 115, 101, 116, 32, 100, 105, 115, 97, 98, 108, 101, 100, 61, 34, 34, 62, 60, 108, 101, 103, 101, 110, 100, 62, 60, 105, 110, 112, 117, 116, 62, 60, 47, 105, 110, 112, 117, 116, 62, 60, 47, 108, 101, 103, 101, 110, 100, 62, 60, 105, 110, 112, 117, 116, 62, 60, 47, 105, 110, 112, 117, 116, 62, 60, 47, 102, 105, 101, 108, 100, 115, 101, 116, 62]
def aw14F : List Core := match readM 0 100 .node aw14S [docC] with | some (_, F) => F | none => []
theorem aw14a : readM 0 100 .node aw14S [docC] = some ([], aw14F) := by decide +kernel
theorem aw14b : rightF 400 aw14F = true ∧ (aw14F.length : Int) ≤ 9 := by decide +kernel
theorem aw14c : legO 9 aw14F 1 = 2 := by decide +kernel
theorem aw14d : barO 9 aw14F 1 = true ∧ barO 9 aw14F 2 = false ∧ barO 9 aw14F 3 = false ∧ barO 9 aw14F 4 = true := by decide +kernel
theorem aw14e : allB 9 aw14F = [1, 4] := by decide +kernel
theorem aw14s {L : List NodeD} (h : coreL L = aw14F) : smallF L := mvSmall h (by decide +kernel)
theorem in14 {z : Int} (h : -100 ≤ z) (h2 : z ≤ 100) : In64 z := ⟨by omega, by omega⟩
theorem lit_two14 (w : World) (e : TypeId) (n m : Int) (h1 : In64 n) (h2 : In64 m) : IntRow (w.alloc (.cells #[.int .i64 n, .int .i64 m] e)) (some ⟨w.heap.size, 0, none⟩) 2 2 [n, m] := by
  have hb := CBox.new w #[.int .i64 n, .int .i64 m] e
  refine ⟨CBox.row (L := [n, m]) (enc := encZ) hb (fun _ => rfl) rfl (by unfold maxLen; omega), fun z hz => ?_, fun h => by cases h⟩
  simp at hz
  rcases hz with rfl | rfl <;> assumption
set_option maxHeartbeats 8000000 in
set_option maxRecDepth 100000 in
theorem awake14_any (w : World) : Calls Tryz.prog 4 #[] w fun e w' => e = .returned (.bool true) ∧ Below w.heap.size w w' := by
  have in9 : In64 9 := in14 (by decide) (by decide)
  have CF : Hid (∀ W, Calls Tryz.prog 12 #[.string ⟨#[60, 102, 105, 101, 108, 100, 115, 101, 116, 32, 100, 105, 115, 97, 98, 108, 101, 100, 61, 34, 34, 62, 60, 108, 101, 103, 101, 110, 100, 62, 60, 105, 110, 112, 117, 116, 62, 60, 47, 105, 110, 112, 117, 116, 62, 60, 47, 108, 101, 103, 101, 110, 100, 62, 60, 105, 110, 112, 117, 116, 62, 60, 47, 105, 110, 112, 117, 116, 62, 60, 47, 102, 105, 101, 108, 100, 115, 101, 116, 62]⟩, .int .i64 9] W (WkFor W 9 aw14F [.int .i64 1, .int .i64 0])) := Lib.hid (fun W => pFresh_ok 9 aw14S aw14F W in9 (by decide) (by decide) (by decide) aw14a aw14b.1 aw14b.2)
  have CL : Hid (∀ W a len cap L, NodeRow W a len cap L → coreL L = aw14F → Calls Tryz.prog 9 #[forV a len cap 9, .int .i64 1] W fun e w' => e = .returned (.int .i64 2) ∧ Below W.heap.size W w') := Lib.hid (fun W a len cap L h hc => by
    have := legO_any a len cap 9 L 1 W h in9 (aw14s hc)
    rwa [hc, aw14c] at this)
  have CB1 : Hid (∀ W a len cap L, NodeRow W a len cap L → coreL L = aw14F → Calls Tryz.prog 8 #[forV a len cap 9, .int .i64 1] W fun e w' => e = .returned (.bool true) ∧ Below W.heap.size W w') := Lib.hid (fun W a len cap L h hc => by
    have := barO_any a len cap 9 L 1 W h in9 (aw14s hc)
    rwa [hc, aw14d.1] at this)
  have CB2 : Hid (∀ W a len cap L, NodeRow W a len cap L → coreL L = aw14F → Calls Tryz.prog 8 #[forV a len cap 9, .int .i64 2] W fun e w' => e = .returned (.bool false) ∧ Below W.heap.size W w') := Lib.hid (fun W a len cap L h hc => by
    have := barO_any a len cap 9 L 2 W h in9 (aw14s hc)
    rwa [hc, aw14d.2.1] at this)
  have CB3 : Hid (∀ W a len cap L, NodeRow W a len cap L → coreL L = aw14F → Calls Tryz.prog 8 #[forV a len cap 9, .int .i64 3] W fun e w' => e = .returned (.bool false) ∧ Below W.heap.size W w') := Lib.hid (fun W a len cap L h hc => by
    have := barO_any a len cap 9 L 3 W h in9 (aw14s hc)
    rwa [hc, aw14d.2.2.1] at this)
  have CB4 : Hid (∀ W a len cap L, NodeRow W a len cap L → coreL L = aw14F → Calls Tryz.prog 8 #[forV a len cap 9, .int .i64 4] W fun e w' => e = .returned (.bool true) ∧ Below W.heap.size W w') := Lib.hid (fun W a len cap L h hc => by
    have := barO_any a len cap 9 L 4 W h in9 (aw14s hc)
    rwa [hc, aw14d.2.2.2] at this)
  have CA : Hid (∀ W a len cap L, NodeRow W a len cap L → coreL L = aw14F → Calls Tryz.prog 6 #[forV a len cap 9] W (OrdNew W [1, 4])) := Lib.hid (fun W a len cap L h hc => by
    have := allB_any a len cap 9 L W h in9 (aw14s hc)
    rwa [hc, aw14e] at this)
  have CT : Hid (∀ W a b c1 c2, IntRow W a 2 c1 [1, 4] → IntRow W b 2 c2 [1, 4] → Calls Tryz.prog 13 #[.slice a 2 c1, .slice b 2 c2] W fun e w' => e = .returned (.bool true) ∧ ∃ n, w' = W.drewN n) := Lib.hid (fun W a b c1 c2 h1 h2 => refints_any a b 2 c1 2 c2 [1, 4] [1, 4] W h1 h2)
  clear in9
  go_enter Tryz.func4, Tryz.ntmps4
  go_upto_region 2 with (go_at_call 12; (with_reducible refine (CF.out _).mono ?_); rintro e w1 ⟨ρ, pw, g, cap, len, M, v, rfl, hWk, hsm, hcm, hb, -⟩; have BF := Lib.hid (MBox.new (m := 9) hb hWk.row hcm).box; clear hWk hsm hcm hb)
  have z0 := BF.out.c0
  have z1 := BF.out.c1
  clear CF
  go_wp2_with (first
    | (go_at_call 9; (with_reducible refine (CL.out _ _ _ _ _ BF.out.row BF.out.core).mono ?_); rintro e w4 ⟨rfl, hb⟩; (have BF := Lib.hid (BF.out.keep hb); clear z0 z1; have z0 := BF.out.c0; have z1 := BF.out.c1); clear hb)
    | (go_at_call 8; (with_reducible refine (CB1.out _ _ _ _ _ BF.out.row BF.out.core).mono ?_); rintro e w4 ⟨rfl, hb⟩; (have BF := Lib.hid (BF.out.keep hb); clear z0 z1; have z0 := BF.out.c0; have z1 := BF.out.c1); clear hb)
    | (go_at_call 8; (with_reducible refine (CB2.out _ _ _ _ _ BF.out.row BF.out.core).mono ?_); rintro e w4 ⟨rfl, hb⟩; (have BF := Lib.hid (BF.out.keep hb); clear z0 z1; have z0 := BF.out.c0; have z1 := BF.out.c1); clear hb)
    | (go_at_call 8; (with_reducible refine (CB3.out _ _ _ _ _ BF.out.row BF.out.core).mono ?_); rintro e w4 ⟨rfl, hb⟩; (have BF := Lib.hid (BF.out.keep hb); clear z0 z1; have z0 := BF.out.c0; have z1 := BF.out.c1); clear hb)
    | (go_at_call 8; (with_reducible refine (CB4.out _ _ _ _ _ BF.out.row BF.out.core).mono ?_); rintro e w4 ⟨rfl, hb⟩; (have BF := Lib.hid (BF.out.keep hb); clear z0 z1; have z0 := BF.out.c0; have z1 := BF.out.c1); clear hb)
    | (go_at_call 6; (with_reducible refine (CA.out _ _ _ _ _ BF.out.row BF.out.core).mono ?_); rintro e w5 ⟨a5, l5, c5, rfl, hr5, hb, -⟩; obtain rfl : 2 = l5 := hr5.hlen; have IR := Lib.hid hr5; (have BF := Lib.hid (BF.out.keep hb); clear z0 z1; have z0 := BF.out.c0; have z1 := BF.out.c1); clear hb hr5)
    | (go_at_call 13; (with_reducible refine (CT.out _ _ _ _ _ (IR.out.below (box_below _ _)) (lit_two14 _ _ _ _ (in14 (by decide) (by decide)) (in14 (by decide) (by decide)))).mono ?_); rintro e w6 ⟨rfl, n6, rfl⟩; have hb := below_drewN (box_below w5 (.cells #[.int .i64 1, .int .i64 4] 3)) n6; (have BF := Lib.hid (BF.out.keep hb); clear z0 z1; have z0 := BF.out.c0; have z1 := BF.out.c1); clear hb))
  go_ret
  exact ⟨rfl, BF.out.below⟩
end Go.Proofs.YtnjoimedilonnaaGreat
namespace Go.Proofs.YtnjoimedilonnaaGreat
open Go.RowKit
end Go.Proofs.YtnjoimedilonnaaGreat
