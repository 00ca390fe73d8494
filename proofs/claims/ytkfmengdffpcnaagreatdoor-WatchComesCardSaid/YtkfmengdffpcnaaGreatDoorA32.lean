/- Texts joined in build order: MoveEnds. -/
import Derived.Test.YtkfmengdffpcnaaGreatDoorA30
import Derived.Test.YtkfmengdffpcnaaGreatDoorA24
import Derived.Test.YtkfmengdffpcnaaGreatDoorA31
namespace Go.Proofs.YtkfmengdffpcnaaGreatDoor
open Go.RowKit
structure Held (w w' : World) (pw wb : Nat) (a2 : Option Addr) (len cap2 : Nat) (m : Int) (M : List NodeD) (F : List Core) : Prop where
  row : NodeRow w' a2 len cap2 M
  core : coreL M = F
  c0 : w'.cell? ⟨pw, 0, none⟩ = some (.slice a2 len cap2)
  c1 : w'.cell? ⟨pw, 1, none⟩ = some (.int .i64 m)
  c2 : w'.cell? ⟨pw, 2, none⟩ = some (.slice none 0 0)
  lt : pw < w'.heap.size
  below : Below w.heap.size w w'
  new : ∀ x ∈ M, newLists w.heap.size x
  rlo : ∀ b off, a2 = some ⟨b, off, none⟩ → w.heap.size ≤ b
  wlt : wb < w'.heap.size
  wc : w'.cell? ⟨wb, 0, none⟩ = some (ptrV pw)
  wk : 0 < len → ∃ g ρ, a2 = some ⟨g, 0, none⟩ ∧ Wk ρ w' pw g cap2 len m M (.slice none 0 0) [] ∧ (∀ k, k < w.heap.size → ρ k = 0) ∧ ρ wb = 0
theorem Held.keep {w w' w2 : World} {pw wb : Nat} {a2 : Option Addr} {len cap2 : Nat} {m : Int} {M : List NodeD} {F : List Core} (h : Held w w' pw wb a2 len cap2 m M F) (hb : Below w'.heap.size w' w2) : Held w w2 pw wb a2 len cap2 m M F :=
  ⟨h.row.below hb, h.core, (hb.cell (p := ⟨pw, 0, none⟩) h.lt).trans h.c0, (hb.cell (p := ⟨pw, 1, none⟩) h.lt).trans h.c1, (hb.cell (p := ⟨pw, 2, none⟩) h.lt).trans h.c2, Nat.lt_of_lt_of_le h.lt hb.size, h.below.trans (hb.mono h.below.size), h.new, h.rlo, Nat.lt_of_lt_of_le h.wlt hb.size, (hb.cell (p := ⟨wb, 0, none⟩) h.wlt).trans h.wc, fun h0 => by
    obtain ⟨g, ρ, h1, h2, h3⟩ := h.wk h0
    exact ⟨g, ρ, h1, h2.keep hb, h3⟩⟩
theorem held_below (w1 : World) (pw : Nat) : Below w1.heap.size w1 (w1.alloc (wkB pw)) := below_box _ _
theorem Begun.held {w w1 : World} {pw : Nat} {a2 : Option Addr} {len cap2 : Nat} {m : Int} {M : List NodeD} {F : List Core} (h : Begun w w1 pw a2 len cap2 m M F) : Held w (w1.alloc (wkB pw)) pw w1.heap.size a2 len cap2 m M F := by
  have hb := held_below w1 pw
  exact ⟨h.row.below hb, h.core, (hb.cell (p := ⟨pw, 0, none⟩) h.lt).trans h.c0, (hb.cell (p := ⟨pw, 1, none⟩) h.lt).trans h.c1, (hb.cell (p := ⟨pw, 2, none⟩) h.lt).trans h.c2, Nat.lt_of_lt_of_le h.lt hb.size, h.below.trans (hb.mono h.below.size), h.new, h.rlo, by simp, cell_box, fun h0 => by
    obtain ⟨g, ρ, h1, h2, h3⟩ := h.wk h0
    exact ⟨g, ρ, h1, h2.keep hb, h3, h2.fresh _ (Nat.le_refl _)⟩⟩
set_option maxHeartbeats 4000000 in
set_option maxRecDepth 100000 in
theorem mbegin_any (a : Option Addr) (len cap : Nat) (m : Int) (L : List NodeD) (w : World) (h : NodeRow w a len cap L) (hs : smallF L) :
    Calls Tryz.prog 23 #[forV a len cap m] w fun e w' => ∃ pw a2 cap2 M, e = .returned (workV pw) ∧ Begun w w' pw a2 len cap2 m M (coreL L) := by
  have CF : Hid (∀ W, NodeRow W a len cap L → Calls Tryz.prog 49 #[forV a len cap m] W fun e w' => ∃ pw a2 cap2 M, e = .returned (ptrV pw) ∧ Begun W w' pw a2 len cap2 m M (coreL L)) := Lib.hid (fun W h1 => cbegin_any a len cap m L W h1 hs)
  obtain ⟨w0, hw0, BX, HB0, HZ⟩ : ∃ w0, (w.alloc (forB a len cap m)).alloc wkZ = w0 ∧ Hid (Box w w0 w.heap.size a len cap m L (coreL L)) ∧ Hid (Below w.heap.size w w0) ∧ Hid (w0.cell? ⟨w.heap.size + 1, 0, none⟩ = some (.pointer none) ∧ w0.frozen? ⟨w.heap.size + 1, 0, none⟩ = false ∧ w.heap.size + 1 < w0.heap.size) := by
    refine ⟨_, rfl, Lib.hid ((Box.start h).keep (below_box _ _)), Lib.hid ((below_box _ _).trans ((below_box _ _).mono (by simp))), Lib.hid ⟨?_, ?_, by simp⟩⟩
    · simp
    · simp
  have HW0 := Lib.hid hw0
  have z0 := BX.out.c0
  have z1 := BX.out.c1
  clear h hs hw0
  go_enter Tryz.func23, Tryz.ntmps23
  go_upto_region 1 with fail
  rw [HW0.out]
  go_wp2_with (go_at_call 49; (with_reducible refine (CF.out _ BX.out.row).mono ?_); rintro e w1 ⟨pw, a2, cap2, M, rfl, hB⟩; have HB := Lib.hid hB; have hs1 := hB.below.size; have x0 := (hB.below.cell (p := ⟨w.heap.size + 1, 0, none⟩) HZ.out.2.2).trans HZ.out.1; have f0 := (hB.below.frozen (p := ⟨w.heap.size + 1, 0, none⟩) HZ.out.2.2).trans HZ.out.2.1; clear hB)
  have q0 : (w1.setCell ⟨w.heap.size + 1, 0, none⟩ (ptrV pw)).cell? ⟨w.heap.size + 1, 0, none⟩ = some (ptrV pw) := World.cell?_setCell_same _ _ _ x0
  refine bodyPost_ret (v := workV pw) ?_ rfl ⟨pw, a2, cap2, M, rfl, HB.out.stored HB0.out (by omega) HZ.out.2.2 0 (ptrV pw)⟩
  simp [results, Tryz.results23, go_sem, q0]
set_option maxHeartbeats 8000000 in
set_option maxRecDepth 100000 in
theorem mend_any (w : World) (pw : Nat) (a2 va : Option Addr) (len cap vl vc : Nat) (m : Int) (err : Value) (no : Int) (h0 : w.cell? ⟨pw, 0, none⟩ = some (.slice a2 len cap)) (h1 : w.cell? ⟨pw, 1, none⟩ = some (.int .i64 m)) (h2 : w.cell? ⟨pw, 2, none⟩ = some (.slice va vl vc)) (hlt : pw < w.heap.size)
    (CW : ∀ W, Below w.heap.size w W → Calls Tryz.prog 52 #[err] W fun e w' => e = .returned (.int .i64 no) ∧ Below W.heap.size W w') :
    Calls Tryz.prog 25 #[workV pw, err] w fun e w' => e = .returned (.tuple #[forV a2 len cap m, .slice va vl vc, .int .i64 no]) ∧ Below w.heap.size w w' := by
  obtain ⟨w0, hw0, BX, hb0, HZ⟩ : ∃ w0, (w.alloc (wkB pw)).alloc (.cells #[.slice none 0 0, .int .i64 0] 24) = w0 ∧ Hid (Box2 w0 (w.heap.size + 1) (.slice none 0 0) (.int .i64 0)) ∧ Below w.heap.size w w0 ∧ Hid (w0.cell? ⟨w.heap.size, 0, none⟩ = some (ptrV pw) ∧ w.heap.size < w0.heap.size) := by
    refine ⟨_, rfl, Lib.hid (Box2.newAt (by simp)), (below_box _ _).trans ((below_box _ _).mono (by simp)), Lib.hid ⟨((below_box (w.alloc (wkB pw)) (.cells #[.slice none 0 0, .int .i64 0] 24)).cell (p := ⟨w.heap.size, 0, none⟩) (by simp)).trans cell_box, by simp; omega⟩⟩
  have HB0 := Lib.hid hb0
  have HW0 := Lib.hid hw0
  have K : Hid (∀ W, Below w.heap.size w W → W.cell? ⟨pw, 0, none⟩ = some (.slice a2 len cap) ∧ W.cell? ⟨pw, 1, none⟩ = some (.int .i64 m) ∧ W.cell? ⟨pw, 2, none⟩ = some (.slice va vl vc)) := Lib.hid (fun W hb => ⟨(hb.cell (p := ⟨pw, 0, none⟩) hlt).trans h0, (hb.cell (p := ⟨pw, 1, none⟩) hlt).trans h1, (hb.cell (p := ⟨pw, 2, none⟩) hlt).trans h2⟩)
  have CW := Lib.hid CW
  clear hb0 hw0 h0 h1 h2
  go_enter Tryz.func25, Tryz.ntmps25
  go_upto_region 1 with fail
  rw [HW0.out]
  have p0 := (K.out w0 HB0.out).1
  have p1 := (K.out w0 HB0.out).2.1
  have p2 := (K.out w0 HB0.out).2.2
  have zw := HZ.out.1
  go_region_with (go_at_call 52; (refine (CW.out _ HB0.out.drew).mono ?_); rintro e w1 ⟨rfl, hb⟩; have hb := (Below.refl w0.heap.size w0).drew.trans hb; have HB1 := Lib.hid (HB0.out.trans (hb.mono HB0.out.size)); have BX1 := Lib.hid (BX.out.keep hb); have zw := (hb.cell (p := ⟨w.heap.size, 0, none⟩) HZ.out.2).trans HZ.out.1; have p0 := (K.out _ HB1.out).1; have p1 := (K.out _ HB1.out).2.1; have p2 := (K.out _ HB1.out).2.2; have d0 := BX1.out.c0; have d1 := BX1.out.c1; have f0 := BX1.out.f0; have f1 := BX1.out.f1; clear hb)
  all_goals go_wp2
  all_goals
    have hlt0 := BX1.out.lt
    have q0 : ((w1.setCell ⟨w.heap.size + 1, 0, none⟩ (.slice a2 len cap)).setCell ⟨w.heap.size + 1, 1, none⟩ (.int .i64 m)).cell? ⟨w.heap.size + 1, 0, none⟩ = some (.slice a2 len cap) := (World.cell?_setCell_other _ _ _ _ (fun e => by injection e with _ e; omega)).trans (World.cell?_setCell_same _ _ _ d0)
    have q1 : ((w1.setCell ⟨w.heap.size + 1, 0, none⟩ (.slice a2 len cap)).setCell ⟨w.heap.size + 1, 1, none⟩ (.int .i64 m)).cell? ⟨w.heap.size + 1, 1, none⟩ = some (.int .i64 m) := World.cell?_setCell_same _ _ _ ((World.cell?_setCell_other _ _ _ _ (fun e => by injection e with _ e; omega)).trans d1)
    refine bodyPost_ret (v := .tuple #[forV a2 len cap m, .slice va vl vc, .int .i64 no]) ?_ rfl ⟨rfl, (HB1.out.setCell (p := ⟨w.heap.size + 1, 0, none⟩) (by show w.heap.size ≤ w.heap.size + 1; omega) _).setCell (p := ⟨w.heap.size + 1, 1, none⟩) (by show w.heap.size ≤ w.heap.size + 1; omega) _⟩
    simp [results, Tryz.results25, go_sem, q0, q1]
end Go.Proofs.YtkfmengdffpcnaaGreatDoor
