/- Texts joined in build order: HeirFate. -/
import Derived.Test.YtbkhngoehoiccaaGreatD30
namespace Go.Proofs.YtbkhngoehoiccaaGreat
open Go.RowKit
theorem fateC_nil {L : List DefD} {M : List WaitD} {nx : Int} {bz : Bool} {c : Core} (h : rightK ⟨L, M, nx, bz⟩ = true) : fateC ⟨L, [], nx, bz⟩ c = fateC ⟨L, M, nx, bz⟩ c := by
  have h2 : rightK ⟨L, [], nx, bz⟩ = true := by
    unfold rightK at h ⊢
    simp only [Bool.and_eq_true] at h ⊢
    exact ⟨h.1, rfl⟩
  unfold fateC ifRight
  rw [h, h2]
theorem fateC_no {D : DeskD} {c : Core} (h : rightK D = false) : fateC D c = -1 := by
  unfold fateC ifRight
  rw [h]
  split <;> rfl
set_option maxHeartbeats 2000000 in
set_option maxRecDepth 100000 in
theorem fateOf_any (x : NodeD) (da : Option Addr) (dl dc : Nat) (wa : Option Addr) (wl wc : Nat) (nx : Int) (bz : Bool) (L : List DefD) (w : World) (hd : DefRow w da dl dc L) :
    Calls Tryz.prog 51 #[nodVal x, deskV da dl dc wa wl wc nx bz] w fun e w' => e = .returned (.int .i64 (fateC ⟨L, [], nx, bz⟩ x.core)) ∧ Below w.heap.size w w' := by
  obtain ⟨⟨kind, name, is, data, attrs, parent, kids, host, under, doc⟩, aA, aN, aC, kA, kN, kC⟩ := x
  have CF : Hid (∀ W, Below w.heap.size w W → Calls Tryz.prog 74 #[deskV da dl dc none 0 0 nx bz, .string name, .string is] W fun e w' => e = .returned (.int .i64 (ifRight ⟨L, [], nx, bz⟩ (findZ2 L name.toList is.toList))) ∧ Below W.heap.size W w') := Lib.hid (fun W hb => deskfind_any da dl dc none 0 0 nx bz L [] name is W (hd.below hb) (WaitRow.nil W))
  obtain ⟨z, hz⟩ : ∃ z, ifRight ⟨L, [], nx, bz⟩ (findZ2 L name.toList is.toList) = z := ⟨_, rfl⟩
  rw [hz] at CF
  have HF : Hid (∀ data attrs parent kids host under, fateC ⟨L, [], nx, bz⟩ ⟨kind, name, is, data, attrs, parent, kids, host, under, doc⟩ = if kind = 1 ∧ doc = 0 then z else -1) := Lib.hid (fun _ _ _ _ _ _ => by unfold fateC; rw [← hz])
  rw [HF.out]
  obtain ⟨r, hr⟩ : ∃ r, (if kind = 1 ∧ doc = 0 then z else -1) = r := ⟨_, rfl⟩
  rw [hr]
  have HR := Lib.hid hr
  clear hd hz HF hr
  obtain ⟨w0, hw0, X0, X9, X1, X2, D0, D1, D2, D3, DF, HSZ, HB⟩ : ∃ w0, (w.alloc (nodB ⟨⟨kind, name, is, data, attrs, parent, kids, host, under, doc⟩, aA, aN, aC, kA, kN, kC⟩)).alloc (deskB da dl dc wa wl wc nx bz) = w0 ∧ Hid (w0.cell? ⟨w.heap.size, 0, none⟩ = some (.int .i64 kind)) ∧ Hid (w0.cell? ⟨w.heap.size, 9, none⟩ = some (.int .i64 doc)) ∧ Hid (w0.cell? ⟨w.heap.size, 1, none⟩ = some (.string name)) ∧ Hid (w0.cell? ⟨w.heap.size, 2, none⟩ = some (.string is)) ∧ Hid (w0.cell? ⟨w.heap.size + 1, 0, none⟩ = some (.slice da dl dc)) ∧ Hid (w0.cell? ⟨w.heap.size + 1, 1, none⟩ = some (.slice wa wl wc)) ∧ Hid (w0.cell? ⟨w.heap.size + 1, 2, none⟩ = some (.int .i64 nx)) ∧ Hid (w0.cell? ⟨w.heap.size + 1, 3, none⟩ = some (.bool bz)) ∧ Hid (w0.frozen? ⟨w.heap.size + 1, 1, none⟩ = false) ∧ Hid (w0.heap.size = w.heap.size + 2) ∧ Hid (Below w.heap.size w w0) := by
    have hs : (w.alloc (nodB ⟨⟨kind, name, is, data, attrs, parent, kids, host, under, doc⟩, aA, aN, aC, kA, kN, kC⟩)).heap.size = w.heap.size + 1 := by simp
    have hb := below_box (w.alloc (nodB ⟨⟨kind, name, is, data, attrs, parent, kids, host, under, doc⟩, aA, aN, aC, kA, kN, kC⟩)) (deskB da dl dc wa wl wc nx bz)
    have c : ∀ (j : Nat), ((w.alloc (nodB ⟨⟨kind, name, is, data, attrs, parent, kids, host, under, doc⟩, aA, aN, aC, kA, kN, kC⟩)).alloc (deskB da dl dc wa wl wc nx bz)).cell? ⟨w.heap.size, j, none⟩ = (#[.int .i64 kind, .string name, .string is, .string data, .slice aA aN aC, .int .i64 parent, .slice kA kN kC, .int .i64 host, .int .i64 under, .int .i64 doc] : Array Value)[j]? := fun j => (hb.cell (p := ⟨w.heap.size, j, none⟩) (by rw [hs]; show w.heap.size < w.heap.size + 1; omega)).trans (cell_of_row _ w.heap.size j _ 58 (0, 0) (heap_alloc_new _ _))
    have h9 := heap_alloc_new (w.alloc (nodB ⟨⟨kind, name, is, data, attrs, parent, kids, host, under, doc⟩, aA, aN, aC, kA, kN, kC⟩)) (deskB da dl dc wa wl wc nx bz)
    rw [hs] at h9
    have d : ∀ (j : Nat), ((w.alloc (nodB ⟨⟨kind, name, is, data, attrs, parent, kids, host, under, doc⟩, aA, aN, aC, kA, kN, kC⟩)).alloc (deskB da dl dc wa wl wc nx bz)).cell? ⟨w.heap.size + 1, j, none⟩ = (#[.slice da dl dc, .slice wa wl wc, .int .i64 nx, .bool bz] : Array Value)[j]? := fun j => cell_of_row _ _ j _ 29 (0, 0) h9
    exact ⟨_, rfl, Lib.hid (c 0), Lib.hid (c 9), Lib.hid (c 1), Lib.hid (c 2), Lib.hid (d 0), Lib.hid (d 1), Lib.hid (d 2), Lib.hid (d 3), Lib.hid (by simp only [World.frozen?, h9]; rfl), Lib.hid (by simp), Lib.hid ((below_box _ _).trans (hb.mono (by rw [hs]; omega)))⟩
  have HW := Lib.hid hw0
  clear hw0
  have x0 := X0.out
  have x9 := X9.out
  have d1 := D1.out
  have f1 := DF.out
  by_cases hk : kind = 1
  · by_cases hdo : doc = 0
    · have e0 : (kind != 1) = false := by rw [hk]; rfl
      have e1 : (doc != 0) = false := by rw [hdo]; rfl
      have HE : Hid (r = z) := Lib.hid (by rw [← HR.out]; exact if_pos ⟨hk, hdo⟩)
      clear hk hdo
      go_enter Tryz.func51, Tryz.ntmps51
      go_upto_region 1 with fail
      rw [HW.out]
      go_upto_region 4 with fail
      obtain ⟨w1, hw1, Y1, Y2, E0, E1, E2, E3, HB1⟩ : ∃ w1, w0.setCell ⟨w.heap.size + 1, 1, none⟩ (.slice none 0 0) = w1 ∧ Hid (w1.cell? ⟨w.heap.size, 1, none⟩ = some (.string name)) ∧ Hid (w1.cell? ⟨w.heap.size, 2, none⟩ = some (.string is)) ∧ Hid (w1.cell? ⟨w.heap.size + 1, 0, none⟩ = some (.slice da dl dc)) ∧ Hid (w1.cell? ⟨w.heap.size + 1, 1, none⟩ = some (.slice none 0 0)) ∧ Hid (w1.cell? ⟨w.heap.size + 1, 2, none⟩ = some (.int .i64 nx)) ∧ Hid (w1.cell? ⟨w.heap.size + 1, 3, none⟩ = some (.bool bz)) ∧ Hid (Below w.heap.size w w1) := by
        have o : ∀ (b j : Nat), (b ≠ w.heap.size + 1 ∨ j ≠ 1) → (w0.setCell ⟨w.heap.size + 1, 1, none⟩ (.slice none 0 0)).cell? ⟨b, j, none⟩ = w0.cell? ⟨b, j, none⟩ := fun b j h => World.cell?_setCell_other _ _ _ _ (fun e => by injection e with e1 e2; omega)
        exact ⟨_, rfl, Lib.hid ((o _ _ (by omega)).trans X1.out), Lib.hid ((o _ _ (by omega)).trans X2.out), Lib.hid ((o _ _ (by omega)).trans D0.out), Lib.hid (World.cell?_setCell_same _ _ _ D1.out), Lib.hid ((o _ _ (by omega)).trans D2.out), Lib.hid ((o _ _ (by omega)).trans D3.out), Lib.hid (HB.out.setCell (p := ⟨w.heap.size + 1, 1, none⟩) (by show w.heap.size ≤ w.heap.size + 1; omega) _)⟩
      rw [hw1]
      clear hw1 x0 x9 d1 f1
      have x1 := Y1.out
      have x2 := Y2.out
      have d0 := E0.out
      have d1 := E1.out
      have d2 := E2.out
      have d3 := E3.out
      go_wp2_with (go_at_call 74; (with_reducible refine (CF.out _ HB1.out).mono ?_); rintro e w2 ⟨rfl, hb⟩; have HB2 := Lib.hid (HB1.out.trans (hb.mono HB1.out.size)); clear hb)
      go_ret
      exact ⟨by rw [HE.out]; rfl, HB2.out⟩
    · have e0 : (kind != 1) = false := by rw [hk]; rfl
      have e1 : (doc != 0) = true := bne_iff_ne.2 hdo
      have HE : Hid (r = -1) := Lib.hid (by rw [← HR.out]; exact if_neg (fun h => hdo h.2))
      clear hk hdo
      go_enter Tryz.func51, Tryz.ntmps51
      go_upto_region 1 with fail
      rw [HW.out]
      go_wp2
      go_ret
      exact ⟨by rw [HE.out]; rfl, HB.out⟩
  · have e0 : (kind != 1) = true := bne_iff_ne.2 hk
    have HE : Hid (r = -1) := Lib.hid (by rw [← HR.out]; exact if_neg (fun h => hk h.1))
    clear hk
    go_enter Tryz.func51, Tryz.ntmps51
    go_upto_region 1 with fail
    rw [HW.out]
    go_wp2
    go_ret
    exact ⟨by rw [HE.out]; rfl, HB.out⟩
set_option maxHeartbeats 4000000 in
set_option maxRecDepth 100000 in
theorem fateFn_any (a : Option Addr) (len cap : Nat) (m : Int) (K : List NodeD) (n : Int) (da : Option Addr) (dl dc : Nat) (wa : Option Addr) (wl wc : Nat) (nx : Int) (bz : Bool) (L : List DefD) (M : List WaitD) (w : World) (h : NodeRow w a len cap K) (hm : In64 m) (hn : In64 n) (hs : smallF K) (hd : DefRow w da dl dc L) (ht : WaitRow w wa wl wc M) :
    Calls Tryz.prog 29 #[forV a len cap m, .int .i64 n, deskV da dl dc wa wl wc nx bz] w fun e w' => e = .returned (.int .i64 (fateZ m (coreL K) n ⟨L, M, nx, bz⟩)) ∧ Below w.heap.size w w' := by
  have CK : Hid (∀ W, NodeRow W a len cap K → Calls Tryz.prog 50 #[forV a len cap m, .int .i64 n] W fun e w' => e = .returned (.bool (thereF m (coreL K) n)) ∧ Below W.heap.size W w') := Lib.hid (fun W h1 => by
    have := hknows_any a len cap m K n W h1 hm hn hs
    rwa [knows_there] at this)
  obtain ⟨w0, hw0, BX, D0, D1, D2, D3, HB0⟩ : ∃ w0, (w.alloc (forB a len cap m)).alloc (deskB da dl dc wa wl wc nx bz) = w0 ∧ Hid (Box w w0 w.heap.size a len cap m K (coreL K)) ∧ Hid (∀ W, Below w0.heap.size w0 W → W.cell? ⟨w.heap.size + 1, 0, none⟩ = some (.slice da dl dc)) ∧ Hid (∀ W, Below w0.heap.size w0 W → W.cell? ⟨w.heap.size + 1, 1, none⟩ = some (.slice wa wl wc)) ∧ Hid (∀ W, Below w0.heap.size w0 W → W.cell? ⟨w.heap.size + 1, 2, none⟩ = some (.int .i64 nx)) ∧ Hid (∀ W, Below w0.heap.size w0 W → W.cell? ⟨w.heap.size + 1, 3, none⟩ = some (.bool bz)) ∧ Hid (Below w.heap.size w w0) := by
    have hs : (w.alloc (forB a len cap m)).heap.size = w.heap.size + 1 := by simp
    have hb := below_box (w.alloc (forB a len cap m)) (deskB da dl dc wa wl wc nx bz)
    have hlt : w.heap.size + 1 < ((w.alloc (forB a len cap m)).alloc (deskB da dl dc wa wl wc nx bz)).heap.size := by simp
    have d : ∀ (j : Nat) (W : World), Below ((w.alloc (forB a len cap m)).alloc (deskB da dl dc wa wl wc nx bz)).heap.size ((w.alloc (forB a len cap m)).alloc (deskB da dl dc wa wl wc nx bz)) W → W.cell? ⟨w.heap.size + 1, j, none⟩ = (#[.slice da dl dc, .slice wa wl wc, .int .i64 nx, .bool bz] : Array Value)[j]? := fun j W hW => by
      have := cell_of_row ((w.alloc (forB a len cap m)).alloc (deskB da dl dc wa wl wc nx bz)) (w.alloc (forB a len cap m)).heap.size j _ 29 (0, 0) (heap_alloc_new _ _)
      rw [hs] at this
      exact (hW.cell (p := ⟨w.heap.size + 1, j, none⟩) hlt).trans this
    exact ⟨_, rfl, Lib.hid ((Box.start h).keep hb), Lib.hid (d 0), Lib.hid (d 1), Lib.hid (d 2), Lib.hid (d 3), Lib.hid ((below_box _ _).trans (hb.mono (by rw [hs]; omega)))⟩
  have HW := Lib.hid hw0
  have HDT : Hid (∀ W, Below w.heap.size w W → DefRow W da dl dc L ∧ WaitRow W wa wl wc M) := Lib.hid (fun W hb => ⟨hd.below hb, ht.below hb⟩)
  have HL := Lib.hid h.hlen
  have hl64 := h.len64
  have z0 := BX.out.c0
  have z1 := BX.out.c1
  have CD : Hid (∀ W, Below w.heap.size w W → Calls Tryz.prog 49 #[deskV da dl dc wa wl wc nx bz] W fun e w' => e = .returned (.bool (rightK ⟨L, M, nx, bz⟩)) ∧ Below W.heap.size W w') := Lib.hid (fun W hb => deskright_any da dl dc wa wl wc nx bz L M W (hd.below hb) (ht.below hb))
  obtain ⟨r9, hr9⟩ : ∃ r, rightK ⟨L, M, nx, bz⟩ = r := ⟨_, rfl⟩
  rw [hr9] at CD
  obtain ⟨q, hq⟩ : ∃ q, thereF m (coreL K) n = q := ⟨_, rfl⟩
  rw [hq] at CK
  cases q with
  | false =>
    have HE : Hid (fateZ m (coreL K) n ⟨L, M, nx, bz⟩ = -1) := Lib.hid (by unfold fateZ; rw [hq]; rfl)
    clear h hm hn hs hd ht hw0 hq hr9
    go_enter Tryz.func29, Tryz.ntmps29
    go_upto_region 1 with fail
    rw [HW.out]
    go_wp2_with (go_at_call 50; (with_reducible refine (CK.out _ BX.out.row).mono ?_); rintro e w1 ⟨rfl, hb⟩; have HB1 := Lib.hid (HB0.out.trans (hb.mono HB0.out.size)); clear hb)
    go_ret
    exact ⟨by rw [HE.out]; rfl, HB1.out⟩
  | true =>
    cases r9 with
    | false =>
    have HE : Hid (fateZ m (coreL K) n ⟨L, M, nx, bz⟩ = -1) := Lib.hid (by
      unfold fateZ
      rw [hq, if_pos rfl]
      split
      · exact fateC_no hr9
      · rfl)
    clear h hm hn hs hd ht hw0 hq hr9
    go_enter Tryz.func29, Tryz.ntmps29
    go_upto_region 1 with fail
    rw [HW.out]
    have d0 := D0.out _ (Below.refl _ _)
    have d1 := D1.out _ (Below.refl _ _)
    have d2 := D2.out _ (Below.refl _ _)
    have d3 := D3.out _ (Below.refl _ _)
    go_wp2_with (first
      | (go_at_call 50; (with_reducible refine (CK.out _ BX.out.row).mono ?_); rintro e w1 ⟨rfl, hb⟩; have HB1 := Lib.hid (HB0.out.trans (hb.mono HB0.out.size)); have d0 := D0.out _ hb; have d1 := D1.out _ hb; have d2 := D2.out _ hb; have d3 := D3.out _ hb; clear hb)
      | (go_at_call 49; (with_reducible refine (CD.out _ HB1.out).mono ?_); rintro e w2 ⟨rfl, hb⟩; have HB2 := Lib.hid (HB1.out.trans (hb.mono HB1.out.size)); clear hb))
    go_ret
    exact ⟨by rw [HE.out]; rfl, HB2.out⟩
    | true =>
    have HR9 := Lib.hid hr9
    obtain ⟨k, hk, rfl⟩ : ∃ k : Nat, k < len ∧ n = k := by
      unfold thereF at hq
      simp only [Bool.and_eq_true, decide_eq_true_eq] at hq
      refine ⟨n.toNat, ?_, by omega⟩
      have := hq.2
      rw [coreL_len, h.hlen] at this
      omega
    obtain ⟨b, off, x, rfl, hblt, hx, hxa, -⟩ := BX.out.row.get hk
    have HE : Hid (fateZ m (coreL K) (k : Int) ⟨L, M, nx, bz⟩ = fateC ⟨L, M, nx, bz⟩ x.core) := Lib.hid (by unfold fateZ; rw [hq, if_pos rfl, getC_nat, coreL_get hx])
    have CF : Hid (∀ W, Below w.heap.size w W → Calls Tryz.prog 51 #[nodVal x, deskV da dl dc wa wl wc nx bz] W fun e w' => e = .returned (.int .i64 (fateC ⟨L, M, nx, bz⟩ x.core)) ∧ Below W.heap.size W w') := Lib.hid (fun W hb => by
      have h := fateOf_any x da dl dc wa wl wc nx bz L W (hd.below hb)
      rw [fateC_nil HR9.out] at h
      exact h)
    obtain ⟨z, hz⟩ : ∃ z, fateC ⟨L, M, nx, bz⟩ x.core = z := ⟨_, rfl⟩
    rw [hz] at CF HE
    have hxd : x.core.data.size ≤ 9223372036854775807 := (h.ok x (List.mem_of_getElem? hx)).data
    have HXA : Hid (∀ W, Below w0.heap.size w0 W → NodeAt W b (off + k * 10) x) := Lib.hid (fun W hb => hxa.below hblt hb)
    clear h hm hn hs hd ht hw0 hq hz hx hxa hblt hr9
    go_enter Tryz.func29, Tryz.ntmps29
    go_upto_region 1 with fail
    rw [HW.out]
    have d0 := D0.out _ (Below.refl _ _)
    have d1 := D1.out _ (Below.refl _ _)
    have d2 := D2.out _ (Below.refl _ _)
    have d3 := D3.out _ (Below.refl _ _)
    go_upto_region 3 with (first
      | (go_at_call 50; (with_reducible refine (CK.out _ BX.out.row).mono ?_); rintro e v1 ⟨rfl, hb⟩; have HB1a := Lib.hid (HB0.out.trans (hb.mono HB0.out.size)); have HVa := Lib.hid hb; clear hb z0 z1 d0 d1 d2 d3; have d0 := D0.out _ HVa.out; have d1 := D1.out _ HVa.out; have d2 := D2.out _ HVa.out; have d3 := D3.out _ HVa.out)
      | (go_at_call 49; (with_reducible refine (CD.out _ HB1a.out).mono ?_); rintro e w1 ⟨rfl, hb⟩; have HB1 := Lib.hid (HB1a.out.trans (hb.mono HB1a.out.size)); have HV := Lib.hid (HVa.out.trans (hb.mono HVa.out.size)); clear hb d0 d1 d2 d3))
    have BX1 := Lib.hid (BX.out.keep HV.out)
    have z0 := BX1.out.c0
    have d0 := D0.out _ HV.out
    have d1 := D1.out _ HV.out
    have d2 := D2.out _ HV.out
    have d3 := D3.out _ HV.out
    obtain ⟨x0, x1, x2, x3, x4, x5, x6, x7, x8, x9⟩ := HXA.out _ HV.out
    go_region_held3 (fun w' => w'.cell? ⟨w.heap.size, 0, none⟩ = some (.slice (some ⟨b, off, none⟩) len cap) ∧ w'.cell? ⟨w.heap.size + 1, 0, none⟩ = some (.slice da dl dc) ∧ w'.cell? ⟨w.heap.size + 1, 1, none⟩ = some (.slice wa wl wc) ∧ w'.cell? ⟨w.heap.size + 1, 2, none⟩ = some (.int .i64 nx) ∧ w'.cell? ⟨w.heap.size + 1, 3, none⟩ = some (.bool bz) ∧ w'.cell? ⟨b, off + k * 10, none⟩ = some (.int .i64 x.core.kind) ∧ w'.cell? ⟨b, off + k * 10 + 1, none⟩ = some (.string x.core.name) ∧ w'.cell? ⟨b, off + k * 10 + 2, none⟩ = some (.string x.core.is) ∧ w'.cell? ⟨b, off + k * 10 + 3, none⟩ = some (.string x.core.data) ∧ w'.cell? ⟨b, off + k * 10 + 4, none⟩ = some (.slice x.aA x.aN x.aC) ∧ w'.cell? ⟨b, off + k * 10 + 5, none⟩ = some (.int .i64 x.core.parent) ∧ w'.cell? ⟨b, off + k * 10 + 6, none⟩ = some (.slice x.kA x.kN x.kC) ∧ w'.cell? ⟨b, off + k * 10 + 7, none⟩ = some (.int .i64 x.core.host) ∧ w'.cell? ⟨b, off + k * 10 + 8, none⟩ = some (.int .i64 x.core.under) ∧ w'.cell? ⟨b, off + k * 10 + 9, none⟩ = some (.int .i64 x.core.doc)) (go_keep) (first | (go_at_call 51; (with_reducible refine (CF.out _ HB1.out.drew).mono ?_); rintro e w2 ⟨rfl, hb⟩; have HB2 := Lib.hid (HB1.out.drew.trans (hb.mono HB1.out.drew.size)); have hv := (Below.refl w1.heap.size w1).drew.trans hb; have HV2 := Lib.hid (HV.out.trans (hv.mono HV.out.size)); clear z0 d0 d1 d2 d3 x0 x1 x2 x3 x4 x5 x6 x7 x8 x9 hb hv; have z0 := (BX.out.keep HV2.out).c0; have d0 := D0.out _ HV2.out; have d1 := D1.out _ HV2.out; have d2 := D2.out _ HV2.out; have d3 := D3.out _ HV2.out; obtain ⟨x0, x1, x2, x3, x4, x5, x6, x7, x8, x9⟩ := HXA.out _ HV2.out))
    all_goals go_wp2
    all_goals
      go_ret
      exact ⟨by rw [HE.out]; rfl, HB2.out⟩
end Go.Proofs.YtbkhngoehoiccaaGreat
