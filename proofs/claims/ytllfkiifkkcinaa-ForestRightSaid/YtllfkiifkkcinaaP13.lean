/- Texts joined in build order: Ref3Make Ref3Tell ForestRight. -/
import Derived.Test.YtllfkiifkkcinaaP09
import Derived.Test.YtllfkiifkkcinaaP12
import Derived.Deep.DeepCutAuto
import Derived.Test.YtllfkiifkkcinaaP15
import Derived.Test.YtllfkiifkkcinaaP01
import Derived.Test.YtllfkiifkkcinaaP03
import Derived.Test.YtllfkiifkkcinaaP08
import Derived.Test.YtllfkiifkkcinaaP11
import Derived.Test.YtllfkiifkkcinaaP14
/- instarref03's Make, in a forest that is right. (Under way.) -/
namespace Go.Proofs.Ytllfkiifkkcinaa
open Go.RowKit
attribute [local go_sem ↓] Go.wp_at_zero Go.wp_at_succ
set_option maxHeartbeats 16000000 in
set_option maxRecDepth 100000 in
theorem refmake_w (NODE : ∀ (a : Option Addr) (len cap : Nat) (m : Int) (L : List NodeD) (n : Nat) (x : NodeD) (w : World), NodeRow w a len cap L → L[n]? = some x →
      Calls Try.prog 56 #[forV a len cap m, .int .i64 n] w fun e w' => e = .returned (.bool (nodeOk (coreL L) n x.core)) ∧ Below w.heap.size w w')
    (a : Option Addr) (len cap : Nat) (m : Int) (L : List NodeD) (x : NodeD) (w : World) (hr : rightF m (coreL L) = true) (h : NodeRow w a len cap L) (hx : NodeOk w x) :
    Calls Try.prog 27 #[forV a len cap m, nodVal x] w (ForPost w (makeL m (coreL L) x.core) m [.int .i64 (makeN m (coreL L) x.core), .int .i64 (makeE m (coreL L) x.core)]) := by
  have HL := Lib.hid h.hlen
  have H0 := Lib.hid h
  have HX := Lib.hid hx
  have HRR := Lib.hid hr
  have HCL : Hid ((coreL L).length = len) := Lib.hid (by rw [coreL_len, HL.out])
  obtain ⟨w0, hw0, hsz, ST⟩ : ∃ w0, ((w.alloc (forB a len cap m)).alloc (nodB x)).alloc zeroFB = w0 ∧ w.heap.size + 3 = w0.heap.size ∧ MakeSt w w0 a len cap m L x := ⟨_, rfl, by simp, MakeSt.start h hx⟩
  have ST := Lib.hid ST
  have ST0 := ST
  have HW := Lib.hid hw0
  have HSZ := Lib.hid hsz
  have CB : Hid (∀ W, Calls Try.prog 63 #[.int .i64 x.core.kind, .int .i64 x.core.doc] W fun e w' => e = .returned (nodVal (bareD x.core.kind x.core.doc)) ∧ Below W.heap.size W w') := Lib.hid (fun W => refbare_any _ _ W hx.kind hx.doc)
  clear h hx hw0 hsz
  have z0 := ST.out.box.c0
  have z1 := ST.out.box.c1
  obtain ⟨-, x0, x1, x2, x3, x4, x5, x6, x7, x8, x9, -⟩ := ST.out.node
  clear x5 x6 x7 x8
  obtain ⟨D, hD⟩ : ∃ D, (if x.core.kind = 0 then (len : Int) else x.core.doc) = D := ⟨_, rfl⟩
  have HD := Lib.hid hD
  clear hD
  go_enter Try.func27, Try.ntmps27
  go_upto_region 1 with fail
  rw [HW.out]
  go_upto_region 2 with (go_at_call 63; refine (CB.out _).mono ?_; intro e w1 hp; obtain ⟨rfl, hb⟩ := hp; have ST := Lib.hid (ST.out.keep hb); have HB := Lib.hid hb; clear z0 z1 x0 x1 x2 x3 x4 x9 hb; have z0 : ∀ o : Obj, (w1.alloc o).cell? ⟨w.heap.size, 0, none⟩ = some (.slice a len cap) := fun o => ((below_box w1 o).cell (p := ⟨w.heap.size, 0, none⟩) ST.out.box.lt).trans ST.out.box.c0; have x0 : ∀ o : Obj, (w1.alloc o).cell? ⟨w.heap.size + 1, 0, none⟩ = some (.int .i64 x.core.kind) := fun o => ((below_box w1 o).cell (p := ⟨w.heap.size + 1, 0, none⟩) ST.out.node.lt).trans ST.out.node.c0; have x1 : ∀ o : Obj, (w1.alloc o).cell? ⟨w.heap.size + 1, 1, none⟩ = some (.string x.core.name) := fun o => ((below_box w1 o).cell (p := ⟨w.heap.size + 1, 1, none⟩) ST.out.node.lt).trans ST.out.node.c1; have x2 : ∀ o : Obj, (w1.alloc o).cell? ⟨w.heap.size + 1, 2, none⟩ = some (.string x.core.is) := fun o => ((below_box w1 o).cell (p := ⟨w.heap.size + 1, 2, none⟩) ST.out.node.lt).trans ST.out.node.c2; have x3 : ∀ o : Obj, (w1.alloc o).cell? ⟨w.heap.size + 1, 3, none⟩ = some (.string x.core.data) := fun o => ((below_box w1 o).cell (p := ⟨w.heap.size + 1, 3, none⟩) ST.out.node.lt).trans ST.out.node.c3; have x4 : ∀ o : Obj, (w1.alloc o).cell? ⟨w.heap.size + 1, 4, none⟩ = some (.slice x.aA x.aN x.aC) := fun o => ((below_box w1 o).cell (p := ⟨w.heap.size + 1, 4, none⟩) ST.out.node.lt).trans ST.out.node.c4)
  unfold bareD
  go_upto_if 28 with fail
  go_cut [] (fun wx => wx = w1.alloc (nodB ⟨⟨x.core.kind, x.core.name, x.core.is, x.core.data, x.core.attrs, -1, [], -1, -1, D⟩, x.aA, x.aN, x.aC, none, 0, 0⟩))
  case first =>
    by_cases k0 : x.core.kind = 0
    · have f0 : (x.core.kind == 0) = true := beq_iff_eq.2 k0
      have HDD := Lib.hid (show D = (len : Int) by rw [← HD.out, if_pos k0])
      clear k0
      go_wp2
      go_meet
      rw [HDD.out]
    · have f0 : (x.core.kind == 0) = false := beq_eq_false_iff_ne.2 k0
      have HDD := Lib.hid (show D = x.core.doc by rw [← HD.out, if_neg k0])
      clear k0
      go_wp2
      go_meet
      rw [HDD.out]
  case rest =>
    obtain rfl := hcut
    have hy : NodeOk w1 ⟨⟨x.core.kind, x.core.name, x.core.is, x.core.data, x.core.attrs, -1, [], -1, -1, D⟩, x.aA, x.aN, x.aC, none, 0, 0⟩ := by
      have h1 := ST.out.node.ok
      refine ⟨h1.attrs, ⟨SRow.nil, (fun z hz => by cases hz), fun _ => rfl⟩, h1.name, h1.is, h1.data, h1.kind, inM1, inM1, inM1, ?_⟩
      show In64 D
      rw [← HD.out]
      split
      · exact ⟨by omega, by have := ST.out.box.row.len64; omega⟩
      · exact h1.doc
    obtain ⟨y, hyy⟩ : ∃ y : NodeD, (⟨⟨x.core.kind, x.core.name, x.core.is, x.core.data, x.core.attrs, -1, [], -1, -1, D⟩, x.aA, x.aN, x.aC, none, 0, 0⟩ : NodeD) = y := ⟨_, rfl⟩
    rw [hyy] at hy
    rw [hyy]
    have HYY := Lib.hid hyy
    obtain ⟨W, hW, NK⟩ : ∃ W, w1.alloc (nodB y) = W ∧ NKeep w1 W y := ⟨_, rfl, NKeep.start hy⟩
    have NK := Lib.hid NK
    have ST := Lib.hid (ST.out.keep NK.out.below)
    rw [hW]
    have HYW : Hid (NodeOk w y) := Lib.hid (by
      rw [← HYY.out]
      have h1 := HX.out
      refine ⟨h1.attrs, ⟨SRow.nil, (fun z hz => by cases hz), fun _ => rfl⟩, h1.name, h1.is, h1.data, h1.kind, inM1, inM1, inM1, ?_⟩
      show In64 D
      rw [← HD.out]
      split
      · exact ⟨by omega, by have := ST.out.box.row.len64; omega⟩
      · exact h1.doc)
    have hl400 : len ≤ 400 := by
      have h1 := right_most hr
      have h2 := HCL.out
      have h3 := ((rightF_iff m _).1 hr).1.2.1
      omega
    obtain ⟨q, hqq⟩ : ∃ q, w1.heap.size = q := ⟨_, rfl⟩
    have hyb := NK.out.box
    rw [hqq] at hyb ⊢
    have z0 := ST.out.box.c0
    clear hW hqq hyy hy
    go_upto_region 8 with fail
    refine copyC_region 2 7 33 34 35 36 37 38 39 40 8 67 _ (by kernel_rfl) (by exact Nat.le_refl _) (by decide) (by decide) w.heap.size a len cap L rfl ST.out.box.lt z0 ST.out.box.row (by omega) w1 y q rfl hyb ?_
    intro v g gr cap2 w6 hc
    have hok : ∀ z ∈ L ++ [y], NodeOk w z := fun z hz => by
      rcases List.mem_append.1 hz with hz | hz
      · exact H0.out.ok z hz
      · rw [List.mem_singleton.1 hz]; exact HYW.out
    have HOK := Lib.hid hok
    have WR := Lib.hid (hc.wrow (by rw [List.length_append, HL.out]; rfl) (fun z hz => (hok z hz).below ST.out.box.below))
    have HB6 := Lib.hid (ST.out.box.below.trans (hc.row.below.mono ST.out.box.below.size))
    have GB := Lib.hid hc.box
    have HNE := Lib.hid hc.ne
    have hW3 : w.heap.size + 2 < W.heap.size := ST.out.res.lt
    have HG := Lib.hid (show w.heap.size + 2 < g from Nat.lt_of_lt_of_le hW3 hc.ge)
    have HGR := Lib.hid (show w.heap.size + 2 < gr from Nat.lt_of_lt_of_le hW3 (hc.row.own.lt gr rfl).1)
    have ST := Lib.hid (ST.out.keep hc.row.below)
    clear hc hok hyb hW3 z0 NK
    have HCM : Hid (coreL (L ++ [y]) = coreL L ++ [bareC (coreL L) x.core]) := Lib.hid (by
      unfold coreL
      rw [List.map_append, ← HYY.out]
      unfold bareC
      have h1 := HCL.out
      unfold coreL at h1
      rw [h1, ← HD.out]
      rfl)
    obtain ⟨B, hB⟩ : ∃ B, nodeOk (coreL L ++ [bareC (coreL L) x.core]) (coreL L).length (bareC (coreL L) x.core) = B := ⟨_, rfl⟩
    have HBB := Lib.hid hB
    have CN : Hid (∀ V, NodeRow V (some ⟨gr, 0, none⟩) (len + 1) cap2 (L ++ [y]) → Calls Try.prog 56 #[forV (some ⟨gr, 0, none⟩) (len + 1) cap2 400, .int .i64 len] V fun e w' => e = .returned (.bool B) ∧ Below V.heap.size V w') := Lib.hid (fun V h => by
      have hg : (L ++ [y])[len]? = some y := by rw [← HL.out, List.getElem?_append_right (Nat.le_refl _), Nat.sub_self]; rfl
      have hyc : y.core = bareC (coreL L) x.core := by
        have h1 := HCM.out
        unfold coreL at h1
        rw [List.map_append] at h1
        have h2 := List.append_cancel_left h1
        rw [List.map_cons, List.map_nil] at h2
        injection h2
      have := NODE (some ⟨gr, 0, none⟩) (len + 1) cap2 400 (L ++ [y]) len y V h hg
      rw [HCM.out, hyc] at this
      rw [← HBB.out, HCL.out]
      exact this)
    have HE : Hid (makeE m (coreL L) x.core = if x.core.kind = 4 then 1 else if B then (if m ≤ (len : Int) then 8 else 0) else 1) := Lib.hid (by
      unfold makeE
      rw [HRR.out, HBB.out, HCL.out, Bool.true_and]
      by_cases k : x.core.kind = 4
      · have : (x.core.kind != 4) = false := by rw [k]; rfl
        rw [this, if_pos k]; rfl
      · have : (x.core.kind != 4) = true := bne_iff_ne.2 k
        rw [this, if_neg k, Bool.true_and])
    clear hB
    have G0 := GB.out.c0
    have G1 := GB.out.c1
    have G2 := GB.out.f0
    have G3 := GB.out.f1
    have z0 := ST.out.box.c0
    have z1 := ST.out.box.c1
    have x0 := ST.out.node.c0
    have e0 := ST.out.res.c0
    have e1 := ST.out.res.c1
    have e2 := ST.out.res.f0
    have e3 := ST.out.res.f1
    simp only [puts, List.set_cons_succ, List.set_cons_zero]
    generalize v 0 = v0, v 1 = v1, v 2 = v2, v 3 = v3, v 4 = v4, v 5 = v5, v 6 = v6
    by_cases k4 : x.core.kind = 4
    · have HE1 : Hid (makeE m (coreL L) x.core = 1) := Lib.hid (by rw [HE.out, if_pos k4])
      have HNN := Lib.hid (make_not (m := m) (F := coreL L) (x := x.core) (by rw [HE1.out]; decide))
      have f4 : (x.core.kind == 4) = true := beq_iff_eq.2 k4
      clear k4
      go_wp2
      rw [HE1.out, HNN.out.1, HNN.out.2]
      (
        refine bodyPost_ret (v := .tuple #[forV a len cap m, .int .i64 (-1), .int .i64 1]) ?_ rfl ⟨a, len, cap, L, rfl, H0.out.below ((HB6.out.setCell (p := ⟨w.heap.size + 2, 0, none⟩) (by show w.heap.size ≤ w.heap.size + 2; omega) _).setCell (p := ⟨w.heap.size + 2, 1, none⟩) (by show w.heap.size ≤ w.heap.size + 2; omega) _), rfl, (HB6.out.setCell (p := ⟨w.heap.size + 2, 0, none⟩) (by show w.heap.size ≤ w.heap.size + 2; omega) _).setCell (p := ⟨w.heap.size + 2, 1, none⟩) (by show w.heap.size ≤ w.heap.size + 2; omega) _⟩
        simp [results, Try.results27, go_sem, e0, e1])
    · have f4 : (x.core.kind == 4) = false := beq_eq_false_iff_ne.2 k4
      have HE := Lib.hid (HE.out.trans (if_neg k4))
      clear k4
      cases hB : B with
      | false =>
        rw [hB] at CN
        have HE1 : Hid (makeE m (coreL L) x.core = 1) := Lib.hid (by rw [HE.out, hB]; rfl)
        have HNN := Lib.hid (make_not (m := m) (F := coreL L) (x := x.core) (by rw [HE1.out]; decide))
        clear hB
        go_wp2_with (go_at_call 56; (with_reducible refine (CN.out _ WR.out.row).mono ?_); rintro e w7 ⟨rfl, hb⟩; have HB6 := Lib.hid (HB6.out.trans (hb.mono HB6.out.size)); have WR := Lib.hid (WR.out.keep hb); have GB := Lib.hid (GB.out.keep hb); have ST := Lib.hid (ST.out.keep hb); have G0 := GB.out.c0; have G1 := GB.out.c1; have G2 := GB.out.f0; have G3 := GB.out.f1; have z0 := ST.out.box.c0; have z1 := ST.out.box.c1; have x0 := ST.out.node.c0; have e0 := ST.out.res.c0; have e1 := ST.out.res.c1; have e2 := ST.out.res.f0; have e3 := ST.out.res.f1; clear hb)
        rw [HE1.out, HNN.out.1, HNN.out.2]
        (
          refine bodyPost_ret (v := .tuple #[forV a len cap m, .int .i64 (-1), .int .i64 1]) ?_ rfl ⟨a, len, cap, L, rfl, H0.out.below ((HB6.out.setCell (p := ⟨w.heap.size + 2, 0, none⟩) (by show w.heap.size ≤ w.heap.size + 2; omega) _).setCell (p := ⟨w.heap.size + 2, 1, none⟩) (by show w.heap.size ≤ w.heap.size + 2; omega) _), rfl, (HB6.out.setCell (p := ⟨w.heap.size + 2, 0, none⟩) (by show w.heap.size ≤ w.heap.size + 2; omega) _).setCell (p := ⟨w.heap.size + 2, 1, none⟩) (by show w.heap.size ≤ w.heap.size + 2; omega) _⟩
          simp [results, Try.results27, go_sem, e0, e1])
      | true =>
        rw [hB] at CN
        by_cases hml : m ≤ (len : Int)
        · have HE1 : Hid (makeE m (coreL L) x.core = 8) := Lib.hid (by rw [HE.out, hB, if_pos rfl, if_pos hml])
          have HNN := Lib.hid (make_not (m := m) (F := coreL L) (x := x.core) (by rw [HE1.out]; decide))
          clear hB
          go_wp2_with (go_at_call 56; (with_reducible refine (CN.out _ WR.out.row).mono ?_); rintro e w7 ⟨rfl, hb⟩; have HB6 := Lib.hid (HB6.out.trans (hb.mono HB6.out.size)); have WR := Lib.hid (WR.out.keep hb); have GB := Lib.hid (GB.out.keep hb); have ST := Lib.hid (ST.out.keep hb); have G0 := GB.out.c0; have G1 := GB.out.c1; have G2 := GB.out.f0; have G3 := GB.out.f1; have z0 := ST.out.box.c0; have z1 := ST.out.box.c1; have x0 := ST.out.node.c0; have e0 := ST.out.res.c0; have e1 := ST.out.res.c1; have e2 := ST.out.res.f0; have e3 := ST.out.res.f1; clear hb)
          rw [HE1.out, HNN.out.1, HNN.out.2]
          (
            refine bodyPost_ret (v := .tuple #[forV a len cap m, .int .i64 (-1), .int .i64 8]) ?_ rfl ⟨a, len, cap, L, rfl, H0.out.below ((HB6.out.setCell (p := ⟨w.heap.size + 2, 0, none⟩) (by show w.heap.size ≤ w.heap.size + 2; omega) _).setCell (p := ⟨w.heap.size + 2, 1, none⟩) (by show w.heap.size ≤ w.heap.size + 2; omega) _), rfl, (HB6.out.setCell (p := ⟨w.heap.size + 2, 0, none⟩) (by show w.heap.size ≤ w.heap.size + 2; omega) _).setCell (p := ⟨w.heap.size + 2, 1, none⟩) (by show w.heap.size ≤ w.heap.size + 2; omega) _⟩
            simp [results, Try.results27, go_sem, e0, e1])
        · have HE1 : Hid (makeE m (coreL L) x.core = 0) := Lib.hid (by rw [HE.out, hB, if_pos rfl, if_neg hml])
          have HNN : Hid (makeL m (coreL L) x.core = coreL (L ++ [y]) ∧ makeN m (coreL L) x.core = len) := Lib.hid (by
            unfold makeL makeN
            rw [if_pos HE1.out, if_pos HE1.out, HCM.out, HCL.out]
            exact ⟨rfl, rfl⟩)
          have hml2 : ¬ (len : Int) ≥ m := hml
          have hn1 : g ≠ w.heap.size + 2 := by have := HG.out; omega
          have hn2 : w.heap.size + 2 ≠ g := hn1.symm
          have hn3 : g ≠ w.heap.size := by have := HG.out; omega
          have hn4 : w.heap.size ≠ g := hn3.symm
          clear hB hml
          go_wp2_with (go_at_call 56; (with_reducible refine (CN.out _ WR.out.row).mono ?_); rintro e w7 ⟨rfl, hb⟩; have HB6 := Lib.hid (HB6.out.trans (hb.mono HB6.out.size)); have WR := Lib.hid (WR.out.keep hb); have GB := Lib.hid (GB.out.keep hb); have ST := Lib.hid (ST.out.keep hb); have G0 := GB.out.c0; have G1 := GB.out.c1; have G2 := GB.out.f0; have G3 := GB.out.f1; have z0 := ST.out.box.c0; have z1 := ST.out.box.c1; have x0 := ST.out.node.c0; have e0 := ST.out.res.c0; have e1 := ST.out.res.c1; have e2 := ST.out.res.f0; have e3 := ST.out.res.f1; clear hb)
          go_region
          have W1 := Lib.hid (WR.out.other (b := g) (fun e => HNE.out e.symm) (fun z hz => (HOK.out z hz).away (by have := HG.out; omega)) 1 (.int .i64 m))
          have W2 := Lib.hid (W1.out.other (b := w.heap.size + 2) (by have := HGR.out; omega) (fun z hz => (HOK.out z hz).away (by omega)) 0 (.slice (some ⟨gr, 0, none⟩) (len + 1) cap2))
          have W3 := Lib.hid ((W2.out.other (b := w.heap.size + 2) (by have := HGR.out; omega) (fun z hz => (HOK.out z hz).away (by omega)) 1 (.int .i64 m)).keep (Below.refl _ _).drew)
          have hb3 := (((HB6.out.setCell (p := ⟨g, 1, none⟩) (by show w.heap.size ≤ g; have := HG.out; omega) (.int .i64 m)).setCell (p := ⟨w.heap.size + 2, 0, none⟩) (by show w.heap.size ≤ w.heap.size + 2; omega) (.slice (some ⟨gr, 0, none⟩) (len + 1) cap2)).setCell (p := ⟨w.heap.size + 2, 1, none⟩) (by show w.heap.size ≤ w.heap.size + 2; omega) (.int .i64 m)).drew
          go_wp2
          rw [HE1.out, HNN.out.1, HNN.out.2]
          have hfp : ForPost w (coreL (L ++ [y])) m [.int .i64 (len : Int), .int .i64 0] (.returned (.tuple #[forV (some ⟨gr, 0, none⟩) (len + 1) cap2 m, .int .i64 (len : Int), .int .i64 0])) _ := ⟨_, _, cap2, L ++ [y], rfl, W3.out.row, rfl, hb3⟩
          refine bodyPost_ret (v := .tuple #[forV (some ⟨gr, 0, none⟩) (len + 1) cap2 m, .int .i64 (len : Int), .int .i64 0]) ?_ rfl hfp
          simp [results, Try.results27, go_sem, e0, e1]
end Go.Proofs.Ytllfkiifkkcinaa
/- instarref03's Holds, Ahead, over a forest that is right. -/
namespace Go.Proofs.Ytllfkiifkkcinaa
open Go.RowKit
/-- The order of a node's tree as numbers. -/
def ordQ (F : List Core) (n : Nat) : List Int := (ordF F n).map Int.ofNat
set_option maxHeartbeats 4000000 in
set_option maxRecDepth 100000 in
theorem refholds_any (a : Option Addr) (len cap : Nat) (m : Int) (L : List NodeD) (hr : rightF m (coreL L) = true) (hs : L.length ≤ 1000) (x : Nat) (y : Int) (w : World) (h : NodeRow w a len cap L) (hx : x < len) :
    Calls Try.prog 32 #[forV a len cap m, .int .i64 x, .int .i64 y] w fun e w' => e = .returned (.bool (decide (0 < hasZ (ordQ (coreL L) x) y))) ∧ Below w.heap.size w w' := by
  have BX := Lib.hid (Box.start (m := m) h)
  have CO : Hid (∀ W, NodeRow W a len cap L → Calls Try.prog 30 #[forV a len cap m, .int .i64 x] W (OrdPost W (ordQ (coreL L) x))) := Lib.hid (fun W h => reforder_any a len cap m L hr hs x W h hx)
  have z0 := BX.out.c0
  have z1 := BX.out.c1
  clear h hr hx
  go_enter Try.func32, Try.ntmps32
  go_wp2_with (first
      | (go_at_call 30; refine (CO.out _ (by first | exact BX.out.row | exact BX.out.row.drew)).mono ?_; intro e w2 hp; obtain ⟨a2, n2, c2, rfl, hrow, hb⟩ := hp; have IR := Lib.hid hrow; have BX := Lib.hid (BX.out.keep hb); have z0 := BX.out.c0; have z1 := BX.out.c1; clear hrow hb)
      | (go_at_call 34; refine (refhas_any _ _ _ _ _ _ IR.out).mono ?_; rintro e w3 ⟨rfl, rfl⟩))
  go_ret
  exact ⟨rfl, BX.out.below⟩
set_option maxHeartbeats 4000000 in
set_option maxRecDepth 100000 in
theorem refahead_any (a : Option Addr) (len cap : Nat) (m : Int) (L : List NodeD) (hr : rightF m (coreL L) = true) (hs : L.length ≤ 1000) (x : Nat) (y : Int) (w : World) (h : NodeRow w a len cap L) (hx : x < len) :
    Calls Try.prog 33 #[forV a len cap m, .int .i64 x, .int .i64 y] w fun e w' => e = .returned (.bool (decide (findZ (ordQ (coreL L) (rootF (coreL L) x)) x < findZ (ordQ (coreL L) (rootF (coreL L) x)) y))) ∧ Below w.heap.size w w' := by
  have BX := Lib.hid (Box.start (m := m) h)
  have HCL : (coreL L).length = len := by rw [coreL_len, h.hlen]
  have hRl := rootF_lt hr (by rw [HCL]; exact hx)
  rw [HCL] at hRl
  have CU : Hid (∀ W, NodeRow W a len cap L → Calls Try.prog 28 #[forV a len cap m, .int .i64 x] W fun e w' => e = .returned (.int .i64 (rootF (coreL L) x : Nat)) ∧ Below W.heap.size W w') := Lib.hid (fun W h => refrootF_any a len cap m L x W hr h hx)
  obtain ⟨R, hR⟩ : ∃ R, rootF (coreL L) x = R := ⟨_, rfl⟩
  rw [hR] at CU hRl
  rw [hR]
  have CO : Hid (∀ W, NodeRow W a len cap L → Calls Try.prog 30 #[forV a len cap m, .int .i64 R] W (OrdPost W (ordQ (coreL L) R))) := Lib.hid (fun W h => reforder_any a len cap m L hr hs R W h hRl)
  have z0 := BX.out.c0
  have z1 := BX.out.c1
  clear h hr hx hR HCL
  go_enter Try.func33, Try.ntmps33
  go_wp2
  go_region_held3 (fun w' => w'.cell? ⟨w.heap.size, 0, none⟩ = some (.slice a len cap) ∧ w'.cell? ⟨w.heap.size, 1, none⟩ = some (.int .i64 m)) (go_keep)
    (first
      | (go_at_call 28; refine (CU.out _ (by first | exact BX.out.row | exact BX.out.row.drew)).mono ?_; intro e w2 hp; obtain ⟨rfl, hb⟩ := hp; have BX : Hid (Box w w2 w.heap.size a len cap m L (coreL L)) := Lib.hid (by first | exact BX.out.keep hb | exact BX.out.keep ((Below.refl _ _).drew.trans hb)); have z0 := BX.out.c0; have z1 := BX.out.c1; clear hb)
      | (go_at_call 30; refine (CO.out _ (by first | exact BX.out.row | exact BX.out.row.drew)).mono ?_; intro e w2 hp; obtain ⟨a2, n2, c2, rfl, hrow, hb⟩ := hp; have IR := Lib.hid hrow; have BX : Hid (Box w w2 w.heap.size a len cap m L (coreL L)) := Lib.hid (by first | exact BX.out.keep hb | exact BX.out.keep ((Below.refl _ _).drew.trans hb)); have z0 := BX.out.c0; have z1 := BX.out.c1; clear hrow hb))
  go_wp2_with (go_at_call 35; refine (reffind_any _ _ _ _ _ _ IR.out).mono ?_; rintro e w3 ⟨rfl, rfl⟩)
  go_ret
  exact ⟨rfl, BX.out.below⟩
end Go.Proofs.Ytllfkiifkkcinaa
/- The walk of the law ForestRight, over the contracts of package forest and of the reference. -/
namespace Go.Proofs.Ytllfkiifkkcinaa
open Go.RowKit
theorem thereF_not3 {m : Int} {F : List Core} {n : Int} (h : thereF m F n = false) : rootZ m F n = -1 ∧ ordZ m F n = [] ∧ placeZ m F n = -1 ∧ ∀ k, holdsZ m F n k = false ∧ holdsZ m F k n = false ∧ aheadZ m F n k = false ∧ aheadZ m F k n = false := by
  refine ⟨?_, ?_, ?_, fun k => ⟨?_, ?_, ?_, ?_⟩⟩
  · unfold rootZ; rw [h]; rfl
  · unfold ordZ; rw [h]; rfl
  · unfold placeZ; rw [h]; rfl
  · unfold holdsZ; rw [h]; rfl
  · unfold holdsZ; rw [h, Bool.and_false]; rfl
  · unfold aheadZ; rw [h]; rfl
  · unfold aheadZ; rw [h, Bool.and_false]; rfl
theorem has_holds {F : List Core} {a b : Nat} : decide (0 < hasZ (ordQ F a) (b : Int)) = holdsF F a b := by
  unfold holdsF ordQ
  by_cases h : b ∈ ordF F a
  · rw [decide_eq_true h]
    exact decide_eq_true (hasZ_pos (List.mem_map.2 ⟨b, h, rfl⟩))
  · rw [decide_eq_false h]
    refine decide_eq_false ?_
    rw [hasZ_zero (fun hm => by
      obtain ⟨c, hc, he⟩ := List.mem_map.1 hm
      have : c = b := by
        have : (c : Int) = (b : Int) := he
        omega
      exact h (this ▸ hc))]
    omega
set_option maxHeartbeats 32000000 in
set_option maxRecDepth 100000 in
theorem forestRight_walk (F : ForestFns) (a0 : Option Addr) (len0 cap0 : Nat) (m : Int) (L0 : List NodeD) (x : NodeD) (mo p r : Int) (w : World)
    (h0 : NodeRow w a0 len0 cap0 L0) (hm : In64 m) (hx : NodeOk w x) (hmo : In64 mo) (hp : In64 p) (hr : In64 r) :
    Calls Try.prog 3 #[forV a0 len0 cap0 m, nodVal x, .int .i64 mo, .int .i64 p, .int .i64 r] w fun e w' => e = .returned (.bool true) ∧ Below w.heap.size w w' := by
  have AW := Lib.hid (fun W => awake3_any F W)
  have HF := Lib.hid F
  have BX := Lib.hid ((Box.start (m := m) h0).keep (below_box _ (nodB x)))
  have NX := Lib.hid (NBox.next (B := forB a0 len0 cap0 m) hx)
  have hl0 := h0.len64
  have hln := hx.attrs.len64
  have hls : x.core.name.size ≤ 9223372036854775807 := by have := hx.name; unfold maxLen at this; omega
  have HL := Lib.hid h0.hlen
  have HM := Lib.hid hm
  have HMO := Lib.hid hmo
  have HP := Lib.hid hp
  have HR := Lib.hid hr
  clear h0 F hm hx hmo hp hr
  cases c0 : shortF L0 with
  | false =>
    have C0 := Lib.hid c0
    go_enter Try.func3, Try.ntmps3
    go_wp2_with (first
                    | (go_at_call 14; (with_reducible refine (AW.out _).mono ?_); rintro e w1 ⟨rfl, hb⟩; (have BX := Lib.hid (BX.out.keep hb); have NX := Lib.hid (NX.out.keep hb); have z0 := BX.out.c0; have z1 := BX.out.c1; obtain ⟨-, x0, x1, x2, x3, x4, x5, x6, x7, x8, x9, -⟩ := NX.out); clear hb)
                    | (go_at_call 15; (with_reducible refine (refshortF_any _ _ _ _ _ _ BX.out.row).mono ?_); rintro e w1 ⟨rfl, hb⟩; (have BX := Lib.hid (BX.out.keep hb); have NX := Lib.hid (NX.out.keep hb); have z0 := BX.out.c0; have z1 := BX.out.c1; obtain ⟨-, x0, x1, x2, x3, x4, x5, x6, x7, x8, x9, -⟩ := NX.out); clear hb)
                    | (go_at_call 16; (with_reducible refine (GR.out _ BX.out.row).mono ?_); rintro e w1 ⟨rfl, hb⟩; (have BX := Lib.hid (BX.out.keep hb); have NX := Lib.hid (NX.out.keep hb); have z0 := BX.out.c0; have z1 := BX.out.c1; obtain ⟨-, x0, x1, x2, x3, x4, x5, x6, x7, x8, x9, -⟩ := NX.out); clear hb)
                    | (go_at_call 17; (with_reducible refine (GN.out _).mono ?_); rintro e wn ⟨an, ln, cn, LN, rfl, hrn, hcn, hb⟩; have hb := hb.trans ((below_box wn (forB an ln cn M)).mono hb.size); (have BX := Lib.hid (BX.out.keep hb); have NX := Lib.hid (NX.out.keep hb); have z0 := BX.out.c0; have z1 := BX.out.c1; obtain ⟨-, x0, x1, x2, x3, x4, x5, x6, x7, x8, x9, -⟩ := NX.out); have BN := Lib.hid (Box.start (m := M) hrn); have n0 := BN.out.c0; have n1 := BN.out.c1; have CLN := Lib.hid hcn; clear hb hrn hcn)
                    | (go_at_call 18; (with_reducible refine (GM.out _ BX.out.row NX.out.ok).mono ?_); rintro e wg ⟨ag, lg, cg, LG, rfl, hrg, hcg, hb⟩; have hb := hb.trans ((below_box wg (forB ag lg cg m)).mono hb.size); (have BX := Lib.hid (BX.out.keep hb); have NX := Lib.hid (NX.out.keep hb); have z0 := BX.out.c0; have z1 := BX.out.c1; obtain ⟨-, x0, x1, x2, x3, x4, x5, x6, x7, x8, x9, -⟩ := NX.out); have BN := Lib.hid (BN.out.keep hb); have n0 := BN.out.c0; have n1 := BN.out.c1; have BG := Lib.hid (Box.start (m := m) hrg); have g0 := BG.out.c0; have g1 := BG.out.c1; have CLG := Lib.hid hcg; clear hb hrg hcg))
    go_ret
    exact ⟨rfl, BX.out.below⟩
  | true =>
    have SM := Lib.hid (small_of_short c0)
    by_cases hn : (60 : Int) < (x.aN : Int)
    · go_enter Try.func3, Try.ntmps3
      go_wp2_with (first
                      | (go_at_call 14; (with_reducible refine (AW.out _).mono ?_); rintro e w1 ⟨rfl, hb⟩; (have BX := Lib.hid (BX.out.keep hb); have NX := Lib.hid (NX.out.keep hb); have z0 := BX.out.c0; have z1 := BX.out.c1; obtain ⟨-, x0, x1, x2, x3, x4, x5, x6, x7, x8, x9, -⟩ := NX.out); clear hb)
                      | (go_at_call 15; (with_reducible refine (refshortF_any _ _ _ _ _ _ BX.out.row).mono ?_); rintro e w1 ⟨rfl, hb⟩; (have BX := Lib.hid (BX.out.keep hb); have NX := Lib.hid (NX.out.keep hb); have z0 := BX.out.c0; have z1 := BX.out.c1; obtain ⟨-, x0, x1, x2, x3, x4, x5, x6, x7, x8, x9, -⟩ := NX.out); clear hb)
                      | (go_at_call 16; (with_reducible refine (GR.out _ BX.out.row).mono ?_); rintro e w1 ⟨rfl, hb⟩; (have BX := Lib.hid (BX.out.keep hb); have NX := Lib.hid (NX.out.keep hb); have z0 := BX.out.c0; have z1 := BX.out.c1; obtain ⟨-, x0, x1, x2, x3, x4, x5, x6, x7, x8, x9, -⟩ := NX.out); clear hb)
                      | (go_at_call 17; (with_reducible refine (GN.out _).mono ?_); rintro e wn ⟨an, ln, cn, LN, rfl, hrn, hcn, hb⟩; have hb := hb.trans ((below_box wn (forB an ln cn M)).mono hb.size); (have BX := Lib.hid (BX.out.keep hb); have NX := Lib.hid (NX.out.keep hb); have z0 := BX.out.c0; have z1 := BX.out.c1; obtain ⟨-, x0, x1, x2, x3, x4, x5, x6, x7, x8, x9, -⟩ := NX.out); have BN := Lib.hid (Box.start (m := M) hrn); have n0 := BN.out.c0; have n1 := BN.out.c1; have CLN := Lib.hid hcn; clear hb hrn hcn)
                      | (go_at_call 18; (with_reducible refine (GM.out _ BX.out.row NX.out.ok).mono ?_); rintro e wg ⟨ag, lg, cg, LG, rfl, hrg, hcg, hb⟩; have hb := hb.trans ((below_box wg (forB ag lg cg m)).mono hb.size); (have BX := Lib.hid (BX.out.keep hb); have NX := Lib.hid (NX.out.keep hb); have z0 := BX.out.c0; have z1 := BX.out.c1; obtain ⟨-, x0, x1, x2, x3, x4, x5, x6, x7, x8, x9, -⟩ := NX.out); have BN := Lib.hid (BN.out.keep hb); have n0 := BN.out.c0; have n1 := BN.out.c1; have BG := Lib.hid (Box.start (m := m) hrg); have g0 := BG.out.c0; have g1 := BG.out.c1; have CLG := Lib.hid hcg; clear hb hrg hcg))
      go_ret
      exact ⟨rfl, BX.out.below⟩
    by_cases hs : (300 : Int) < (x.core.name.size : Int)
    · go_enter Try.func3, Try.ntmps3
      go_wp2_with (first
                      | (go_at_call 14; (with_reducible refine (AW.out _).mono ?_); rintro e w1 ⟨rfl, hb⟩; (have BX := Lib.hid (BX.out.keep hb); have NX := Lib.hid (NX.out.keep hb); have z0 := BX.out.c0; have z1 := BX.out.c1; obtain ⟨-, x0, x1, x2, x3, x4, x5, x6, x7, x8, x9, -⟩ := NX.out); clear hb)
                      | (go_at_call 15; (with_reducible refine (refshortF_any _ _ _ _ _ _ BX.out.row).mono ?_); rintro e w1 ⟨rfl, hb⟩; (have BX := Lib.hid (BX.out.keep hb); have NX := Lib.hid (NX.out.keep hb); have z0 := BX.out.c0; have z1 := BX.out.c1; obtain ⟨-, x0, x1, x2, x3, x4, x5, x6, x7, x8, x9, -⟩ := NX.out); clear hb)
                      | (go_at_call 16; (with_reducible refine (GR.out _ BX.out.row).mono ?_); rintro e w1 ⟨rfl, hb⟩; (have BX := Lib.hid (BX.out.keep hb); have NX := Lib.hid (NX.out.keep hb); have z0 := BX.out.c0; have z1 := BX.out.c1; obtain ⟨-, x0, x1, x2, x3, x4, x5, x6, x7, x8, x9, -⟩ := NX.out); clear hb)
                      | (go_at_call 17; (with_reducible refine (GN.out _).mono ?_); rintro e wn ⟨an, ln, cn, LN, rfl, hrn, hcn, hb⟩; have hb := hb.trans ((below_box wn (forB an ln cn M)).mono hb.size); (have BX := Lib.hid (BX.out.keep hb); have NX := Lib.hid (NX.out.keep hb); have z0 := BX.out.c0; have z1 := BX.out.c1; obtain ⟨-, x0, x1, x2, x3, x4, x5, x6, x7, x8, x9, -⟩ := NX.out); have BN := Lib.hid (Box.start (m := M) hrn); have n0 := BN.out.c0; have n1 := BN.out.c1; have CLN := Lib.hid hcn; clear hb hrn hcn)
                      | (go_at_call 18; (with_reducible refine (GM.out _ BX.out.row NX.out.ok).mono ?_); rintro e wg ⟨ag, lg, cg, LG, rfl, hrg, hcg, hb⟩; have hb := hb.trans ((below_box wg (forB ag lg cg m)).mono hb.size); (have BX := Lib.hid (BX.out.keep hb); have NX := Lib.hid (NX.out.keep hb); have z0 := BX.out.c0; have z1 := BX.out.c1; obtain ⟨-, x0, x1, x2, x3, x4, x5, x6, x7, x8, x9, -⟩ := NX.out); have BN := Lib.hid (BN.out.keep hb); have n0 := BN.out.c0; have n1 := BN.out.c1; have BG := Lib.hid (Box.start (m := m) hrg); have g0 := BG.out.c0; have g1 := BG.out.c1; have CLG := Lib.hid hcg; clear hb hrg hcg))
      go_ret
      exact ⟨rfl, BX.out.below⟩
    have HCL : Hid ((coreL L0).length = len0) := Lib.hid (by unfold coreL; rw [List.length_map, HL.out])
    have hAN : x.core.attrs.length ≤ 60 := by rw [NX.out.ok.attrs.hlen]; omega
    have SX : Hid (smallX x) := Lib.hid ⟨by omega, by omega⟩
    clear hAN
    obtain ⟨R, hR⟩ : ∃ R, rightF m (coreL L0) = R := ⟨_, rfl⟩
    have HRT := Lib.hid hR
    obtain ⟨E, hE⟩ : ∃ E, makeE m (coreL L0) x.core = E := ⟨_, rfl⟩
    obtain ⟨N, hN⟩ : ∃ N, makeN m (coreL L0) x.core = N := ⟨_, rfl⟩
    obtain ⟨FG, hFG⟩ : ∃ FG, makeL m (coreL L0) x.core = FG := ⟨_, rfl⟩
    have GR : Hid (∀ W, NodeRow W a0 len0 cap0 L0 → Calls Try.prog 16 #[forV a0 len0 cap0 m] W fun e w' => e = .returned (.bool R) ∧ Below W.heap.size W w') := Lib.hid (fun W h => by
      rw [← HRT.out]
      exact refrightN_any a0 len0 cap0 m L0 W h)
    have GF : Hid (∀ W, NodeRow W a0 len0 cap0 L0 → Calls Try.prog 19 #[forV a0 len0 cap0 m] W fun e w' => e = .returned (.bool R) ∧ Below W.heap.size W w') := Lib.hid (fun W h => by
      rw [← HRT.out]
      exact HF.out.right a0 len0 cap0 m L0 W h HM.out SM.out)
    have GM : Hid (∀ W, NodeRow W a0 len0 cap0 L0 → NodeOk W x → Calls Try.prog 18 #[forV a0 len0 cap0 m, nodVal x] W (ForPost W FG m [.int .i64 N, .int .i64 E])) := Lib.hid (fun W h1 h2 => by
      rw [← hE, ← hN, ← hFG]
      exact HF.out.make a0 len0 cap0 m L0 x W h1 h2 HM.out SM.out SX.out)
    have HE := Lib.hid hE
    have HN := Lib.hid hN
    have HFG := Lib.hid hFG
    obtain ⟨M, hM⟩ : ∃ M, newM mo = M := ⟨_, rfl⟩
    obtain ⟨EN, hEN⟩ : ∃ EN, newE mo = EN := ⟨_, rfl⟩
    have GN : Hid (∀ W, Calls Try.prog 17 #[.int .i64 mo] W (ForPost W (newL mo) M [.int .i64 EN])) := Lib.hid (fun W => by
      rw [← hM, ← hEN]
      exact HF.out.new mo W HMO.out)
    have HMM := Lib.hid hM
    have HEN := Lib.hid hEN
    have GRoot : Hid (∀ W z, NodeRow W a0 len0 cap0 L0 → rootZ m (coreL L0) p = z → Calls Try.prog 22 #[forV a0 len0 cap0 m, .int .i64 p] W fun e w' => e = .returned (.int .i64 z) ∧ Below W.heap.size W w') := Lib.hid (fun W z h hz => by
      rw [← hz]; exact HF.out.root a0 len0 cap0 m L0 p W h HM.out HP.out SM.out)
    have GOrd : Hid (∀ W l, NodeRow W a0 len0 cap0 L0 → ordZ m (coreL L0) p = l → Calls Try.prog 23 #[forV a0 len0 cap0 m, .int .i64 p] W (OrdPost W l)) := Lib.hid (fun W l h hz => by
      rw [← hz]; exact HF.out.order a0 len0 cap0 m L0 p W h HM.out HP.out SM.out)
    have GPl : Hid (∀ W z, NodeRow W a0 len0 cap0 L0 → placeZ m (coreL L0) p = z → Calls Try.prog 25 #[forV a0 len0 cap0 m, .int .i64 p] W fun e w' => e = .returned (.int .i64 z) ∧ Below W.heap.size W w') := Lib.hid (fun W z h hz => by
      rw [← hz]; exact HF.out.place a0 len0 cap0 m L0 p W h HM.out HP.out SM.out)
    have GHold : Hid (∀ W b, NodeRow W a0 len0 cap0 L0 → holdsZ m (coreL L0) p r = b → Calls Try.prog 24 #[forV a0 len0 cap0 m, .int .i64 p, .int .i64 r] W fun e w' => e = .returned (.bool b) ∧ Below W.heap.size W w') := Lib.hid (fun W z h hz => by
      rw [← hz]; exact HF.out.holds a0 len0 cap0 m L0 p r W h HM.out HP.out HR.out SM.out)
    have GHold2 : Hid (∀ W b, NodeRow W a0 len0 cap0 L0 → holdsZ m (coreL L0) r p = b → Calls Try.prog 24 #[forV a0 len0 cap0 m, .int .i64 r, .int .i64 p] W fun e w' => e = .returned (.bool b) ∧ Below W.heap.size W w') := Lib.hid (fun W z h hz => by
      rw [← hz]; exact HF.out.holds a0 len0 cap0 m L0 r p W h HM.out HR.out HP.out SM.out)
    have GAh : Hid (∀ W b, NodeRow W a0 len0 cap0 L0 → aheadZ m (coreL L0) p r = b → Calls Try.prog 26 #[forV a0 len0 cap0 m, .int .i64 p, .int .i64 r] W fun e w' => e = .returned (.bool b) ∧ Below W.heap.size W w') := Lib.hid (fun W z h hz => by
      rw [← hz]; exact HF.out.ahead a0 len0 cap0 m L0 p r W h HM.out HP.out HR.out SM.out)
    clear hE hN hFG hR hM hEN
    go_enter Try.func3, Try.ntmps3
    go_upto_region 8 with (first
                              | (go_at_call 14; (with_reducible refine (AW.out _).mono ?_); rintro e w1 ⟨rfl, hb⟩; (have BX := Lib.hid (BX.out.keep hb); have NX := Lib.hid (NX.out.keep hb); have z0 := BX.out.c0; have z1 := BX.out.c1; obtain ⟨-, x0, x1, x2, x3, x4, x5, x6, x7, x8, x9, -⟩ := NX.out); clear hb)
                              | (go_at_call 15; (with_reducible refine (refshortF_any _ _ _ _ _ _ BX.out.row).mono ?_); rintro e w1 ⟨rfl, hb⟩; (have BX := Lib.hid (BX.out.keep hb); have NX := Lib.hid (NX.out.keep hb); have z0 := BX.out.c0; have z1 := BX.out.c1; obtain ⟨-, x0, x1, x2, x3, x4, x5, x6, x7, x8, x9, -⟩ := NX.out); clear hb)
                              | (go_at_call 16; (with_reducible refine (GR.out _ BX.out.row).mono ?_); rintro e w1 ⟨rfl, hb⟩; (have BX := Lib.hid (BX.out.keep hb); have NX := Lib.hid (NX.out.keep hb); have z0 := BX.out.c0; have z1 := BX.out.c1; obtain ⟨-, x0, x1, x2, x3, x4, x5, x6, x7, x8, x9, -⟩ := NX.out); clear hb)
                              | (go_at_call 17; (with_reducible refine (GN.out _).mono ?_); rintro e wn ⟨an, ln, cn, LN, rfl, hrn, hcn, hb⟩; have hb := hb.trans ((below_box wn (forB an ln cn M)).mono hb.size); (have BX := Lib.hid (BX.out.keep hb); have NX := Lib.hid (NX.out.keep hb); have z0 := BX.out.c0; have z1 := BX.out.c1; obtain ⟨-, x0, x1, x2, x3, x4, x5, x6, x7, x8, x9, -⟩ := NX.out); have BN := Lib.hid (Box.start (m := M) hrn); have n0 := BN.out.c0; have n1 := BN.out.c1; have CLN := Lib.hid hcn; clear hb hrn hcn)
                              | (go_at_call 18; (with_reducible refine (GM.out _ BX.out.row NX.out.ok).mono ?_); rintro e wg ⟨ag, lg, cg, LG, rfl, hrg, hcg, hb⟩; have hb := hb.trans ((below_box wg (forB ag lg cg m)).mono hb.size); (have BX := Lib.hid (BX.out.keep hb); have NX := Lib.hid (NX.out.keep hb); have z0 := BX.out.c0; have z1 := BX.out.c1; obtain ⟨-, x0, x1, x2, x3, x4, x5, x6, x7, x8, x9, -⟩ := NX.out); have BN := Lib.hid (BN.out.keep hb); have n0 := BN.out.c0; have n1 := BN.out.c1; have BG := Lib.hid (Box.start (m := m) hrg); have g0 := BG.out.c0; have g1 := BG.out.c1; have CLG := Lib.hid hcg; clear hb hrg hcg))
    clear AW GM GN
    go_cut [90] (fun c wx => c = .bool false ∧ Hid (Below ((wg.alloc (forB ag lg cg m)).heap.size) (wg.alloc (forB ag lg cg m)) wx))
    case first =>
      have BXq := BX
      have z0q := z0
      have z1q := z1
      have BNq := BN
      have n0q := n0
      have n1q := n1
      have CLNq := CLN
      have HBN : Hid (NodeRow (wg.alloc (forB ag lg cg m)) an ln cn LN) := Lib.hid BN.out.row
      cases ok : newOk mo with
      | true =>
        have hok := ok
        unfold newOk at hok
        simp only [Bool.and_eq_true, decide_eq_true_eq] at hok
        obtain rfl : mo = M := by rw [← HMM.out]; unfold newM; rw [ok]; rfl
        obtain rfl : 0 = EN := by rw [← HEN.out]; unfold newE; rw [ok]; rfl
        refine forestRight8A_region (R := R) (most := mo) (by kernel_rfl) BXq.out.lt z0q z1q BNq.out.lt n0q n1q HBN.out (CLNq.out.trans (by unfold newL; rw [ok]; rfl)) hok.1 hok.2 rfl rfl rfl rfl rfl
          (fun V hV => fact_of (GF.out V (BXq.out.row.below hV)))
          (fun V _ => (refnew_any mo V).mono (fun e w' ⟨a, he, hr, hb⟩ => ⟨_, he, ⟨a, 1, 1, [bareD 0 0], rfl, hr, rfl⟩, hb⟩)) ?_
        intro v w3 hb
        simp only [puts, List.set_cons_succ, List.set_cons_zero]
        go_wp2
        go_meet
        exact ⟨rfl, Lib.hid hb⟩
      | false =>
        have hok := ok
        unfold newOk at hok
        obtain rfl : 0 = M := by rw [← HMM.out]; unfold newM; rw [ok]; rfl
        obtain rfl : 1 = EN := by rw [← HEN.out]; unfold newE; rw [ok]; rfl
        by_cases k1 : mo ≥ 1
        · have k2 : ¬ mo ≤ 400 := fun k2 => by
            rw [decide_eq_true (show (1 : Int) ≤ mo from k1), decide_eq_true k2] at hok
            cases hok
          refine forestRight8C_region (R := R) (most := mo) (by kernel_rfl) BXq.out.lt z0q z1q BNq.out.lt n0q n1q HBN.out (CLNq.out.trans (by unfold newL; rw [ok]; rfl)) k1 k2 rfl rfl rfl rfl rfl
            (fun V hV => fact_of (GF.out V (BXq.out.row.below hV))) ?_
          intro v w3 hb
          simp only [puts, List.set_cons_succ, List.set_cons_zero]
          go_wp2
          go_meet
          exact ⟨rfl, Lib.hid hb⟩
        · refine forestRight8B_region (R := R) (most := mo) (by kernel_rfl) BXq.out.lt z0q z1q BNq.out.lt n0q n1q HBN.out (CLNq.out.trans (by unfold newL; rw [ok]; rfl)) k1 rfl rfl rfl rfl rfl
            (fun V hV => fact_of (GF.out V (BXq.out.row.below hV))) ?_
          intro v w3 hb
          simp only [puts, List.set_cons_succ, List.set_cons_zero]
          go_wp2
          go_meet
          exact ⟨rfl, Lib.hid hb⟩
    case rest =>
      obtain ⟨rfl, hb⟩ := hcut
      have hb := hb.out
      clear n0 n1 BN CLN
      ((have BX := Lib.hid (BX.out.keep hb); have NX := Lib.hid (NX.out.keep hb); have z0 := BX.out.c0; have z1 := BX.out.c1; obtain ⟨-, x0, x1, x2, x3, x4, x5, x6, x7, x8, x9, -⟩ := NX.out); have BG := Lib.hid (BG.out.keep hb); have g0 := BG.out.c0; have g1 := BG.out.c1; clear hb)
      cases R with
      | false =>
        have TN := Lib.hid (thereF_not3 (m := m) (F := coreL L0) (n := p) (by unfold thereF; rw [HRT.out]; rfl))
        obtain rfl : E = 1 := by rw [← HE.out]; unfold makeE; rw [HRT.out]; rfl
        obtain ⟨hmL, hmN⟩ := make_not (m := m) (F := coreL L0) (x := x.core) (by rw [HE.out]; decide)
        obtain rfl : N = -1 := HN.out.symm.trans hmN
        have HCC : Hid (coreL LG = coreL L0) := Lib.hid (CLG.out.trans (HFG.out.symm.trans hmL))
        clear hmL hmN
        have GS : Hid (∀ W, NodeRow W ag lg cg LG → NodeRow W a0 len0 cap0 L0 → Calls Try.prog 20 #[forV ag lg cg m, forV a0 len0 cap0 m] W fun e w' => e = .returned (.bool true) ∧ Below W.heap.size W w') := Lib.hid (fun W h1 h2 => by
          have := refsameF_any ag a0 lg cg len0 cap0 m m LG L0 W h1 h2
          rwa [HCC.out, decide_eq_true rfl, decide_eq_true rfl] at this)
        have K1 := Lib.hid TN.out.1
        have K2 := Lib.hid TN.out.2.1
        have K3 := Lib.hid TN.out.2.2.1
        have K4 := Lib.hid (TN.out.2.2.2 r).1
        have K6 := Lib.hid (TN.out.2.2.2 r).2.2.1
        go_wp2_with (first
                        | (go_at_call 20; (with_reducible refine (GS.out _ BG.out.row BX.out.row).mono ?_); rintro e w2 ⟨rfl, hb⟩; ((have BX := Lib.hid (BX.out.keep hb); have NX := Lib.hid (NX.out.keep hb); have z0 := BX.out.c0; have z1 := BX.out.c1; obtain ⟨-, x0, x1, x2, x3, x4, x5, x6, x7, x8, x9, -⟩ := NX.out); have BG := Lib.hid (BG.out.keep hb); have g0 := BG.out.c0; have g1 := BG.out.c1; clear hb))
                        | (go_at_call 22; (with_reducible refine (GRoot.out _ _ BX.out.row K1.out).mono ?_); rintro e w2 ⟨rfl, hb⟩; ((have BX := Lib.hid (BX.out.keep hb); have NX := Lib.hid (NX.out.keep hb); have z0 := BX.out.c0; have z1 := BX.out.c1; obtain ⟨-, x0, x1, x2, x3, x4, x5, x6, x7, x8, x9, -⟩ := NX.out); have BG := Lib.hid (BG.out.keep hb); have g0 := BG.out.c0; have g1 := BG.out.c1; clear hb))
                        | (go_at_call 23; (with_reducible refine (GOrd.out _ _ BX.out.row K2.out).mono ?_); rintro e w2 ⟨al, ll, cl, rfl, hrl, hb⟩; obtain rfl : ll = 0 := hrl.hlen.symm; clear hrl; ((have BX := Lib.hid (BX.out.keep hb); have NX := Lib.hid (NX.out.keep hb); have z0 := BX.out.c0; have z1 := BX.out.c1; obtain ⟨-, x0, x1, x2, x3, x4, x5, x6, x7, x8, x9, -⟩ := NX.out); have BG := Lib.hid (BG.out.keep hb); have g0 := BG.out.c0; have g1 := BG.out.c1; clear hb))
                        | (go_at_call 25; (with_reducible refine (GPl.out _ _ BX.out.row K3.out).mono ?_); rintro e w2 ⟨rfl, hb⟩; ((have BX := Lib.hid (BX.out.keep hb); have NX := Lib.hid (NX.out.keep hb); have z0 := BX.out.c0; have z1 := BX.out.c1; obtain ⟨-, x0, x1, x2, x3, x4, x5, x6, x7, x8, x9, -⟩ := NX.out); have BG := Lib.hid (BG.out.keep hb); have g0 := BG.out.c0; have g1 := BG.out.c1; clear hb))
                        | (go_at_call 24; (with_reducible refine (GHold.out _ _ BX.out.row K4.out).mono ?_); rintro e w2 ⟨rfl, hb⟩; ((have BX := Lib.hid (BX.out.keep hb); have NX := Lib.hid (NX.out.keep hb); have z0 := BX.out.c0; have z1 := BX.out.c1; obtain ⟨-, x0, x1, x2, x3, x4, x5, x6, x7, x8, x9, -⟩ := NX.out); have BG := Lib.hid (BG.out.keep hb); have g0 := BG.out.c0; have g1 := BG.out.c1; clear hb))
                        | (go_at_call 24; (with_reducible refine (GHold2.out _ _ BX.out.row K5.out).mono ?_); rintro e w2 ⟨rfl, hb⟩; ((have BX := Lib.hid (BX.out.keep hb); have NX := Lib.hid (NX.out.keep hb); have z0 := BX.out.c0; have z1 := BX.out.c1; obtain ⟨-, x0, x1, x2, x3, x4, x5, x6, x7, x8, x9, -⟩ := NX.out); have BG := Lib.hid (BG.out.keep hb); have g0 := BG.out.c0; have g1 := BG.out.c1; clear hb))
                        | (go_at_call 26; (with_reducible refine (GAh.out _ _ BX.out.row K6.out).mono ?_); rintro e w2 ⟨rfl, hb⟩; ((have BX := Lib.hid (BX.out.keep hb); have NX := Lib.hid (NX.out.keep hb); have z0 := BX.out.c0; have z1 := BX.out.c1; obtain ⟨-, x0, x1, x2, x3, x4, x5, x6, x7, x8, x9, -⟩ := NX.out); have BG := Lib.hid (BG.out.keep hb); have g0 := BG.out.c0; have g1 := BG.out.c1; clear hb)))
        go_ret
        exact ⟨rfl, BX.out.below⟩
      | true =>
        have HL1 : Hid (L0.length ≤ 1000) := Lib.hid SM.out.1
        have GB : Hid (∀ W, NodeRow W a0 len0 cap0 L0 → NodeOk W x → Calls Try.prog 27 #[forV a0 len0 cap0 m, nodVal x] W (ForPost W FG m [.int .i64 N, .int .i64 E])) := Lib.hid (fun W h1 h2 => by
          rw [← HE.out, ← HN.out, ← HFG.out]
          exact refmake_w refnode_any a0 len0 cap0 m L0 x W HRT.out h1 h2)
        have GS : Hid (∀ W b lb cb LB, NodeRow W ag lg cg LG → NodeRow W b lb cb LB → coreL LB = FG → Calls Try.prog 20 #[forV ag lg cg m, forV b lb cb m] W fun e w' => e = .returned (.bool true) ∧ Below W.heap.size W w') := Lib.hid (fun W b lb cb LB h1 h2 he => by
          have := refsameF_any ag b lg cg lb cb m m LG LB W h1 h2
          rwa [CLG.out, he, decide_eq_true rfl, decide_eq_true rfl] at this)
        go_upto_region 15 with (first
          | (go_at_call 27; (with_reducible refine (GB.out _ BX.out.row NX.out.ok).mono ?_); rintro e wh ⟨ah, lh, ch, LH, rfl, hrh, hch, hb⟩; have hb := hb.trans ((below_box wh (forB ah lh ch m)).mono hb.size); ((have BX := Lib.hid (BX.out.keep hb); have NX := Lib.hid (NX.out.keep hb); have z0 := BX.out.c0; have z1 := BX.out.c1; obtain ⟨-, x0, x1, x2, x3, x4, x5, x6, x7, x8, x9, -⟩ := NX.out); have BG := Lib.hid (BG.out.keep hb); have g0 := BG.out.c0; have g1 := BG.out.c1; clear hb); have BH := Lib.hid (Box.start (m := m) hrh); have i0 := BH.out.c0; have i1 := BH.out.c1; have CLH := Lib.hid hch; clear hrh hch)
          | (go_at_call 20; (with_reducible refine (GS.out _ _ _ _ _ BG.out.row BH.out.row CLH.out).mono ?_); rintro e w2 ⟨rfl, hb⟩; ((have BX := Lib.hid (BX.out.keep hb); have NX := Lib.hid (NX.out.keep hb); have z0 := BX.out.c0; have z1 := BX.out.c1; obtain ⟨-, x0, x1, x2, x3, x4, x5, x6, x7, x8, x9, -⟩ := NX.out); have BG := Lib.hid (BG.out.keep hb); have g0 := BG.out.c0; have g1 := BG.out.c1; clear hb)))
        by_cases kp0 : p < 0
        · have TN := Lib.hid (thereF_not3 (m := m) (F := coreL L0) (n := p) (by unfold thereF; rw [decide_eq_false (show ¬ (0 : Int) ≤ p by omega), Bool.and_false, Bool.false_and]))
          have K1 := Lib.hid TN.out.1
          have K2 := Lib.hid TN.out.2.1
          have K3 := Lib.hid TN.out.2.2.1
          have K4 := Lib.hid (TN.out.2.2.2 r).1
          have K5 := Lib.hid (TN.out.2.2.2 r).2.1
          have K6 := Lib.hid (TN.out.2.2.2 r).2.2.1
          go_wp2_with (first
                          | (go_at_call 20; (with_reducible refine (GS.out _ BG.out.row BX.out.row).mono ?_); rintro e w2 ⟨rfl, hb⟩; ((have BX := Lib.hid (BX.out.keep hb); have NX := Lib.hid (NX.out.keep hb); have z0 := BX.out.c0; have z1 := BX.out.c1; obtain ⟨-, x0, x1, x2, x3, x4, x5, x6, x7, x8, x9, -⟩ := NX.out); have BG := Lib.hid (BG.out.keep hb); have g0 := BG.out.c0; have g1 := BG.out.c1; clear hb))
                          | (go_at_call 22; (with_reducible refine (GRoot.out _ _ BX.out.row K1.out).mono ?_); rintro e w2 ⟨rfl, hb⟩; ((have BX := Lib.hid (BX.out.keep hb); have NX := Lib.hid (NX.out.keep hb); have z0 := BX.out.c0; have z1 := BX.out.c1; obtain ⟨-, x0, x1, x2, x3, x4, x5, x6, x7, x8, x9, -⟩ := NX.out); have BG := Lib.hid (BG.out.keep hb); have g0 := BG.out.c0; have g1 := BG.out.c1; clear hb))
                          | (go_at_call 23; (with_reducible refine (GOrd.out _ _ BX.out.row K2.out).mono ?_); rintro e w2 ⟨al, ll, cl, rfl, hrl, hb⟩; obtain rfl : ll = 0 := hrl.hlen.symm; clear hrl; ((have BX := Lib.hid (BX.out.keep hb); have NX := Lib.hid (NX.out.keep hb); have z0 := BX.out.c0; have z1 := BX.out.c1; obtain ⟨-, x0, x1, x2, x3, x4, x5, x6, x7, x8, x9, -⟩ := NX.out); have BG := Lib.hid (BG.out.keep hb); have g0 := BG.out.c0; have g1 := BG.out.c1; clear hb))
                          | (go_at_call 25; (with_reducible refine (GPl.out _ _ BX.out.row K3.out).mono ?_); rintro e w2 ⟨rfl, hb⟩; ((have BX := Lib.hid (BX.out.keep hb); have NX := Lib.hid (NX.out.keep hb); have z0 := BX.out.c0; have z1 := BX.out.c1; obtain ⟨-, x0, x1, x2, x3, x4, x5, x6, x7, x8, x9, -⟩ := NX.out); have BG := Lib.hid (BG.out.keep hb); have g0 := BG.out.c0; have g1 := BG.out.c1; clear hb))
                          | (go_at_call 24; (with_reducible refine (GHold.out _ _ BX.out.row K4.out).mono ?_); rintro e w2 ⟨rfl, hb⟩; ((have BX := Lib.hid (BX.out.keep hb); have NX := Lib.hid (NX.out.keep hb); have z0 := BX.out.c0; have z1 := BX.out.c1; obtain ⟨-, x0, x1, x2, x3, x4, x5, x6, x7, x8, x9, -⟩ := NX.out); have BG := Lib.hid (BG.out.keep hb); have g0 := BG.out.c0; have g1 := BG.out.c1; clear hb))
                          | (go_at_call 24; (with_reducible refine (GHold2.out _ _ BX.out.row K5.out).mono ?_); rintro e w2 ⟨rfl, hb⟩; ((have BX := Lib.hid (BX.out.keep hb); have NX := Lib.hid (NX.out.keep hb); have z0 := BX.out.c0; have z1 := BX.out.c1; obtain ⟨-, x0, x1, x2, x3, x4, x5, x6, x7, x8, x9, -⟩ := NX.out); have BG := Lib.hid (BG.out.keep hb); have g0 := BG.out.c0; have g1 := BG.out.c1; clear hb))
                          | (go_at_call 26; (with_reducible refine (GAh.out _ _ BX.out.row K6.out).mono ?_); rintro e w2 ⟨rfl, hb⟩; ((have BX := Lib.hid (BX.out.keep hb); have NX := Lib.hid (NX.out.keep hb); have z0 := BX.out.c0; have z1 := BX.out.c1; obtain ⟨-, x0, x1, x2, x3, x4, x5, x6, x7, x8, x9, -⟩ := NX.out); have BG := Lib.hid (BG.out.keep hb); have g0 := BG.out.c0; have g1 := BG.out.c1; clear hb)))
          go_ret
          exact ⟨rfl, BX.out.below⟩
        by_cases kp1 : p ≥ (len0 : Int)
        · have TN := Lib.hid (thereF_not3 (m := m) (F := coreL L0) (n := p) (by unfold thereF; rw [decide_eq_false (show ¬ p < ((coreL L0).length : Int) by rw [HCL.out]; omega), Bool.and_false]))
          have K1 := Lib.hid TN.out.1
          have K2 := Lib.hid TN.out.2.1
          have K3 := Lib.hid TN.out.2.2.1
          have K4 := Lib.hid (TN.out.2.2.2 r).1
          have K5 := Lib.hid (TN.out.2.2.2 r).2.1
          have K6 := Lib.hid (TN.out.2.2.2 r).2.2.1
          go_wp2_with (first
                          | (go_at_call 20; (with_reducible refine (GS.out _ BG.out.row BX.out.row).mono ?_); rintro e w2 ⟨rfl, hb⟩; ((have BX := Lib.hid (BX.out.keep hb); have NX := Lib.hid (NX.out.keep hb); have z0 := BX.out.c0; have z1 := BX.out.c1; obtain ⟨-, x0, x1, x2, x3, x4, x5, x6, x7, x8, x9, -⟩ := NX.out); have BG := Lib.hid (BG.out.keep hb); have g0 := BG.out.c0; have g1 := BG.out.c1; clear hb))
                          | (go_at_call 22; (with_reducible refine (GRoot.out _ _ BX.out.row K1.out).mono ?_); rintro e w2 ⟨rfl, hb⟩; ((have BX := Lib.hid (BX.out.keep hb); have NX := Lib.hid (NX.out.keep hb); have z0 := BX.out.c0; have z1 := BX.out.c1; obtain ⟨-, x0, x1, x2, x3, x4, x5, x6, x7, x8, x9, -⟩ := NX.out); have BG := Lib.hid (BG.out.keep hb); have g0 := BG.out.c0; have g1 := BG.out.c1; clear hb))
                          | (go_at_call 23; (with_reducible refine (GOrd.out _ _ BX.out.row K2.out).mono ?_); rintro e w2 ⟨al, ll, cl, rfl, hrl, hb⟩; obtain rfl : ll = 0 := hrl.hlen.symm; clear hrl; ((have BX := Lib.hid (BX.out.keep hb); have NX := Lib.hid (NX.out.keep hb); have z0 := BX.out.c0; have z1 := BX.out.c1; obtain ⟨-, x0, x1, x2, x3, x4, x5, x6, x7, x8, x9, -⟩ := NX.out); have BG := Lib.hid (BG.out.keep hb); have g0 := BG.out.c0; have g1 := BG.out.c1; clear hb))
                          | (go_at_call 25; (with_reducible refine (GPl.out _ _ BX.out.row K3.out).mono ?_); rintro e w2 ⟨rfl, hb⟩; ((have BX := Lib.hid (BX.out.keep hb); have NX := Lib.hid (NX.out.keep hb); have z0 := BX.out.c0; have z1 := BX.out.c1; obtain ⟨-, x0, x1, x2, x3, x4, x5, x6, x7, x8, x9, -⟩ := NX.out); have BG := Lib.hid (BG.out.keep hb); have g0 := BG.out.c0; have g1 := BG.out.c1; clear hb))
                          | (go_at_call 24; (with_reducible refine (GHold.out _ _ BX.out.row K4.out).mono ?_); rintro e w2 ⟨rfl, hb⟩; ((have BX := Lib.hid (BX.out.keep hb); have NX := Lib.hid (NX.out.keep hb); have z0 := BX.out.c0; have z1 := BX.out.c1; obtain ⟨-, x0, x1, x2, x3, x4, x5, x6, x7, x8, x9, -⟩ := NX.out); have BG := Lib.hid (BG.out.keep hb); have g0 := BG.out.c0; have g1 := BG.out.c1; clear hb))
                          | (go_at_call 24; (with_reducible refine (GHold2.out _ _ BX.out.row K5.out).mono ?_); rintro e w2 ⟨rfl, hb⟩; ((have BX := Lib.hid (BX.out.keep hb); have NX := Lib.hid (NX.out.keep hb); have z0 := BX.out.c0; have z1 := BX.out.c1; obtain ⟨-, x0, x1, x2, x3, x4, x5, x6, x7, x8, x9, -⟩ := NX.out); have BG := Lib.hid (BG.out.keep hb); have g0 := BG.out.c0; have g1 := BG.out.c1; clear hb))
                          | (go_at_call 26; (with_reducible refine (GAh.out _ _ BX.out.row K6.out).mono ?_); rintro e w2 ⟨rfl, hb⟩; ((have BX := Lib.hid (BX.out.keep hb); have NX := Lib.hid (NX.out.keep hb); have z0 := BX.out.c0; have z1 := BX.out.c1; obtain ⟨-, x0, x1, x2, x3, x4, x5, x6, x7, x8, x9, -⟩ := NX.out); have BG := Lib.hid (BG.out.keep hb); have g0 := BG.out.c0; have g1 := BG.out.c1; clear hb)))
          go_ret
          exact ⟨rfl, BX.out.below⟩
        obtain ⟨X, rfl⟩ : ∃ X : Nat, p = X := ⟨p.toNat, by omega⟩
        have hXl : X < len0 := by omega
        have HXF : Hid (X < (coreL L0).length) := Lib.hid (by rw [HCL.out]; exact hXl)
        go_upto_region 17 with fail
        refine forestRight17_region (x := X) (T := (rootF (coreL L0) X : Nat)) (U := placeF (coreL L0) X) (lo := (ordF (coreL L0) X).map Int.ofNat) (by kernel_rfl) BX.out.lt z0 z1 rfl rfl
          (fun V hV => fact_of (GRoot.out V _ (BX.out.row.below hV) (rootZ_eq HRT.out HXF.out)))
          (fun V hV => fact_of (refrootF_any a0 len0 cap0 m L0 X V HRT.out (BX.out.row.below hV) hXl))
          (fun V hV => fact_ord (GOrd.out V _ (BX.out.row.below hV) (ordZ_eq HRT.out HXF.out)))
          (fun V hV => fact_ord (reforder_any a0 len0 cap0 m L0 HRT.out HL1.out X V (BX.out.row.below hV) hXl))
          (fun V hV => fact_of (GPl.out V _ (BX.out.row.below hV) (by unfold placeZ; rw [thereF_of HRT.out HXF.out]; rfl)))
          (fun V hV => fact_of (refplace_any a0 len0 cap0 m L0 X V HRT.out (BX.out.row.below hV) hXl)) ?_
        intro v w3 hb
        ((have BX := Lib.hid (BX.out.keep hb); have NX := Lib.hid (NX.out.keep hb); have z0 := BX.out.c0; have z1 := BX.out.c1; obtain ⟨-, x0, x1, x2, x3, x4, x5, x6, x7, x8, x9, -⟩ := NX.out); have BG := Lib.hid (BG.out.keep hb); have g0 := BG.out.c0; have g1 := BG.out.c1; clear hb)
        simp only [puts, List.set_cons_succ, List.set_cons_zero]
        by_cases kr0 : r < 0
        · have TN := Lib.hid (thereF_not3 (m := m) (F := coreL L0) (n := r) (by unfold thereF; rw [decide_eq_false (show ¬ (0 : Int) ≤ r by omega), Bool.and_false, Bool.false_and]))
          have K4 := Lib.hid (TN.out.2.2.2 (X : Int)).2.1
          have K6 := Lib.hid (TN.out.2.2.2 (X : Int)).2.2.2
          go_wp2_with (first
                          | (go_at_call 20; (with_reducible refine (GS.out _ BG.out.row BX.out.row).mono ?_); rintro e w2 ⟨rfl, hb⟩; ((have BX := Lib.hid (BX.out.keep hb); have NX := Lib.hid (NX.out.keep hb); have z0 := BX.out.c0; have z1 := BX.out.c1; obtain ⟨-, x0, x1, x2, x3, x4, x5, x6, x7, x8, x9, -⟩ := NX.out); have BG := Lib.hid (BG.out.keep hb); have g0 := BG.out.c0; have g1 := BG.out.c1; clear hb))
                          | (go_at_call 22; (with_reducible refine (GRoot.out _ _ BX.out.row K1.out).mono ?_); rintro e w2 ⟨rfl, hb⟩; ((have BX := Lib.hid (BX.out.keep hb); have NX := Lib.hid (NX.out.keep hb); have z0 := BX.out.c0; have z1 := BX.out.c1; obtain ⟨-, x0, x1, x2, x3, x4, x5, x6, x7, x8, x9, -⟩ := NX.out); have BG := Lib.hid (BG.out.keep hb); have g0 := BG.out.c0; have g1 := BG.out.c1; clear hb))
                          | (go_at_call 23; (with_reducible refine (GOrd.out _ _ BX.out.row K2.out).mono ?_); rintro e w2 ⟨al, ll, cl, rfl, hrl, hb⟩; obtain rfl : ll = 0 := hrl.hlen.symm; clear hrl; ((have BX := Lib.hid (BX.out.keep hb); have NX := Lib.hid (NX.out.keep hb); have z0 := BX.out.c0; have z1 := BX.out.c1; obtain ⟨-, x0, x1, x2, x3, x4, x5, x6, x7, x8, x9, -⟩ := NX.out); have BG := Lib.hid (BG.out.keep hb); have g0 := BG.out.c0; have g1 := BG.out.c1; clear hb))
                          | (go_at_call 25; (with_reducible refine (GPl.out _ _ BX.out.row K3.out).mono ?_); rintro e w2 ⟨rfl, hb⟩; ((have BX := Lib.hid (BX.out.keep hb); have NX := Lib.hid (NX.out.keep hb); have z0 := BX.out.c0; have z1 := BX.out.c1; obtain ⟨-, x0, x1, x2, x3, x4, x5, x6, x7, x8, x9, -⟩ := NX.out); have BG := Lib.hid (BG.out.keep hb); have g0 := BG.out.c0; have g1 := BG.out.c1; clear hb))
                          | (go_at_call 24; (with_reducible refine (GHold.out _ _ BX.out.row K4.out).mono ?_); rintro e w2 ⟨rfl, hb⟩; ((have BX := Lib.hid (BX.out.keep hb); have NX := Lib.hid (NX.out.keep hb); have z0 := BX.out.c0; have z1 := BX.out.c1; obtain ⟨-, x0, x1, x2, x3, x4, x5, x6, x7, x8, x9, -⟩ := NX.out); have BG := Lib.hid (BG.out.keep hb); have g0 := BG.out.c0; have g1 := BG.out.c1; clear hb))
                          | (go_at_call 24; (with_reducible refine (GHold2.out _ _ BX.out.row K5.out).mono ?_); rintro e w2 ⟨rfl, hb⟩; ((have BX := Lib.hid (BX.out.keep hb); have NX := Lib.hid (NX.out.keep hb); have z0 := BX.out.c0; have z1 := BX.out.c1; obtain ⟨-, x0, x1, x2, x3, x4, x5, x6, x7, x8, x9, -⟩ := NX.out); have BG := Lib.hid (BG.out.keep hb); have g0 := BG.out.c0; have g1 := BG.out.c1; clear hb))
                          | (go_at_call 26; (with_reducible refine (GAh.out _ _ BX.out.row K6.out).mono ?_); rintro e w2 ⟨rfl, hb⟩; ((have BX := Lib.hid (BX.out.keep hb); have NX := Lib.hid (NX.out.keep hb); have z0 := BX.out.c0; have z1 := BX.out.c1; obtain ⟨-, x0, x1, x2, x3, x4, x5, x6, x7, x8, x9, -⟩ := NX.out); have BG := Lib.hid (BG.out.keep hb); have g0 := BG.out.c0; have g1 := BG.out.c1; clear hb)))
          go_ret
          exact ⟨rfl, BX.out.below⟩
        by_cases kr1 : r ≥ (len0 : Int)
        · have TN := Lib.hid (thereF_not3 (m := m) (F := coreL L0) (n := r) (by unfold thereF; rw [decide_eq_false (show ¬ r < ((coreL L0).length : Int) by rw [HCL.out]; omega), Bool.and_false]))
          have K4 := Lib.hid (TN.out.2.2.2 (X : Int)).2.1
          have K6 := Lib.hid (TN.out.2.2.2 (X : Int)).2.2.2
          go_wp2_with (first
                          | (go_at_call 20; (with_reducible refine (GS.out _ BG.out.row BX.out.row).mono ?_); rintro e w2 ⟨rfl, hb⟩; ((have BX := Lib.hid (BX.out.keep hb); have NX := Lib.hid (NX.out.keep hb); have z0 := BX.out.c0; have z1 := BX.out.c1; obtain ⟨-, x0, x1, x2, x3, x4, x5, x6, x7, x8, x9, -⟩ := NX.out); have BG := Lib.hid (BG.out.keep hb); have g0 := BG.out.c0; have g1 := BG.out.c1; clear hb))
                          | (go_at_call 22; (with_reducible refine (GRoot.out _ _ BX.out.row K1.out).mono ?_); rintro e w2 ⟨rfl, hb⟩; ((have BX := Lib.hid (BX.out.keep hb); have NX := Lib.hid (NX.out.keep hb); have z0 := BX.out.c0; have z1 := BX.out.c1; obtain ⟨-, x0, x1, x2, x3, x4, x5, x6, x7, x8, x9, -⟩ := NX.out); have BG := Lib.hid (BG.out.keep hb); have g0 := BG.out.c0; have g1 := BG.out.c1; clear hb))
                          | (go_at_call 23; (with_reducible refine (GOrd.out _ _ BX.out.row K2.out).mono ?_); rintro e w2 ⟨al, ll, cl, rfl, hrl, hb⟩; obtain rfl : ll = 0 := hrl.hlen.symm; clear hrl; ((have BX := Lib.hid (BX.out.keep hb); have NX := Lib.hid (NX.out.keep hb); have z0 := BX.out.c0; have z1 := BX.out.c1; obtain ⟨-, x0, x1, x2, x3, x4, x5, x6, x7, x8, x9, -⟩ := NX.out); have BG := Lib.hid (BG.out.keep hb); have g0 := BG.out.c0; have g1 := BG.out.c1; clear hb))
                          | (go_at_call 25; (with_reducible refine (GPl.out _ _ BX.out.row K3.out).mono ?_); rintro e w2 ⟨rfl, hb⟩; ((have BX := Lib.hid (BX.out.keep hb); have NX := Lib.hid (NX.out.keep hb); have z0 := BX.out.c0; have z1 := BX.out.c1; obtain ⟨-, x0, x1, x2, x3, x4, x5, x6, x7, x8, x9, -⟩ := NX.out); have BG := Lib.hid (BG.out.keep hb); have g0 := BG.out.c0; have g1 := BG.out.c1; clear hb))
                          | (go_at_call 24; (with_reducible refine (GHold.out _ _ BX.out.row K4.out).mono ?_); rintro e w2 ⟨rfl, hb⟩; ((have BX := Lib.hid (BX.out.keep hb); have NX := Lib.hid (NX.out.keep hb); have z0 := BX.out.c0; have z1 := BX.out.c1; obtain ⟨-, x0, x1, x2, x3, x4, x5, x6, x7, x8, x9, -⟩ := NX.out); have BG := Lib.hid (BG.out.keep hb); have g0 := BG.out.c0; have g1 := BG.out.c1; clear hb))
                          | (go_at_call 24; (with_reducible refine (GHold2.out _ _ BX.out.row K5.out).mono ?_); rintro e w2 ⟨rfl, hb⟩; ((have BX := Lib.hid (BX.out.keep hb); have NX := Lib.hid (NX.out.keep hb); have z0 := BX.out.c0; have z1 := BX.out.c1; obtain ⟨-, x0, x1, x2, x3, x4, x5, x6, x7, x8, x9, -⟩ := NX.out); have BG := Lib.hid (BG.out.keep hb); have g0 := BG.out.c0; have g1 := BG.out.c1; clear hb))
                          | (go_at_call 26; (with_reducible refine (GAh.out _ _ BX.out.row K6.out).mono ?_); rintro e w2 ⟨rfl, hb⟩; ((have BX := Lib.hid (BX.out.keep hb); have NX := Lib.hid (NX.out.keep hb); have z0 := BX.out.c0; have z1 := BX.out.c1; obtain ⟨-, x0, x1, x2, x3, x4, x5, x6, x7, x8, x9, -⟩ := NX.out); have BG := Lib.hid (BG.out.keep hb); have g0 := BG.out.c0; have g1 := BG.out.c1; clear hb)))
          go_ret
          exact ⟨rfl, BX.out.below⟩
        obtain ⟨Y, rfl⟩ : ∃ Y : Nat, r = Y := ⟨r.toNat, by omega⟩
        have hYl : Y < len0 := by omega
        have HYF : Hid (Y < (coreL L0).length) := Lib.hid (by rw [HCL.out]; exact hYl)
        go_upto_region 21 with fail
        have HH : Hid (holdsZ m (coreL L0) X Y = holdsF (coreL L0) X Y) := Lib.hid (by unfold holdsZ; rw [thereF_of HRT.out HXF.out, thereF_of HRT.out HYF.out]; rfl)
        by_cases ke : rootF (coreL L0) X = rootF (coreL L0) Y
        · refine forestRight21D_region (x := X) (y := Y) (RA := (rootF (coreL L0) X : Nat)) (H := holdsF (coreL L0) X Y) (A := aheadZ m (coreL L0) X Y) (by kernel_rfl) BX.out.lt z0 z1 rfl rfl rfl
            (fun V hV => fact_of (GHold.out V _ (BX.out.row.below hV) HH.out))
            (fun V hV => fact_of (by have := refholds_any a0 len0 cap0 m L0 HRT.out HL1.out X Y V (BX.out.row.below hV) hXl; rwa [has_holds] at this))
            (fun V hV => fact_of (GAh.out V _ (BX.out.row.below hV) rfl))
            (fun V hV => fact_of (refrootF_any a0 len0 cap0 m L0 X V HRT.out (BX.out.row.below hV) hXl))
            (fun V hV => fact_of (by have := refrootF_any a0 len0 cap0 m L0 Y V HRT.out (BX.out.row.below hV) hYl; rwa [← ke] at this))
            (fun V hV => fact_of (by have := refahead_any a0 len0 cap0 m L0 HRT.out HL1.out X Y V (BX.out.row.below hV) hXl; rw [ahead_find HRT.out HXF.out HYF.out, ordZ_eq HRT.out (rootF_lt HRT.out HXF.out)]; exact this)) ?_
          intro v w3 hb
          ((have BX := Lib.hid (BX.out.keep hb); have NX := Lib.hid (NX.out.keep hb); have z0 := BX.out.c0; have z1 := BX.out.c1; obtain ⟨-, x0, x1, x2, x3, x4, x5, x6, x7, x8, x9, -⟩ := NX.out); have BG := Lib.hid (BG.out.keep hb); have g0 := BG.out.c0; have g1 := BG.out.c1; clear hb)
          simp only [puts, List.set_cons_succ, List.set_cons_zero]
          go_wp2
          go_ret
          exact ⟨rfl, BX.out.below⟩
        · have hah : aheadZ m (coreL L0) X Y = false := by
            rw [aheadZ_eq HRT.out HXF.out HYF.out]
            unfold aheadF
            rw [decide_eq_false ke, Bool.false_and]
          have HAH := Lib.hid hah
          clear hah
          refine forestRight21E_region (x := X) (y := Y) (RA := (rootF (coreL L0) X : Nat)) (RB := (rootF (coreL L0) Y : Nat)) (H := holdsF (coreL L0) X Y) (by kernel_rfl) BX.out.lt z0 z1 (beq_eq_false_iff_ne.2 (by omega)) rfl rfl rfl
            (fun V hV => fact_of (GHold.out V _ (BX.out.row.below hV) HH.out))
            (fun V hV => fact_of (by have := refholds_any a0 len0 cap0 m L0 HRT.out HL1.out X Y V (BX.out.row.below hV) hXl; rwa [has_holds] at this))
            (fun V hV => fact_of (GAh.out V _ (BX.out.row.below hV) HAH.out))
            (fun V hV => fact_of (refrootF_any a0 len0 cap0 m L0 X V HRT.out (BX.out.row.below hV) hXl))
            (fun V hV => fact_of (refrootF_any a0 len0 cap0 m L0 Y V HRT.out (BX.out.row.below hV) hYl)) ?_
          intro v w3 hb
          ((have BX := Lib.hid (BX.out.keep hb); have NX := Lib.hid (NX.out.keep hb); have z0 := BX.out.c0; have z1 := BX.out.c1; obtain ⟨-, x0, x1, x2, x3, x4, x5, x6, x7, x8, x9, -⟩ := NX.out); have BG := Lib.hid (BG.out.keep hb); have g0 := BG.out.c0; have g1 := BG.out.c1; clear hb)
          simp only [puts, List.set_cons_succ, List.set_cons_zero]
          go_wp2
          go_ret
          exact ⟨rfl, BX.out.below⟩
end Go.Proofs.Ytllfkiifkkcinaa
