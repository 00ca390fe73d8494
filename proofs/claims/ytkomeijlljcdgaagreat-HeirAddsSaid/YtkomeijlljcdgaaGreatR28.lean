/- Texts joined in build order: HeirSmall. -/
import Derived.Test.YtkomeijlljcdgaaGreatR18
import Derived.Test.YtkomeijlljcdgaaGreatR20
import Derived.Test.YtkomeijlljcdgaaGreatR07
import Derived.Test.YtkomeijlljcdgaaGreatR22
import Derived.Deep.RegionHeld3
namespace Go.Proofs.YtkomeijlljcdgaaGreat
open Go.RowKit
def bornZ (s is : List UInt8) : Int := if (customL s || !is.isEmpty) = true then 1 else 0
def fateC (D : DeskD) (c : Core) : Int := if c.kind = 1 ∧ c.doc = 0 then ifRight D (findZ2 D.defs c.name.toList c.is.toList) else -1
def fateZ (m : Int) (F : List Core) (n : Int) (D : DeskD) : Int := if thereF m F n then (match getC F n with | some c => fateC D c | none => -1) else -1
set_option maxHeartbeats 1000000 in
set_option maxRecDepth 100000 in
theorem born_any (s is : ByteArray) (w : World) (hs : s.size ≤ maxLen) : Calls Tryz.prog 10 #[.string s, .string is] w fun e w' => e = .returned (.int .i64 (bornZ s.toList is.toList)) ∧ Below w.heap.size w w' := by
  have CC := Lib.hid (custom_any s w hs)
  obtain ⟨q, hq⟩ : ∃ q, customL s.toList = q := ⟨_, rfl⟩
  rw [hq] at CC
  have HB : Hid (bornZ s.toList is.toList = if (q || !is.toList.isEmpty) = true then 1 else 0) := Lib.hid (by unfold bornZ; rw [hq])
  clear hq
  cases q <;> cases hi : is.toList.isEmpty
  all_goals
    rw [hi] at HB
    go_enter Tryz.func10, Tryz.ntmps10
    go_wp2_with (go_at_call 31; (with_reducible refine CC.out.mono ?_); rintro e w1 ⟨rfl, hb⟩; have HW := Lib.hid hb; clear hb)
    go_ret
    exact ⟨by rw [HB.out]; rfl, HW.out⟩
set_option maxHeartbeats 1000000 in
set_option maxRecDepth 100000 in
theorem hknows_any (a : Option Addr) (len cap : Nat) (m : Int) (L : List NodeD) (n : Int) (w : World) (h : NodeRow w a len cap L) (hm : In64 m) (hn : In64 n) (hs : smallF L) :
    Calls Tryz.prog 37 #[forV a len cap m, .int .i64 n] w fun e w' => e = .returned (.bool (rootZ m (coreL L) n != -1)) ∧ Below w.heap.size w w' := by
  have BX := Lib.hid (Box.start (m := m) h)
  have CR : Hid (∀ W, NodeRow W a len cap L → Calls Tryz.prog 70 #[forV a len cap m, .int .i64 n] W fun e w' => e = .returned (.int .i64 (rootZ m (coreL L) n)) ∧ Below W.heap.size W w') := Lib.hid (fun W h1 => rootFn_any a len cap m L n W h1 hm hn hs)
  obtain ⟨z, hz⟩ : ∃ z, rootZ m (coreL L) n = z := ⟨_, rfl⟩
  rw [hz] at CR ⊢
  have z0 := BX.out.c0
  have z1 := BX.out.c1
  clear h hm hn hs hz
  go_enter Tryz.func37, Tryz.ntmps37
  go_wp2_with (go_at_call 70; (with_reducible refine (CR.out _ BX.out.row).mono ?_); rintro e w1 ⟨rfl, hb⟩; have HB := Lib.hid (BX.out.below.trans (hb.mono BX.out.below.size)); clear hb)
  go_ret
  exact ⟨rfl, HB.out⟩
theorem knows_there (m : Int) (F : List Core) (n : Int) : (rootZ m F n != -1) = thereF m F n := by
  unfold rootZ
  by_cases h : thereF m F n = true
  · rw [if_pos h, h]
    exact bne_iff_ne.2 (by omega)
  · rw [if_neg h, Bool.eq_false_iff.2 h]
    rfl
set_option maxHeartbeats 2000000 in
set_option maxRecDepth 100000 in
theorem fate_any (x : NodeD) (da : Option Addr) (dl dc : Nat) (wa : Option Addr) (wl wc : Nat) (nx : Int) (bz : Bool) (L : List DefD) (M : List WaitD) (w : World) (hd : DefRow w da dl dc L) (ht : WaitRow w wa wl wc M) :
    Calls Tryz.prog 38 #[nodVal x, deskV da dl dc wa wl wc nx bz] w fun e w' => e = .returned (.int .i64 (fateC ⟨L, M, nx, bz⟩ x.core)) ∧ Below w.heap.size w w' := by
  obtain ⟨⟨kind, name, is, data, attrs, parent, kids, host, under, doc⟩, aA, aN, aC, kA, kN, kC⟩ := x
  have CF : Hid (∀ W, Below w.heap.size w W → Calls Tryz.prog 25 #[deskV da dl dc wa wl wc nx bz, .string name, .string is] W fun e w' => e = .returned (.int .i64 (ifRight ⟨L, M, nx, bz⟩ (findZ2 L name.toList is.toList))) ∧ Below W.heap.size W w') := Lib.hid (fun W hb => deskfind_any da dl dc wa wl wc nx bz L M name is W (hd.below hb) (ht.below hb))
  obtain ⟨z, hz⟩ : ∃ z, ifRight ⟨L, M, nx, bz⟩ (findZ2 L name.toList is.toList) = z := ⟨_, rfl⟩
  rw [hz] at CF
  have HF : Hid (∀ data attrs parent kids host under, fateC ⟨L, M, nx, bz⟩ ⟨kind, name, is, data, attrs, parent, kids, host, under, doc⟩ = if kind = 1 ∧ doc = 0 then z else -1) := Lib.hid (fun _ _ _ _ _ _ => by unfold fateC; rw [← hz])
  rw [HF.out]
  obtain ⟨r, hr⟩ : ∃ r, (if kind = 1 ∧ doc = 0 then z else -1) = r := ⟨_, rfl⟩
  rw [hr]
  have HR := Lib.hid hr
  clear hd ht hz HF hr
  obtain ⟨w0, hw0, X0, X9, X1, X2, D0, D1, D2, D3, HB⟩ : ∃ w0, (w.alloc (nodB ⟨⟨kind, name, is, data, attrs, parent, kids, host, under, doc⟩, aA, aN, aC, kA, kN, kC⟩)).alloc (deskB da dl dc wa wl wc nx bz) = w0 ∧ Hid (w0.cell? ⟨w.heap.size, 0, none⟩ = some (.int .i64 kind)) ∧ Hid (w0.cell? ⟨w.heap.size, 9, none⟩ = some (.int .i64 doc)) ∧ Hid (w0.cell? ⟨w.heap.size, 1, none⟩ = some (.string name)) ∧ Hid (w0.cell? ⟨w.heap.size, 2, none⟩ = some (.string is)) ∧ Hid (w0.cell? ⟨w.heap.size + 1, 0, none⟩ = some (.slice da dl dc)) ∧ Hid (w0.cell? ⟨w.heap.size + 1, 1, none⟩ = some (.slice wa wl wc)) ∧ Hid (w0.cell? ⟨w.heap.size + 1, 2, none⟩ = some (.int .i64 nx)) ∧ Hid (w0.cell? ⟨w.heap.size + 1, 3, none⟩ = some (.bool bz)) ∧ Hid (Below w.heap.size w w0) := by
    have hs : (w.alloc (nodB ⟨⟨kind, name, is, data, attrs, parent, kids, host, under, doc⟩, aA, aN, aC, kA, kN, kC⟩)).heap.size = w.heap.size + 1 := by simp
    have hb := below_box (w.alloc (nodB ⟨⟨kind, name, is, data, attrs, parent, kids, host, under, doc⟩, aA, aN, aC, kA, kN, kC⟩)) (deskB da dl dc wa wl wc nx bz)
    have c : ∀ (j : Nat), ((w.alloc (nodB ⟨⟨kind, name, is, data, attrs, parent, kids, host, under, doc⟩, aA, aN, aC, kA, kN, kC⟩)).alloc (deskB da dl dc wa wl wc nx bz)).cell? ⟨w.heap.size, j, none⟩ = (#[.int .i64 kind, .string name, .string is, .string data, .slice aA aN aC, .int .i64 parent, .slice kA kN kC, .int .i64 host, .int .i64 under, .int .i64 doc] : Array Value)[j]? := fun j => (hb.cell (p := ⟨w.heap.size, j, none⟩) (by rw [hs]; show w.heap.size < w.heap.size + 1; omega)).trans (cell_of_row _ w.heap.size j _ 47 (0, 0) (heap_alloc_new _ _))
    have d : ∀ (j : Nat), ((w.alloc (nodB ⟨⟨kind, name, is, data, attrs, parent, kids, host, under, doc⟩, aA, aN, aC, kA, kN, kC⟩)).alloc (deskB da dl dc wa wl wc nx bz)).cell? ⟨w.heap.size + 1, j, none⟩ = (#[.slice da dl dc, .slice wa wl wc, .int .i64 nx, .bool bz] : Array Value)[j]? := fun j => by
      have := cell_of_row ((w.alloc (nodB ⟨⟨kind, name, is, data, attrs, parent, kids, host, under, doc⟩, aA, aN, aC, kA, kN, kC⟩)).alloc (deskB da dl dc wa wl wc nx bz)) (w.alloc (nodB ⟨⟨kind, name, is, data, attrs, parent, kids, host, under, doc⟩, aA, aN, aC, kA, kN, kC⟩)).heap.size j _ 28 (0, 0) (heap_alloc_new _ _)
      rwa [hs] at this
    exact ⟨_, rfl, Lib.hid (c 0), Lib.hid (c 9), Lib.hid (c 1), Lib.hid (c 2), Lib.hid (d 0), Lib.hid (d 1), Lib.hid (d 2), Lib.hid (d 3), Lib.hid ((below_box _ _).trans (hb.mono (by rw [hs]; omega)))⟩
  have HW := Lib.hid hw0
  clear hw0
  have x0 := X0.out
  have x9 := X9.out
  have x1 := X1.out
  have x2 := X2.out
  have d0 := D0.out
  have d1 := D1.out
  have d2 := D2.out
  have d3 := D3.out
  by_cases hk : kind = 1
  · by_cases hdo : doc = 0
    · have e0 : (kind != 1) = false := by rw [hk]; rfl
      have e1 : (doc != 0) = false := by rw [hdo]; rfl
      have HE : Hid (r = z) := Lib.hid (by rw [← HR.out]; exact if_pos ⟨hk, hdo⟩)
      clear hk hdo
      go_enter Tryz.func38, Tryz.ntmps38
      go_upto_region 1 with fail
      rw [HW.out]
      go_wp2_with (go_at_call 25; (with_reducible refine (CF.out _ HB.out).mono ?_); rintro e w1 ⟨rfl, hb⟩; have HB1 := Lib.hid (HB.out.trans (hb.mono HB.out.size)); clear hb)
      go_ret
      exact ⟨by rw [HE.out]; rfl, HB1.out⟩
    · have e0 : (kind != 1) = false := by rw [hk]; rfl
      have e1 : (doc != 0) = true := bne_iff_ne.2 hdo
      have HE : Hid (r = -1) := Lib.hid (by rw [← HR.out]; exact if_neg (fun h => hdo h.2))
      clear hk hdo
      go_enter Tryz.func38, Tryz.ntmps38
      go_upto_region 1 with fail
      rw [HW.out]
      go_wp2
      go_ret
      exact ⟨by rw [HE.out]; rfl, HB.out⟩
  · have e0 : (kind != 1) = true := bne_iff_ne.2 hk
    have HE : Hid (r = -1) := Lib.hid (by rw [← HR.out]; exact if_neg (fun h => hk h.1))
    clear hk
    go_enter Tryz.func38, Tryz.ntmps38
    go_upto_region 1 with fail
    rw [HW.out]
    go_wp2
    go_ret
    exact ⟨by rw [HE.out]; rfl, HB.out⟩
set_option maxHeartbeats 4000000 in
set_option maxRecDepth 100000 in
theorem fateFn_any (a : Option Addr) (len cap : Nat) (m : Int) (K : List NodeD) (n : Int) (da : Option Addr) (dl dc : Nat) (wa : Option Addr) (wl wc : Nat) (nx : Int) (bz : Bool) (L : List DefD) (M : List WaitD) (w : World) (h : NodeRow w a len cap K) (hm : In64 m) (hn : In64 n) (hs : smallF K) (hd : DefRow w da dl dc L) (ht : WaitRow w wa wl wc M) :
    Calls Tryz.prog 14 #[forV a len cap m, .int .i64 n, deskV da dl dc wa wl wc nx bz] w fun e w' => e = .returned (.int .i64 (fateZ m (coreL K) n ⟨L, M, nx, bz⟩)) ∧ Below w.heap.size w w' := by
  have CK : Hid (∀ W, NodeRow W a len cap K → Calls Tryz.prog 37 #[forV a len cap m, .int .i64 n] W fun e w' => e = .returned (.bool (thereF m (coreL K) n)) ∧ Below W.heap.size W w') := Lib.hid (fun W h1 => by
    have := hknows_any a len cap m K n W h1 hm hn hs
    rwa [knows_there] at this)
  obtain ⟨w0, hw0, BX, D0, D1, D2, D3, HB0⟩ : ∃ w0, (w.alloc (forB a len cap m)).alloc (deskB da dl dc wa wl wc nx bz) = w0 ∧ Hid (Box w w0 w.heap.size a len cap m K (coreL K)) ∧ Hid (∀ W, Below w0.heap.size w0 W → W.cell? ⟨w.heap.size + 1, 0, none⟩ = some (.slice da dl dc)) ∧ Hid (∀ W, Below w0.heap.size w0 W → W.cell? ⟨w.heap.size + 1, 1, none⟩ = some (.slice wa wl wc)) ∧ Hid (∀ W, Below w0.heap.size w0 W → W.cell? ⟨w.heap.size + 1, 2, none⟩ = some (.int .i64 nx)) ∧ Hid (∀ W, Below w0.heap.size w0 W → W.cell? ⟨w.heap.size + 1, 3, none⟩ = some (.bool bz)) ∧ Hid (Below w.heap.size w w0) := by
    have hs : (w.alloc (forB a len cap m)).heap.size = w.heap.size + 1 := by simp
    have hb := below_box (w.alloc (forB a len cap m)) (deskB da dl dc wa wl wc nx bz)
    have hlt : w.heap.size + 1 < ((w.alloc (forB a len cap m)).alloc (deskB da dl dc wa wl wc nx bz)).heap.size := by simp
    have d : ∀ (j : Nat) (W : World), Below ((w.alloc (forB a len cap m)).alloc (deskB da dl dc wa wl wc nx bz)).heap.size ((w.alloc (forB a len cap m)).alloc (deskB da dl dc wa wl wc nx bz)) W → W.cell? ⟨w.heap.size + 1, j, none⟩ = (#[.slice da dl dc, .slice wa wl wc, .int .i64 nx, .bool bz] : Array Value)[j]? := fun j W hW => by
      have := cell_of_row ((w.alloc (forB a len cap m)).alloc (deskB da dl dc wa wl wc nx bz)) (w.alloc (forB a len cap m)).heap.size j _ 28 (0, 0) (heap_alloc_new _ _)
      rw [hs] at this
      exact (hW.cell (p := ⟨w.heap.size + 1, j, none⟩) hlt).trans this
    exact ⟨_, rfl, Lib.hid ((Box.start h).keep hb), Lib.hid (d 0), Lib.hid (d 1), Lib.hid (d 2), Lib.hid (d 3), Lib.hid ((below_box _ _).trans (hb.mono (by rw [hs]; omega)))⟩
  have HW := Lib.hid hw0
  have HDT : Hid (∀ W, Below w.heap.size w W → DefRow W da dl dc L ∧ WaitRow W wa wl wc M) := Lib.hid (fun W hb => ⟨hd.below hb, ht.below hb⟩)
  have HL := Lib.hid h.hlen
  have hl64 := h.len64
  have z0 := BX.out.c0
  have z1 := BX.out.c1
  obtain ⟨q, hq⟩ : ∃ q, thereF m (coreL K) n = q := ⟨_, rfl⟩
  rw [hq] at CK
  cases q with
  | false =>
    have HE : Hid (fateZ m (coreL K) n ⟨L, M, nx, bz⟩ = -1) := Lib.hid (by unfold fateZ; rw [hq]; rfl)
    clear h hm hn hs hd ht hw0 hq
    go_enter Tryz.func14, Tryz.ntmps14
    go_upto_region 1 with fail
    rw [HW.out]
    go_wp2_with (go_at_call 37; (with_reducible refine (CK.out _ BX.out.row).mono ?_); rintro e w1 ⟨rfl, hb⟩; have HB1 := Lib.hid (HB0.out.trans (hb.mono HB0.out.size)); clear hb)
    go_ret
    exact ⟨by rw [HE.out]; rfl, HB1.out⟩
  | true =>
    obtain ⟨k, hk, rfl⟩ : ∃ k : Nat, k < len ∧ n = k := by
      unfold thereF at hq
      simp only [Bool.and_eq_true, decide_eq_true_eq] at hq
      refine ⟨n.toNat, ?_, by omega⟩
      have := hq.2
      rw [coreL_len, h.hlen] at this
      omega
    obtain ⟨b, off, x, rfl, hblt, hx, hxa, -⟩ := BX.out.row.get hk
    have HE : Hid (fateZ m (coreL K) (k : Int) ⟨L, M, nx, bz⟩ = fateC ⟨L, M, nx, bz⟩ x.core) := Lib.hid (by unfold fateZ; rw [hq, if_pos rfl, getC_nat, coreL_get hx])
    have CF : Hid (∀ W, Below w.heap.size w W → Calls Tryz.prog 38 #[nodVal x, deskV da dl dc wa wl wc nx bz] W fun e w' => e = .returned (.int .i64 (fateC ⟨L, M, nx, bz⟩ x.core)) ∧ Below W.heap.size W w') := Lib.hid (fun W hb => fate_any x da dl dc wa wl wc nx bz L M W (hd.below hb) (ht.below hb))
    obtain ⟨z, hz⟩ : ∃ z, fateC ⟨L, M, nx, bz⟩ x.core = z := ⟨_, rfl⟩
    rw [hz] at CF HE
    have hxd : x.core.data.size ≤ 9223372036854775807 := (h.ok x (List.mem_of_getElem? hx)).data
    have HXA : Hid (∀ W, Below w0.heap.size w0 W → NodeAt W b (off + k * 10) x) := Lib.hid (fun W hb => hxa.below hblt hb)
    clear h hm hn hs hd ht hw0 hq hz hx hxa hblt
    go_enter Tryz.func14, Tryz.ntmps14
    go_upto_region 1 with fail
    rw [HW.out]
    go_upto_region 3 with (go_at_call 37; (with_reducible refine (CK.out _ BX.out.row).mono ?_); rintro e w1 ⟨rfl, hb⟩; have HB1 := Lib.hid (HB0.out.trans (hb.mono HB0.out.size)); have HV := Lib.hid hb; clear hb z0 z1)
    have BX1 := Lib.hid (BX.out.keep HV.out)
    have z0 := BX1.out.c0
    have d0 := D0.out _ HV.out
    have d1 := D1.out _ HV.out
    have d2 := D2.out _ HV.out
    have d3 := D3.out _ HV.out
    obtain ⟨x0, x1, x2, x3, x4, x5, x6, x7, x8, x9⟩ := HXA.out _ HV.out
    go_region_held3 (fun w' => w'.cell? ⟨w.heap.size, 0, none⟩ = some (.slice (some ⟨b, off, none⟩) len cap) ∧ w'.cell? ⟨w.heap.size + 1, 0, none⟩ = some (.slice da dl dc) ∧ w'.cell? ⟨w.heap.size + 1, 1, none⟩ = some (.slice wa wl wc) ∧ w'.cell? ⟨w.heap.size + 1, 2, none⟩ = some (.int .i64 nx) ∧ w'.cell? ⟨w.heap.size + 1, 3, none⟩ = some (.bool bz) ∧ w'.cell? ⟨b, off + k * 10, none⟩ = some (.int .i64 x.core.kind) ∧ w'.cell? ⟨b, off + k * 10 + 1, none⟩ = some (.string x.core.name) ∧ w'.cell? ⟨b, off + k * 10 + 2, none⟩ = some (.string x.core.is) ∧ w'.cell? ⟨b, off + k * 10 + 3, none⟩ = some (.string x.core.data) ∧ w'.cell? ⟨b, off + k * 10 + 4, none⟩ = some (.slice x.aA x.aN x.aC) ∧ w'.cell? ⟨b, off + k * 10 + 5, none⟩ = some (.int .i64 x.core.parent) ∧ w'.cell? ⟨b, off + k * 10 + 6, none⟩ = some (.slice x.kA x.kN x.kC) ∧ w'.cell? ⟨b, off + k * 10 + 7, none⟩ = some (.int .i64 x.core.host) ∧ w'.cell? ⟨b, off + k * 10 + 8, none⟩ = some (.int .i64 x.core.under) ∧ w'.cell? ⟨b, off + k * 10 + 9, none⟩ = some (.int .i64 x.core.doc)) (go_keep) (first | (go_at_call 38; (with_reducible refine (CF.out _ HB1.out.drew).mono ?_); rintro e w2 ⟨rfl, hb⟩; have HB2 := Lib.hid (HB1.out.drew.trans (hb.mono HB1.out.drew.size)); have hv := (Below.refl w1.heap.size w1).drew.trans hb; have HV2 := Lib.hid (HV.out.trans (hv.mono HV.out.size)); clear z0 d0 d1 d2 d3 x0 x1 x2 x3 x4 x5 x6 x7 x8 x9 hb hv; have z0 := (BX.out.keep HV2.out).c0; have d0 := D0.out _ HV2.out; have d1 := D1.out _ HV2.out; have d2 := D2.out _ HV2.out; have d3 := D3.out _ HV2.out; obtain ⟨x0, x1, x2, x3, x4, x5, x6, x7, x8, x9⟩ := HXA.out _ HV2.out))
    all_goals go_wp2
    all_goals
      go_ret
      exact ⟨by rw [HE.out]; rfl, HB2.out⟩
end Go.Proofs.YtkomeijlljcdgaaGreat
