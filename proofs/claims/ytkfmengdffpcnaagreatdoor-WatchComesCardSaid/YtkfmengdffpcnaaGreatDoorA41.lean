/- Texts joined in build order: WatchDue. -/
import Derived.Test.YtkfmengdffpcnaaGreatDoorA40
import Derived.Test.YtkfmengdffpcnaaGreatDoorA08
import Derived.Deep.DeepCutAuto
import Derived.Deep.CutBlock
namespace Go.Proofs.YtkfmengdffpcnaaGreatDoor
open Go.RowKit
theorem ahead_drew {W0 W1 : World} {cs : Array Value} {t : TypeId} (hb : Below ((W0.alloc (.cells cs t)).drew).heap.size (W0.alloc (.cells cs t)).drew W1) : CBox W1 W0.heap.size cs.toList ∧ Below W0.heap.size W0 W1 :=
  ⟨((CBox.new W0 cs t).drew).keep hb, (box_below W0 _).trans ((((Below.refl _ _).drew : Below (W0.alloc (.cells cs t)).heap.size _ _).trans (hb.mono (by simp))).mono (by simp))⟩
theorem ahead_plain {W0 W1 : World} {cs : Array Value} {t : TypeId} (hb : Below (W0.alloc (.cells cs t)).heap.size (W0.alloc (.cells cs t)) W1) : CBox W1 W0.heap.size cs.toList ∧ Below W0.heap.size W0 W1 :=
  ⟨(CBox.new W0 cs t).keep hb, (box_below W0 _).trans (hb.mono (by simp))⟩
theorem due_one12 (w : World) (n : Int) (t : TodoD) : SRow encU 11 (w.alloc (.cells #[.int .i64 n, .int .i64 t.kind, .int .i64 t.dfn, .string t.name, .bool t.had, .bool t.has, .string t.old, .string t.new, .int .i64 t.src, .int .i64 t.dst, .bool t.on] 59)) (some ⟨w.heap.size, 0, none⟩) 1 1 [⟨n, t⟩] :=
  own_one (enc := encU) w _ (⟨n, t⟩ : DueD) _ rfl rfl
def upW (F : List Core) (S : List StateD) (D : DeskD) (L : List ClassC) (N : List NoteD) (k : Nat) : List DueD := (N.take k).filterMap (oneZ F S D L)
section
variable {F : List Core} {S : List StateD} {D : DeskD} {L : List ClassC} {N : List NoteD} {k : Nat} {y : NoteD}
theorem upW_len : (upW F S D L N k).length ≤ k := Nat.le_trans (List.length_filterMap_le _ _) (by rw [List.length_take]; omega)
theorem upW_miss (hy : N[k]? = some y) (h : oneZ F S D L y = none) : upW F S D L N (k + 1) = upW F S D L N k := by
  unfold upW
  rw [List.take_add_one, hy, List.filterMap_append]
  simp [h]
theorem upW_hit (hy : N[k]? = some y) {u : DueD} (h : oneZ F S D L y = some u) : upW F S D L N (k + 1) = upW F S D L N k ++ [u] := by
  unfold upW
  rw [List.take_add_one, hy, List.filterMap_append]
  simp [h]
theorem upW_end (h : N.length = k) : upW F S D L N k = N.filterMap (oneZ F S D L) := by
  unfold upW
  rw [List.take_of_length_le (by omega)]
theorem oneZ_no (h : elemB F y.node = false) : oneZ F S D L y = none := by
  unfold oneZ
  rw [h]
  rfl
theorem oneZ_at {t : Nat} {c : Core} {s : StateD} (hn : y.node = (t : Int)) (hc : F[t]? = some c) (hk : c.kind = 1) (hs : S[t]? = some s) : oneZ F S D L y = (askedZ y (fateC D c) s (classZ s D.defs L)).map (fun u => ⟨y.node, u⟩) := by
  unfold oneZ
  rw [hn, elemB_nat hc, beq_iff_eq.2 hk, if_pos rfl, Int.toNat_natCast, hc, hs]
end
set_option maxHeartbeats 4000000 in
set_option maxRecDepth 100000 in
theorem due_any (a : Option Addr) (len cap : Nat) (m : Int) (K : List NodeD) (sa : Option Addr) (sl sc : Nat) (S : List StateD) (da : Option Addr) (dl dc : Nat) (wa : Option Addr) (wl wc_ : Nat) (nx : Int) (bz : Bool) (D : List DefD) (M : List WaitD) (ca : Option Addr) (cl cc : Nat) (L : List ClassD) (na : Option Addr) (nl nc : Nat) (N : List NoteD) (w : World)
    (h : NodeRow w a len cap K) (hm : In64 m) (hsm : smallF K) (hs : StaRow w sa sl sc S) (hd : DefRow w da dl dc D) (ht : WaitRow w wa wl wc_ M) (hc : ClsRow w ca cl cc L) (hn : NoteRow w na nl nc N) (hnl : nl ≤ 1000) :
    Calls Tryz.prog 8 #[forV a len cap m, .slice sa sl sc, deskV da dl dc wa wl wc_ nx bz, .slice ca cl cc, .slice na nl nc] w (DuePost w (dueZ m (coreL K) S ⟨D, M, nx, bz⟩ (coreCl L) N)) := by
  have FX := Lib.hid (FD.start (m := m) (nx := nx) (bz := bz) h hd ht)
  obtain ⟨q, hq⟩ : ∃ q, rightW m (coreL K) S ⟨D, M, nx, bz⟩ = q := ⟨_, rfl⟩
  have CR : Hid (∀ V, NodeRow V a len cap K → StaRow V sa sl sc S → DefRow V da dl dc D → WaitRow V wa wl wc_ M → Calls Tryz.prog 28 #[forV a len cap m, .slice sa sl sc, deskV da dl dc wa wl wc_ nx bz] V fun e w' => e = .returned (.bool q) ∧ Below V.heap.size V w') := Lib.hid (fun V h1 h2 h3 h4 => by
    have h := wright_any a len cap m K sa sl sc S da dl dc wa wl wc_ nx bz D M V h1 hm hsm h2 h3 h4
    rw [hq] at h
    exact h)
  have z0 := FX.out.f.c0
  have z1 := FX.out.f.c1
  have d0 := FX.out.d.c0
  have d1 := FX.out.d.c1
  have d2 := FX.out.d.c2
  have d3 := FX.out.d.c3
  have HSR : Hid (∀ V, Below w.heap.size w V → StaRow V sa sl sc S) := Lib.hid (fun V hb => hs.below hb)
  have HCR : Hid (∀ V, Below w.heap.size w V → ClsRow V ca cl cc L) := Lib.hid (fun V hb => hc.below hb)
  have HNR : Hid (∀ V, Below w.heap.size w V → NoteRow V na nl nc N) := Lib.hid (fun V hb => hn.below hb)
  have HNL := Lib.hid hn.row.hlen
  have hl64 := h.len64
  have hsl64 := hs.len64
  have hncap := hn.row.hcap
  have hnmax := hn.row.hmax
  have hncap64 : nc ≤ 9223372036854775807 := by unfold maxLen at hnmax; omega
  cases q with
  | false =>
    have HE : Hid (dueZ m (coreL K) S ⟨D, M, nx, bz⟩ (coreCl L) N = []) := Lib.hid (by unfold dueZ; rw [hq]; rfl)
    clear h hm hsm hs hd ht hc hn hq hnmax
    go_enter Tryz.func8, Tryz.ntmps8
    go_wp2_with (go_at_call 28; (with_reducible refine (CR.out _ FX.out.f.row (HSR.out _ FX.out.f.below) FX.out.d.d FX.out.d.t).mono ?_); rintro e w1 ⟨rfl, hb⟩; have FX := Lib.hid (FX.out.keep hb); clear hb)
    go_ret
    exact ⟨none, 0, 0, rfl, by rw [HE.out]; exact DueRow.nil _, FX.out.f.below⟩
  | true =>
    have HDZ : Hid (dueZ m (coreL K) S ⟨D, M, nx, bz⟩ (coreCl L) N = N.filterMap (oneZ (coreL K) S ⟨D, M, nx, bz⟩ (coreCl L))) := Lib.hid (by unfold dueZ; rw [hq]; rfl)
    have HLE : Hid (S.length = (coreL K).length ∧ rightF m (coreL K) = true ∧ rightK ⟨D, M, nx, bz⟩ = true) := Lib.hid (by
      unfold rightW at hq
      simp only [Bool.and_eq_true, decide_eq_true_eq] at hq
      exact ⟨hq.1.1, hq.1.2, hq.2⟩)
    have HKL := Lib.hid h.hlen
    have HSL := Lib.hid hs.hlen
    obtain ⟨i0, hi0, hz0, hz1, hz2⟩ := info_parts due_info
    clear h hm hsm hs hd ht hc hn hq hnmax
    go_enter Tryz.func8, Tryz.ntmps8
    go_upto_region 4 with (go_at_call 28; (with_reducible refine (CR.out _ FX.out.f.row (HSR.out _ FX.out.f.below) FX.out.d.d FX.out.d.t).mono ?_); rintro e w1 ⟨rfl, hb⟩; have FX := Lib.hid (FX.out.keep hb); clear hb z0 z1 d0 d1 d2 d3)
    clear CR
    go_wp2_with fail
    go_loopw [11, 24] (fun v i wr => ∃ k : Nat, k ≤ nl ∧ i = .int .i64 k ∧ Hid (Below w1.heap.size w1 wr) ∧ Hid (wr.ownsRow w1.heap.size 59 11 v (upW (coreL K) S ⟨D, M, nx, bz⟩ (coreCl L) N k).length ((upW (coreL K) S ⟨D, M, nx, bz⟩ (coreCl L) N k).flatMap encU))) (fun _ i _ => nl - (intOf i).toNat)
    case atStart => exact ⟨0, Nat.zero_le _, rfl, Lib.hid (Below.refl _ _), Lib.hid (World.ownsRow_nil _ _ _ _)⟩
    case round =>
      obtain ⟨k, hkl, rfl, HBW, OW⟩ := hrel
      have FR := Lib.hid (FX.out.keep HBW.out)
      by_cases hlt : k < nl
      · obtain ⟨nb, no, y, rfl, hnb, hy, hya, hyo⟩ := (HNR.out wr FR.out.f.below).getN hlt
        have HY := Lib.hid hy
        have HYO := Lib.hid hyo
        obtain ⟨y0, y1, y2, y3, y4, y5, y6, y7, y8⟩ := hya
        have hy64 := hyo.node
        have hsl : (upW (coreL K) S ⟨D, M, nx, bz⟩ (coreCl L) N k).length ≤ 1000 := Nat.le_trans upW_len (by omega)
        obtain ⟨n1, hn1⟩ : ∃ n1, (upW (coreL K) S ⟨D, M, nx, bz⟩ (coreCl L) N k).length = n1 := ⟨_, rfl⟩
        have HN1 := Lib.hid hn1
        rw [hn1] at OW hsl
        clear hy hyo hn1 hnb
        go_upto_region 7 with fail
        obtain ⟨V0, hV0, C0, HSV, HBV⟩ := boxes1 wr (noteCs y) 71
        rw [hV0]
        have C0 : Hid (CBox V0 wr.heap.size (noteCs y).toList) := Lib.hid C0
        obtain ⟨G, hG⟩ : ∃ G, wr.heap.size = G := ⟨_, rfl⟩
        rw [hG] at C0 ⊢
        have HBV0 := Lib.hid HBV
        have FV := Lib.hid (FR.out.keep HBV)
        clear hV0 HSV HBV y0 y1 y2 y3 y4 y5 y6 y7 y8
        have n1' := C0.out.c 1 _ rfl
        have z0 := FV.out.f.c0
        have z1 := FV.out.f.c1
        obtain ⟨qe, hqe⟩ : ∃ q, elemB (coreL K) y.node = q := ⟨_, rfl⟩
        have CE : Hid (∀ X, NodeRow X a len cap K → Calls Tryz.prog 29 #[forV a len cap m, .int .i64 y.node] X fun e w' => e = .returned (.bool qe) ∧ Below X.heap.size X w') := Lib.hid (fun X hx => by
          have := iselem_any a len cap m K y.node X hx hy64
          rw [hqe] at this
          exact this)
        cases qe with
        | false =>
          have HS2 := Lib.hid (upW_miss (F := coreL K) (S := S) (D := ⟨D, M, nx, bz⟩) (L := coreCl L) HY.out (oneZ_no hqe))
          clear hqe
          go_wp2_with (go_at_call 29; (with_reducible refine (CE.out _ FV.out.f.row).mono ?_); rintro e w2 ⟨rfl, hb⟩; have HBE := Lib.hid ((HBW.out.trans (HBV0.out.mono HBW.out.size)).trans (hb.mono (Nat.le_trans HBW.out.size HBV0.out.size))); have OWE := Lib.hid (own_below (own_below OW.out HBV0.out) hb); clear hb)
          go_roundw
          case rel => exact ⟨k + 1, by omega, by go_num, HBE, Lib.hid (by rw [HS2.out, HN1.out]; exact OWE.out)⟩
          case measure => simp [intOf]; omega
        | true =>
          obtain ⟨t, c, hyn, hct, hck⟩ := elemB_at hqe
          have htl : t < len := by have := (List.getElem?_eq_some_iff.1 hct).1; rw [coreL_len, HKL.out] at this; exact this
          have hts : t < sl := by have := (List.getElem?_eq_some_iff.1 hct).1; rw [← HLE.out.1, HSL.out] at this; exact this
          have HYT := Lib.hid hyn
          have CE : Hid (∀ X, NodeRow X a len cap K → Calls Tryz.prog 29 #[forV a len cap m, .int .i64 (t : Int)] X fun e w' => e = .returned (.bool true) ∧ Below X.heap.size X w') := Lib.hid (by rw [← hyn]; exact CE.out)
          have n1t : V0.cell? ⟨G, 1, none⟩ = some (.int .i64 (t : Int)) := by rw [← hyn]; exact n1'
          clear hyn hqe n1'
          go_upto_region 9 with (go_at_call 29; (with_reducible refine (CE.out _ FV.out.f.row).mono ?_); rintro e V ⟨rfl, hb⟩; have HBV := Lib.hid hb; clear hb z0 z1 n1t)
          have FV := Lib.hid (FV.out.keep HBV.out)
          have C0 := Lib.hid (C0.out.keep HBV.out)
          have HWV : Hid (Below wr.heap.size wr V) := Lib.hid (HBV0.out.trans (HBV.out.mono HBV0.out.size))
          obtain ⟨b, off, x, rfl, hb, hx, hxa, -⟩ := FV.out.f.row.get htl
          obtain ⟨sb, so, s, rfl, hsb, hss, hsa, -⟩ := (HSR.out V FV.out.f.below).sta hts
          have HXC : Hid (x.core = c) := Lib.hid (Option.some.inj ((coreL_get hx).symm.trans hct))
          obtain ⟨r, hr⟩ : ∃ r, askedZ y (fateC ⟨D, [], nx, bz⟩ x.core) s (classZ s D (coreCl L)) = r := ⟨_, rfl⟩
          have HO : Hid (oneZ (coreL K) S ⟨D, M, nx, bz⟩ (coreCl L) y = r.map (fun u => ⟨(t : Int), u⟩)) := Lib.hid (by
            rw [oneZ_at (S := S) (D := ⟨D, M, nx, bz⟩) (L := coreCl L) HYT.out hct hck hss, ← hr, fateC_nil HLE.out.2.2, HXC.out, HYT.out])
          have CA : Hid (∀ X, Below V.heap.size V X → Calls Tryz.prog 30 #[noteV y, nodVal x, stateV s, deskV da dl dc wa wl wc_ nx bz, .slice ca cl cc] X (AskPost X r)) := Lib.hid (fun X hb => by
            have := asked_any y x s da dl dc wa wl wc_ nx bz ca cl cc D L X ((FV.out.keep hb).d.d) (HCR.out X (FV.out.keep hb).f.below)
            rw [hr] at this
            exact this)
          have HLT : Hid (w.heap.size < V.heap.size ∧ G < V.heap.size ∧ b < V.heap.size ∧ sb < V.heap.size ∧ w.heap.size + 1 < V.heap.size) := Lib.hid ⟨FV.out.lt.1, C0.out.lt, hb, hsb, FV.out.lt.2⟩
          have z0 := FV.out.f.c0
          have d0 := FV.out.d.c0
          have d1 := FV.out.d.c1
          have d2 := FV.out.d.c2
          have d3 := FV.out.d.c3
          obtain ⟨e0, e1, e2, e3, e4, e5, e6, e7, e8, e9⟩ := hxa
          obtain ⟨s0, s1, s2, s3⟩ := hsa
          have n0 : V.cell? ⟨G, 0, none⟩ = some (.int .i64 y.kind) := C0.out.c 0 _ rfl
          have n1 : V.cell? ⟨G, 1, none⟩ = some (.int .i64 y.node) := C0.out.c 1 _ rfl
          have n2 : V.cell? ⟨G, 2, none⟩ = some (.int .i64 y.src) := C0.out.c 2 _ rfl
          have n3 : V.cell? ⟨G, 3, none⟩ = some (.int .i64 y.dst) := C0.out.c 3 _ rfl
          have n4 : V.cell? ⟨G, 4, none⟩ = some (.string y.name) := C0.out.c 4 _ rfl
          have n5 : V.cell? ⟨G, 5, none⟩ = some (.bool y.had) := C0.out.c 5 _ rfl
          have n6 : V.cell? ⟨G, 6, none⟩ = some (.bool y.has) := C0.out.c 6 _ rfl
          have n7 : V.cell? ⟨G, 7, none⟩ = some (.string y.old) := C0.out.c 7 _ rfl
          have n8 : V.cell? ⟨G, 8, none⟩ = some (.string y.new) := C0.out.c 8 _ rfl
          have SV : V.cell? ⟨w.heap.size, 0, none⟩ = some (.slice (some ⟨b, off, none⟩) len cap) ∧ V.cell? ⟨G, 0, none⟩ = some (.int .i64 y.kind) ∧ V.cell? ⟨G, 1, none⟩ = some (.int .i64 y.node) ∧ V.cell? ⟨G, 2, none⟩ = some (.int .i64 y.src) ∧ V.cell? ⟨G, 3, none⟩ = some (.int .i64 y.dst) ∧ V.cell? ⟨G, 4, none⟩ = some (.string y.name) ∧ V.cell? ⟨G, 5, none⟩ = some (.bool y.had) ∧ V.cell? ⟨G, 6, none⟩ = some (.bool y.has) ∧ V.cell? ⟨G, 7, none⟩ = some (.string y.old) ∧ V.cell? ⟨G, 8, none⟩ = some (.string y.new) ∧ V.cell? ⟨b, off + t * 10, none⟩ = some (.int .i64 x.core.kind) ∧ V.cell? ⟨b, off + t * 10 + 1, none⟩ = some (.string x.core.name) ∧ V.cell? ⟨b, off + t * 10 + 2, none⟩ = some (.string x.core.is) ∧ V.cell? ⟨b, off + t * 10 + 3, none⟩ = some (.string x.core.data) ∧ V.cell? ⟨b, off + t * 10 + 4, none⟩ = some (.slice x.aA x.aN x.aC) ∧ V.cell? ⟨b, off + t * 10 + 5, none⟩ = some (.int .i64 x.core.parent) ∧ V.cell? ⟨b, off + t * 10 + 6, none⟩ = some (.slice x.kA x.kN x.kC) ∧ V.cell? ⟨b, off + t * 10 + 7, none⟩ = some (.int .i64 x.core.host) ∧ V.cell? ⟨b, off + t * 10 + 8, none⟩ = some (.int .i64 x.core.under) ∧ V.cell? ⟨b, off + t * 10 + 9, none⟩ = some (.int .i64 x.core.doc) ∧ V.cell? ⟨sb, so + t * 4, none⟩ = some (.int .i64 s.phase) ∧ V.cell? ⟨sb, so + t * 4 + 1, none⟩ = some (.int .i64 s.dfn) ∧ V.cell? ⟨sb, so + t * 4 + 2, none⟩ = some (.int .i64 s.owner) ∧ V.cell? ⟨sb, so + t * 4 + 3, none⟩ = some (.bool s.barred) ∧ V.cell? ⟨w.heap.size + 1, 0, none⟩ = some (.slice da dl dc) ∧ V.cell? ⟨w.heap.size + 1, 1, none⟩ = some (.slice wa wl wc_) ∧ V.cell? ⟨w.heap.size + 1, 2, none⟩ = some (.int .i64 nx) ∧ V.cell? ⟨w.heap.size + 1, 3, none⟩ = some (.bool bz) ∧ Below V.heap.size V V := ⟨z0, n0, n1, n2, n3, n4, n5, n6, n7, n8, e0, e1, e2, e3, e4, e5, e6, e7, e8, e9, s0, s1, s2, s3, d0, d1, d2, d3, Below.refl _ _⟩
          clear hct hck hx hss hr hb hsb CE z0 n0 n1 n2 n3 n4 n5 n6 n7 n8 e0 e1 e2 e3 e4 e5 e6 e7 e8 e9 s0 s1 s2 s3 d0 d1 d2 d3
          go_cut [15, 16] (fun p c wx => True ∧ ∃ (g : Nat) (u : TodoD) (ok : Bool), p = .pointer (some ⟨g, 0, none⟩) ∧ c = .bool ok ∧ Hid (CBox wx g (todoCs u).toList ∧ Below V.heap.size V wx) ∧ Hid (r = if ok then some u else none))
          case first =>
            go_region_held3 (fun w' => w'.cell? ⟨w.heap.size, 0, none⟩ = some (.slice (some ⟨b, off, none⟩) len cap) ∧ w'.cell? ⟨G, 0, none⟩ = some (.int .i64 y.kind) ∧ w'.cell? ⟨G, 1, none⟩ = some (.int .i64 y.node) ∧ w'.cell? ⟨G, 2, none⟩ = some (.int .i64 y.src) ∧ w'.cell? ⟨G, 3, none⟩ = some (.int .i64 y.dst) ∧ w'.cell? ⟨G, 4, none⟩ = some (.string y.name) ∧ w'.cell? ⟨G, 5, none⟩ = some (.bool y.had) ∧ w'.cell? ⟨G, 6, none⟩ = some (.bool y.has) ∧ w'.cell? ⟨G, 7, none⟩ = some (.string y.old) ∧ w'.cell? ⟨G, 8, none⟩ = some (.string y.new) ∧ w'.cell? ⟨b, off + t * 10, none⟩ = some (.int .i64 x.core.kind) ∧ w'.cell? ⟨b, off + t * 10 + 1, none⟩ = some (.string x.core.name) ∧ w'.cell? ⟨b, off + t * 10 + 2, none⟩ = some (.string x.core.is) ∧ w'.cell? ⟨b, off + t * 10 + 3, none⟩ = some (.string x.core.data) ∧ w'.cell? ⟨b, off + t * 10 + 4, none⟩ = some (.slice x.aA x.aN x.aC) ∧ w'.cell? ⟨b, off + t * 10 + 5, none⟩ = some (.int .i64 x.core.parent) ∧ w'.cell? ⟨b, off + t * 10 + 6, none⟩ = some (.slice x.kA x.kN x.kC) ∧ w'.cell? ⟨b, off + t * 10 + 7, none⟩ = some (.int .i64 x.core.host) ∧ w'.cell? ⟨b, off + t * 10 + 8, none⟩ = some (.int .i64 x.core.under) ∧ w'.cell? ⟨b, off + t * 10 + 9, none⟩ = some (.int .i64 x.core.doc) ∧ w'.cell? ⟨sb, so + t * 4, none⟩ = some (.int .i64 s.phase) ∧ w'.cell? ⟨sb, so + t * 4 + 1, none⟩ = some (.int .i64 s.dfn) ∧ w'.cell? ⟨sb, so + t * 4 + 2, none⟩ = some (.int .i64 s.owner) ∧ w'.cell? ⟨sb, so + t * 4 + 3, none⟩ = some (.bool s.barred) ∧ w'.cell? ⟨w.heap.size + 1, 0, none⟩ = some (.slice da dl dc) ∧ w'.cell? ⟨w.heap.size + 1, 1, none⟩ = some (.slice wa wl wc_) ∧ w'.cell? ⟨w.heap.size + 1, 2, none⟩ = some (.int .i64 nx) ∧ w'.cell? ⟨w.heap.size + 1, 3, none⟩ = some (.bool bz) ∧ Below V.heap.size V w')
              (with_reducible first | (refine keep28 ⟨HLT.out.1, HLT.out.2.1, HLT.out.2.1, HLT.out.2.1, HLT.out.2.1, HLT.out.2.1, HLT.out.2.1, HLT.out.2.1, HLT.out.2.1, HLT.out.2.1, HLT.out.2.2.1, HLT.out.2.2.1, HLT.out.2.2.1, HLT.out.2.2.1, HLT.out.2.2.1, HLT.out.2.2.1, HLT.out.2.2.1, HLT.out.2.2.1, HLT.out.2.2.1, HLT.out.2.2.1, HLT.out.2.2.2.1, HLT.out.2.2.2.1, HLT.out.2.2.2.1, HLT.out.2.2.2.1, HLT.out.2.2.2.2, HLT.out.2.2.2.2, HLT.out.2.2.2.2, HLT.out.2.2.2.2⟩ SV ?_; first | exact HW6.out | exact below10 HW6.out (Nat.le_refl _) _ | exact HW6.out.trans ((box_below _ _).mono HW6.out.size) | exact box_below _ _ | exact (Below.refl _ _).drew | exact (box_below _ _).drew | exact HW6.out.trans ((box_below _ _).drew.mono HW6.out.size)) | assumption)
              (first
                | (go_at_call 30; (with_reducible refine (CA.out _ (kept28 ‹_ ∧ _ ∧ _ ∧ _ ∧ _ ∧ _ ∧ _ ∧ _ ∧ _ ∧ _ ∧ _ ∧ _ ∧ _ ∧ _ ∧ _ ∧ _ ∧ _ ∧ _ ∧ _ ∧ _ ∧ _ ∧ _ ∧ _ ∧ _ ∧ _ ∧ _ ∧ _ ∧ _ ∧ Below _ _ _›)).mono ?_); rintro e w6 ⟨u, ok, rfl, hb, hr⟩; have HR6 := Lib.hid hr; clear hr; have HW6 : Hid (Below V.heap.size V w6) := Lib.hid ((kept28 ‹_ ∧ _ ∧ _ ∧ _ ∧ _ ∧ _ ∧ _ ∧ _ ∧ _ ∧ _ ∧ _ ∧ _ ∧ _ ∧ _ ∧ _ ∧ _ ∧ _ ∧ _ ∧ _ ∧ _ ∧ _ ∧ _ ∧ _ ∧ _ ∧ _ ∧ _ ∧ _ ∧ _ ∧ Below _ _ _›).trans (hb.mono (kept28 ‹_ ∧ _ ∧ _ ∧ _ ∧ _ ∧ _ ∧ _ ∧ _ ∧ _ ∧ _ ∧ _ ∧ _ ∧ _ ∧ _ ∧ _ ∧ _ ∧ _ ∧ _ ∧ _ ∧ _ ∧ _ ∧ _ ∧ _ ∧ _ ∧ _ ∧ _ ∧ _ ∧ _ ∧ Below _ _ _›).size)); (with_reducible first | (have hbk := ahead_drew (W0 := V) (cs := todoCs zeroT) hb) | (have hbk := ahead_plain (W0 := V) (cs := todoCs zeroT) hb)); have HA6 := Lib.hid hbk.1; clear hbk; obtain ⟨r0, r1, r2, r3, r4, r5, r6, r7, r8, r9⟩ := CBox.todo (x := zeroT) HA6.out; obtain ⟨⟨f0, f1, f2, f3, f4⟩, f5, f6, f7, f8, f9⟩ := TCells.frozen HA6.out)
                | (go_at_call 30; (with_reducible refine (CA.out _ (kept28 ‹_ ∧ _ ∧ _ ∧ _ ∧ _ ∧ _ ∧ _ ∧ _ ∧ _ ∧ _ ∧ _ ∧ _ ∧ _ ∧ _ ∧ _ ∧ _ ∧ _ ∧ _ ∧ _ ∧ _ ∧ _ ∧ _ ∧ _ ∧ _ ∧ _ ∧ _ ∧ _ ∧ _ ∧ Below _ _ _›)).mono ?_); rintro e w6 ⟨u, ok, rfl, hb, hr⟩; have HR6 := Lib.hid hr; clear hr; have HW6 : Hid (Below V.heap.size V w6) := Lib.hid ((kept28 ‹_ ∧ _ ∧ _ ∧ _ ∧ _ ∧ _ ∧ _ ∧ _ ∧ _ ∧ _ ∧ _ ∧ _ ∧ _ ∧ _ ∧ _ ∧ _ ∧ _ ∧ _ ∧ _ ∧ _ ∧ _ ∧ _ ∧ _ ∧ _ ∧ _ ∧ _ ∧ _ ∧ _ ∧ Below _ _ _›).trans (hb.mono (kept28 ‹_ ∧ _ ∧ _ ∧ _ ∧ _ ∧ _ ∧ _ ∧ _ ∧ _ ∧ _ ∧ _ ∧ _ ∧ _ ∧ _ ∧ _ ∧ _ ∧ _ ∧ _ ∧ _ ∧ _ ∧ _ ∧ _ ∧ _ ∧ _ ∧ _ ∧ _ ∧ _ ∧ _ ∧ Below _ _ _›).size))))
            all_goals
              go_wp2_with fail
              go_meet
              first
                | exact ⟨trivial, _, u, ok, rfl, rfl, Lib.hid ⟨box10 (y := zeroT) HA6.out u, below10 HW6.out (Nat.le_refl _) u⟩, HR6⟩
                | exact ⟨trivial, _, u, ok, rfl, rfl, Lib.hid ⟨CBox.new w6 (todoCs u) _, HW6.out.trans ((box_below _ _).mono HW6.out.size)⟩, HR6⟩
                | exact ⟨trivial, _, u, ok, rfl, rfl, Lib.hid ⟨(box10 (y := zeroT) HA6.out u).drew, (below10 HW6.out (Nat.le_refl _) u).drew⟩, HR6⟩
                | exact ⟨trivial, _, u, ok, rfl, rfl, Lib.hid ⟨(CBox.new w6 (todoCs u) _).drew, (HW6.out.trans ((box_below _ _).mono HW6.out.size)).drew⟩, HR6⟩
          case rest =>
            obtain ⟨-, g, u, ok, rfl, rfl, HG, HR⟩ := hcut
            have HWC : Hid (Below wr.heap.size wr wc) := Lib.hid (HWV.out.trans (HG.out.2.mono HWV.out.size))
            have HBE : Hid (Below w1.heap.size w1 wc) := Lib.hid (HBW.out.trans (HWC.out.mono HBW.out.size))
            have OWE := Lib.hid (own_below OW.out HWC.out)
            have HU := Lib.hid HG.out.1
            clear SV HG CA HLT C0 FV
            cases ok with
            | false =>
              have HS2 := Lib.hid (upW_miss (F := coreL K) (S := S) (D := ⟨D, M, nx, bz⟩) (L := coreCl L) HY.out (by rw [HO.out, HR.out]; rfl))
              go_wp2_with fail
              go_roundw
              case rel => exact ⟨k + 1, by omega, by go_num, HBE, Lib.hid (by rw [HS2.out, HN1.out]; exact OWE.out)⟩
              case measure => simp [intOf]; omega
            | true =>
              have HS2 := Lib.hid (upW_hit (F := coreL K) (S := S) (D := ⟨D, M, nx, bz⟩) (L := coreCl L) HY.out (u := ⟨(t : Int), u⟩) (by rw [HO.out, HR.out]; rfl))
              obtain ⟨t0, t1, t2, t3, t4, t5, t6, t7, t8, t9⟩ := CBox.todo (x := u) HU.out
              have hbs := HBE.out.size
              go_wp2_with (at_builtin
                           refine wpList_append_rows rfl (.tmp 51) (.tmp 55) 42 rfl 59 i0 _ 11 104 Tryz.underlying42 hi0 hz0 hz1 hz2 rfl (by decide) w1.heap.size _ n1 (upW (coreL K) S ⟨D, M, nx, bz⟩ (coreCl L) N k) [⟨(t : Int), u⟩] rfl (OWE.out.alloc _) _ 1 1 rfl (due_one12 wc (t : Int) u) (fun x _ => encU_one x) (by unfold maxLen; omega) (by omega) (by simp; omega) (fun h => by cases h) ?_
                           intro v3 w3 hown3 hg3 hat3
                           have HB3 : Hid (Below w1.heap.size w1 w3) := Lib.hid (below_own HBE.out OWE.out hg3)
                           have HO3 := Lib.hid hown3
                           clear hown3 hg3 hat3)
              go_roundw
              case rel => exact ⟨k + 1, by omega, by go_num, HB3, Lib.hid (by
                have h1 := HO3.out
                rw [HS2.out, List.length_append, HN1.out]
                exact h1)⟩
              case measure => simp [intOf]; omega
      · have hkd : k = nl := by omega
        subst hkd
        go_wp2_with fail
        go_ret
        obtain ⟨a5, c5, rfl, hI⟩ := DueRow.of_own rfl OW.out
        refine ⟨a5, _, c5, rfl, ?_, FR.out.f.below⟩
        rw [HDZ.out, ← upW_end HNL.out]
        exact hI
end Go.Proofs.YtkfmengdffpcnaaGreatDoor
