/- Texts joined in build order: WatchDueLaw. -/
import Derived.Test.YtbkhngoehoiccaaGreatD45
import Derived.Deep.DeepCutAuto
import Derived.Deep.CutBlock
namespace Go.Proofs.YtbkhngoehoiccaaGreat
open Go.RowKit
theorem kept15 {a0 a1 a2 a3 a4 a5 a6 a7 a8 a9 a10 a11 a12 a13 a14 : Prop} {V W : World} (h : a0 ∧ a1 ∧ a2 ∧ a3 ∧ a4 ∧ a5 ∧ a6 ∧ a7 ∧ a8 ∧ a9 ∧ a10 ∧ a11 ∧ a12 ∧ a13 ∧ a14 ∧ Below V.heap.size V W) : Below V.heap.size V W := h.2.2.2.2.2.2.2.2.2.2.2.2.2.2.2
theorem keep15 {V W X : World} {p0 p1 p2 p3 p4 p5 p6 p7 p8 p9 p10 p11 p12 p13 p14 : Addr} {v0 v1 v2 v3 v4 v5 v6 v7 v8 v9 v10 v11 v12 v13 v14 : Option Value} (l : p0.block < V.heap.size ∧ p1.block < V.heap.size ∧ p2.block < V.heap.size ∧ p3.block < V.heap.size ∧ p4.block < V.heap.size ∧ p5.block < V.heap.size ∧ p6.block < V.heap.size ∧ p7.block < V.heap.size ∧ p8.block < V.heap.size ∧ p9.block < V.heap.size ∧ p10.block < V.heap.size ∧ p11.block < V.heap.size ∧ p12.block < V.heap.size ∧ p13.block < V.heap.size ∧ p14.block < V.heap.size) (h : W.cell? p0 = v0 ∧ W.cell? p1 = v1 ∧ W.cell? p2 = v2 ∧ W.cell? p3 = v3 ∧ W.cell? p4 = v4 ∧ W.cell? p5 = v5 ∧ W.cell? p6 = v6 ∧ W.cell? p7 = v7 ∧ W.cell? p8 = v8 ∧ W.cell? p9 = v9 ∧ W.cell? p10 = v10 ∧ W.cell? p11 = v11 ∧ W.cell? p12 = v12 ∧ W.cell? p13 = v13 ∧ W.cell? p14 = v14 ∧ Below V.heap.size V W) (hb : Below W.heap.size W X) : X.cell? p0 = v0 ∧ X.cell? p1 = v1 ∧ X.cell? p2 = v2 ∧ X.cell? p3 = v3 ∧ X.cell? p4 = v4 ∧ X.cell? p5 = v5 ∧ X.cell? p6 = v6 ∧ X.cell? p7 = v7 ∧ X.cell? p8 = v8 ∧ X.cell? p9 = v9 ∧ X.cell? p10 = v10 ∧ X.cell? p11 = v11 ∧ X.cell? p12 = v12 ∧ X.cell? p13 = v13 ∧ X.cell? p14 = v14 ∧ Below V.heap.size V X := by
  have hs := (kept15 h).size
  exact keep_one (l.1) hs hb (keep_one (l.2.1) hs hb (keep_one (l.2.2.1) hs hb (keep_one (l.2.2.2.1) hs hb (keep_one (l.2.2.2.2.1) hs hb (keep_one (l.2.2.2.2.2.1) hs hb (keep_one (l.2.2.2.2.2.2.1) hs hb (keep_one (l.2.2.2.2.2.2.2.1) hs hb (keep_one (l.2.2.2.2.2.2.2.2.1) hs hb (keep_one (l.2.2.2.2.2.2.2.2.2.1) hs hb (keep_one (l.2.2.2.2.2.2.2.2.2.2.1) hs hb (keep_one (l.2.2.2.2.2.2.2.2.2.2.2.1) hs hb (keep_one (l.2.2.2.2.2.2.2.2.2.2.2.2.1) hs hb (keep_one (l.2.2.2.2.2.2.2.2.2.2.2.2.2.1) hs hb (keep_one (l.2.2.2.2.2.2.2.2.2.2.2.2.2.2) hs hb (fun h => h.trans (hb.mono h.size)))))))))))))))) h
abbrev staL (s : StateD) : List Value := [.int .i64 s.phase, .int .i64 s.dfn, .int .i64 s.owner, .bool s.barred]
theorem two_box (V : World) (A B : Obj) : Below V.heap.size V ((V.alloc A).alloc B) := (box_below V A).trans ((box_below (V.alloc A) B).mono (by simp))
theorem two_boxes (V : World) (x : TodoD) (s : StateD) (t u : TypeId) : CBox ((V.alloc (.cells (todoCs x) t)).alloc (.cells #[.int .i64 s.phase, .int .i64 s.dfn, .int .i64 s.owner, .bool s.barred] u)) V.heap.size (todoCs x).toList ∧ CBox ((V.alloc (.cells (todoCs x) t)).alloc (.cells #[.int .i64 s.phase, .int .i64 s.dfn, .int .i64 s.owner, .bool s.barred] u)) (V.heap.size + 1) (staL s) ∧ Below V.heap.size V ((V.alloc (.cells (todoCs x) t)).alloc (.cells #[.int .i64 s.phase, .int .i64 s.dfn, .int .i64 s.owner, .bool s.barred] u)) := by
  obtain ⟨W2, hW2, B1, B2, -, hbb⟩ := boxes2 V (todoCs x) #[.int .i64 s.phase, .int .i64 s.dfn, .int .i64 s.owner, .bool s.barred] t u
  rw [hW2]
  exact ⟨B1, B2, hbb⟩
theorem two_boxes_drew (V : World) (x : TodoD) (s : StateD) (t u : TypeId) : CBox ((V.alloc (.cells (todoCs x) t)).alloc (.cells #[.int .i64 s.phase, .int .i64 s.dfn, .int .i64 s.owner, .bool s.barred] u)).drew V.heap.size (todoCs x).toList ∧ CBox ((V.alloc (.cells (todoCs x) t)).alloc (.cells #[.int .i64 s.phase, .int .i64 s.dfn, .int .i64 s.owner, .bool s.barred] u)).drew (V.heap.size + 1) (staL s) ∧ Below V.heap.size V ((V.alloc (.cells (todoCs x) t)).alloc (.cells #[.int .i64 s.phase, .int .i64 s.dfn, .int .i64 s.owner, .bool s.barred] u)).drew := by
  obtain ⟨B1, B2, hbb⟩ := two_boxes V x s t u
  exact ⟨B1.drew, B2.drew, hbb.drew⟩
theorem swap_boxes (V : World) (x : TodoD) (s : StateD) (t u : TypeId) : CBox ((V.alloc (.cells #[.int .i64 s.phase, .int .i64 s.dfn, .int .i64 s.owner, .bool s.barred] u)).alloc (.cells (todoCs x) t)) (V.heap.size + 1) (todoCs x).toList ∧ CBox ((V.alloc (.cells #[.int .i64 s.phase, .int .i64 s.dfn, .int .i64 s.owner, .bool s.barred] u)).alloc (.cells (todoCs x) t)) V.heap.size (staL s) ∧ Below V.heap.size V ((V.alloc (.cells #[.int .i64 s.phase, .int .i64 s.dfn, .int .i64 s.owner, .bool s.barred] u)).alloc (.cells (todoCs x) t)) := by
  obtain ⟨W2, hW2, B1, B2, -, hbb⟩ := boxes2 V #[.int .i64 s.phase, .int .i64 s.dfn, .int .i64 s.owner, .bool s.barred] (todoCs x) u t
  rw [hW2]
  exact ⟨B2, B1, hbb⟩
theorem swap_boxes_drew (V : World) (x : TodoD) (s : StateD) (t u : TypeId) : CBox ((V.alloc (.cells #[.int .i64 s.phase, .int .i64 s.dfn, .int .i64 s.owner, .bool s.barred] u)).alloc (.cells (todoCs x) t)).drew (V.heap.size + 1) (todoCs x).toList ∧ CBox ((V.alloc (.cells #[.int .i64 s.phase, .int .i64 s.dfn, .int .i64 s.owner, .bool s.barred] u)).alloc (.cells (todoCs x) t)).drew V.heap.size (staL s) ∧ Below V.heap.size V ((V.alloc (.cells #[.int .i64 s.phase, .int .i64 s.dfn, .int .i64 s.owner, .bool s.barred] u)).alloc (.cells (todoCs x) t)).drew := by
  obtain ⟨B1, B2, hbb⟩ := swap_boxes V x s t u
  exact ⟨B1.drew, B2.drew, hbb.drew⟩
set_option maxHeartbeats 8000000 in
set_option maxRecDepth 100000 in
theorem watchDue_walk (_F : True) (a : Option Addr) (len cap : Nat) (m : Int) (K : List NodeD) (sa : Option Addr) (sl sc : Nat) (S : List StateD) (da : Option Addr) (dl dc : Nat) (wa : Option Addr) (wl wc_ : Nat) (nx : Int) (bz : Bool) (D : List DefD) (M : List WaitD) (ca : Option Addr) (cl cc : Nat) (C : List ClassD) (na : Option Addr) (nl nc : Nat) (N : List NoteD) (w : World)
    (h0 : NodeRow w a len cap K) (hm : In64 m) (hs : StaRow w sa sl sc S) (hD : DeskAt w da dl dc wa wl wc_ ⟨D, M, nx, bz⟩) (hc : ClsRow w ca cl cc C) (hn : NoteRow w na nl nc N) :
    Calls Tryz.prog 4 #[forV a len cap m, .slice sa sl sc, deskV da dl dc wa wl wc_ nx bz, .slice ca cl cc, .slice na nl nc] w fun e w' => e = .returned (.bool true) ∧ Below w.heap.size w w' := by
  have AWK := Lib.hid (fun W => awake12_any W)
  have FX := Lib.hid (FD.start (m := m) (nx := nx) (bz := bz) h0 hD.d hD.t)
  have HM := Lib.hid hm
  have HKL := Lib.hid h0.hlen
  have HSL := Lib.hid hs.hlen
  have HNL := Lib.hid hn.row.hlen
  have hl64 := h0.len64
  have hsl64 := hs.len64
  have hnl64 := hn.len64'
  have hncap := hn.row.hcap
  have hnmax := hn.row.hmax
  have hncap64 : nc ≤ 9223372036854775807 := by unfold maxLen at hnmax; omega
  have HSR : Hid (∀ V, Below w.heap.size w V → StaRow V sa sl sc S) := Lib.hid (fun V hb => hs.below hb)
  have HCR : Hid (∀ V, Below w.heap.size w V → ClsRow V ca cl cc C) := Lib.hid (fun V hb => hc.below hb)
  have HNR : Hid (∀ V, Below w.heap.size w V → NoteRow V na nl nc N) := Lib.hid (fun V hb => hn.below hb)
  have LR : Hid (∀ V, Below w.heap.size w V → NodeRow V a len cap K → DefRow V da dl dc D → WaitRow V wa wl wc_ M → Calls Tryz.prog 28 #[forV a len cap m, .slice sa sl sc, deskV da dl dc wa wl wc_ nx bz, .slice ca cl cc] V fun e w' => ∃ r, e = .returned (.bool r) ∧ Below V.heap.size V w' ∧ (r = true → RightP m K S D M nx bz C)) := Lib.hid (fun V hb h1 h2 h3 => lawright12_any a len cap m K sa sl sc S da dl dc wa wl wc_ nx bz D M ca cl cc C V h1 HM.out (HSR.out V hb) h2 h3 (HCR.out V hb))
  (have z0 := FX.out.f.c0; have z1 := FX.out.f.c1; have d0 := FX.out.d.c0; have d1 := FX.out.d.c1; have d2 := FX.out.d.c2; have d3 := FX.out.d.c3)
  clear h0 hm hs hD hc hn _F hnmax
  by_cases h80 : (80 : Int) < (nl : Int)
  · go_enter Tryz.func4, Tryz.ntmps4
    go_wp2_with (first
                    | (go_at_call 7; (with_reducible refine (AWK.out _).mono ?_); rintro e w5 ⟨rfl, hb⟩; ((clear z0 z1 d0 d1 d2 d3); have FX := Lib.hid (FX.out.keep hb); (have z0 := FX.out.f.c0; have z1 := FX.out.f.c1; have d0 := FX.out.d.c0; have d1 := FX.out.d.c1; have d2 := FX.out.d.c2; have d3 := FX.out.d.c3); clear hb))
                    | (go_at_call 28; (with_reducible refine (LR.out _ FX.out.f.below FX.out.f.row FX.out.d.d FX.out.d.t).mono ?_); rintro e w6 ⟨r, rfl, hb, hr⟩; have HR := Lib.hid hr; clear hr; ((clear z0 z1 d0 d1 d2 d3); have FX := Lib.hid (FX.out.keep hb); (have z0 := FX.out.f.c0; have z1 := FX.out.f.c1; have d0 := FX.out.d.c0; have d1 := FX.out.d.c1; have d2 := FX.out.d.c2; have d3 := FX.out.d.c3); clear hb)))
    all_goals
      go_ret
      exact ⟨rfl, FX.out.f.below⟩
  have hn80 : nl ≤ 80 := by omega
  go_enter Tryz.func4, Tryz.ntmps4
  go_upto_region 5 with (first
                            | (go_at_call 7; (with_reducible refine (AWK.out _).mono ?_); rintro e w5 ⟨rfl, hb⟩; ((clear z0 z1 d0 d1 d2 d3); have FX := Lib.hid (FX.out.keep hb); (have z0 := FX.out.f.c0; have z1 := FX.out.f.c1; have d0 := FX.out.d.c0; have d1 := FX.out.d.c1; have d2 := FX.out.d.c2; have d3 := FX.out.d.c3); clear hb))
                            | (go_at_call 28; (with_reducible refine (LR.out _ FX.out.f.below FX.out.f.row FX.out.d.d FX.out.d.t).mono ?_); rintro e w6 ⟨r, rfl, hb, hr⟩; have HR := Lib.hid hr; clear hr; ((clear z0 z1 d0 d1 d2 d3); have FX := Lib.hid (FX.out.keep hb); (have z0 := FX.out.f.c0; have z1 := FX.out.f.c1; have d0 := FX.out.d.c0; have d1 := FX.out.d.c1; have d2 := FX.out.d.c2; have d3 := FX.out.d.c3); clear hb)))
  rotate_left
  · go_ret
    exact ⟨rfl, FX.out.f.below⟩
  have RP := Lib.hid (HR.out (by first | assumption | rfl | simp_all))
  clear HR LR AWK h80
  obtain ⟨V, rfl⟩ : ∃ V, V = w6 := ⟨_, rfl⟩
  have CD : Hid (∀ X na' nl' nc' N', Below V.heap.size V X → NoteRow X na' nl' nc' N' → nl' ≤ 1000 → Calls Tryz.prog 21 #[forV a len cap m, .slice sa sl sc, deskV da dl dc wa wl wc_ nx bz, .slice ca cl cc, .slice na' nl' nc'] X (DuePost X (N'.filterMap (oneZ (coreL K) S ⟨D, M, nx, bz⟩ (coreCl C))))) := Lib.hid (fun X na' nl' nc' N' hb h1 h2 => by
    have F := FX.out.keep hb
    have h := due_any a len cap m K sa sl sc S da dl dc wa wl wc_ nx bz D M ca cl cc C na' nl' nc' N' X F.f.row HM.out RP.out.sf (HSR.out X F.f.below) F.d.d F.d.t (HCR.out X F.f.below) h1 h2
    unfold dueZ at h
    rw [RP.out.w, if_pos rfl] at h
    exact h)
  obtain ⟨T, hT⟩ : ∃ T, N.filterMap (oneZ (coreL K) S ⟨D, M, nx, bz⟩ (coreCl C)) = T := ⟨_, rfl⟩
  have HT := Lib.hid hT
  have CDL : Hid (Calls Tryz.prog 21 #[forV a len cap m, .slice sa sl sc, deskV da dl dc wa wl wc_ nx bz, .slice ca cl cc, .slice na nl nc] V (DuePost V T)) := Lib.hid (by
    have h := CD.out V na nl nc N (Below.refl _ _) (HNR.out V FX.out.f.below) (by omega)
    rw [HT.out] at h
    exact h)
  clear hT
  go_upto_region 6 with (go_at_call 21; (with_reducible refine CDL.out.mono ?_); rintro e w8 ⟨la, ll, lc, rfl, hr, hb⟩; have TR := Lib.hid hr; have HV8 := Lib.hid hb; clear hr; ((clear z0 z1 d0 d1 d2 d3); have FX := Lib.hid (FX.out.keep hb); (have z0 := FX.out.f.c0; have z1 := FX.out.f.c1; have d0 := FX.out.d.c0; have d1 := FX.out.d.c1; have d2 := FX.out.d.c2; have d3 := FX.out.d.c3); clear hb))
  clear CDL
  have hlcap := TR.out.row.hcap
  have hlmax := TR.out.row.hmax
  have hlcap64 : lc ≤ 9223372036854775807 := by unfold maxLen at hlmax; omega
  have hll : T.length = ll := TR.out.row.hlen
  have hll80 : ll ≤ 80 := by
    have := List.length_filterMap_le (oneZ (coreL K) S ⟨D, M, nx, bz⟩ (coreCl C)) N
    rw [HT.out, HNL.out] at this
    omega
  have HTL := Lib.hid hll
  clear hlmax hll
  go_wp2_with fail
  go_loopw [12, 13] (fun p i wr => ∃ k : Nat, k ≤ nl ∧ i = .int .i64 k ∧ (∃ q : Nat, p = .int .i64 q ∧ q ≤ k ∧ Hid (q = (upW (coreL K) S ⟨D, M, nx, bz⟩ (coreCl C) N k).length)) ∧ Hid (Below w8.heap.size w8 wr)) (fun _ i _ => nl - (intOf i).toNat)
  case atStart => exact ⟨0, Nat.zero_le _, rfl, ⟨0, rfl, Nat.le_refl _, Lib.hid rfl⟩, Lib.hid (Below.refl _ _)⟩
  case round =>
    obtain ⟨k, hkl, rfl, ⟨q, rfl, hqk, HQ⟩, HB⟩ := hrel
    (clear z0 z1 d0 d1 d2 d3)
    have FX := Lib.hid (FX.out.keep HB.out)
    by_cases hlt : k < nl
    · obtain ⟨nb, no, y, rfl, hnb, hy, hya, hyo⟩ := (HNR.out wr FX.out.f.below).getN hlt
      have HY := Lib.hid hy
      have HYO := Lib.hid hyo
      obtain ⟨y0, y1, y2, y3, y4, y5, y6, y7, y8⟩ := hya
      clear hy hyo hnb
      go_upto_region 11 with fail
      obtain ⟨V0, hV0, C0, HSV, HBV⟩ := boxes1 wr (noteCs y) 62
      rw [hV0]
      have C0 : Hid (CBox V0 wr.heap.size (noteCs y).toList) := Lib.hid C0
      obtain ⟨G, hG⟩ : ∃ G, wr.heap.size = G := ⟨_, rfl⟩
      rw [hG] at C0 ⊢
      have HBV := Lib.hid HBV
      have FX := Lib.hid (FX.out.keep HBV.out)
      have HV0 : Hid (Below V.heap.size V V0) := Lib.hid ((HV8.out.trans (HB.out.mono HV8.out.size)).trans (HBV.out.mono (Nat.le_trans HV8.out.size HB.out.size)))
      clear hV0 HSV hG y0 y1 y2 y3 y4 y5 y6 y7 y8
      (have z0 := FX.out.f.c0; have z1 := FX.out.f.c1; have d0 := FX.out.d.c0; have d1 := FX.out.d.c1; have d2 := FX.out.d.c2; have d3 := FX.out.d.c3)
      obtain ⟨r, hr⟩ : ∃ r, oneZ (coreL K) S ⟨D, M, nx, bz⟩ (coreCl C) y = r := ⟨_, rfl⟩
      have HR := Lib.hid hr
      have CD1 : Hid (∀ X, Below V0.heap.size V0 X → Calls Tryz.prog 21 #[forV a len cap m, .slice sa sl sc, deskV da dl dc wa wl wc_ nx bz, .slice ca cl cc, .slice (some ⟨nb, no + k * 9, none⟩) 1 (nc - k)] X (DuePost X r.toList)) := Lib.hid (fun X hb => by
        have hb' := HV0.out.trans (hb.mono HV0.out.size)
        have h := CD.out X (some ⟨nb, no + k * 9, none⟩) 1 (nc - k) [y] hb' (note_one12 (HNR.out X (FX.out.keep hb).f.below) HY.out hlt _ rfl) (by omega)
        rw [List.filterMap_cons, HR.out] at h
        cases r <;> exact h)
      have HLT : Hid (w.heap.size < V0.heap.size ∧ w.heap.size + 1 < V0.heap.size) := Lib.hid ⟨FX.out.lt.1, FX.out.lt.2⟩
      have SV : V0.cell? ⟨w.heap.size, 0, none⟩ = some (.slice a len cap) ∧ V0.cell? ⟨w.heap.size, 1, none⟩ = some (.int .i64 m) ∧ V0.cell? ⟨w.heap.size + 1, 0, none⟩ = some (.slice da dl dc) ∧ V0.cell? ⟨w.heap.size + 1, 1, none⟩ = some (.slice wa wl wc_) ∧ V0.cell? ⟨w.heap.size + 1, 2, none⟩ = some (.int .i64 nx) ∧ V0.cell? ⟨w.heap.size + 1, 3, none⟩ = some (.bool bz) ∧ Below V0.heap.size V0 V0 := ⟨z0, z1, d0, d1, d2, d3, Below.refl _ _⟩
      have hw1 : IntKind.i64.wrap ((k : Int) + 1) = (k : Int) + 1 := by rw [IntKind.wrap_i64]; omega
      have b1 : (0 : Int) ≤ (k : Int) := by omega
      have b2 : (k : Int) ≤ (k : Int) + 1 := by omega
      have b3 : (k : Int) + 1 ≤ (nc : Int) := by omega
      have b4 : k + 1 ≤ nc := by omega
      have b5 : k < nc := by omega
      have b6 : ¬ nc = k := by omega
      have b7 : (k : Int) ≤ (nc : Int) := by omega
      clear hr z0 z1 d0 d1 d2 d3
      go_cut [15] (fun c wx => ∃ (a1 : Option Addr) (n1 c1 : Nat), c = .slice a1 n1 c1 ∧ Hid (DueRow wx a1 n1 c1 r.toList ∧ Below V0.heap.size V0 wx))
      case first =>
        as_aux_lemma =>
          go_region_held3 (fun w' => w'.cell? ⟨w.heap.size, 0, none⟩ = some (.slice a len cap) ∧ w'.cell? ⟨w.heap.size, 1, none⟩ = some (.int .i64 m) ∧ w'.cell? ⟨w.heap.size + 1, 0, none⟩ = some (.slice da dl dc) ∧ w'.cell? ⟨w.heap.size + 1, 1, none⟩ = some (.slice wa wl wc_) ∧ w'.cell? ⟨w.heap.size + 1, 2, none⟩ = some (.int .i64 nx) ∧ w'.cell? ⟨w.heap.size + 1, 3, none⟩ = some (.bool bz) ∧ Below V0.heap.size V0 w')
            (with_reducible first | (refine keep6 ⟨HLT.out.1, HLT.out.1, HLT.out.2, HLT.out.2, HLT.out.2, HLT.out.2⟩ SV ?_; first | exact HW6.out | exact (Below.refl _ _).drew) | assumption)
            (first | (go_at_call 21; (with_reducible refine (CD1.out _ (kept6 ‹_ ∧ _ ∧ _ ∧ _ ∧ _ ∧ _ ∧ Below _ _ _›)).mono ?_); rintro e w9 ⟨a1, n1, c1, rfl, hr, hb⟩; have HR6 := Lib.hid hr; clear hr; have HW6 : Hid (Below V0.heap.size V0 w9) := Lib.hid ((kept6 ‹_ ∧ _ ∧ _ ∧ _ ∧ _ ∧ _ ∧ Below _ _ _›).trans (hb.mono (kept6 ‹_ ∧ _ ∧ _ ∧ _ ∧ _ ∧ _ ∧ Below _ _ _›).size))))
          all_goals
            go_wp2_with fail
            go_meet
            first
              | exact ⟨a1, _, _, rfl, Lib.hid ⟨HR6.out, HW6.out⟩⟩
              | exact ⟨a1, _, _, rfl, Lib.hid ⟨HR6.out.below (Below.refl _ _).drew, HW6.out.drew⟩⟩
      case rest =>
        obtain ⟨a1, n1, c1, rfl, HG⟩ := hcut
        obtain ⟨X, rfl⟩ : ∃ X, X = wc := ⟨_, rfl⟩
        as_aux_lemma =>
          have FX := Lib.hid (FX.out.keep HG.out.2)
          have C2 := Lib.hid (C0.out.keep HG.out.2)
          have H8X : Hid (Below w8.heap.size w8 X) := Lib.hid (HB.out.trans ((HBV.out.trans (HG.out.2.mono HBV.out.size)).mono HB.out.size))
          have OR := Lib.hid HG.out.1
          have hn1 : r.toList.length = n1 := OR.out.row.hlen
          clear SV HG CD1 HLT HBV HV0 C0 hw1 b1 b2 b3 b4 b5 b6 b7
          have hw1 : IntKind.i64.wrap ((k : Int) + 1) = (k : Int) + 1 := by rw [IntKind.wrap_i64]; omega
          cases r with
          | none =>
            obtain rfl : n1 = 0 := hn1.symm
            have HS2 := Lib.hid (upW_miss HY.out HR.out)
            go_wp2_with fail
            go_roundw
            case rel => exact ⟨k + 1, by omega, by go_num, ⟨q, rfl, by omega, Lib.hid (by rw [HS2.out]; exact HQ.out)⟩, H8X⟩
            case measure => simp [intOf]; omega
          | some u =>
            obtain rfl : n1 = 1 := hn1.symm
            have HS2 := Lib.hid (upW_hit HY.out HR.out)
            have hTq := upW_get HY.out HR.out
            rw [← HQ.out, HT.out] at hTq
            have hql : q < ll := by rw [← HTL.out]; exact (List.getElem?_eq_some_iff.1 hTq).1
            obtain ⟨t, c, s, hyt, hct, hck, hss, hut, has⟩ := one_inv HR.out
            have htl : t < len := by
              have := (List.getElem?_eq_some_iff.1 hct).1
              rwa [coreL_len, HKL.out] at this
            have hts : t < sl := by rw [← HSL.out]; exact (List.getElem?_eq_some_iff.1 hss).1
            obtain ⟨b, off, xn, rfl, hbn, hxn, hxa, -⟩ := FX.out.f.row.get htl
            obtain rfl : c = xn.core := Option.some.inj (hct.symm.trans (coreL_get hxn))
            obtain ⟨sb, so, s', rfl, hsb, hss', -, -⟩ := (HSR.out X FX.out.f.below).sta hts
            obtain rfl : s = s' := Option.some.inj (hss.symm.trans hss')
            obtain ⟨lb, lo, u', rfl, hlb, hu', -, huc⟩ := (TR.out.below H8X.out).row.get hql
            obtain rfl : u' = u := Option.some.inj (hu'.symm.trans hTq)
            obtain ⟨ob, oo, u'', rfl, hob, hu'', -, hoc⟩ := OR.out.row.get (show 0 < 1 by omega)
            obtain rfl : u'' = u' := (Option.some.inj hu'').symm
            obtain ⟨un, ⟨v0, v1, v2, v3, v4, v5, v6, v7, v8, v9⟩⟩ := u''
            dsimp only at hut has
            subst hut
            have x0 := hxa.c0
            rw [hck] at x0
            have HAS := Lib.hid has
            have HCK := Lib.hid hck
            have HCT := Lib.hid hct
            have HYT := Lib.hid hyt
            have HBN := Lib.hid hbn
            have HOB := Lib.hid hob
            have HSS := Lib.hid hss
            have n1' : X.cell? ⟨G, 1, none⟩ = some (.int .i64 t) := by rw [← hyt]; exact C2.out.c 1 _ rfl
            have hg0 : ¬ (ll : Int) ≤ (q : Int) := by omega
            have hg1 : decide ((ll : Int) ≤ (q : Int)) = false := decide_eq_false hg0
            have hg2 : ¬ ll ≤ q := by omega
            have hg3 : ¬ (sl : Int) ≤ (t : Int) := by omega
            have hg4 : decide ((sl : Int) ≤ (t : Int)) = false := decide_eq_false hg3
            have hg5 : ¬ (t : Int) < 0 := by omega
            have hg6 : (t : Int) < (len : Int) := by omega
            as_aux_lemma =>
              go_upto_region 15 with fail
              have E0 := Ext.cell x0 hbn
              have E1 := Ext.cell n1' C2.out.lt
              have E2 := Ext.cell FX.out.f.c0 FX.out.lt.1
              have t0 := Ext.cell (show X.cell? ⟨lb, lo + q * 11, none⟩ = some (.int .i64 t) from huc 0 _ rfl) hlb
              have t1 := Ext.cell (show X.cell? ⟨lb, lo + q * 11 + 1, none⟩ = some (.int .i64 v0) from huc 1 _ rfl) hlb
              have t2 := Ext.cell (show X.cell? ⟨lb, lo + q * 11 + 2, none⟩ = some (.int .i64 v1) from huc 2 _ rfl) hlb
              have t3 := Ext.cell (show X.cell? ⟨lb, lo + q * 11 + 3, none⟩ = some (.string v2) from huc 3 _ rfl) hlb
              have t4 := Ext.cell (show X.cell? ⟨lb, lo + q * 11 + 4, none⟩ = some (.bool v3) from huc 4 _ rfl) hlb
              have t5 := Ext.cell (show X.cell? ⟨lb, lo + q * 11 + 5, none⟩ = some (.bool v4) from huc 5 _ rfl) hlb
              have t6 := Ext.cell (show X.cell? ⟨lb, lo + q * 11 + 6, none⟩ = some (.string v5) from huc 6 _ rfl) hlb
              have t7 := Ext.cell (show X.cell? ⟨lb, lo + q * 11 + 7, none⟩ = some (.string v6) from huc 7 _ rfl) hlb
              have t8 := Ext.cell (show X.cell? ⟨lb, lo + q * 11 + 8, none⟩ = some (.int .i64 v7) from huc 8 _ rfl) hlb
              have t9 := Ext.cell (show X.cell? ⟨lb, lo + q * 11 + 9, none⟩ = some (.int .i64 v8) from huc 9 _ rfl) hlb
              have t10 := Ext.cell (show X.cell? ⟨lb, lo + q * 11 + 10, none⟩ = some (.bool v9) from huc 10 _ rfl) hlb
              have p0 : X.cell? ⟨ob, oo, none⟩ = some (.int .i64 t) := by have h := hoc 0 _ rfl; simpa using h
              have p1 : X.cell? ⟨ob, oo + 1, none⟩ = some (.int .i64 v0) := by have h := hoc 1 _ rfl; simpa using h
              have p2 : X.cell? ⟨ob, oo + 2, none⟩ = some (.int .i64 v1) := by have h := hoc 2 _ rfl; simpa using h
              have p3 : X.cell? ⟨ob, oo + 3, none⟩ = some (.string v2) := by have h := hoc 3 _ rfl; simpa using h
              have p4 : X.cell? ⟨ob, oo + 4, none⟩ = some (.bool v3) := by have h := hoc 4 _ rfl; simpa using h
              have p5 : X.cell? ⟨ob, oo + 5, none⟩ = some (.bool v4) := by have h := hoc 5 _ rfl; simpa using h
              have p6 : X.cell? ⟨ob, oo + 6, none⟩ = some (.string v5) := by have h := hoc 6 _ rfl; simpa using h
              have p7 : X.cell? ⟨ob, oo + 7, none⟩ = some (.string v6) := by have h := hoc 7 _ rfl; simpa using h
              have p8 : X.cell? ⟨ob, oo + 8, none⟩ = some (.int .i64 v7) := by have h := hoc 8 _ rfl; simpa using h
              have p9 : X.cell? ⟨ob, oo + 9, none⟩ = some (.int .i64 v8) := by have h := hoc 9 _ rfl; simpa using h
              have p10 : X.cell? ⟨ob, oo + 10, none⟩ = some (.bool v9) := by have h := hoc 10 _ rfl; simpa using h
              have P : Hid (X.cell? ⟨ob, oo + 1, none⟩ = some (.int .i64 v0) ∧ X.cell? ⟨ob, oo + 2, none⟩ = some (.int .i64 v1) ∧ X.cell? ⟨ob, oo + 3, none⟩ = some (.string v2) ∧ X.cell? ⟨ob, oo + 4, none⟩ = some (.bool v3) ∧ X.cell? ⟨ob, oo + 5, none⟩ = some (.bool v4) ∧ X.cell? ⟨ob, oo + 6, none⟩ = some (.string v5) ∧ X.cell? ⟨ob, oo + 7, none⟩ = some (.string v6) ∧ X.cell? ⟨ob, oo + 8, none⟩ = some (.int .i64 v7) ∧ X.cell? ⟨ob, oo + 9, none⟩ = some (.int .i64 v8) ∧ X.cell? ⟨ob, oo + 10, none⟩ = some (.bool v9)) := Lib.hid ⟨p1, p2, p3, p4, p5, p6, p7, p8, p9, p10⟩
              have u0 := Ext.cell p0 hob
              have u1 := Ext.cell p1 hob
              have u2 := Ext.cell p2 hob
              have u3 := Ext.cell p3 hob
              have u4 := Ext.cell p4 hob
              have u5 := Ext.cell p5 hob
              have u6 := Ext.cell p6 hob
              have u7 := Ext.cell p7 hob
              have u8 := Ext.cell p8 hob
              have u9 := Ext.cell p9 hob
              have u10 := Ext.cell p10 hob
              have hnq := due_same12 (t : Int) v0 v1 v2 v3 v4 v5 v6 v7 v8 v9
              have hgd := due_guard12
              have HN1 := Lib.hid n1'
              have HUC := Lib.hid huc
              clear huc hoc hu' hu'' hlb hob hxn hxa hck hct hyt hss hss' has hbn hsb x0 n1' p0 p1 p2 p3 p4 p5 p6 p7 p8 p9 p10 hTq
              refine wp_region_ext (by kernel_rfl) (by kernel_rfl) ?_
              repeat (go_big_quiet_step (fail))
              refine wpQuiet_nil ?_
              intro w' hw'
              obtain ⟨⟨w9, hb9⟩, hw''⟩ := hw'
              dsimp only at hw''
              subst hw''
              as_aux_lemma =>
                clear hnq hgd E0 E1 E2 t0 t1 t2 t3 t4 t5 t6 t7 t8 t9 t10 u0 u1 u2 u3 u4 u5 u6 u7 u8 u9 u10 hg0 hg1 hg2 hg3 hg4 hg5
                obtain ⟨V1, hV1⟩ : ∃ V, V = w' := ⟨_, rfl⟩
                subst hV1
                have HX1 := Lib.hid hb9
                have H81 : Hid (Below w8.heap.size w8 V1) := Lib.hid (H8X.out.trans (hb9.mono H8X.out.size))
                have FX := Lib.hid (FX.out.keep hb9)
                have C1 := Lib.hid (C2.out.keep hb9)
                have HGX := Lib.hid C2.out.lt
                clear hb9 C2 OR
                have hw2 : IntKind.i64.wrap ((q : Int) + 1) = (q : Int) + 1 := by rw [IntKind.wrap_i64]; omega
                go_upto_region 18 with fail
                obtain ⟨sb', so', s', hsae, hsb, hss', hsa, -⟩ := (HSR.out V1 FX.out.f.below).sta hts
                injection hsae with hsae
                injection hsae with e1 e2
                subst e1; subst e2
                obtain rfl : s = s' := Option.some.inj (HSS.out.symm.trans hss')
                obtain ⟨s0, s1, s2, s3⟩ := hsa
                have n1 : V1.cell? ⟨G, 1, none⟩ = some (.int .i64 t) := (HX1.out.cell (p := ⟨G, 1, none⟩) HGX.out).trans HN1.out
                have o1 := (HX1.out.cell (p := ⟨ob, oo + 1, none⟩) HOB.out).trans P.out.1
                have o2 := (HX1.out.cell (p := ⟨ob, oo + 2, none⟩) HOB.out).trans P.out.2.1
                have o3 := (HX1.out.cell (p := ⟨ob, oo + 3, none⟩) HOB.out).trans P.out.2.2.1
                have o4 := (HX1.out.cell (p := ⟨ob, oo + 4, none⟩) HOB.out).trans P.out.2.2.2.1
                have o5 := (HX1.out.cell (p := ⟨ob, oo + 5, none⟩) HOB.out).trans P.out.2.2.2.2.1
                have o6 := (HX1.out.cell (p := ⟨ob, oo + 6, none⟩) HOB.out).trans P.out.2.2.2.2.2.1
                have o7 := (HX1.out.cell (p := ⟨ob, oo + 7, none⟩) HOB.out).trans P.out.2.2.2.2.2.2.1
                have o8 := (HX1.out.cell (p := ⟨ob, oo + 8, none⟩) HOB.out).trans P.out.2.2.2.2.2.2.2.1
                have o9 := (HX1.out.cell (p := ⟨ob, oo + 9, none⟩) HOB.out).trans P.out.2.2.2.2.2.2.2.2.1
                have o10 := (HX1.out.cell (p := ⟨ob, oo + 10, none⟩) HOB.out).trans P.out.2.2.2.2.2.2.2.2.2
                have HL2 : Hid (ob < V1.heap.size ∧ sb < V1.heap.size ∧ G < V1.heap.size) := Lib.hid ⟨Nat.lt_of_lt_of_le HOB.out HX1.out.size, hsb, C1.out.lt⟩
                have SV : V1.cell? ⟨ob, oo + 1, none⟩ = some (.int .i64 v0) ∧ V1.cell? ⟨ob, oo + 2, none⟩ = some (.int .i64 v1) ∧ V1.cell? ⟨ob, oo + 3, none⟩ = some (.string v2) ∧ V1.cell? ⟨ob, oo + 4, none⟩ = some (.bool v3) ∧ V1.cell? ⟨ob, oo + 5, none⟩ = some (.bool v4) ∧ V1.cell? ⟨ob, oo + 6, none⟩ = some (.string v5) ∧ V1.cell? ⟨ob, oo + 7, none⟩ = some (.string v6) ∧ V1.cell? ⟨ob, oo + 8, none⟩ = some (.int .i64 v7) ∧ V1.cell? ⟨ob, oo + 9, none⟩ = some (.int .i64 v8) ∧ V1.cell? ⟨ob, oo + 10, none⟩ = some (.bool v9) ∧ V1.cell? ⟨sb, so + t * 4, none⟩ = some (.int .i64 s.phase) ∧ V1.cell? ⟨sb, so + t * 4 + 1, none⟩ = some (.int .i64 s.dfn) ∧ V1.cell? ⟨sb, so + t * 4 + 2, none⟩ = some (.int .i64 s.owner) ∧ V1.cell? ⟨sb, so + t * 4 + 3, none⟩ = some (.bool s.barred) ∧ V1.cell? ⟨G, 1, none⟩ = some (.int .i64 t) ∧ Below V1.heap.size V1 V1 := ⟨o1, o2, o3, o4, o5, o6, o7, o8, o9, o10, s0, s1, s2, s3, n1, Below.refl _ _⟩
                clear o1 o2 o3 o4 o5 o6 o7 o8 o9 o10 s0 s1 s2 s3 n1 hss' hsb P HUC HOB
                go_cut [16, 17] (fun p c wx => True ∧ ∃ (g1 g2 : Nat), p = .pointer (some ⟨g1, 0, none⟩) ∧ c = .pointer (some ⟨g2, 0, none⟩) ∧ Hid (CBox wx g1 (todoCs ⟨v0, v1, v2, v3, v4, v5, v6, v7, v8, v9⟩).toList ∧ CBox wx g2 (staL s) ∧ Below V1.heap.size V1 wx))
                case first =>
                  as_aux_lemma =>
                    go_region_held3 (fun w' => w'.cell? ⟨ob, oo + 1, none⟩ = some (.int .i64 v0) ∧ w'.cell? ⟨ob, oo + 2, none⟩ = some (.int .i64 v1) ∧ w'.cell? ⟨ob, oo + 3, none⟩ = some (.string v2) ∧ w'.cell? ⟨ob, oo + 4, none⟩ = some (.bool v3) ∧ w'.cell? ⟨ob, oo + 5, none⟩ = some (.bool v4) ∧ w'.cell? ⟨ob, oo + 6, none⟩ = some (.string v5) ∧ w'.cell? ⟨ob, oo + 7, none⟩ = some (.string v6) ∧ w'.cell? ⟨ob, oo + 8, none⟩ = some (.int .i64 v7) ∧ w'.cell? ⟨ob, oo + 9, none⟩ = some (.int .i64 v8) ∧ w'.cell? ⟨ob, oo + 10, none⟩ = some (.bool v9) ∧ w'.cell? ⟨sb, so + t * 4, none⟩ = some (.int .i64 s.phase) ∧ w'.cell? ⟨sb, so + t * 4 + 1, none⟩ = some (.int .i64 s.dfn) ∧ w'.cell? ⟨sb, so + t * 4 + 2, none⟩ = some (.int .i64 s.owner) ∧ w'.cell? ⟨sb, so + t * 4 + 3, none⟩ = some (.bool s.barred) ∧ w'.cell? ⟨G, 1, none⟩ = some (.int .i64 t) ∧ Below V1.heap.size V1 w')
                      (with_reducible first | (refine keep15 ⟨HL2.out.1, HL2.out.1, HL2.out.1, HL2.out.1, HL2.out.1, HL2.out.1, HL2.out.1, HL2.out.1, HL2.out.1, HL2.out.1, HL2.out.2.1, HL2.out.2.1, HL2.out.2.1, HL2.out.2.1, HL2.out.2.2⟩ SV ?_; first | exact (Below.refl _ _).drew | exact (two_box _ _ _).drew | exact two_box _ _ _ | exact box_below _ _ | exact (box_below _ _).drew) | assumption)
                      (fail)
                    all_goals
                      go_wp2_with fail
                      go_meet
                      first
                        | exact ⟨trivial, V1.heap.size, V1.heap.size + 1, rfl, rfl, Lib.hid (two_boxes_drew V1 ⟨v0, v1, v2, v3, v4, v5, v6, v7, v8, v9⟩ s _ _)⟩
                        | exact ⟨trivial, V1.heap.size, V1.heap.size + 1, rfl, rfl, Lib.hid (two_boxes V1 ⟨v0, v1, v2, v3, v4, v5, v6, v7, v8, v9⟩ s _ _)⟩
                        | exact ⟨trivial, V1.heap.size + 1, V1.heap.size, rfl, rfl, Lib.hid (swap_boxes_drew V1 ⟨v0, v1, v2, v3, v4, v5, v6, v7, v8, v9⟩ s _ _)⟩
                        | exact ⟨trivial, V1.heap.size + 1, V1.heap.size, rfl, rfl, Lib.hid (swap_boxes V1 ⟨v0, v1, v2, v3, v4, v5, v6, v7, v8, v9⟩ s _ _)⟩
                case rest =>
                  obtain ⟨-, g1, g2, rfl, rfl, HG⟩ := hcut
                  obtain ⟨Y, rfl⟩ : ∃ X, X = wc := ⟨_, rfl⟩
                  as_aux_lemma =>
                    have FX := Lib.hid (FX.out.keep HG.out.2.2)
                    have C1 := Lib.hid (C1.out.keep HG.out.2.2)
                    have BT := Lib.hid HG.out.1
                    have BS := Lib.hid HG.out.2.1
                    have H8Y : Hid (Below w8.heap.size w8 Y) := Lib.hid (H81.out.trans (HG.out.2.2.mono H81.out.size))
                    clear SV HG HL2 HX1 H8X H81
                    have END : Hid ((q : Int) + 1 = ((q + 1 : Nat) : Int) ∧ q + 1 = (upW (coreL K) S ⟨D, M, nx, bz⟩ (coreCl C) N (k + 1)).length) := Lib.hid ⟨by omega, by rw [HS2.out, List.length_append, ← HQ.out]; rfl⟩
                    rcases asked_inv HAS.out with ⟨hph, hyk, hz, hv⟩ | ⟨hph, dcl, hcl, htold, hv⟩
                    · injection hv with e0 e1 e2 e3 e4 e5 e6 e7 e8 e9
                      subst e0; subst e2; subst e3; subst e4; subst e5; subst e6; subst e7; subst e8; subst e9
                      obtain ⟨z, hze⟩ : ∃ z, fateC ⟨D, M, nx, bz⟩ xn.core = z := ⟨_, rfl⟩
                      rw [hze] at hz e1
                      subst e1
                      have CF : Hid (∀ x : Ext Y, Calls Tryz.prog 29 #[forV (some ⟨b, off, none⟩) len cap m, .int .i64 (t : Int), deskV da dl dc wa wl wc_ nx bz] x.v fun e w' => e = .returned (.int .i64 v1) ∧ Below x.v.heap.size x.v w') := Lib.hid (fun x => by
                        have F := FX.out.keep x.below
                        have h := fateFn_any (some ⟨b, off, none⟩) len cap m K (t : Int) da dl dc wa wl wc_ nx bz D M x.v F.f.row HM.out ⟨by omega, by omega⟩ RP.out.sf F.d.d F.d.t
                        rw [show fateZ m (coreL K) (t : Int) ⟨D, M, nx, bz⟩ = v1 by rw [← hze]; exact fate_elem RP.out HCT.out] at h
                        exact h)
                      have t0 : Y.cell? ⟨g1, 0, none⟩ = some (.int .i64 9) := BT.out.c 0 _ rfl
                      go_upto_region 20 with fail
                      clear t0
                      as_aux_lemma =>
                        have HZ1 : (v1 == -1) = false := beq_eq_false_iff_ne.2 hz
                        have E1 := Ext.cell (show Y.cell? ⟨g1, 1, none⟩ = some (.int .i64 v1) from BT.out.c 1 _ rfl) BT.out.lt
                        have E2 := Ext.cell (show Y.cell? ⟨g2, 0, none⟩ = some (.int .i64 1) by rw [← hph]; exact BS.out.c 0 _ rfl) BS.out.lt
                        have E3 := Ext.cell (show Y.cell? ⟨G, 0, none⟩ = some (.int .i64 1) by rw [← hyk]; exact C1.out.c 0 _ rfl) C1.out.lt
                        have E4 := Ext.cell (show Y.cell? ⟨G, 1, none⟩ = some (.int .i64 t) by rw [← HYT.out]; exact C1.out.c 1 _ rfl) C1.out.lt
                        have E5 := Ext.cell FX.out.f.c0 FX.out.lt.1
                        have E6 := Ext.cell FX.out.f.c1 FX.out.lt.1
                        have E7 := Ext.cell FX.out.d.c0 FX.out.lt.2
                        have E8 := Ext.cell FX.out.d.c1 FX.out.lt.2
                        have E9 := Ext.cell FX.out.d.c2 FX.out.lt.2
                        have E10 := Ext.cell FX.out.d.c3 FX.out.lt.2
                        refine wp_region_ext (by kernel_rfl) (by kernel_rfl) ?_
                        repeat (go_big_quiet_step ((go_at_call 29; exact Ext.call_below (CF.out _))))
                        refine wpQuiet_nil ?_
                        intro w' hw'
                        obtain ⟨⟨w9, hb9⟩, hw''⟩ := hw'
                        dsimp only at hw''
                        subst hw''
                        clear E1 E2 E3 E4 E5 E6 E7 E8 E9 E10
                        have HBF : Hid (Below w8.heap.size w8 w') := Lib.hid (H8Y.out.trans (hb9.mono H8Y.out.size))
                        clear hb9
                        go_wp2_with fail
                        go_roundw
                        case rel => exact ⟨k + 1, by omega, by go_num, ⟨q + 1, by go_num, by omega, Lib.hid END.out.2⟩, HBF⟩
                        case measure => simp [intOf]; omega
                    · injection hv with e0 e1 e2 e3 e4 e5 e6 e7 e8 e9
                      subst e0; subst e1; subst e2; subst e3; subst e4; subst e5; subst e6; subst e7; subst e8; subst e9
                      obtain ⟨hk9, hhe, hwa⟩ := told_inv htold
                      have HCL := Lib.hid hcl
                      have HHE := Lib.hid hhe
                      have HWA := Lib.hid hwa
                      have HPH := Lib.hid hph
                      clear hcl hhe hwa htold hph
                      have CA : Hid (Calls Tryz.prog 18 #[stateV s, deskV da dl dc wa wl wc_ nx bz, .slice ca cl cc] Y fun e w' => ∃ (c : ClassD) (ok : Bool), e = .returned (.tuple #[c.val, .bool ok]) ∧ ClassAt w' c ∧ Below Y.heap.size Y w' ∧ (∀ q, q < Y.heap.size → (∀ z ∈ C, ClassOff q z) → ClassOff q c) ∧ ((ok = false ∧ classZ s D (coreCl C) = none ∧ c.core = clsNone.core) ∨ (ok = true ∧ classZ s D (coreCl C) = some c.core))) := Lib.hid (classFn_any s da dl dc wa wl wc_ nx bz ca cl cc D C Y FX.out.d.d (HCR.out Y FX.out.f.below) RP.out.sc)
                      have hk91 : (y.kind == 9) = false := beq_eq_false_iff_ne.2 hk9
                      have t0 : Y.cell? ⟨g1, 0, none⟩ = some (.int .i64 y.kind) := BT.out.c 0 _ rfl
                      have s0 := BS.out.c 0 _ rfl
                      have s1 := BS.out.c 1 _ rfl
                      have s2 := BS.out.c 2 _ rfl
                      have s3 := BS.out.c 3 _ rfl
                      (have z0 := FX.out.f.c0; have z1 := FX.out.f.c1; have d0 := FX.out.d.c0; have d1 := FX.out.d.c1; have d2 := FX.out.d.c2; have d3 := FX.out.d.c3)
                      go_upto_region 23 with (go_at_call 18; (with_reducible refine CA.out.mono ?_); rintro e w9 ⟨c, ok, rfl, hca, hb, -, hor⟩; have HCA := Lib.hid hca; have HOR := Lib.hid hor; clear hca hor)
                      obtain ⟨rfl, rfl⟩ : ok = true ∧ dcl = c.core := by
                        rcases HOR.out with ⟨-, e, -⟩ | ⟨e1, e2⟩
                        · rw [HCL.out] at e; cases e
                        · rw [HCL.out] at e2
                          exact ⟨e1, Option.some.inj e2⟩
                      as_aux_lemma =>
                        clear HOR CA t0 s0 s1 s2 s3
                        (clear z0 z1 d0 d1 d2 d3)
                        obtain ⟨Z, hZ, BK, -, hbz⟩ := boxes1 w9 (encClD c).toArray 40
                        have hZ2 : w9.alloc (.cells #[.bool c.form, .slice c.wa c.wn c.wk, .slice c.pa c.pn c.pk, .slice c.ma c.mn c.mc, .slice c.ha c.hn c.hk] 40) = Z := hZ
                        rw [hZ2]
                        have BK : CBox Z w9.heap.size (encClD c) := BK
                        have HYZ : Hid (Below Y.heap.size Y Z) := Lib.hid (hb.trans (hbz.mono hb.size))
                        have HCA := Lib.hid (HCA.out.below hbz)
                        have BT := Lib.hid (BT.out.keep HYZ.out)
                        have BS := Lib.hid (BS.out.keep HYZ.out)
                        have C1 := Lib.hid (C1.out.keep HYZ.out)
                        have BKH := Lib.hid BK
                        have H8Z : Hid (Below w8.heap.size w8 Z) := Lib.hid (H8Y.out.trans (HYZ.out.mono H8Y.out.size))
                        clear hZ hZ2 hb hbz BK
                        have CH : Hid (Calls Tryz.prog 11 #[c.val, .int .i64 y.kind] Z fun e w' => e = .returned (.bool true) ∧ Below Z.heap.size Z w') := Lib.hid (by
                          have h := hears_any c y.kind Z HCA.out
                          rw [HHE.out] at h
                          exact h)
                        have k0 := BKH.out.c 0 _ rfl
                        have k1 := BKH.out.c 1 _ rfl
                        have k2 := BKH.out.c 2 _ rfl
                        have k3 := BKH.out.c 3 _ rfl
                        have k4 := BKH.out.c 4 _ rfl
                        have s0 : Z.cell? ⟨g2, 0, none⟩ = some (.int .i64 3) := by rw [← HPH.out]; exact BS.out.c 0 _ rfl
                        have t0 := BT.out.c 0 _ rfl
                        go_upto_region 25 with (go_at_call 11; (with_reducible refine CH.out.mono ?_); rintro e w10 ⟨rfl, hb⟩; have HZ10 := Lib.hid hb; clear hb k0 k1 k2 k3 k4 s0 t0; (have BT := Lib.hid (BT.out.keep HZ10.out); have C1 := Lib.hid (C1.out.keep HZ10.out); have BKH := Lib.hid (BKH.out.keep HZ10.out); have t0 := BT.out.c 0 _ rfl; have t1 := BT.out.c 1 _ rfl; have t2 := BT.out.c 2 _ rfl; have t3 := BT.out.c 3 _ rfl; have t4 := BT.out.c 4 _ rfl; have t5 := BT.out.c 5 _ rfl; have t6 := BT.out.c 6 _ rfl; have t7 := BT.out.c 7 _ rfl; have t8 := BT.out.c 8 _ rfl; have t9 := BT.out.c 9 _ rfl; have n0 := C1.out.c 0 _ rfl; have n1 := C1.out.c 1 _ rfl; have n2 := C1.out.c 2 _ rfl; have n3 := C1.out.c 3 _ rfl; have n4 := C1.out.c 4 _ rfl; have n5 := C1.out.c 5 _ rfl; have n6 := C1.out.c 6 _ rfl; have n7 := C1.out.c 7 _ rfl; have n8 := C1.out.c 8 _ rfl; skip))
                        as_aux_lemma =>
                          clear t1 t2 t3 t4 t5 t6 t7 t8 t9 n0 n1 n2 n3 n4 n5 n6 n7 n8
                          have HBX : Hid (Below w8.heap.size w8 w10) := Lib.hid (H8Z.out.trans (HZ10.out.mono H8Z.out.size))
                          by_cases hk4 : y.kind = 4
                          · have e4 : (y.kind == 4) = true := beq_iff_eq.2 hk4
                            have CW : Hid (Calls Tryz.prog 13 #[c.val, .string y.name] w10 fun e w' => e = .returned (.bool true) ∧ Below w10.heap.size w10 w') := Lib.hid (by
                              have h := watches_any c y.name w10 (HCA.out.below HZ10.out)
                              rw [HWA.out hk4] at h
                              exact h)
                            clear hk4
                            have k0 := BKH.out.c 0 _ rfl
                            have k1 := BKH.out.c 1 _ rfl
                            have k2 := BKH.out.c 2 _ rfl
                            have k3 := BKH.out.c 3 _ rfl
                            have k4 := BKH.out.c 4 _ rfl
                            have t2 := BT.out.c 2 _ rfl
                            go_wp2_with (go_at_call 13; (with_reducible refine CW.out.mono ?_); rintro e w11 ⟨rfl, hb⟩; have HBX := Lib.hid (HBX.out.trans (hb.mono HBX.out.size)); clear hb)
                            go_roundw
                            case rel => exact ⟨k + 1, by omega, by go_num, ⟨q + 1, by go_num, by omega, Lib.hid END.out.2⟩, HBX⟩
                            case measure => simp [intOf]; omega
                          · have e4 : (y.kind == 4) = false := beq_eq_false_iff_ne.2 hk4
                            clear hk4
                            go_wp2_with fail
                            go_roundw
                            case rel => exact ⟨k + 1, by omega, by go_num, ⟨q + 1, by go_num, by omega, Lib.hid END.out.2⟩, HBX⟩
                            case measure => simp [intOf]; omega
    · have hkd : k = nl := by omega
      subst hkd
      have hq : q = ll := by rw [← HTL.out, HQ.out, upW_end HNL.out, HT.out]
      have hee : ((q : Int) == (ll : Int)) = true := by rw [hq]; simp
      go_wp2_with fail
      go_ret
      exact ⟨by simp [hq], FX.out.f.below⟩
end Go.Proofs.YtbkhngoehoiccaaGreat
