/- Texts joined in build order: HeirTries. -/
import Derived.Test.YtkomeijlljcdgaaGreatR30
import Derived.Test.YtkomeijlljcdgaaGreatR29
namespace Go.Proofs.YtkomeijlljcdgaaGreat
open Go.RowKit Go.Shelf
attribute [local go_sem] Oper.semAt_some
def triesZ (m : Int) (F : List Core) (n : Int) (D : DeskD) : List DueD :=
  if rightK D = true then (elemsZ m F n).filterMap (fun z => match getC F z with | some c => if fateC D c = -1 then none else some ⟨z, upT (fateC D c)⟩ | none => none) else []
def selT (D : DeskD) (pre : List (Int × NodeD)) : List DueD := pre.filterMap fun p => if fateC D p.2.core = -1 then none else some ⟨p.1, upT (fateC D p.2.core)⟩
theorem selT_hit {D : DeskD} (pre : List (Int × NodeD)) {x : Int × NodeD} (h : fateC D x.2.core ≠ -1) : selT D (pre ++ [x]) = selT D pre ++ [⟨x.1, upT (fateC D x.2.core)⟩] := by simp [selT, h]
theorem selT_miss {D : DeskD} (pre : List (Int × NodeD)) {x : Int × NodeD} (h : fateC D x.2.core = -1) : selT D (pre ++ [x]) = selT D pre := by simp [selT, h]
theorem fateC_calm {L : List DefD} {M : List WaitD} {nx : Int} {bz : Bool} (h : rightK ⟨L, M, nx, bz⟩ = true) (c : Core) : fateC ⟨L, [], nx, bz⟩ c = fateC ⟨L, M, nx, bz⟩ c := by
  have h2 : rightK ⟨L, [], nx, bz⟩ = true := by
    unfold rightK at h ⊢
    simp only [Bool.and_eq_true] at h ⊢
    exact ⟨h.1, rfl⟩
  unfold fateC
  rw [ifRight_yes h, ifRight_yes h2]
theorem filterMap_map {α β γ : Type} (f : α → β) (g : β → Option γ) (l : List α) : (l.map f).filterMap g = l.filterMap (fun x => g (f x)) := by
  rw [List.filterMap_map]
  rfl
theorem filterMap_same {α β : Type} {f g : α → Option β} : ∀ {l : List α}, (∀ x ∈ l, f x = g x) → l.filterMap f = l.filterMap g
  | [], _ => rfl
  | x :: r, h => by
    rw [List.filterMap_cons, List.filterMap_cons, h x (by simp), filterMap_same (fun y hy => h y (by simp [hy]))]
theorem selT_all {m nn : Int} {K : List NodeD} {D : DeskD} (h : rightK D = true) : selT D (seqE K (elemsZ m (coreL K) nn) (elemsZ m (coreL K) nn).length) = triesZ m (coreL K) nn D := by
  unfold selT seqE triesZ
  rw [List.take_of_length_le (Nat.le_refl _), if_pos h, filterMap_map]
  refine filterMap_same fun z hz => ?_
  obtain ⟨t, rfl, ht⟩ := elemsZ_in hz
  rw [coreL_len] at ht
  have hx : K[t]? = some K[t] := List.getElem?_eq_getElem ht
  show (if fateC D (nodeK K (t : Int)).core = -1 then none else some (⟨(t : Int), upT (fateC D (nodeK K (t : Int)).core)⟩ : DueD)) = _
  rw [getC_nat, coreL_get hx]
  have : nodeK K (t : Int) = K[t] := by
    unfold nodeK
    rw [Int.toNat_natCast, hx]
    rfl
  rw [this]
theorem selT_calm {L : List DefD} {M : List WaitD} {nx : Int} {bz : Bool} (h : rightK ⟨L, M, nx, bz⟩ = true) (pre : List (Int × NodeD)) : selT ⟨L, [], nx, bz⟩ pre = selT ⟨L, M, nx, bz⟩ pre := by
  unfold selT
  refine filterMap_same fun p _ => ?_
  rw [fateC_calm h]
theorem selT_len (D : DeskD) (pre : List (Int × NodeD)) : (selT D pre).length ≤ pre.length := List.length_filterMap_le _ _
theorem kpE_below {Bx : Nat} {W W2 : World} (hlt : Bx < W.heap.size) (hb : Below W.heap.size W W2) : KpE Bx W W2 := by
  refine ⟨hb.size, fun b o u _ _ hc => (hb.cell (p := ⟨b, o, none⟩) (cell_lt hc)).trans hc, fun r hr => .inl ?_⟩
  unfold rowB at hr ⊢
  rwa [hb.cell (p := ⟨Bx, 0, none⟩) hlt] at hr
theorem box_after {W : World} {b o d j : Nat} {u v : Value} (hb : b < W.heap.size) (hne : b ≠ d) (hc : W.cell? ⟨b, o, none⟩ = some u) : ∀ ob : Obj, ((W.setCell ⟨d, j, none⟩ v).alloc ob).cell? ⟨b, o, none⟩ = some u := fun ob =>
  (World.cell?_alloc_lt _ ob ⟨b, o, none⟩ (by simpa [World.setCell] using hb)).trans ((World.cell?_setCell_other _ _ _ _ (fun e => by injection e with e _; exact hne e.symm)).trans hc)
set_option maxHeartbeats 8000000 in
set_option maxRecDepth 100000 in
theorem tries_any (a : Option Addr) (len cap : Nat) (m nn : Int) (K : List NodeD) (da : Option Addr) (dl dc : Nat) (wa : Option Addr) (wl wc : Nat) (nx : Int) (bz : Bool) (L : List DefD) (M : List WaitD) (w : World) (h : NodeRow w a len cap K) (hm : In64 m) (hnn : In64 nn) (hs : smallF K) (hd : DefRow w da dl dc L) (ht : WaitRow w wa wl wc M) :
    Calls Tryz.prog 16 #[forV a len cap m, .int .i64 nn, deskV da dl dc wa wl wc nx bz] w (DuePost w (triesZ m (coreL K) nn ⟨L, M, nx, bz⟩)) := by
  have HL := Lib.hid h.hlen
  have CR : Hid (∀ W, Below w.heap.size w W → Calls Tryz.prog 23 #[deskV da dl dc wa wl wc nx bz] W fun e w' => e = .returned (.bool (rightK ⟨L, M, nx, bz⟩)) ∧ Below W.heap.size W w') := Lib.hid (fun W hb => deskright_any da dl dc wa wl wc nx bz L M W (hd.below hb) (ht.below hb))
  have hs1 : (w.alloc (forB a len cap m)).heap.size = w.heap.size + 1 := by simp
  obtain ⟨w0, hw0, BX, D0, D1, D2, D3, DBK, HB0⟩ : ∃ w0, (w.alloc (forB a len cap m)).alloc (deskB da dl dc wa wl wc nx bz) = w0 ∧ Hid (Box w w0 w.heap.size a len cap m K (coreL K)) ∧ Hid (w0.cell? ⟨w.heap.size + 1, 0, none⟩ = some (.slice da dl dc)) ∧ Hid (w0.cell? ⟨w.heap.size + 1, 1, none⟩ = some (.slice wa wl wc)) ∧ Hid (w0.cell? ⟨w.heap.size + 1, 2, none⟩ = some (.int .i64 nx)) ∧ Hid (w0.cell? ⟨w.heap.size + 1, 3, none⟩ = some (.bool bz)) ∧ Hid (w0.heap[w.heap.size + 1]? = some (deskB da dl dc wa wl wc nx bz)) ∧ Hid (Below w.heap.size w w0) := by
    have hb := below_box (w.alloc (forB a len cap m)) (deskB da dl dc wa wl wc nx bz)
    have hk : ((w.alloc (forB a len cap m)).alloc (deskB da dl dc wa wl wc nx bz)).heap[w.heap.size + 1]? = some (deskB da dl dc wa wl wc nx bz) := by rw [← hs1]; exact heap_alloc_new _ _
    have d : ∀ (j : Nat), ((w.alloc (forB a len cap m)).alloc (deskB da dl dc wa wl wc nx bz)).cell? ⟨w.heap.size + 1, j, none⟩ = (#[.slice da dl dc, .slice wa wl wc, .int .i64 nx, .bool bz] : Array Value)[j]? := fun j => cell_of_row _ (w.heap.size + 1) j _ 28 (0, 0) hk
    exact ⟨_, rfl, Lib.hid ((Box.start h).keep hb), Lib.hid (d 0), Lib.hid (d 1), Lib.hid (d 2), Lib.hid (d 3), Lib.hid hk, Lib.hid ((below_box _ _).trans (hb.mono (by rw [hs1]; omega)))⟩
  have HW := Lib.hid hw0
  have z0 := BX.out.c0
  have z1 := BX.out.c1
  have d0 := D0.out
  have d1 := D1.out
  have d2 := D2.out
  have d3 := D3.out
  obtain ⟨q, hq⟩ : ∃ q, rightK ⟨L, M, nx, bz⟩ = q := ⟨_, rfl⟩
  rw [hq] at CR
  cases q with
  | false =>
    have HE : Hid (triesZ m (coreL K) nn ⟨L, M, nx, bz⟩ = []) := Lib.hid (by unfold triesZ; rw [hq]; rfl)
    clear h hm hnn hs hd ht hw0 hq hs1
    go_enter Tryz.func16, Tryz.ntmps16
    go_upto_region 1 with fail
    rw [HW.out]
    go_wp2_with (go_at_call 23; (with_reducible refine (CR.out _ HB0.out).mono ?_); rintro e w1 ⟨rfl, hb⟩; have HB1 := Lib.hid (HB0.out.trans (hb.mono HB0.out.size)); clear hb)
    go_ret
    exact ⟨none, 0, 0, rfl, by rw [HE.out]; exact DueRow.nil _, HB1.out⟩
  | true =>
    have HQ := Lib.hid hq
    refine (callsIn_wide (n := 9)).1 ?_
    refine callsIn_of_wp_marks Tryz.func16 rfl trivial ?_ rfl
    simp only [Tryz.ntmps16, List.size_toArray, List.length_cons, List.length_nil, Nat.reduceAdd, Nat.reduceSub, Array.replicate_succ, Array.replicate_zero, List.push_toArray, List.append_toArray, List.nil_append, List.cons_append]
    have HDR : Hid (∀ W, Below w.heap.size w W → DefRow W da dl dc L) := Lib.hid (fun W hb => hd.below hb)
    have HNR : Hid (∀ W, Below w.heap.size w W → NodeRow W a len cap K) := Lib.hid (fun W hb => h.below hb)
    obtain ⟨i0, hi0, hz0, hz1, hz2⟩ := info_parts due_info
    clear d1 hw0 hq
    gi_wp2_with (first
      | (refine ⟨trivial, ?_⟩; gi_at_call 23; refine (callsIn_wide.2 (CR.out _ (by rw [show (w.alloc (forB a len cap m)).alloc (deskB da dl dc wa wl wc nx bz) = w0 from HW.out]; exact HB0.out))).mono ?_; rintro e w1 ⟨rfl, hb⟩; rw [show (w.alloc (forB a len cap m)).alloc (deskB da dl dc wa wl wc nx bz) = w0 from HW.out] at hb; have HB1 := Lib.hid hb; have BX1 := Lib.hid (BX.out.keep hb); have dk1 : w1.heap[w.heap.size + 1]? = some (deskB da dl dc wa wl wc nx bz) := (hb.block _ (Array.getElem?_eq_some_iff.1 DBK.out).1).trans DBK.out; have DK1 := Lib.hid dk1; have y0 : w1.cell? ⟨w.heap.size + 1, 0, none⟩ = some (.slice da dl dc) := cell_of_row w1 _ 0 _ _ (0, 0) dk1; have y1 : w1.cell? ⟨w.heap.size + 1, 1, none⟩ = some (.slice wa wl wc) := cell_of_row w1 _ 1 _ _ (0, 0) dk1; have y2 : w1.cell? ⟨w.heap.size + 1, 2, none⟩ = some (.int .i64 nx) := cell_of_row w1 _ 2 _ _ (0, 0) dk1; have y3 : w1.cell? ⟨w.heap.size + 1, 3, none⟩ = some (.bool bz) := cell_of_row w1 _ 3 _ _ (0, 0) dk1; have yf : w1.frozen? ⟨w.heap.size + 1, 1, none⟩ = false := row_free dk1 1; have b0 := box_after (d := w.heap.size + 1) (j := 1) (v := .slice none 0 0) BX1.out.lt (by omega) BX1.out.c0; have b1 := box_after (d := w.heap.size + 1) (j := 1) (v := .slice none 0 0) BX1.out.lt (by omega) BX1.out.c1; clear hb dk1)
      | (refine ⟨trivial, ?_⟩; gi_at_call 39; refine (callsIn_wide.2 (elemsSeq_any _ _ _ _ _ _)).mono ?_; rintro e w3 ⟨rfl, rfl⟩))
    obtain ⟨W0, Bd, Bx, Bf, Bn, hW0, hBd, hBx, hBf, hBn, HB0', HSZ, HBX, HF0, HF1, HN0, HD0, HROW, HBXW⟩ : ∃ (W0 : World) (Bd Bx Bf Bn : Nat), (((w1.setCell ⟨w.heap.size + 1, 1, none⟩ (.slice none 0 0)).alloc (.cells #[.slice none 0 0] 38)).alloc (forB a len cap m)).alloc (.cells #[.int .i64 nn] 3) = W0 ∧ w.heap.size + 1 = Bd ∧ w1.heap.size = Bx ∧ Bx + 1 = Bf ∧ Bf + 1 = Bn ∧ Hid (Below w.heap.size w W0) ∧ Hid (W0.heap.size = Bn + 1) ∧ Hid (Boxed W0 Bx 38 (.slice none 0 0)) ∧ Hid (W0.cell? ⟨Bf, 0, none⟩ = some (.slice a len cap)) ∧ Hid (W0.cell? ⟨Bf, 1, none⟩ = some (.int .i64 m)) ∧ Hid (W0.cell? ⟨Bn, 0, none⟩ = some (.int .i64 nn)) ∧ Hid (W0.heap[Bd]? = some (deskB da dl dc none 0 0 nx bz)) ∧ Hid (NodeRow W0 a len cap K) ∧ Hid (Bd < Bx ∧ w.heap.size < Bx) := by
      refine ⟨_, _, _, _, _, rfl, rfl, rfl, rfl, rfl, ?_⟩
      have hlt1 := (Array.getElem?_eq_some_iff.1 DK1.out).1
      generalize hw2 : w1.setCell ⟨w.heap.size + 1, 1, none⟩ (.slice none 0 0) = w2
      have s2 : w2.heap.size = w1.heap.size := by rw [← hw2]; simp [World.setCell]
      have b2 : Below w.heap.size w w2 := by
        rw [← hw2]
        exact (HB0.out.trans (HB1.out.mono HB0.out.size)).setCell (p := ⟨w.heap.size + 1, 1, none⟩) (by show w.heap.size ≤ w.heap.size + 1; omega) _
      have d2 : w2.heap[w.heap.size + 1]? = some (deskB da dl dc none 0 0 nx bz) := by
        rw [← hw2]
        simp [World.setCell, Array.getElem?_modify, DK1.out]
      generalize hw3 : w2.alloc (.cells #[.slice none 0 0] 38) = w3
      have s3 : w3.heap.size = w1.heap.size + 1 := by rw [← hw3]; simp [s2]
      have b3 : Below w2.heap.size w2 w3 := by rw [← hw3]; exact below_box _ _
      have x3 : Boxed w3 w1.heap.size 38 (.slice none 0 0) := by rw [← hw3, ← s2]; exact Boxed.new w2 _ _
      generalize hw4 : w3.alloc (forB a len cap m) = w4
      have s4 : w4.heap.size = w1.heap.size + 1 + 1 := by rw [← hw4]; simp [s3]
      have b4 : Below w3.heap.size w3 w4 := by rw [← hw4]; exact below_box _ _
      have f4 : ∀ j, w4.cell? ⟨w1.heap.size + 1, j, none⟩ = (#[.slice a len cap, .int .i64 m] : Array Value)[j]? := fun j => by rw [← hw4, ← s3]; exact cell_of_row _ w3.heap.size j _ 24 (0, 0) (heap_alloc_new w3 _)
      generalize hw5 : w4.alloc (.cells #[.int .i64 nn] 3) = w5
      have s5 : w5.heap.size = w1.heap.size + 1 + 1 + 1 := by rw [← hw5]; simp [s4]
      have b5 : Below w4.heap.size w4 w5 := by rw [← hw5]; exact below_box _ _
      have n5 : w5.cell? ⟨w1.heap.size + 1 + 1, 0, none⟩ = some (.int .i64 nn) := by rw [← hw5, ← s4]; exact cell_of_row _ w4.heap.size 0 _ 3 (0, 0) (heap_alloc_new w4 _)
      have b35 : Below w3.heap.size w3 w5 := b4.trans (b5.mono b4.size)
      have b25 : Below w2.heap.size w2 w5 := b3.trans (b35.mono b3.size)
      have hz := b2.size
      have b05 : Below w.heap.size w w5 := b2.trans (b25.mono hz)
      exact ⟨Lib.hid b05, Lib.hid s5, Lib.hid ((b35.block _ x3.lt).trans x3), Lib.hid ((b5.cell (p := ⟨w1.heap.size + 1, 0, none⟩) (by rw [s4]; exact Nat.lt_succ_self _)).trans (f4 0)), Lib.hid ((b5.cell (p := ⟨w1.heap.size + 1, 1, none⟩) (by rw [s4]; exact Nat.lt_succ_self _)).trans (f4 1)), Lib.hid n5, Lib.hid ((b25.block _ (by rw [s2]; exact hlt1)).trans d2), Lib.hid (h.below b05), Lib.hid ⟨hlt1, by omega⟩⟩
    show Code.wpIn _ _ _ _ _ _ ((((w1.setCell ⟨w.heap.size + 1, 1, none⟩ (.slice none 0 0)).alloc (.cells #[.slice none 0 0] 38)).alloc (forB a len cap m)).alloc (.cells #[.int .i64 nn] 3))
    rw [hW0, hBd, hBx, hBf, hBn]
    clear hW0 b0 b1 y0 y1 y2 y3 yf
    have hsz := HSZ.out
    have hbx := HBXW.out
    have hdx : Bd ≠ Bx := by omega
    have hfx : Bf ≠ Bx := by omega
    have hax : ∀ b off, a = some ⟨b, off, none⟩ → 0 < len → b ≠ Bx := fun b off e hp => by
      rcases h.row.cells with h0 | ⟨b2, off2, ha2, hlt, _⟩
      · omega
      · rw [e] at ha2
        injection ha2 with ha2
        injection ha2 with e1
        omega
    refine wpIn_rangeFunc_ownH (F := Fence.wide) (n := 9) rfl (by decide) (gf := 71) (lb := #[.pointer (some ⟨Bf, 0, none⟩), .pointer (some ⟨Bn, 0, none⟩)]) rfl trivial (enters_of Tryz.func71 (by kernel_rfl) rfl)
      (elems_stops 8 (by decide) Bf Bn Bx 38 a len cap m nn K W0 HF0.out HF1.out HN0.out HBX.out hfx hax HROW.out hm hnn hs) KpE.trans (fun W l o o' hl h1 hc _ => KpE.putObj (by omega) h1 hc) (Below.refl _ _) (fun _ => rfl)
      (fun pre W => Coll w.heap.size Bx 38 52 11 w W (selT ⟨L, [], nx, bz⟩ pre).length ((selT ⟨L, [], nx, bz⟩ pre).flatMap encU) ∧ W.heap[Bd]? = some (deskB da dl dc none 0 0 nx bz))
      (fun _ _ _ => False)
      (OwnFrom.and (Coll.own (by omega) _ _) own_blkF)
      (fun _ _ _ _ _ hs _ _ => hs)
      ⟨⟨⟨_, HBX.out, World.ownsRow_nil _ _ _ _⟩, HB0'.out, HB0'.out.size⟩, HD0.out⟩
      (fun x a' W => ∃ Bv, W.heap[Bv]? = some (nodB x.2) ∧ a' = { tmps := #[forV a len cap m, .int .i64 nn, deskV da dl dc wa wl wc nx bz, .pointer (some ⟨w.heap.size, 0, none⟩), undef, .pointer (some ⟨Bd, 0, none⟩), .slice none 0 0, .pointer (some ⟨Bx, 0, none⟩), .int .i64 x.1, .pointer (some ⟨Bv, 0, none⟩), undef, deskV da dl dc wa wl wc nx bz, .bool true, .bool false, .pointer (some ⟨Bd, 1, none⟩), forV a len cap m, .int .i64 nn, .func (.func 71) #[] #[.pointer (some ⟨Bf, 0, none⟩), .pointer (some ⟨Bn, 0, none⟩)], .int .i64 x.1, nodVal x.2, undef, undef, undef, undef, undef, undef, undef, undef, undef, undef, undef, undef, undef], defers := [] })
      ?hAx ?assign ?body ?done ?stop
    case hAx =>
      rintro x a' s W W' row ⟨Bv, hb, he⟩ hg hrow
      refine ⟨Bv, (hg.block Bv (Array.getElem?_eq_some_iff.1 hb).1 (fun e' => ?_)).trans hb, he⟩
      obtain ⟨ob, ho, hc⟩ := (hrow Bv e'.symm).2
      rw [hb] at ho
      cases ho
      cases hc
    case assign =>
      rintro l pre x W K' ⟨hC, hd⟩ hK
      have hbxl : Bx < W.heap.size := by
        obtain ⟨v, hv, _⟩ := hC.row
        exact hv.lt
      gi_wp2
      exact hK _ _ ((KeepsOthers.alloc _ _).from _) (kpE_alloc hbxl _) ⟨(Coll.own (β := Unit) (B' := w.heap.size) (Nat.le_refl _) (fun _ => _) (fun _ => _)).alloc (s := ()) _ hC, (own_blkF (β := Unit) (B' := 0)).alloc (s := ()) _ hd⟩ ⟨W.heap.size, heap_alloc_new W _, rfl⟩
    case body =>
      rintro l pre x a' W hl ⟨r, hr⟩ ⟨hC, hd⟩ ⟨Bv, hBv, rfl⟩ hlt
      obtain ⟨⟨v, hv, hrow⟩, hB, hlo⟩ := hC
      have hpl : (selT ⟨L, [], nx, bz⟩ pre).length ≤ 1000 := by
        have h1 := selT_len ⟨L, [], nx, bz⟩ pre
        have h2 := elemsZ_len m (coreL K) nn
        rw [coreL_len, HL.out] at h2
        have h3 := hs.1
        have h4 := HL.out
        omega
      obtain ⟨kk, hkk⟩ : ∃ kk, (selT ⟨L, [], nx, bz⟩ pre).length = kk := ⟨_, rfl⟩
      rw [hkk] at hrow hpl
      obtain ⟨z, hz⟩ : ∃ z, fateC ⟨L, [], nx, bz⟩ x.2.core = z := ⟨_, rfl⟩
      have hbw : w.heap.size ≤ Bx := by omega
      have hblt := hv.lt
      have CF : Hid (Calls Tryz.prog 38 #[nodVal x.2, deskV da dl dc none 0 0 nx bz] W fun e w' => e = .returned (.int .i64 z) ∧ Below W.heap.size W w') := Lib.hid (by
        have := fate_any x.2 da dl dc none 0 0 nx bz L [] W (HDR.out W hB) (WaitRow.nil W)
        rwa [hz] at this)
      have KA : Hid (∀ W2, Below W.heap.size W W2 → Boxed W2 Bx 38 v ∧ W2.ownsRow w.heap.size 52 11 v kk ((selT ⟨L, [], nx, bz⟩ pre).flatMap encU) ∧ Below w.heap.size w W2 ∧ w.heap.size ≤ W2.heap.size ∧ W2.heap[Bd]? = some (deskB da dl dc none 0 0 nx bz) ∧ KeepsOthers W W2 ∧ KpE Bx W W2) := Lib.hid (fun W2 hb => ⟨(hb.block Bx hblt).trans hv, own_below hrow hb, hB.trans (hb.mono hlo), Nat.le_trans hlo hb.size, (hb.block Bd (Array.getElem?_eq_some_iff.1 hd).1).trans hd, ⟨hb.size, fun k o hk _ => (hb.block k (Array.getElem?_eq_some_iff.1 hk).1).trans hk⟩, kpE_below hblt hb⟩)
      have HKK := Lib.hid hkk
      have HZ := Lib.hid hz
      have d0 : W.cell? ⟨Bd, 0, none⟩ = some (.slice da dl dc) := cell_of_row W Bd 0 _ _ (0, 0) hd
      have d1 : W.cell? ⟨Bd, 1, none⟩ = some (.slice none 0 0) := cell_of_row W Bd 1 _ _ (0, 0) hd
      have d2 : W.cell? ⟨Bd, 2, none⟩ = some (.int .i64 nx) := cell_of_row W Bd 2 _ _ (0, 0) hd
      have d3 : W.cell? ⟨Bd, 3, none⟩ = some (.bool bz) := cell_of_row W Bd 3 _ _ (0, 0) hd
      have y0 : W.cell? ⟨Bv, 0, none⟩ = some (.int .i64 x.2.core.kind) := cell_of_row W Bv 0 _ _ (0, 0) hBv
      have y1 : W.cell? ⟨Bv, 1, none⟩ = some (.string x.2.core.name) := cell_of_row W Bv 1 _ _ (0, 0) hBv
      have y2 : W.cell? ⟨Bv, 2, none⟩ = some (.string x.2.core.is) := cell_of_row W Bv 2 _ _ (0, 0) hBv
      have y3 : W.cell? ⟨Bv, 3, none⟩ = some (.string x.2.core.data) := cell_of_row W Bv 3 _ _ (0, 0) hBv
      have y4 : W.cell? ⟨Bv, 4, none⟩ = some (.slice x.2.aA x.2.aN x.2.aC) := cell_of_row W Bv 4 _ _ (0, 0) hBv
      have y5 : W.cell? ⟨Bv, 5, none⟩ = some (.int .i64 x.2.core.parent) := cell_of_row W Bv 5 _ _ (0, 0) hBv
      have y6 : W.cell? ⟨Bv, 6, none⟩ = some (.slice x.2.kA x.2.kN x.2.kC) := cell_of_row W Bv 6 _ _ (0, 0) hBv
      have y7 : W.cell? ⟨Bv, 7, none⟩ = some (.int .i64 x.2.core.host) := cell_of_row W Bv 7 _ _ (0, 0) hBv
      have y8 : W.cell? ⟨Bv, 8, none⟩ = some (.int .i64 x.2.core.under) := cell_of_row W Bv 8 _ _ (0, 0) hBv
      have y9 : W.cell? ⟨Bv, 9, none⟩ = some (.int .i64 x.2.core.doc) := cell_of_row W Bv 9 _ _ (0, 0) hBv
      clear hv hrow hB hd hkk hBv hlt hr hz hblt
      by_cases hz1 : z = -1
      · have e1 : (z != -1) = false := by rw [hz1]; rfl
        have HZ1 := Lib.hid hz1
        clear hz1
        gi_wp2_with (refine ⟨trivial, ?_⟩; gi_at_call 38; refine (CallsIn.inRound l (callsIn_wide.2 CF.out)).mono ?_; rintro e W2 ⟨rfl, hb⟩; obtain ⟨hv2, hr2, hB2, hlo2, hd2, hko, hkp⟩ := KA.out W2 hb; have HV2 := Lib.hid hv2; have HR2 := Lib.hid hr2; have HB2 := Lib.hid hB2; have HD2 := Lib.hid hd2; have HKO := Lib.hid hko; have HKP := Lib.hid hkp; clear hb hv2 hr2 hB2 hd2 hko hkp d0 d1 d2 d3 y0 y1 y2 y3 y4 y5 y6 y7 y8 y9)
        have hq := selT_miss (D := ⟨L, [], nx, bz⟩) pre (x := x) (HZ.out.trans HZ1.out)
        refine ⟨HKO.out.from _, HKP.out, ⟨⟨v, HV2.out, ?_⟩, HB2.out, hlo2⟩, HD2.out⟩
        rw [hq, HKK.out]
        exact HR2.out
      · have e1 : (z != -1) = true := bne_iff_ne.2 hz1
        have HZ1 := Lib.hid hz1
        clear hz1
        gi_wp2_with (first
          | (refine ⟨trivial, ?_⟩; gi_at_call 38; refine (CallsIn.inRound l (callsIn_wide.2 CF.out)).mono ?_; rintro e W2 ⟨rfl, hb⟩; obtain ⟨hv2, hr2, hB2, hlo2, hd2, hko, hkp⟩ := KA.out W2 hb; have HV2 := Lib.hid hv2; have HR2 := Lib.hid hr2; have HB2 := Lib.hid hB2; have HD2 := Lib.hid hd2; have HKO := Lib.hid hko; have HKP := Lib.hid hkp; have hc := hv2.cell; have hfz := hv2.frozen; clear hb hv2 hr2 hB2 hd2 hko hkp d0 d1 d2 d3 y0 y1 y2 y3 y4 y5 y6 y7 y8 y9)
          | (gi_at_builtin; refine wpListIn_append_keep _ rfl _ _ 38 rfl w.heap.size 52 i0 _ 11 104 Tryz.underlying38 hi0 hz0 hz1 hz2 rfl (by decide) v kk ((selT ⟨L, [], nx, bz⟩ pre).flatMap encU) rfl (HR2.out.alloc _) ⟨W2.heap.size, 0, none⟩ 1 1 (encU ⟨x.1, upT z⟩) rfl rfl (fun j u hj => by rw [Go.WideShapes.add_plain, Nat.zero_add]; exact (cell_of_row _ W2.heap.size j _ 52 (0, 0) (heap_alloc_new W2 _)).trans (by simpa [encU] using hj)) (encU_one _) (by decide) (by unfold maxLen; omega) (by omega) (by simp; omega) ?_; intro g6 cap6 w6 hown6 hold6 hg6 hat6 hlt6; obtain ⟨hv1, hv2, hr2, hk2, hb2⟩ := HV2.out.appended (by decide) HR2.out hlo2 hbw hown6 hg6; have hc6 := hv1.cell; have hf6 := hv1.frozen; have HDN := Lib.hid (blk_append (Bx := Bx) (v' := .slice (some ⟨g6, 0, none⟩) (kk + 1) cap6) HD2.out (by omega) HR2.out (by decide) hg6); have HKP2 := Lib.hid (kpE_append (v' := .slice (some ⟨g6, 0, none⟩) (kk + 1) cap6) HV2.out HR2.out hg6 (hat6.imp (fun e => e.symm) (fun e => by rw [← e]; rfl)) (by decide)); clear hown6 hold6 hg6 hat6 hlt6))
        have hq := selT_hit (D := ⟨L, [], nx, bz⟩) pre (x := x) (by rw [HZ.out]; exact HZ1.out)
        refine ⟨(HKO.out.trans hk2).from _, HKP.out.trans HKP2.out, ⟨⟨_, hv2, ?_⟩, HB2.out.trans hb2, Nat.le_trans hlo2 hk2.size⟩, HDN.out⟩
        rw [hq, HZ.out, List.flatMap_append, List.length_append, HKK.out]
        exact hr2
    case done =>
      rintro D ys W hD rfl ⟨hC, hd⟩ hK
      obtain ⟨v, hv, hrow⟩ := hC.row
      have hc := hv.cell
      gi_wp2
      refine ⟨by simp, .inl ⟨_, _, rfl, run_takeDeferred hK, ?_⟩⟩
      have hC2 := (Coll.own (β := Unit) (B' := w.heap.size) (Bx := Bx) (t := 38) (e := 52) (size := 11) (w := w) (Nat.le_refl _) (fun _ => _) (fun _ => _)).putObj (s := ()) (.deferred none) hC (by omega) hK rfl
      have hro := ownsRow_putObj hrow (.deferred none) hK rfl
      obtain ⟨a5, c5, rfl, hI⟩ := DueRow.of_own rfl hro
      refine ⟨_, results_tmp rfl _ _ _, a5, _, c5, rfl, ?_, hC2.below⟩
      rw [← selT_all HQ.out, ← selT_calm HQ.out]
      exact hI
    case stop =>
      rintro D c pre W _ _ h _
      exact h.elim
end Go.Proofs.YtkomeijlljcdgaaGreat
