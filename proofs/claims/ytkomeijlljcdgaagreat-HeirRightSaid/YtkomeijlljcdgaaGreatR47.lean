/- Texts joined in build order: Ref10Tries. -/
import Derived.Test.YtkomeijlljcdgaaGreatR44
import Derived.Test.YtkomeijlljcdgaaGreatR37
import Derived.Test.YtkomeijlljcdgaaGreatR30
import Derived.Test.YtkomeijlljcdgaaGreatR09
namespace Go.Proofs.YtkomeijlljcdgaaGreat
open Go.RowKit
def selU (F : List Core) (D : DeskD) (l : List Int) (k : Nat) : List DueD := (l.take k).filterMap (triG F D)
theorem selU_len (F : List Core) (D : DeskD) (l : List Int) (k : Nat) : (selU F D l k).length ≤ l.length := Nat.le_trans (List.length_filterMap_le _ _) (List.length_take_le' _ _)
theorem selU_miss {F : List Core} {D : DeskD} {l : List Int} {k t : Nat} (h : l[k]? = some (t : Int)) (hc : triG F D (t : Int) = none) : selU F D l (k + 1) = selU F D l k := by
  unfold selU
  rw [List.take_add_one, h, List.filterMap_append]
  simp [hc]
theorem selU_hit {F : List Core} {D : DeskD} {l : List Int} {k t : Nat} {u : DueD} (h : l[k]? = some (t : Int)) (hc : triG F D (t : Int) = some u) : selU F D l (k + 1) = selU F D l k ++ [u] := by
  unfold selU
  rw [List.take_add_one, h, List.filterMap_append]
  simp [hc]
abbrev dueLit (z j : Int) : Obj := .cells #[.int .i64 z, .int .i64 9, .int .i64 j, .string ⟨#[]⟩, .bool false, .bool false, .string ⟨#[]⟩, .string ⟨#[]⟩, .int .i64 0, .int .i64 0, .bool false] 52
theorem due_one (w : World) (z j : Int) : SRow encU 11 (w.alloc (dueLit z j)) (some ⟨w.heap.size, 0, none⟩) 1 1 [⟨z, upT j⟩] := own_one (enc := encU) (size := 11) w 52 (⟨z, upT j⟩ : DueD) #[.int .i64 z, .int .i64 9, .int .i64 j, .string ⟨#[]⟩, .bool false, .bool false, .string ⟨#[]⟩, .string ⟨#[]⟩, .int .i64 0, .int .i64 0, .bool false] rfl rfl
set_option maxHeartbeats 4000000 in
set_option maxRecDepth 100000 in
theorem reftries10_any (a : Option Addr) (len cap : Nat) (m : Int) (K : List NodeD) (n : Nat) (da : Option Addr) (dl dc : Nat) (wa : Option Addr) (wl wc : Nat) (nx : Int) (bz : Bool) (L : List DefD) (M : List WaitD) (w : World) (h : NodeRow w a len cap K) (hn : n < len) (hs : K.length ≤ 1000) (hr : rightF m (coreL K) = true) (hd : DefRow w da dl dc L) (hw : WaitRow w wa wl wc M) (hk : rightK ⟨L, M, nx, bz⟩ = true) :
    Calls Tryz.prog 21 #[forV a len cap m, .int .i64 n, deskV da dl dc wa wl wc nx bz] w (DuePost w (triesZ m (coreL K) (n : Int) ⟨L, M, nx, bz⟩)) := by
  have HCL : Hid ((coreL K).length = len) := Lib.hid (by rw [coreL_len, h.hlen])
  have hlen : len ≤ 1000 := by rw [← h.hlen]; exact hs
  have FX := Lib.hid (FD.start (m := m) (nx := nx) (bz := bz) h hd hw)
  obtain ⟨l, hl⟩ : ∃ l, elemsZ m (coreL K) (n : Int) = l := ⟨_, rfl⟩
  have CA : Hid (∀ W, NodeRow W a len cap K → Calls Tryz.prog 40 #[forV a len cap m, .int .i64 n] W (OrdPost W l)) := Lib.hid (fun W h1 => by
    have h2 := refelems_any a len cap m K hr hs n W h1 hn
    have e : (allI (coreL K) ((n : Nat) : Int)).filter (fun k => kindK (coreL K) k == 1) = l := by
      rw [← hl]
      unfold elemsZ
      rw [allZ_eq hr (by rw [HCL.out]; exact hn)]
    rw [e] at h2
    exact h2)
  have NUM : Hid (∀ z ∈ l, ∃ k : Nat, z = k ∧ k < len) := Lib.hid (fun z hz => by
    rw [← hl] at hz
    rw [← HCL.out]
    exact elemsZ_in hz)
  have HLL : Hid (l.length ≤ 1000) := Lib.hid (by
    have h2 := elemsZ_len m (coreL K) (n : Int)
    rw [hl, HCL.out] at h2
    omega)
  have HE : Hid (triesZ m (coreL K) (n : Int) ⟨L, M, nx, bz⟩ = selU (coreL K) ⟨L, M, nx, bz⟩ l l.length) := Lib.hid (by rw [tries_tri hk, hl]; unfold selU; rw [List.take_length])
  have RK := Lib.hid hk
  obtain ⟨i0, hi0, hz0, hz1, hz2⟩ := info_parts due_info
  have hl0 := h.len64
  have hdl := hd.len64
  have z0 := FX.out.f.c0
  have z1 := FX.out.f.c1
  have d0 := FX.out.d.c0
  have d1 := FX.out.d.c1
  have d2 := FX.out.d.c2
  have d3 := FX.out.d.c3
  clear h hs hl hr hd hw hk
  go_enter Tryz.func21, Tryz.ntmps21
  go_wp2_with (go_at_call 40; ((with_reducible refine (CA.out _ FX.out.f.row).mono ?_); rintro e w1 ⟨ao, lo, co, rfl, hro, hb⟩; have FX := Lib.hid (FX.out.keep hb); have HB1 := Lib.hid hb; have IR := Lib.hid hro; clear hb hro z0 z1 d0 d1 d2 d3))
  have hl64 := IR.out.len64
  have hl1k : lo ≤ 1000 := by rw [← IR.out.hlen]; exact HLL.out
  have OW0 : Hid (w1.ownsRow w1.heap.size 52 11 (.slice none 0 0) (selU (coreL K) ⟨L, M, nx, bz⟩ l 0).length ((selU (coreL K) ⟨L, M, nx, bz⟩ l 0).flatMap encU)) := Lib.hid (World.ownsRow_nil _ _ _ _)
  go_loopw [7, 9] (fun v i wr => ∃ k : Nat, k ≤ lo ∧ i = .int .i64 k ∧ Hid (Below w1.heap.size w1 wr) ∧ Hid (wr.ownsRow w1.heap.size 52 11 v (selU (coreL K) ⟨L, M, nx, bz⟩ l k).length ((selU (coreL K) ⟨L, M, nx, bz⟩ l k).flatMap encU))) (fun _ i _ => lo - (intOf i).toNat)
  case atStart => exact ⟨0, Nat.zero_le _, rfl, Lib.hid (Below.refl _ _), OW0⟩
  case round =>
    clear OW0
    obtain ⟨k, hk, rfl, HBW, OW⟩ := hrel
    have FR := Lib.hid (FX.out.keep HBW.out)
    have IR2 := Lib.hid (IR.out.below HBW.out)
    by_cases hlt : k < lo
    · obtain ⟨bo, oo, z, rfl, hbo, hz, hcz, -⟩ := IR2.out.get hlt
      obtain ⟨q, rfl, hq⟩ := NUM.out z (List.mem_of_getElem? hz)
      obtain ⟨c, hc⟩ : ∃ c, (coreL K)[q]? = some c := ⟨_, List.getElem?_eq_getElem (by rw [HCL.out]; exact hq)⟩
      have HZ := Lib.hid hz
      have HC := Lib.hid hc
      have hsl : (selU (coreL K) ⟨L, M, nx, bz⟩ l k).length ≤ 1000 := Nat.le_trans (selU_len _ _ _ _) HLL.out
      obtain ⟨n1, hn1⟩ : ∃ n1, (selU (coreL K) ⟨L, M, nx, bz⟩ l k).length = n1 := ⟨_, rfl⟩
      have HN1 := Lib.hid hn1
      rw [hn1] at OW hsl
      obtain ⟨fz, hfz⟩ : ∃ z, fateC ⟨L, M, nx, bz⟩ c = z := ⟨_, rfl⟩
      have HFZ := Lib.hid hfz
      have HQL := Lib.hid hq
      have CF : Hid (∀ V, Below wr.heap.size wr V → Calls Tryz.prog 19 #[forV a len cap m, .int .i64 q, deskV da dl dc wa wl wc nx bz] V fun e w' => e = .returned (.int .i64 fz) ∧ Below V.heap.size V w') := Lib.hid (fun V hb => by
        have h := reffate10_any a len cap m K q da dl dc wa wl wc nx bz L M c V (FR.out.keep hb).f.row HQL.out (FR.out.keep hb).d.d (FR.out.keep hb).d.t RK.out HC.out
        rw [HFZ.out] at h
        exact h)
      clear hz hc hn1 hfz hq
      have z0 := Ext.cell FR.out.f.c0 FR.out.f.lt
      have z1 := Ext.cell FR.out.f.c1 FR.out.f.lt
      have d0 := Ext.cell FR.out.d.c0 FR.out.d.lt
      have d1 := Ext.cell FR.out.d.c1 FR.out.d.lt
      have d2 := Ext.cell FR.out.d.c2 FR.out.d.lt
      have d3 := Ext.cell FR.out.d.c3 FR.out.d.lt
      have ec := Ext.cell hcz hbo
      go_upto_region 6 with fail
      have HCZ : Hid (bo < wr.heap.size ∧ wr.cell? ⟨bo, oo + k, none⟩ = some (.int .i64 q)) := Lib.hid ⟨hbo, hcz⟩
      have CX : Hid (∀ X : Ext wr, Calls Tryz.prog 19 #[forV a len cap m, .int .i64 q, deskV da dl dc wa wl wc nx bz] X.v fun e w' => e = .returned (.int .i64 fz) ∧ Below X.v.heap.size X.v w') := Lib.hid (fun X => CF.out X.v X.below)
      clear hcz hbo
      by_cases hfm : fz = -1
      · subst hfm
        have HS2 : Hid (selU (coreL K) ⟨L, M, nx, bz⟩ l (k + 1) = selU (coreL K) ⟨L, M, nx, bz⟩ l k) := Lib.hid (selU_miss HZ.out (tri_none HC.out HFZ.out))
        refine wp_region_ext (by kernel_rfl) (by kernel_rfl) ?_
        repeat (go_big_quiet_step (first | (go_at_call 19; exact Ext.call_below (CX.out _))))
        refine wpQuiet_nil ?_
        intro w' hw'
        obtain ⟨⟨w8, hb8⟩, hw''⟩ := hw'
        dsimp only at hw''
        subst hw''
        clear z0 z1 d0 d1 d2 d3 ec CF CX
        have HBE : Hid (Below w1.heap.size w1 w') := Lib.hid (HBW.out.trans (hb8.mono HBW.out.size))
        have OWE := Lib.hid (own_below OW.out hb8)
        clear hb8
        go_wp2
        go_roundw
        case rel => exact ⟨k + 1, by omega, by go_num, HBE, Lib.hid (by rw [HS2.out, HN1.out]; exact OWE.out)⟩
        case measure => simp [intOf]; omega
      · obtain ⟨j, xd, hj, -⟩ := fate_facts (D := ⟨L, M, nx, bz⟩) (c := c) RK.out (by rw [HFZ.out]; exact hfm)
        rw [HFZ.out] at hj
        have HS2 : Hid (selU (coreL K) ⟨L, M, nx, bz⟩ l (k + 1) = selU (coreL K) ⟨L, M, nx, bz⟩ l k ++ [⟨(q : Int), upT j⟩]) := Lib.hid (by
          have h9 := tri_some HC.out HFZ.out hfm
          rw [hj] at h9
          exact selU_hit HZ.out h9)
        subst hj
        refine wp_region_ext (by kernel_rfl) (by kernel_rfl) ?_
        repeat (go_big_quiet_step (first | (go_at_call 19; exact Ext.call_below (CX.out _))))
        refine wpQuiet_nil ?_
        intro w' hw'
        obtain ⟨⟨w8, hb8⟩, hw''⟩ := hw'
        dsimp only at hw''
        subst hw''
        clear z0 z1 d0 d1 d2 d3 ec CX hfm
        obtain ⟨Y, hY⟩ : ∃ Y, Y = w' := ⟨_, rfl⟩
        subst hY
        have FY := Lib.hid (FR.out.keep hb8)
        have HBY : Hid (Below w1.heap.size w1 Y) := Lib.hid (HBW.out.trans (hb8.mono HBW.out.size))
        have OWY := Lib.hid (own_below OW.out hb8)
        have HCY : Hid (bo < Y.heap.size ∧ Y.cell? ⟨bo, oo + k, none⟩ = some (.int .i64 q)) := Lib.hid ⟨Nat.lt_of_lt_of_le HCZ.out.1 hb8.size, (hb8.cell (p := ⟨bo, oo + k, none⟩) HCZ.out.1).trans HCZ.out.2⟩
        have CY : Hid (∀ V, Below Y.heap.size Y V → Calls Tryz.prog 19 #[forV a len cap m, .int .i64 q, deskV da dl dc wa wl wc nx bz] V fun e w' => e = .returned (.int .i64 j) ∧ Below V.heap.size V w') := Lib.hid (fun V hb => CF.out V (hb8.trans (hb.mono hb8.size)))
        clear CF FR OW HCZ hb8
        go_upto_region 7 with fail
        have z0 := FY.out.f.c0
        have z1 := FY.out.f.c1
        have d0 := FY.out.d.c0
        have d1 := FY.out.d.c1
        have d2 := FY.out.d.c2
        have d3 := FY.out.d.c3
        have ec := HCY.out.2
        go_region_law (first
          | (refine step_wpS rfl ?_; (go_simp; go_at_call 19; (with_reducible refine (CY.out _ (by first | exact Below.refl _ _ | exact (Below.refl _ _).drew)).mono ?_); rintro e w5 ⟨rfl, hb⟩; have HB5 : Hid (Below Y.heap.size Y w5) := (Lib.hid (by first | exact hb | exact (Below.refl Y.heap.size Y).drew.trans hb)); have z0 := (FY.out.keep HB5.out).f.c0; have z1 := (FY.out.keep HB5.out).f.c1; have d0 := (FY.out.keep HB5.out).d.c0; have d1 := (FY.out.keep HB5.out).d.c1; have d2 := (FY.out.keep HB5.out).d.c2; have d3 := (FY.out.keep HB5.out).d.c3; have ec := (HB5.out.cell (p := ⟨bo, oo + k, none⟩) HCY.out.1).trans HCY.out.2; have OW5 := Lib.hid (own_below OWY.out HB5.out); have BW5 := Lib.hid (HBY.out.trans (HB5.out.mono HBY.out.size)); have AL1 : Hid (∀ o : Obj, Below w5.heap.size w5 (w5.alloc o)) := (Lib.hid (fun o => (Below.refl _ _).alloc (Nat.le_refl _) o)); clear hb))
          | (go_loud (refine step_append_rows rfl (.tmp 27) (.tmp 41) 38 rfl 52 i0 _ 11 104 Tryz.underlying38 hi0 hz0 hz1 hz2 rfl (by decide) w1.heap.size _ n1 (selU (coreL K) ⟨L, M, nx, bz⟩ l k) [⟨(q : Int), upT j⟩] rfl (by first | exact own_below OW5.out (AL1.out _) | exact own_below OW5.out (AL1.out _).drew) _ 1 1 rfl (by first | exact due_one w5 _ _ | exact (due_one w5 _ _).drew) (fun x _ => encU_one x) (by unfold maxLen; omega) (by omega) (by have := BW5.out.size; simp; omega) (fun h => by cases h) ?_; intro v3 w3 hown3 hg3 hat3; have HB3 := Lib.hid (below_own BW5.out OW5.out hg3); have HO3 := Lib.hid hown3; clear hown3 hg3 hat3)))
        all_goals
          go_wp2
          go_roundw
          case rel => exact ⟨k + 1, by omega, by go_num, HB3, Lib.hid (by
            have h1 := HO3.out
            rw [← HS2.out] at h1
            rwa [show n1 + 1 = (selU (coreL K) ⟨L, M, nx, bz⟩ l (k + 1)).length by rw [HS2.out, List.length_append, HN1.out]; rfl] at h1)⟩
          case measure => simp [intOf]; omega
    · have hkk : k = lo := by omega
      subst hkk
      have HSE : Hid (triesZ m (coreL K) (n : Int) ⟨L, M, nx, bz⟩ = selU (coreL K) ⟨L, M, nx, bz⟩ l k) := Lib.hid (by rw [HE.out, IR.out.hlen])
      obtain ⟨a9, cap9, rfl, hr9⟩ := DueRow.of_own (L := selU (coreL K) ⟨L, M, nx, bz⟩ l k) rfl OW.out
      have HR9 := Lib.hid hr9
      clear hr9 OW
      go_wp2
      go_ret
      exact ⟨_, _, _, rfl, by rw [HSE.out]; exact HR9.out, FR.out.f.below⟩
end Go.Proofs.YtkomeijlljcdgaaGreat
