/- Texts joined in build order: WatchDues WatchShort WatchRightL. -/
import Derived.Test.YtkfmengdffpcnaaGreatDoorA46
import Derived.Deep.QuietTactic
import Derived.BigQuiet
namespace Go.Proofs.YtkfmengdffpcnaaGreatDoor
open Go.RowKit
theorem todo_fields12 : Tryz.prog.underlying 55 = some (.struct (Tryz.prog.fieldsOf 55)) := by
  unfold Program.fieldsOf
  rw [Tryz.underlying55]
theorem due_fields12 : Tryz.prog.underlying 59 = some (.struct (Tryz.prog.fieldsOf 59)) := by
  unfold Program.fieldsOf
  rw [Tryz.underlying59]
theorem todo_held12 : Tryz.prog.stoodInHeld 55 = false := by kernel_rfl
theorem due_held12 : Tryz.prog.stoodInHeld 59 = false := by kernel_rfl
theorem due_guard12 : Tryz.prog.eqGuardType Tryz.prog.depth 59 = false := by kernel_rfl
set_option maxHeartbeats 2000000 in
theorem todo_same12 (a0 a1 : Int) (a2 : ByteArray) (a3 a4 : Bool) (a5 a6 : ByteArray) (a7 a8 : Int) (a9 : Bool) (W : World) :
    (Op.equalIn (9998 + 1) 55 (.agg #[.int .i64 a0, .int .i64 a1, .string a2, .bool a3, .bool a4, .string a5, .string a6, .int .i64 a7, .int .i64 a8, .bool a9]) (.agg #[.int .i64 a0, .int .i64 a1, .string a2, .bool a3, .bool a4, .string a5, .string a6, .int .i64 a7, .int .i64 a8, .bool a9])).run Tryz.prog W = .ok true W := by
  have u9 := Tryz.underlying9
  have x9 := Tryz.isAgg9
  have z9 := Tryz.sizeOf9
  have u3 := Tryz.underlying3
  have x3 := Tryz.isAgg3
  have z3 := Tryz.sizeOf3
  have u4 := Tryz.underlying4
  have x4 := Tryz.isAgg4
  have z4 := Tryz.sizeOf4
  rw [run_equalIn_agg W 9998 55 _ _ todo_fields12 todo_held12]
  simp only [Program.fieldsOf, Tryz.underlying55]
  go_simp
set_option maxHeartbeats 2000000 in
theorem due_same12 (n a0 a1 : Int) (a2 : ByteArray) (a3 a4 : Bool) (a5 a6 : ByteArray) (a7 a8 : Int) (a9 : Bool) (W : World) :
    (binOp .neq 59 (.agg #[.int .i64 n, .int .i64 a0, .int .i64 a1, .string a2, .bool a3, .bool a4, .string a5, .string a6, .int .i64 a7, .int .i64 a8, .bool a9]) (.agg #[.int .i64 n, .int .i64 a0, .int .i64 a1, .string a2, .bool a3, .bool a4, .string a5, .string a6, .int .i64 a7, .int .i64 a8, .bool a9])).run Tryz.prog W = .ok (.bool false) W := by
  have u3 := Tryz.underlying3
  have x3 := Tryz.isAgg3
  have z3 := Tryz.sizeOf3
  have x6 := Tryz.isAgg55
  have z6 := Tryz.sizeOf55
  have ht := todo_same12 a0 a1 a2 a3 a4 a5 a6 a7 a8 a9 W
  rw [run_neq_struct, show (10000 : Nat) = 9999 + 1 from rfl, run_equalIn_agg W 9999 59 _ _ due_fields12 due_held12]
  simp only [Program.fieldsOf, Tryz.underlying59]
  go_simp
def shortC (c : ClassC) : Bool := decide (c.watch.length ≤ 20) && decide (c.hooks.length ≤ 20) && decide (c.peek.length ≤ 80) && decide (c.make.length ≤ 80) && c.hooks.all (fun h => decide (h.2.length ≤ 80))
def shortCl (L : List ClassC) : Bool := decide (L.length ≤ 14) && L.all shortC
theorem shortC_small {c : ClassC} (h : shortC c = true) : SmallCl c := by
  unfold shortC at h
  simp only [Bool.and_eq_true, decide_eq_true_eq, List.all_eq_true] at h
  exact ⟨by omega, by omega, by omega, by omega, fun y hy => by have := h.2 y hy; omega⟩
theorem shortCl_small {L : List ClassC} (h : shortCl L = true) : ∀ c ∈ L, SmallCl c := fun c hc => by
  unfold shortCl at h
  simp only [Bool.and_eq_true, List.all_eq_true] at h
  exact shortC_small (h.2 c hc)
theorem shortCl_stop {L : List ClassC} {k : Nat} {c : ClassC} (hk : L[k]? = some c) (h : shortC c = false) : shortCl L = false := by
  cases hs : shortCl L with
  | false => rfl
  | true =>
    unfold shortCl at hs
    simp only [Bool.and_eq_true, List.all_eq_true] at hs
    rw [hs.2 c (List.mem_of_getElem? hk)] at h
    cases h
theorem shortC_stop {x : ClassD} {i : Nat} {y : HookD} (hi : x.hooks[i]? = some y) (h : 80 < y.ops.length) : shortC x.core = false := by
  cases hs : shortC x.core with
  | false => rfl
  | true =>
    unfold shortC at hs
    simp only [Bool.and_eq_true, decide_eq_true_eq, List.all_eq_true] at hs
    have := hs.2 (y.kind, y.ops) (by unfold ClassD.core coreH; exact List.mem_map_of_mem (List.mem_of_getElem? hi))
    dsimp only at this
    omega
end Go.Proofs.YtkfmengdffpcnaaGreatDoor
namespace Go.Proofs.YtkfmengdffpcnaaGreatDoor
open Go.RowKit
set_option maxHeartbeats 4000000 in
set_option maxRecDepth 100000 in
theorem refshort12_any (a : Option Addr) (len cap : Nat) (L : List ClassD) (w : World) (h : ClsRow w a len cap L) :
    Calls Tryz.prog 19 #[.slice a len cap] w fun e w' => e = .returned (.bool (shortCl (coreCl L))) ∧ Below w.heap.size w w' := by
  have H := Lib.hid h
  have HL := Lib.hid h.hlen
  have h64 := h.len64
  have hcap := h.row.hcap
  have hmax := h.row.hmax
  have hcap64 : cap ≤ 9223372036854775807 := by unfold maxLen at hmax; omega
  have hcl : (coreCl L).length = len := by rw [coreCl_len, h.hlen]
  obtain ⟨r, hr⟩ : ∃ r, shortCl (coreCl L) = r := ⟨_, rfl⟩
  have HR := Lib.hid hr
  rw [hr]
  clear hmax hr h
  by_cases h14 : (14 : Int) < (len : Int)
  · have HE : Hid (r = false) := Lib.hid (by rw [← HR.out]; unfold shortCl; rw [decide_eq_false (by omega)]; rfl)
    clear HR H HL
    go_enter Tryz.func19, Tryz.ntmps19
    go_wp2
    go_ret
    exact ⟨by rw [HE.out]; rfl, Below.refl _ _⟩
  · have H14 := Lib.hid hcl
    clear hcl
    go_enter Tryz.func19, Tryz.ntmps19
    go_wp2
    go_loopw [3, 4, 5] (fun i _ _ wr => ∃ k : Nat, k ≤ len ∧ i = .int .i64 k ∧ Hid (∀ (j : Nat) z, j < k → L[j]? = some z → shortC z.core = true) ∧ Hid (Below w.heap.size w wr)) (fun i _ _ _ => len - (intOf i).toNat)
    case atStart => exact ⟨0, Nat.zero_le _, rfl, Lib.hid (fun j x hj => absurd hj (by omega)), Lib.hid (Below.refl _ _)⟩
    case round =>
      obtain ⟨k, hkl, rfl, HA, HB⟩ := hrel
      by_cases hlt : k < len
      · obtain ⟨b, off, y, rfl, hb, hy, hyc, hya⟩ := (H.out.below HB.out).get hlt
        have HY := Lib.hid hy
        have HSTOP : Hid (shortC y.core = false → r = false) := Lib.hid (fun e => by rw [← HR.out]; exact shortCl_stop (coreCl_get HY.out) e)
        obtain ⟨y0, y1, y2, y3, y4⟩ := hyc
        have l1 := hya.t.hlen
        have l2 := hya.p.hlen
        have l3 := hya.m.hlen
        have l4 := hya.h.hlen
        have m1 := hya.t.len64
        have m2 := hya.p.len64
        have m3 := hya.m.len64
        have m4 := hya.h.len64
        have HC : Hid (shortC y.core = (decide (y.wn ≤ 20) && decide (y.hn ≤ 20) && decide (y.pn ≤ 80) && decide (y.mn ≤ 80) && (coreH y.hooks).all (fun h => decide (h.2.length ≤ 80)))) := Lib.hid (by
          unfold shortC ClassD.core
          dsimp only
          rw [l1, l2, l3, show (coreH y.hooks).length = y.hn by unfold coreH; rw [List.length_map, l4]])
        have HHR := Lib.hid hya.h
        clear hy hb hya l1 l2 l3 l4
        go_upto_region 7 with fail
        obtain ⟨V, hV, C0, -, HBV⟩ := boxes1 wr (encClD y).toArray 51
        have hV2 : wr.alloc (.cells #[.bool y.form, .slice y.wa y.wn y.wk, .slice y.pa y.pn y.pk, .slice y.ma y.mn y.mc, .slice y.ha y.hn y.hk] 51) = V := hV
        rw [hV2]
        have C0 : Hid (CBox V wr.heap.size (encClD y)) := Lib.hid C0
        obtain ⟨G, hG⟩ : ∃ G, wr.heap.size = G := ⟨_, rfl⟩
        rw [hG] at C0 ⊢
        have HBW := Lib.hid (HB.out.trans (HBV.mono HB.out.size))
        have HHV := Lib.hid (HHR.out.below HBV)
        clear hV hV2 hG HBV y0 y1 y2 y3 y4
        have c1 := C0.out.c 1 _ rfl
        have c2 := C0.out.c 2 _ rfl
        have c3 := C0.out.c 3 _ rfl
        have c4 := C0.out.c 4 _ rfl
        by_cases h1 : (20 : Int) < (y.wn : Int)
        · have HE := Lib.hid (HSTOP.out (by rw [HC.out, decide_eq_false (p := y.wn ≤ 20) (by omega)]; rfl))
          go_wp2
          go_ret
          exact ⟨by rw [HE.out]; rfl, HBW.out⟩
        by_cases h2 : (20 : Int) < (y.hn : Int)
        · have HE := Lib.hid (HSTOP.out (by rw [HC.out, decide_eq_false (p := y.hn ≤ 20) (by omega), Bool.and_false]; rfl))
          go_wp2
          go_ret
          exact ⟨by rw [HE.out]; rfl, HBW.out⟩
        by_cases h3 : (80 : Int) < (y.pn : Int)
        · have HE := Lib.hid (HSTOP.out (by rw [HC.out, decide_eq_false (p := y.pn ≤ 80) (by omega), Bool.and_false]; rfl))
          go_wp2
          go_ret
          exact ⟨by rw [HE.out]; rfl, HBW.out⟩
        by_cases h4 : (80 : Int) < (y.mn : Int)
        · have HE := Lib.hid (HSTOP.out (by rw [HC.out, decide_eq_false (p := y.mn ≤ 80) (by omega), Bool.and_false]; rfl))
          go_wp2
          go_ret
          exact ⟨by rw [HE.out]; rfl, HBW.out⟩
        have HC2 : Hid (shortC y.core = (coreH y.hooks).all (fun h => decide (h.2.length ≤ 80))) := Lib.hid (by
          rw [HC.out, decide_eq_true (p := y.wn ≤ 20) (by omega), decide_eq_true (p := y.hn ≤ 20) (by omega), decide_eq_true (p := y.pn ≤ 80) (by omega), decide_eq_true (p := y.mn ≤ 80) (by omega)]
          rfl)
        have hcaph := HHV.out.row.hcap
        have hmaxh := HHV.out.row.hmax
        have hcaph64 : y.hk ≤ 9223372036854775807 := by unfold maxLen at hmaxh; omega
        clear hmaxh
        obtain ⟨ha, hn, hk, hooks, e1, e2, e3, e4⟩ : ∃ (ha : Option Addr) (hn hk : Nat) (hooks : List HookD), y.ha = ha ∧ y.hn = hn ∧ y.hk = hk ∧ y.hooks = hooks := ⟨_, _, _, _, rfl, rfl, rfl, rfl⟩
        rw [e1, e2, e3] at c4
        rw [e1, e2, e3, e4] at HHV
        rw [e2, e3] at hcaph
        rw [e3] at hcaph64
        rw [e2] at m4 h2
        have HK4 := Lib.hid e4
        clear e1 e2 e3 e4 HHR HC
        go_wp2
        go_loopw [5] (fun j wr2 => ∃ i : Nat, i ≤ hn ∧ j = .int .i64 i ∧ Hid (∀ (t : Nat) z, t < i → hooks[t]? = some z → z.ops.length ≤ 80) ∧ Hid (Below V.heap.size V wr2)) (fun j _ => hn - (intOf j).toNat)
        case atStart => exact ⟨0, Nat.zero_le _, rfl, Lib.hid (fun j x hj => absurd hj (by omega)), Lib.hid (Below.refl _ _)⟩
        case round =>
          obtain ⟨i, hil, rfl, HI, HB2⟩ := hrel
          clear c1 c2 c3
          have c4 := (HB2.out.cell (p := ⟨G, 4, none⟩) C0.out.lt).trans c4
          by_cases hlt2 : i < hn
          · obtain ⟨hb_, ho_, z, rfl, hbz, hz, z0, z1, -, hzo⟩ := (HHV.out.below HB2.out).get hlt2
            have HZ := Lib.hid hz
            have hzl := hzo.hlen
            have hz64 := hzo.len64
            obtain ⟨zk, za, zn, zc, zo⟩ := z
            dsimp only at z0 z1 hzl hz64
            have HZL := Lib.hid hzl
            clear hz hbz hzo hzl
            by_cases h80 : (80 : Int) < (zn : Int)
            · have HE := Lib.hid (HSTOP.out (shortC_stop (i := i) (y := ⟨zk, za, zn, zc, zo⟩) (by rw [HK4.out]; exact HZ.out) (by have := HZL.out; dsimp only; omega)))
              go_wp2
              go_ret
              exact ⟨by rw [HE.out]; rfl, HBW.out.trans (HB2.out.mono HBW.out.size)⟩
            · go_wp2
              go_roundw
              case rel => exact ⟨i + 1, by omega, by go_num, Lib.hid (fun t z hj hz => by
                rcases Nat.lt_or_ge t i with h1 | h1
                · exact HI.out t z h1 hz
                · obtain rfl : t = i := by omega
                  rw [HZ.out] at hz
                  injection hz with hz
                  subst hz
                  have := HZL.out
                  dsimp only
                  omega), HB2⟩
              case measure => simp [intOf]; omega
          · have hie : i = hn := by omega
            subst hie
            have HS : Hid (shortC y.core = true) := Lib.hid (by
              rw [HC2.out, List.all_eq_true]
              intro q hq
              unfold coreH at hq
              obtain ⟨z, hz, rfl⟩ := List.mem_map.1 hq
              rw [HK4.out] at hz
              obtain ⟨t, ht⟩ := List.getElem?_of_mem hz
              exact decide_eq_true (HI.out t z (by have := (List.getElem?_eq_some_iff.1 ht).1; rw [HHV.out.hlen] at this; exact this) ht))
            go_wp2
            go_roundw
            case rel => exact ⟨k + 1, by omega, by go_num, Lib.hid (fun j z hj hz => by
              rcases Nat.lt_or_ge j k with h1 | h1
              · exact HA.out j z h1 hz
              · obtain rfl : j = k := by omega
                rw [HY.out] at hz
                injection hz with hz
                subst hz
                exact HS.out), Lib.hid (HBW.out.trans (HB2.out.mono HBW.out.size))⟩
            case measure => simp [intOf]; omega
      · have hkd : k = len := by omega
        subst hkd
        have HE : Hid (r = true) := Lib.hid (by
          rw [← HR.out]
          unfold shortCl
          rw [decide_eq_true (by have := H14.out; omega), Bool.true_and, List.all_eq_true]
          intro c hc
          unfold coreCl at hc
          obtain ⟨z, hz, rfl⟩ := List.mem_map.1 hc
          obtain ⟨t, ht⟩ := List.getElem?_of_mem hz
          exact HA.out t z (by have := (List.getElem?_eq_some_iff.1 ht).1; rw [HL.out] at this; exact this) ht)
        go_wp2
        go_ret
        exact ⟨by rw [HE.out]; rfl, HB.out⟩
end Go.Proofs.YtkfmengdffpcnaaGreatDoor
namespace Go.Proofs.YtkfmengdffpcnaaGreatDoor
open Go.RowKit
structure RightP (m : Int) (K : List NodeD) (S : List StateD) (L : List DefD) (M : List WaitD) (nx : Int) (bz : Bool) (C : List ClassD) : Prop where
  sf : smallF K
  sc : ∀ c ∈ coreCl C, SmallCl c
  le : S.length = K.length
  rf : rightF m (coreL K) = true
  rk : rightK ⟨L, M, nx, bz⟩ = true
theorem RightP.w {m : Int} {K : List NodeD} {S : List StateD} {L : List DefD} {M : List WaitD} {nx : Int} {bz : Bool} {C : List ClassD} (h : RightP m K S L M nx bz C) : rightW m (coreL K) S ⟨L, M, nx, bz⟩ = true := by
  unfold rightW
  rw [decide_eq_true (by rw [coreL_len]; exact h.le), h.rf, h.rk]
  rfl
set_option maxHeartbeats 4000000 in
set_option maxRecDepth 100000 in
theorem lawright12_any (a : Option Addr) (len cap : Nat) (m : Int) (K : List NodeD) (sa : Option Addr) (sl sc : Nat) (S : List StateD) (da : Option Addr) (dl dc : Nat) (wa : Option Addr) (wl wc : Nat) (nx : Int) (bz : Bool) (L : List DefD) (M : List WaitD) (ca : Option Addr) (cl cc : Nat) (C : List ClassD) (w : World)
    (h : NodeRow w a len cap K) (hm : In64 m) (hs : StaRow w sa sl sc S) (hd : DefRow w da dl dc L) (ht : WaitRow w wa wl wc M) (hc : ClsRow w ca cl cc C) :
    Calls Tryz.prog 5 #[forV a len cap m, .slice sa sl sc, deskV da dl dc wa wl wc nx bz, .slice ca cl cc] w fun e w' => ∃ r, e = .returned (.bool r) ∧ Below w.heap.size w w' ∧ (r = true → RightP m K S L M nx bz C) := by
  have FX := Lib.hid (FD.start (m := m) (nx := nx) (bz := bz) h hd ht)
  have hl := h.len64
  have hsl := hs.len64
  have HKL := Lib.hid h.hlen
  have HSL := Lib.hid hs.hlen
  obtain ⟨q0, hq0⟩ : ∃ q, shortF K = q := ⟨_, rfl⟩
  obtain ⟨q1, hq1⟩ : ∃ q, shortK L M = q := ⟨_, rfl⟩
  obtain ⟨q2, hq2⟩ : ∃ q, shortCl (coreCl C) = q := ⟨_, rfl⟩
  obtain ⟨q3, hq3⟩ : ∃ q, rightF m (coreL K) = q := ⟨_, rfl⟩
  obtain ⟨q4, hq4⟩ : ∃ q, rightK ⟨L, M, nx, bz⟩ = q := ⟨_, rfl⟩
  have S3 : Hid (∀ V, NodeRow V a len cap K → Calls Tryz.prog 17 #[forV a len cap m] V fun e w' => e = .returned (.bool q0) ∧ Below V.heap.size V w') := Lib.hid (fun V h1 => by
    have h := refshortF_any a len cap m K V h1
    rw [hq0] at h
    exact h)
  have S9 : Hid (∀ V, DefRow V da dl dc L → WaitRow V wa wl wc M → Calls Tryz.prog 18 #[deskV da dl dc wa wl wc nx bz] V fun e w' => e = .returned (.bool q1) ∧ Below V.heap.size V w') := Lib.hid (fun V h1 h2 => by
    have h := refshort9_any da dl dc wa wl wc nx bz L M V h1 h2
    rw [hq1] at h
    exact h)
  have S12 : Hid (∀ V, Below w.heap.size w V → Calls Tryz.prog 19 #[.slice ca cl cc] V fun e w' => e = .returned (.bool q2) ∧ Below V.heap.size V w') := Lib.hid (fun V hb => by
    have h := refshort12_any ca cl cc C V (hc.below hb)
    rw [hq2] at h
    exact h)
  have R9 : Hid (∀ V, DefRow V da dl dc L → WaitRow V wa wl wc M → Calls Tryz.prog 21 #[deskV da dl dc wa wl wc nx bz] V fun e w' => e = .returned (.bool q4) ∧ Below V.heap.size V w') := Lib.hid (fun V h1 h2 => by
    have h := deskright_any da dl dc wa wl wc nx bz L M V h1 h2
    rw [hq4] at h
    exact h)
  have HM := Lib.hid hm
  (have z0 := FX.out.f.c0; have z1 := FX.out.f.c1; have d0 := FX.out.d.c0; have d1 := FX.out.d.c1; have d2 := FX.out.d.c2; have d3 := FX.out.d.c3)
  clear h hm hs hd ht hc
  cases q0 with
  | false => clear hq0 hq1 hq2 hq3 hq4; (go_enter Tryz.func5, Tryz.ntmps5; go_wp2_with (first
                                                                                                                                                 | (go_at_call 17; (with_reducible refine (S3.out _ FX.out.f.row).mono ?_); rintro e w5 ⟨rfl, hb⟩; (clear z0 z1 d0 d1 d2 d3; have FX := Lib.hid (FX.out.keep hb); (have z0 := FX.out.f.c0; have z1 := FX.out.f.c1; have d0 := FX.out.d.c0; have d1 := FX.out.d.c1; have d2 := FX.out.d.c2; have d3 := FX.out.d.c3); clear hb))
                                                                                                                                                 | (go_at_call 18; (with_reducible refine (S9.out _ FX.out.d.d FX.out.d.t).mono ?_); rintro e w5 ⟨rfl, hb⟩; (clear z0 z1 d0 d1 d2 d3; have FX := Lib.hid (FX.out.keep hb); (have z0 := FX.out.f.c0; have z1 := FX.out.f.c1; have d0 := FX.out.d.c0; have d1 := FX.out.d.c1; have d2 := FX.out.d.c2; have d3 := FX.out.d.c3); clear hb))
                                                                                                                                                 | (go_at_call 19; (with_reducible refine (S12.out _ FX.out.f.below).mono ?_); rintro e w5 ⟨rfl, hb⟩; (clear z0 z1 d0 d1 d2 d3; have FX := Lib.hid (FX.out.keep hb); (have z0 := FX.out.f.c0; have z1 := FX.out.f.c1; have d0 := FX.out.d.c0; have d1 := FX.out.d.c1; have d2 := FX.out.d.c2; have d3 := FX.out.d.c3); clear hb))
                                                                                                                                                 | (go_at_call 20; (with_reducible refine (R3.out _ FX.out.f.row).mono ?_); rintro e w5 ⟨rfl, hb⟩; (clear z0 z1 d0 d1 d2 d3; have FX := Lib.hid (FX.out.keep hb); (have z0 := FX.out.f.c0; have z1 := FX.out.f.c1; have d0 := FX.out.d.c0; have d1 := FX.out.d.c1; have d2 := FX.out.d.c2; have d3 := FX.out.d.c3); clear hb))
                                                                                                                                                 | (go_at_call 21; (with_reducible refine (R9.out _ FX.out.d.d FX.out.d.t).mono ?_); rintro e w5 ⟨rfl, hb⟩; (clear z0 z1 d0 d1 d2 d3; have FX := Lib.hid (FX.out.keep hb); (have z0 := FX.out.f.c0; have z1 := FX.out.f.c1; have d0 := FX.out.d.c0; have d1 := FX.out.d.c1; have d2 := FX.out.d.c2; have d3 := FX.out.d.c3); clear hb))); go_ret; exact ⟨false, rfl, FX.out.f.below, fun e => by cases e⟩)
  | true =>
  have SM := Lib.hid (small_of_short hq0)
  have R3 : Hid (∀ V, NodeRow V a len cap K → Calls Tryz.prog 20 #[forV a len cap m] V fun e w' => e = .returned (.bool q3) ∧ Below V.heap.size V w') := Lib.hid (fun V h1 => by
    have h := rightF_any a len cap m K V h1 HM.out SM.out
    rw [hq3] at h
    exact h)
  clear hq0
  cases q1 with
  | false => clear hq1 hq2 hq3 hq4; (go_enter Tryz.func5, Tryz.ntmps5; go_wp2_with (first
                                                                                                                                             | (go_at_call 17; (with_reducible refine (S3.out _ FX.out.f.row).mono ?_); rintro e w5 ⟨rfl, hb⟩; (clear z0 z1 d0 d1 d2 d3; have FX := Lib.hid (FX.out.keep hb); (have z0 := FX.out.f.c0; have z1 := FX.out.f.c1; have d0 := FX.out.d.c0; have d1 := FX.out.d.c1; have d2 := FX.out.d.c2; have d3 := FX.out.d.c3); clear hb))
                                                                                                                                             | (go_at_call 18; (with_reducible refine (S9.out _ FX.out.d.d FX.out.d.t).mono ?_); rintro e w5 ⟨rfl, hb⟩; (clear z0 z1 d0 d1 d2 d3; have FX := Lib.hid (FX.out.keep hb); (have z0 := FX.out.f.c0; have z1 := FX.out.f.c1; have d0 := FX.out.d.c0; have d1 := FX.out.d.c1; have d2 := FX.out.d.c2; have d3 := FX.out.d.c3); clear hb))
                                                                                                                                             | (go_at_call 19; (with_reducible refine (S12.out _ FX.out.f.below).mono ?_); rintro e w5 ⟨rfl, hb⟩; (clear z0 z1 d0 d1 d2 d3; have FX := Lib.hid (FX.out.keep hb); (have z0 := FX.out.f.c0; have z1 := FX.out.f.c1; have d0 := FX.out.d.c0; have d1 := FX.out.d.c1; have d2 := FX.out.d.c2; have d3 := FX.out.d.c3); clear hb))
                                                                                                                                             | (go_at_call 20; (with_reducible refine (R3.out _ FX.out.f.row).mono ?_); rintro e w5 ⟨rfl, hb⟩; (clear z0 z1 d0 d1 d2 d3; have FX := Lib.hid (FX.out.keep hb); (have z0 := FX.out.f.c0; have z1 := FX.out.f.c1; have d0 := FX.out.d.c0; have d1 := FX.out.d.c1; have d2 := FX.out.d.c2; have d3 := FX.out.d.c3); clear hb))
                                                                                                                                             | (go_at_call 21; (with_reducible refine (R9.out _ FX.out.d.d FX.out.d.t).mono ?_); rintro e w5 ⟨rfl, hb⟩; (clear z0 z1 d0 d1 d2 d3; have FX := Lib.hid (FX.out.keep hb); (have z0 := FX.out.f.c0; have z1 := FX.out.f.c1; have d0 := FX.out.d.c0; have d1 := FX.out.d.c1; have d2 := FX.out.d.c2; have d3 := FX.out.d.c3); clear hb))); go_ret; exact ⟨false, rfl, FX.out.f.below, fun e => by cases e⟩)
  | true =>
  clear hq1
  cases q2 with
  | false => clear hq2 hq3 hq4; (go_enter Tryz.func5, Tryz.ntmps5; go_wp2_with (first
                                                                                                                                         | (go_at_call 17; (with_reducible refine (S3.out _ FX.out.f.row).mono ?_); rintro e w5 ⟨rfl, hb⟩; (clear z0 z1 d0 d1 d2 d3; have FX := Lib.hid (FX.out.keep hb); (have z0 := FX.out.f.c0; have z1 := FX.out.f.c1; have d0 := FX.out.d.c0; have d1 := FX.out.d.c1; have d2 := FX.out.d.c2; have d3 := FX.out.d.c3); clear hb))
                                                                                                                                         | (go_at_call 18; (with_reducible refine (S9.out _ FX.out.d.d FX.out.d.t).mono ?_); rintro e w5 ⟨rfl, hb⟩; (clear z0 z1 d0 d1 d2 d3; have FX := Lib.hid (FX.out.keep hb); (have z0 := FX.out.f.c0; have z1 := FX.out.f.c1; have d0 := FX.out.d.c0; have d1 := FX.out.d.c1; have d2 := FX.out.d.c2; have d3 := FX.out.d.c3); clear hb))
                                                                                                                                         | (go_at_call 19; (with_reducible refine (S12.out _ FX.out.f.below).mono ?_); rintro e w5 ⟨rfl, hb⟩; (clear z0 z1 d0 d1 d2 d3; have FX := Lib.hid (FX.out.keep hb); (have z0 := FX.out.f.c0; have z1 := FX.out.f.c1; have d0 := FX.out.d.c0; have d1 := FX.out.d.c1; have d2 := FX.out.d.c2; have d3 := FX.out.d.c3); clear hb))
                                                                                                                                         | (go_at_call 20; (with_reducible refine (R3.out _ FX.out.f.row).mono ?_); rintro e w5 ⟨rfl, hb⟩; (clear z0 z1 d0 d1 d2 d3; have FX := Lib.hid (FX.out.keep hb); (have z0 := FX.out.f.c0; have z1 := FX.out.f.c1; have d0 := FX.out.d.c0; have d1 := FX.out.d.c1; have d2 := FX.out.d.c2; have d3 := FX.out.d.c3); clear hb))
                                                                                                                                         | (go_at_call 21; (with_reducible refine (R9.out _ FX.out.d.d FX.out.d.t).mono ?_); rintro e w5 ⟨rfl, hb⟩; (clear z0 z1 d0 d1 d2 d3; have FX := Lib.hid (FX.out.keep hb); (have z0 := FX.out.f.c0; have z1 := FX.out.f.c1; have d0 := FX.out.d.c0; have d1 := FX.out.d.c1; have d2 := FX.out.d.c2; have d3 := FX.out.d.c3); clear hb))); go_ret; exact ⟨false, rfl, FX.out.f.below, fun e => by cases e⟩)
  | true =>
  have SC := Lib.hid (shortCl_small hq2)
  clear hq2
  by_cases hle : sl = len
  · have e1 : ((sl : Int) == (len : Int)) = true := by rw [hle]; simp
    have HLE := Lib.hid hle
    clear hle
    cases q3 with
    | false => clear hq3 hq4; (go_enter Tryz.func5, Tryz.ntmps5; go_wp2_with (first
                                                                                                                                       | (go_at_call 17; (with_reducible refine (S3.out _ FX.out.f.row).mono ?_); rintro e w5 ⟨rfl, hb⟩; (clear z0 z1 d0 d1 d2 d3; have FX := Lib.hid (FX.out.keep hb); (have z0 := FX.out.f.c0; have z1 := FX.out.f.c1; have d0 := FX.out.d.c0; have d1 := FX.out.d.c1; have d2 := FX.out.d.c2; have d3 := FX.out.d.c3); clear hb))
                                                                                                                                       | (go_at_call 18; (with_reducible refine (S9.out _ FX.out.d.d FX.out.d.t).mono ?_); rintro e w5 ⟨rfl, hb⟩; (clear z0 z1 d0 d1 d2 d3; have FX := Lib.hid (FX.out.keep hb); (have z0 := FX.out.f.c0; have z1 := FX.out.f.c1; have d0 := FX.out.d.c0; have d1 := FX.out.d.c1; have d2 := FX.out.d.c2; have d3 := FX.out.d.c3); clear hb))
                                                                                                                                       | (go_at_call 19; (with_reducible refine (S12.out _ FX.out.f.below).mono ?_); rintro e w5 ⟨rfl, hb⟩; (clear z0 z1 d0 d1 d2 d3; have FX := Lib.hid (FX.out.keep hb); (have z0 := FX.out.f.c0; have z1 := FX.out.f.c1; have d0 := FX.out.d.c0; have d1 := FX.out.d.c1; have d2 := FX.out.d.c2; have d3 := FX.out.d.c3); clear hb))
                                                                                                                                       | (go_at_call 20; (with_reducible refine (R3.out _ FX.out.f.row).mono ?_); rintro e w5 ⟨rfl, hb⟩; (clear z0 z1 d0 d1 d2 d3; have FX := Lib.hid (FX.out.keep hb); (have z0 := FX.out.f.c0; have z1 := FX.out.f.c1; have d0 := FX.out.d.c0; have d1 := FX.out.d.c1; have d2 := FX.out.d.c2; have d3 := FX.out.d.c3); clear hb))
                                                                                                                                       | (go_at_call 21; (with_reducible refine (R9.out _ FX.out.d.d FX.out.d.t).mono ?_); rintro e w5 ⟨rfl, hb⟩; (clear z0 z1 d0 d1 d2 d3; have FX := Lib.hid (FX.out.keep hb); (have z0 := FX.out.f.c0; have z1 := FX.out.f.c1; have d0 := FX.out.d.c0; have d1 := FX.out.d.c1; have d2 := FX.out.d.c2; have d3 := FX.out.d.c3); clear hb))); go_ret; exact ⟨false, rfl, FX.out.f.below, fun e => by cases e⟩)
    | true =>
    have RF := Lib.hid hq3
    clear hq3
    cases q4 with
    | false => clear hq4; (go_enter Tryz.func5, Tryz.ntmps5; go_wp2_with (first
                                                                                                                                   | (go_at_call 17; (with_reducible refine (S3.out _ FX.out.f.row).mono ?_); rintro e w5 ⟨rfl, hb⟩; (clear z0 z1 d0 d1 d2 d3; have FX := Lib.hid (FX.out.keep hb); (have z0 := FX.out.f.c0; have z1 := FX.out.f.c1; have d0 := FX.out.d.c0; have d1 := FX.out.d.c1; have d2 := FX.out.d.c2; have d3 := FX.out.d.c3); clear hb))
                                                                                                                                   | (go_at_call 18; (with_reducible refine (S9.out _ FX.out.d.d FX.out.d.t).mono ?_); rintro e w5 ⟨rfl, hb⟩; (clear z0 z1 d0 d1 d2 d3; have FX := Lib.hid (FX.out.keep hb); (have z0 := FX.out.f.c0; have z1 := FX.out.f.c1; have d0 := FX.out.d.c0; have d1 := FX.out.d.c1; have d2 := FX.out.d.c2; have d3 := FX.out.d.c3); clear hb))
                                                                                                                                   | (go_at_call 19; (with_reducible refine (S12.out _ FX.out.f.below).mono ?_); rintro e w5 ⟨rfl, hb⟩; (clear z0 z1 d0 d1 d2 d3; have FX := Lib.hid (FX.out.keep hb); (have z0 := FX.out.f.c0; have z1 := FX.out.f.c1; have d0 := FX.out.d.c0; have d1 := FX.out.d.c1; have d2 := FX.out.d.c2; have d3 := FX.out.d.c3); clear hb))
                                                                                                                                   | (go_at_call 20; (with_reducible refine (R3.out _ FX.out.f.row).mono ?_); rintro e w5 ⟨rfl, hb⟩; (clear z0 z1 d0 d1 d2 d3; have FX := Lib.hid (FX.out.keep hb); (have z0 := FX.out.f.c0; have z1 := FX.out.f.c1; have d0 := FX.out.d.c0; have d1 := FX.out.d.c1; have d2 := FX.out.d.c2; have d3 := FX.out.d.c3); clear hb))
                                                                                                                                   | (go_at_call 21; (with_reducible refine (R9.out _ FX.out.d.d FX.out.d.t).mono ?_); rintro e w5 ⟨rfl, hb⟩; (clear z0 z1 d0 d1 d2 d3; have FX := Lib.hid (FX.out.keep hb); (have z0 := FX.out.f.c0; have z1 := FX.out.f.c1; have d0 := FX.out.d.c0; have d1 := FX.out.d.c1; have d2 := FX.out.d.c2; have d3 := FX.out.d.c3); clear hb))); go_ret; exact ⟨false, rfl, FX.out.f.below, fun e => by cases e⟩)
    | true =>
    have RK := Lib.hid hq4
    clear hq4
    go_enter Tryz.func5, Tryz.ntmps5
    go_wp2_with (first
                    | (go_at_call 17; (with_reducible refine (S3.out _ FX.out.f.row).mono ?_); rintro e w5 ⟨rfl, hb⟩; (clear z0 z1 d0 d1 d2 d3; have FX := Lib.hid (FX.out.keep hb); (have z0 := FX.out.f.c0; have z1 := FX.out.f.c1; have d0 := FX.out.d.c0; have d1 := FX.out.d.c1; have d2 := FX.out.d.c2; have d3 := FX.out.d.c3); clear hb))
                    | (go_at_call 18; (with_reducible refine (S9.out _ FX.out.d.d FX.out.d.t).mono ?_); rintro e w5 ⟨rfl, hb⟩; (clear z0 z1 d0 d1 d2 d3; have FX := Lib.hid (FX.out.keep hb); (have z0 := FX.out.f.c0; have z1 := FX.out.f.c1; have d0 := FX.out.d.c0; have d1 := FX.out.d.c1; have d2 := FX.out.d.c2; have d3 := FX.out.d.c3); clear hb))
                    | (go_at_call 19; (with_reducible refine (S12.out _ FX.out.f.below).mono ?_); rintro e w5 ⟨rfl, hb⟩; (clear z0 z1 d0 d1 d2 d3; have FX := Lib.hid (FX.out.keep hb); (have z0 := FX.out.f.c0; have z1 := FX.out.f.c1; have d0 := FX.out.d.c0; have d1 := FX.out.d.c1; have d2 := FX.out.d.c2; have d3 := FX.out.d.c3); clear hb))
                    | (go_at_call 20; (with_reducible refine (R3.out _ FX.out.f.row).mono ?_); rintro e w5 ⟨rfl, hb⟩; (clear z0 z1 d0 d1 d2 d3; have FX := Lib.hid (FX.out.keep hb); (have z0 := FX.out.f.c0; have z1 := FX.out.f.c1; have d0 := FX.out.d.c0; have d1 := FX.out.d.c1; have d2 := FX.out.d.c2; have d3 := FX.out.d.c3); clear hb))
                    | (go_at_call 21; (with_reducible refine (R9.out _ FX.out.d.d FX.out.d.t).mono ?_); rintro e w5 ⟨rfl, hb⟩; (clear z0 z1 d0 d1 d2 d3; have FX := Lib.hid (FX.out.keep hb); (have z0 := FX.out.f.c0; have z1 := FX.out.f.c1; have d0 := FX.out.d.c0; have d1 := FX.out.d.c1; have d2 := FX.out.d.c2; have d3 := FX.out.d.c3); clear hb)))
    go_ret
    exact ⟨true, rfl, FX.out.f.below, fun _ => ⟨SM.out, SC.out, by rw [HSL.out, HKL.out, HLE.out], RF.out, RK.out⟩⟩
  · have e1 : ((sl : Int) == (len : Int)) = false := beq_eq_false_iff_ne.2 (by omega)
    clear hle hq3 hq4
    (go_enter Tryz.func5, Tryz.ntmps5; go_wp2_with (first
                                                                                                             | (go_at_call 17; (with_reducible refine (S3.out _ FX.out.f.row).mono ?_); rintro e w5 ⟨rfl, hb⟩; (clear z0 z1 d0 d1 d2 d3; have FX := Lib.hid (FX.out.keep hb); (have z0 := FX.out.f.c0; have z1 := FX.out.f.c1; have d0 := FX.out.d.c0; have d1 := FX.out.d.c1; have d2 := FX.out.d.c2; have d3 := FX.out.d.c3); clear hb))
                                                                                                             | (go_at_call 18; (with_reducible refine (S9.out _ FX.out.d.d FX.out.d.t).mono ?_); rintro e w5 ⟨rfl, hb⟩; (clear z0 z1 d0 d1 d2 d3; have FX := Lib.hid (FX.out.keep hb); (have z0 := FX.out.f.c0; have z1 := FX.out.f.c1; have d0 := FX.out.d.c0; have d1 := FX.out.d.c1; have d2 := FX.out.d.c2; have d3 := FX.out.d.c3); clear hb))
                                                                                                             | (go_at_call 19; (with_reducible refine (S12.out _ FX.out.f.below).mono ?_); rintro e w5 ⟨rfl, hb⟩; (clear z0 z1 d0 d1 d2 d3; have FX := Lib.hid (FX.out.keep hb); (have z0 := FX.out.f.c0; have z1 := FX.out.f.c1; have d0 := FX.out.d.c0; have d1 := FX.out.d.c1; have d2 := FX.out.d.c2; have d3 := FX.out.d.c3); clear hb))
                                                                                                             | (go_at_call 20; (with_reducible refine (R3.out _ FX.out.f.row).mono ?_); rintro e w5 ⟨rfl, hb⟩; (clear z0 z1 d0 d1 d2 d3; have FX := Lib.hid (FX.out.keep hb); (have z0 := FX.out.f.c0; have z1 := FX.out.f.c1; have d0 := FX.out.d.c0; have d1 := FX.out.d.c1; have d2 := FX.out.d.c2; have d3 := FX.out.d.c3); clear hb))
                                                                                                             | (go_at_call 21; (with_reducible refine (R9.out _ FX.out.d.d FX.out.d.t).mono ?_); rintro e w5 ⟨rfl, hb⟩; (clear z0 z1 d0 d1 d2 d3; have FX := Lib.hid (FX.out.keep hb); (have z0 := FX.out.f.c0; have z1 := FX.out.f.c1; have d0 := FX.out.d.c0; have d1 := FX.out.d.c1; have d2 := FX.out.d.c2; have d3 := FX.out.d.c3); clear hb))); go_ret; exact ⟨false, rfl, FX.out.f.below, fun e => by cases e⟩)
end Go.Proofs.YtkfmengdffpcnaaGreatDoor
