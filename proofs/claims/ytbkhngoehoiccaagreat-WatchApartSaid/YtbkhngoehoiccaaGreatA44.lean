/- Texts joined in build order: WatchDues WatchShort. -/
import Derived.Test.YtbkhngoehoiccaaGreatA43
import Derived.Deep.QuietTactic
import Derived.BigQuiet
namespace Go.Proofs.YtbkhngoehoiccaaGreat
open Go.RowKit
theorem todo_fields12 : Tryz.prog.underlying 64 = some (.struct (Tryz.prog.fieldsOf 64)) := by
  unfold Program.fieldsOf
  rw [Tryz.underlying64]
theorem due_fields12 : Tryz.prog.underlying 66 = some (.struct (Tryz.prog.fieldsOf 66)) := by
  unfold Program.fieldsOf
  rw [Tryz.underlying66]
theorem todo_held12 : Tryz.prog.stoodInHeld 64 = false := by kernel_rfl
theorem due_held12 : Tryz.prog.stoodInHeld 66 = false := by kernel_rfl
theorem due_guard12 : Tryz.prog.eqGuardType Tryz.prog.depth 66 = false := by kernel_rfl
set_option maxHeartbeats 2000000 in
theorem todo_same12 (a0 a1 : Int) (a2 : ByteArray) (a3 a4 : Bool) (a5 a6 : ByteArray) (a7 a8 : Int) (a9 : Bool) (W : World) :
    (Op.equalIn (9998 + 1) 64 (.agg #[.int .i64 a0, .int .i64 a1, .string a2, .bool a3, .bool a4, .string a5, .string a6, .int .i64 a7, .int .i64 a8, .bool a9]) (.agg #[.int .i64 a0, .int .i64 a1, .string a2, .bool a3, .bool a4, .string a5, .string a6, .int .i64 a7, .int .i64 a8, .bool a9])).run Tryz.prog W = .ok true W := by
  have u9 := Tryz.underlying9
  have x9 := Tryz.isAgg9
  have z9 := Tryz.sizeOf9
  have u3 := Tryz.underlying3
  have x3 := Tryz.isAgg3
  have z3 := Tryz.sizeOf3
  have u4 := Tryz.underlying4
  have x4 := Tryz.isAgg4
  have z4 := Tryz.sizeOf4
  rw [run_equalIn_agg W 9998 64 _ _ todo_fields12 todo_held12]
  simp only [Program.fieldsOf, Tryz.underlying64]
  go_simp
set_option maxHeartbeats 2000000 in
theorem due_same12 (n a0 a1 : Int) (a2 : ByteArray) (a3 a4 : Bool) (a5 a6 : ByteArray) (a7 a8 : Int) (a9 : Bool) (W : World) :
    (binOp .neq 66 (.agg #[.int .i64 n, .int .i64 a0, .int .i64 a1, .string a2, .bool a3, .bool a4, .string a5, .string a6, .int .i64 a7, .int .i64 a8, .bool a9]) (.agg #[.int .i64 n, .int .i64 a0, .int .i64 a1, .string a2, .bool a3, .bool a4, .string a5, .string a6, .int .i64 a7, .int .i64 a8, .bool a9])).run Tryz.prog W = .ok (.bool false) W := by
  have u3 := Tryz.underlying3
  have x3 := Tryz.isAgg3
  have z3 := Tryz.sizeOf3
  have x6 := Tryz.isAgg64
  have z6 := Tryz.sizeOf64
  have ht := todo_same12 a0 a1 a2 a3 a4 a5 a6 a7 a8 a9 W
  rw [run_neq_struct, show (10000 : Nat) = 9999 + 1 from rfl, run_equalIn_agg W 9999 66 _ _ due_fields12 due_held12]
  simp only [Program.fieldsOf, Tryz.underlying66]
  go_simp
set_option maxHeartbeats 4000000 in
set_option maxRecDepth 100000 in
theorem dues12_any (a : Option Addr) (len cap : Nat) (b : Option Addr) (len2 cap2 : Nat) (T : List DueD) (w : World) (ha : SRow encU 11 w a len cap T) (hb : SRow encU 11 w b len2 cap2 T) :
    Calls Tryz.prog 25 #[.slice a len cap, .slice b len2 cap2] w fun e w' => e = .returned (.bool true) ∧ Below w.heap.size w w' := by
  have e1 : T.length = len := ha.hlen
  have e2 : T.length = len2 := hb.hlen
  obtain rfl : len2 = len := e2.symm.trans e1
  have hl0 : (len2 : Int) ≤ 9223372036854775807 := by have h1 := ha.hcap; have h2 := ha.hmax; unfold maxLen at h2; omega
  have HA := Lib.hid ha
  have HBB := Lib.hid hb
  clear ha hb e1 e2
  go_enter Tryz.func25, Tryz.ntmps25
  go_wp2_with fail
  go_loopw [5] (fun i wr => ∃ k : Nat, k ≤ len2 ∧ i = .int .i64 k ∧ Hid (Below w.heap.size w wr)) (fun i _ => len2 - (intOf i).toNat)
  case atStart => exact ⟨0, Nat.zero_le _, rfl, Lib.hid (Below.refl _ _)⟩
  case round =>
    obtain ⟨k, hk, rfl, HB⟩ := hrel
    by_cases hlt : k < len2
    · obtain ⟨ab, ao, u, rfl, hab, hu, -, huc⟩ := (HA.out.below HB.out).get hlt
      obtain ⟨bb, bo, u2, rfl, hbb, hu2, -, hvc⟩ := (HBB.out.below HB.out).get hlt
      obtain rfl : u2 = u := Option.some.inj (hu2.symm.trans hu)
      obtain ⟨n, ⟨a0, a1, a2, a3, a4, a5, a6, a7, a8, a9⟩⟩ := u2
      have s0 := Ext.cell (show wr.cell? ⟨ab, ao + k * 11, none⟩ = some (.int .i64 n) from huc 0 _ rfl) hab
      have s1 := Ext.cell (show wr.cell? ⟨ab, ao + k * 11 + 1, none⟩ = some (.int .i64 a0) from huc 1 _ rfl) hab
      have s2 := Ext.cell (show wr.cell? ⟨ab, ao + k * 11 + 2, none⟩ = some (.int .i64 a1) from huc 2 _ rfl) hab
      have s3 := Ext.cell (show wr.cell? ⟨ab, ao + k * 11 + 3, none⟩ = some (.string a2) from huc 3 _ rfl) hab
      have s4 := Ext.cell (show wr.cell? ⟨ab, ao + k * 11 + 4, none⟩ = some (.bool a3) from huc 4 _ rfl) hab
      have s5 := Ext.cell (show wr.cell? ⟨ab, ao + k * 11 + 5, none⟩ = some (.bool a4) from huc 5 _ rfl) hab
      have s6 := Ext.cell (show wr.cell? ⟨ab, ao + k * 11 + 6, none⟩ = some (.string a5) from huc 6 _ rfl) hab
      have s7 := Ext.cell (show wr.cell? ⟨ab, ao + k * 11 + 7, none⟩ = some (.string a6) from huc 7 _ rfl) hab
      have s8 := Ext.cell (show wr.cell? ⟨ab, ao + k * 11 + 8, none⟩ = some (.int .i64 a7) from huc 8 _ rfl) hab
      have s9 := Ext.cell (show wr.cell? ⟨ab, ao + k * 11 + 9, none⟩ = some (.int .i64 a8) from huc 9 _ rfl) hab
      have s10 := Ext.cell (show wr.cell? ⟨ab, ao + k * 11 + 10, none⟩ = some (.bool a9) from huc 10 _ rfl) hab
      have t0 := Ext.cell (show wr.cell? ⟨bb, bo + k * 11, none⟩ = some (.int .i64 n) from hvc 0 _ rfl) hbb
      have t1 := Ext.cell (show wr.cell? ⟨bb, bo + k * 11 + 1, none⟩ = some (.int .i64 a0) from hvc 1 _ rfl) hbb
      have t2 := Ext.cell (show wr.cell? ⟨bb, bo + k * 11 + 2, none⟩ = some (.int .i64 a1) from hvc 2 _ rfl) hbb
      have t3 := Ext.cell (show wr.cell? ⟨bb, bo + k * 11 + 3, none⟩ = some (.string a2) from hvc 3 _ rfl) hbb
      have t4 := Ext.cell (show wr.cell? ⟨bb, bo + k * 11 + 4, none⟩ = some (.bool a3) from hvc 4 _ rfl) hbb
      have t5 := Ext.cell (show wr.cell? ⟨bb, bo + k * 11 + 5, none⟩ = some (.bool a4) from hvc 5 _ rfl) hbb
      have t6 := Ext.cell (show wr.cell? ⟨bb, bo + k * 11 + 6, none⟩ = some (.string a5) from hvc 6 _ rfl) hbb
      have t7 := Ext.cell (show wr.cell? ⟨bb, bo + k * 11 + 7, none⟩ = some (.string a6) from hvc 7 _ rfl) hbb
      have t8 := Ext.cell (show wr.cell? ⟨bb, bo + k * 11 + 8, none⟩ = some (.int .i64 a7) from hvc 8 _ rfl) hbb
      have t9 := Ext.cell (show wr.cell? ⟨bb, bo + k * 11 + 9, none⟩ = some (.int .i64 a8) from hvc 9 _ rfl) hbb
      have t10 := Ext.cell (show wr.cell? ⟨bb, bo + k * 11 + 10, none⟩ = some (.bool a9) from hvc 10 _ rfl) hbb
      have hnq := due_same12 n a0 a1 a2 a3 a4 a5 a6 a7 a8 a9
      have hgd := due_guard12
      clear huc hvc hu hu2 hab hbb
      go_upto_region 6 with fail
      refine wp_region_ext (by kernel_rfl) (by kernel_rfl) ?_
      repeat (go_big_quiet_step (fail))
      refine wpQuiet_nil ?_
      intro w' hw'
      obtain ⟨⟨w8, hb8⟩, hw''⟩ := hw'
      dsimp only at hw''
      subst hw''
      clear s0 s1 s2 s3 s4 s5 s6 s7 s8 s9 s10 t0 t1 t2 t3 t4 t5 t6 t7 t8 t9 t10 hnq hgd
      have HBE : Hid (Below w.heap.size w w') := Lib.hid (HB.out.trans (hb8.mono HB.out.size))
      clear hb8
      go_wp2
      go_roundw
      case rel => exact ⟨k + 1, by omega, by go_num, HBE⟩
      case measure => simp [intOf]; omega
    · have hkd : k = len2 := by omega
      subst hkd
      go_wp2
      go_ret
      exact ⟨rfl, HB.out⟩
def shortC (c : ClassC) : Bool := decide (c.watch.length ≤ 20) && decide (c.hooks.length ≤ 20) && decide (c.peek.length ≤ 80) && decide (c.make.length ≤ 80) && c.hooks.all (fun h => decide (h.2.length ≤ 80))
def shortCl (L : List ClassC) : Bool := decide (L.length ≤ 14) && L.all shortC
theorem shortC_small {c : ClassC} (h : shortC c = true) : SmallCl c := by
  unfold shortC at h
  simp only [Bool.and_eq_true, decide_eq_true_eq, List.all_eq_true] at h
  exact ⟨by omega, by omega, by omega, by omega, fun y hy => by have := h.2 y hy; omega⟩
theorem shortCl_small {L : List ClassC} (h : shortCl L = true) : ∀ c ∈ L, SmallCl c := fun c hc => by
  unfold shortCl at h
  simp only [Bool.and_eq_true, List.all_eq_true] at h
  exact shortC_small (h.2 c hc)
theorem shortCl_stop {L : List ClassC} {k : Nat} {c : ClassC} (hk : L[k]? = some c) (h : shortC c = false) : shortCl L = false := by
  cases hs : shortCl L with
  | false => rfl
  | true =>
    unfold shortCl at hs
    simp only [Bool.and_eq_true, List.all_eq_true] at hs
    rw [hs.2 c (List.mem_of_getElem? hk)] at h
    cases h
theorem shortC_stop {x : ClassD} {i : Nat} {y : HookD} (hi : x.hooks[i]? = some y) (h : 80 < y.ops.length) : shortC x.core = false := by
  cases hs : shortC x.core with
  | false => rfl
  | true =>
    unfold shortC at hs
    simp only [Bool.and_eq_true, decide_eq_true_eq, List.all_eq_true] at hs
    have := hs.2 (y.kind, y.ops) (by unfold ClassD.core coreH; exact List.mem_map_of_mem (List.mem_of_getElem? hi))
    dsimp only at this
    omega
end Go.Proofs.YtbkhngoehoiccaaGreat
namespace Go.Proofs.YtbkhngoehoiccaaGreat
open Go.RowKit
set_option maxHeartbeats 4000000 in
set_option maxRecDepth 100000 in
theorem refshort12_any (a : Option Addr) (len cap : Nat) (L : List ClassD) (w : World) (h : ClsRow w a len cap L) :
    Calls Tryz.prog 10 #[.slice a len cap] w fun e w' => e = .returned (.bool (shortCl (coreCl L))) ∧ Below w.heap.size w w' := by
  have H := Lib.hid h
  have HL := Lib.hid h.hlen
  have h64 := h.len64
  have hcap := h.row.hcap
  have hmax := h.row.hmax
  have hcap64 : cap ≤ 9223372036854775807 := by unfold maxLen at hmax; omega
  have hcl : (coreCl L).length = len := by rw [coreCl_len, h.hlen]
  obtain ⟨r, hr⟩ : ∃ r, shortCl (coreCl L) = r := ⟨_, rfl⟩
  have HR := Lib.hid hr
  rw [hr]
  clear hmax hr h
  by_cases h14 : (14 : Int) < (len : Int)
  · have HE : Hid (r = false) := Lib.hid (by rw [← HR.out]; unfold shortCl; rw [decide_eq_false (by omega)]; rfl)
    clear HR H HL
    go_enter Tryz.func10, Tryz.ntmps10
    go_wp2
    go_ret
    exact ⟨by rw [HE.out]; rfl, Below.refl _ _⟩
  · have H14 := Lib.hid hcl
    clear hcl
    go_enter Tryz.func10, Tryz.ntmps10
    go_wp2
    go_loopw [3, 4, 5] (fun i _ _ wr => ∃ k : Nat, k ≤ len ∧ i = .int .i64 k ∧ Hid (∀ (j : Nat) z, j < k → L[j]? = some z → shortC z.core = true) ∧ Hid (Below w.heap.size w wr)) (fun i _ _ _ => len - (intOf i).toNat)
    case atStart => exact ⟨0, Nat.zero_le _, rfl, Lib.hid (fun j x hj => absurd hj (by omega)), Lib.hid (Below.refl _ _)⟩
    case round =>
      obtain ⟨k, hkl, rfl, HA, HB⟩ := hrel
      by_cases hlt : k < len
      · obtain ⟨b, off, y, rfl, hb, hy, hyc, hya⟩ := (H.out.below HB.out).get hlt
        have HY := Lib.hid hy
        have HSTOP : Hid (shortC y.core = false → r = false) := Lib.hid (fun e => by rw [← HR.out]; exact shortCl_stop (coreCl_get HY.out) e)
        obtain ⟨y0, y1, y2, y3, y4⟩ := hyc
        have l1 := hya.t.hlen
        have l2 := hya.p.hlen
        have l3 := hya.m.hlen
        have l4 := hya.h.hlen
        have m1 := hya.t.len64
        have m2 := hya.p.len64
        have m3 := hya.m.len64
        have m4 := hya.h.len64
        have HC : Hid (shortC y.core = (decide (y.wn ≤ 20) && decide (y.hn ≤ 20) && decide (y.pn ≤ 80) && decide (y.mn ≤ 80) && (coreH y.hooks).all (fun h => decide (h.2.length ≤ 80)))) := Lib.hid (by
          unfold shortC ClassD.core
          dsimp only
          rw [l1, l2, l3, show (coreH y.hooks).length = y.hn by unfold coreH; rw [List.length_map, l4]])
        have HHR := Lib.hid hya.h
        clear hy hb hya l1 l2 l3 l4
        go_upto_region 7 with fail
        obtain ⟨V, hV, C0, -, HBV⟩ := boxes1 wr (encClD y).toArray 40
        have hV2 : wr.alloc (.cells #[.bool y.form, .slice y.wa y.wn y.wk, .slice y.pa y.pn y.pk, .slice y.ma y.mn y.mc, .slice y.ha y.hn y.hk] 40) = V := hV
        rw [hV2]
        have C0 : Hid (CBox V wr.heap.size (encClD y)) := Lib.hid C0
        obtain ⟨G, hG⟩ : ∃ G, wr.heap.size = G := ⟨_, rfl⟩
        rw [hG] at C0 ⊢
        have HBW := Lib.hid (HB.out.trans (HBV.mono HB.out.size))
        have HHV := Lib.hid (HHR.out.below HBV)
        clear hV hV2 hG HBV y0 y1 y2 y3 y4
        have c1 := C0.out.c 1 _ rfl
        have c2 := C0.out.c 2 _ rfl
        have c3 := C0.out.c 3 _ rfl
        have c4 := C0.out.c 4 _ rfl
        by_cases h1 : (20 : Int) < (y.wn : Int)
        · have HE := Lib.hid (HSTOP.out (by rw [HC.out, decide_eq_false (p := y.wn ≤ 20) (by omega)]; rfl))
          go_wp2
          go_ret
          exact ⟨by rw [HE.out]; rfl, HBW.out⟩
        by_cases h2 : (20 : Int) < (y.hn : Int)
        · have HE := Lib.hid (HSTOP.out (by rw [HC.out, decide_eq_false (p := y.hn ≤ 20) (by omega), Bool.and_false]; rfl))
          go_wp2
          go_ret
          exact ⟨by rw [HE.out]; rfl, HBW.out⟩
        by_cases h3 : (80 : Int) < (y.pn : Int)
        · have HE := Lib.hid (HSTOP.out (by rw [HC.out, decide_eq_false (p := y.pn ≤ 80) (by omega), Bool.and_false]; rfl))
          go_wp2
          go_ret
          exact ⟨by rw [HE.out]; rfl, HBW.out⟩
        by_cases h4 : (80 : Int) < (y.mn : Int)
        · have HE := Lib.hid (HSTOP.out (by rw [HC.out, decide_eq_false (p := y.mn ≤ 80) (by omega), Bool.and_false]; rfl))
          go_wp2
          go_ret
          exact ⟨by rw [HE.out]; rfl, HBW.out⟩
        have HC2 : Hid (shortC y.core = (coreH y.hooks).all (fun h => decide (h.2.length ≤ 80))) := Lib.hid (by
          rw [HC.out, decide_eq_true (p := y.wn ≤ 20) (by omega), decide_eq_true (p := y.hn ≤ 20) (by omega), decide_eq_true (p := y.pn ≤ 80) (by omega), decide_eq_true (p := y.mn ≤ 80) (by omega)]
          rfl)
        have hcaph := HHV.out.row.hcap
        have hmaxh := HHV.out.row.hmax
        have hcaph64 : y.hk ≤ 9223372036854775807 := by unfold maxLen at hmaxh; omega
        clear hmaxh
        obtain ⟨ha, hn, hk, hooks, e1, e2, e3, e4⟩ : ∃ (ha : Option Addr) (hn hk : Nat) (hooks : List HookD), y.ha = ha ∧ y.hn = hn ∧ y.hk = hk ∧ y.hooks = hooks := ⟨_, _, _, _, rfl, rfl, rfl, rfl⟩
        rw [e1, e2, e3] at c4
        rw [e1, e2, e3, e4] at HHV
        rw [e2, e3] at hcaph
        rw [e3] at hcaph64
        rw [e2] at m4 h2
        have HK4 := Lib.hid e4
        clear e1 e2 e3 e4 HHR HC
        go_wp2
        go_loopw [5] (fun j wr2 => ∃ i : Nat, i ≤ hn ∧ j = .int .i64 i ∧ Hid (∀ (t : Nat) z, t < i → hooks[t]? = some z → z.ops.length ≤ 80) ∧ Hid (Below V.heap.size V wr2)) (fun j _ => hn - (intOf j).toNat)
        case atStart => exact ⟨0, Nat.zero_le _, rfl, Lib.hid (fun j x hj => absurd hj (by omega)), Lib.hid (Below.refl _ _)⟩
        case round =>
          obtain ⟨i, hil, rfl, HI, HB2⟩ := hrel
          clear c1 c2 c3
          have c4 := (HB2.out.cell (p := ⟨G, 4, none⟩) C0.out.lt).trans c4
          by_cases hlt2 : i < hn
          · obtain ⟨hb_, ho_, z, rfl, hbz, hz, z0, z1, -, hzo⟩ := (HHV.out.below HB2.out).get hlt2
            have HZ := Lib.hid hz
            have hzl := hzo.hlen
            have hz64 := hzo.len64
            obtain ⟨zk, za, zn, zc, zo⟩ := z
            dsimp only at z0 z1 hzl hz64
            have HZL := Lib.hid hzl
            clear hz hbz hzo hzl
            by_cases h80 : (80 : Int) < (zn : Int)
            · have HE := Lib.hid (HSTOP.out (shortC_stop (i := i) (y := ⟨zk, za, zn, zc, zo⟩) (by rw [HK4.out]; exact HZ.out) (by have := HZL.out; dsimp only; omega)))
              go_wp2
              go_ret
              exact ⟨by rw [HE.out]; rfl, HBW.out.trans (HB2.out.mono HBW.out.size)⟩
            · go_wp2
              go_roundw
              case rel => exact ⟨i + 1, by omega, by go_num, Lib.hid (fun t z hj hz => by
                rcases Nat.lt_or_ge t i with h1 | h1
                · exact HI.out t z h1 hz
                · obtain rfl : t = i := by omega
                  rw [HZ.out] at hz
                  injection hz with hz
                  subst hz
                  have := HZL.out
                  dsimp only
                  omega), HB2⟩
              case measure => simp [intOf]; omega
          · have hie : i = hn := by omega
            subst hie
            have HS : Hid (shortC y.core = true) := Lib.hid (by
              rw [HC2.out, List.all_eq_true]
              intro q hq
              unfold coreH at hq
              obtain ⟨z, hz, rfl⟩ := List.mem_map.1 hq
              rw [HK4.out] at hz
              obtain ⟨t, ht⟩ := List.getElem?_of_mem hz
              exact decide_eq_true (HI.out t z (by have := (List.getElem?_eq_some_iff.1 ht).1; rw [HHV.out.hlen] at this; exact this) ht))
            go_wp2
            go_roundw
            case rel => exact ⟨k + 1, by omega, by go_num, Lib.hid (fun j z hj hz => by
              rcases Nat.lt_or_ge j k with h1 | h1
              · exact HA.out j z h1 hz
              · obtain rfl : j = k := by omega
                rw [HY.out] at hz
                injection hz with hz
                subst hz
                exact HS.out), Lib.hid (HBW.out.trans (HB2.out.mono HBW.out.size))⟩
            case measure => simp [intOf]; omega
      · have hkd : k = len := by omega
        subst hkd
        have HE : Hid (r = true) := Lib.hid (by
          rw [← HR.out]
          unfold shortCl
          rw [decide_eq_true (by have := H14.out; omega), Bool.true_and, List.all_eq_true]
          intro c hc
          unfold coreCl at hc
          obtain ⟨z, hz, rfl⟩ := List.mem_map.1 hc
          obtain ⟨t, ht⟩ := List.getElem?_of_mem hz
          exact HA.out t z (by have := (List.getElem?_eq_some_iff.1 ht).1; rw [HL.out] at this; exact this) ht)
        go_wp2
        go_ret
        exact ⟨by rw [HE.out]; rfl, HB.out⟩
end Go.Proofs.YtbkhngoehoiccaaGreat
