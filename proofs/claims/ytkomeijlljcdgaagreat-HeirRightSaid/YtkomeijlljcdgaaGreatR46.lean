/- Texts joined in build order: Ref10Heirs. -/
import Derived.Test.YtkomeijlljcdgaaGreatR44
import Derived.Test.YtkomeijlljcdgaaGreatR37
import Derived.Test.YtkomeijlljcdgaaGreatR30
import Derived.Test.YtkomeijlljcdgaaGreatR35
namespace Go.Proofs.YtkomeijlljcdgaaGreat
open Go.RowKit
abbrev zeroN10 : Obj := .cells #[.int .i64 0, .string ⟨#[]⟩, .string ⟨#[]⟩, .string ⟨#[]⟩, .slice none 0 0, .int .i64 0, .slice none 0 0, .int .i64 0, .int .i64 0, .int .i64 0] 47
def selB (F : List Core) (xn xl : ByteArray) (l : List Int) (k : Nat) : List Int := (l.take k).filter fun z => match getC F z with | some c => heirB xn xl c | none => false
theorem selB_len (F : List Core) (xn xl : ByteArray) (l : List Int) (k : Nat) : (selB F xn xl l k).length ≤ l.length := Nat.le_trans (List.length_filter_le _ _) (List.length_take_le' _ _)
theorem selB_step {F : List Core} {xn xl : ByteArray} {l : List Int} {k t : Nat} {c : Core} (h : l[k]? = some (t : Int)) (hc : F[t]? = some c) : selB F xn xl l (k + 1) = selB F xn xl l k ++ (if heirB xn xl c = true then [(t : Int)] else []) := by
  unfold selB
  rw [List.take_add_one, h, List.filter_append]
  congr 1
  simp only [Option.toList_some, List.filter_cons, List.filter_nil, getC_nat, hc]
set_option maxHeartbeats 4000000 in
set_option maxRecDepth 100000 in
theorem refheirs10_any (a : Option Addr) (len cap : Nat) (m : Int) (K : List NodeD) (xn xl : ByteArray) (cl : Int) (w : World) (hr : rightF m (coreL K) = true) (hs : K.length ≤ 1000) (h : NodeRow w a len cap K) :
    Calls Tryz.prog 18 #[forV a len cap m, .agg #[.string xn, .string xl, .int .i64 cl]] w (OrdPost w (heirsZ m (coreL K) xn xl)) := by
  have hlp : 0 < len := by
    have := right_len hr
    rwa [coreL_len, h.hlen] at this
  have HCL : Hid ((coreL K).length = len) := Lib.hid (by rw [coreL_len, h.hlen])
  have hlen : len ≤ 1000 := by rw [← h.hlen]; exact hs
  obtain ⟨l, hl⟩ : ∃ l, elemsZ m (coreL K) 0 = l := ⟨_, rfl⟩
  have CA : Hid (∀ W, NodeRow W a len cap K → Calls Tryz.prog 40 #[forV a len cap m, .int .i64 0] W (OrdPost W l)) := Lib.hid (fun W h1 => by
    have h2 := refelems_any a len cap m K hr hs 0 W h1 hlp
    have e : (allI (coreL K) ((0 : Nat) : Int)).filter (fun k => kindK (coreL K) k == 1) = l := by
      rw [← hl]
      unfold elemsZ
      rw [show (0 : Int) = ((0 : Nat) : Int) from rfl, allZ_eq hr (by rw [HCL.out]; exact hlp)]
    rw [e] at h2
    exact h2)
  have NUM : Hid (∀ z ∈ l, ∃ k : Nat, z = k ∧ k < len) := Lib.hid (fun z hz => by
    rw [← hl] at hz
    rw [← HCL.out]
    exact elemsZ_in hz)
  have HLL : Hid (l.length ≤ 1000) := Lib.hid (by
    have h2 := elemsZ_len m (coreL K) 0
    rw [hl, HCL.out] at h2
    omega)
  have HE : Hid (heirsZ m (coreL K) xn xl = selB (coreL K) xn xl l l.length) := Lib.hid (by
    unfold heirsZ selB
    rw [hl, List.take_length]
    congr 1)
  obtain ⟨i0, hi0, hz0, hz1, hz2⟩ := info_parts int_info
  obtain ⟨w0, hw0, BX, D0, D1⟩ : ∃ w0, (w.alloc (forB a len cap m)).alloc (.cells #[.string xn, .string xl, .int .i64 cl] 30) = w0 ∧ Hid (Box w w0 w.heap.size a len cap m K (coreL K)) ∧ Hid (∀ W, Below w0.heap.size w0 W → W.cell? ⟨w.heap.size + 1, 0, none⟩ = some (.string xn)) ∧ Hid (∀ W, Below w0.heap.size w0 W → W.cell? ⟨w.heap.size + 1, 1, none⟩ = some (.string xl)) := by
    have hs : (w.alloc (forB a len cap m)).heap.size = w.heap.size + 1 := by simp
    have hb := below_box (w.alloc (forB a len cap m)) (.cells #[.string xn, .string xl, .int .i64 cl] 30)
    have hlt : w.heap.size + 1 < ((w.alloc (forB a len cap m)).alloc (.cells #[.string xn, .string xl, .int .i64 cl] 30)).heap.size := by simp
    have d : ∀ (j : Nat) (W : World), Below ((w.alloc (forB a len cap m)).alloc (.cells #[.string xn, .string xl, .int .i64 cl] 30)).heap.size ((w.alloc (forB a len cap m)).alloc (.cells #[.string xn, .string xl, .int .i64 cl] 30)) W → W.cell? ⟨w.heap.size + 1, j, none⟩ = (#[.string xn, .string xl, .int .i64 cl] : Array Value)[j]? := fun j W hW => by
      have := cell_of_row ((w.alloc (forB a len cap m)).alloc (.cells #[.string xn, .string xl, .int .i64 cl] 30)) (w.alloc (forB a len cap m)).heap.size j _ 30 (0, 0) (heap_alloc_new _ _)
      rw [hs] at this
      exact (hW.cell (p := ⟨w.heap.size + 1, j, none⟩) hlt).trans this
    exact ⟨_, rfl, Lib.hid ((Box.start h).keep hb), Lib.hid (d 0), Lib.hid (d 1)⟩
  have HW := Lib.hid hw0
  have z0 := BX.out.c0
  have z1 := BX.out.c1
  clear h hs hl hr hw0
  go_enter Tryz.func18, Tryz.ntmps18
  go_upto_region 1 with fail
  rw [HW.out]
  go_wp2_with (go_at_call 40; ((with_reducible refine (CA.out _ BX.out.row).mono ?_); rintro e w1 ⟨ao, lo, co, rfl, hro, hb⟩; have BX := Lib.hid (BX.out.keep hb); have HB1 := Lib.hid hb; have IR := Lib.hid hro; have z0 := BX.out.c0; have z1 := BX.out.c1; clear hb hro))
  have hl64 := IR.out.len64
  have hl1k : lo ≤ 1000 := by rw [← IR.out.hlen]; exact HLL.out
  have OW0 : Hid (w1.ownsRow w1.heap.size 3 1 (.slice none 0 0) (selB (coreL K) xn xl l 0).length ((selB (coreL K) xn xl l 0).flatMap encZ)) := Lib.hid (World.ownsRow_nil _ _ _ _)
  go_loopw [5, 7] (fun v i wr => ∃ k : Nat, k ≤ lo ∧ i = .int .i64 k ∧ Hid (Below w1.heap.size w1 wr) ∧ Hid (wr.ownsRow w1.heap.size 3 1 v (selB (coreL K) xn xl l k).length ((selB (coreL K) xn xl l k).flatMap encZ))) (fun _ i _ => lo - (intOf i).toNat)
  case atStart => exact ⟨0, Nat.zero_le _, rfl, Lib.hid (Below.refl _ _), OW0⟩
  case round =>
    clear OW0 z0 z1
    obtain ⟨k, hk, rfl, HBW, OW⟩ := hrel
    have BX2 := Lib.hid (BX.out.keep HBW.out)
    have IR2 := Lib.hid (IR.out.below HBW.out)
    have z0 := BX2.out.c0
    have z1 := BX2.out.c1
    by_cases hlt : k < lo
    · obtain ⟨bo, oo, z, rfl, hbo, hz, hcz, -⟩ := IR2.out.get hlt
      obtain ⟨q, rfl, hq⟩ := NUM.out z (List.mem_of_getElem? hz)
      obtain ⟨b, off, nd, rfl, hb0, hnd, hat, hok⟩ := BX2.out.row.get hq
      have HND := Lib.hid (coreL_get hnd)
      have OK := Lib.hid hok
      have HST := Lib.hid (selB_step (xn := xn) (xl := xl) hz HND.out)
      have HBO := Lib.hid hbo
      have HCZ := Lib.hid hcz
      have hsl : (selB (coreL K) xn xl l k).length ≤ 1000 := Nat.le_trans (selB_len _ _ _ _ _) HLL.out
      obtain ⟨n1, hn1⟩ : ∃ n1, (selB (coreL K) xn xl l k).length = n1 := ⟨_, rfl⟩
      have HN1 := Lib.hid hn1
      rw [hn1] at OW hsl
      obtain ⟨y0, y1, y2, y3, y4, y5, y6, y7, y8, y9⟩ := hat.below hb0 (below_box wr zeroN10)
      obtain ⟨x0, x1, x2, x3, x4, x5, x6, x7, x8, x9⟩ := hat
      have z0a := (BX2.out.keep (below_box wr zeroN10)).c0
      have hcza := ((below_box wr zeroN10).cell (p := ⟨bo, oo + k, none⟩) hbo).trans hcz
      clear hz hnd hok hn1
      go_upto_region 6 with fail
      go_cut [8] (fun c wx => c = .pointer (some ⟨wr.heap.size, 0, none⟩) ∧ wx = (wr.alloc (nodB nd)).drew)
      case first =>
        go_region_law (fail)
        all_goals
          go_wp2
          go_meet
          exact ⟨rfl, rfl⟩
      case rest =>
        obtain ⟨rfl, rfl⟩ := hcut
        clear x0 x1 x2 x3 x4 x5 x6 x7 x8 x9 y0 y1 y2 y3 y4 y5 y6 y7 y8 y9 z0a hcza z0 z1 hcz hbo hb0
        obtain ⟨W, hW, NK⟩ : ∃ W, (wr.alloc (nodB nd)).drew = W ∧ NKeep wr W nd := ⟨_, rfl, (NKeep.start OK.out).keep (Below.refl _ _).drew⟩
        rw [hW]
        clear hW
        have NK := Lib.hid NK
        have hcz : W.cell? ⟨bo, oo + k, none⟩ = some (.int .i64 q) := (NK.out.below.cell (p := ⟨bo, oo + k, none⟩) HBO.out).trans HCZ.out
        have OW := Lib.hid (own_below OW.out NK.out.below)
        have HBW := Lib.hid (HBW.out.trans (NK.out.below.mono HBW.out.size))
        have d0 := D0.out W (HB1.out.trans (HBW.out.mono HB1.out.size))
        have d1 := D1.out W (HB1.out.trans (HBW.out.mono HB1.out.size))
        have x1 := NK.out.box.c1
        have x2 := NK.out.box.c2
        clear NK HBO HCZ BX2 IR2 OK HND
        obtain ⟨q1, hq1⟩ : ∃ q, (nd.core.name.toList == xl.toList) = q := ⟨_, rfl⟩
        obtain ⟨q2, hq2⟩ : ∃ q, (nd.core.is.toList == xn.toList) = q := ⟨_, rfl⟩
        obtain ⟨q3, hq3⟩ : ∃ q, (nd.core.name.toList == xn.toList) = q := ⟨_, rfl⟩
        have HQ : Hid (heirB xn xl nd.core = (q1 && (q2 || q3))) := Lib.hid (by unfold heirB; rw [hq1, hq2, hq3])
        go_upto_region 7 with fail
        go_cut [43] (fun c wx => c = .bool (q1 && (q2 || q3)) ∧ wx = W)
        case first =>
          cases q1 <;> cases q2 <;> cases q3
          all_goals
            go_wp2
            go_meet
            exact ⟨rfl, rfl⟩
        case rest =>
          obtain ⟨rfl, rfl⟩ := hcut
          rw [← HQ.out]
          clear hq1 hq2 hq3 d0 d1 x1 x2 HQ
          obtain ⟨hb_, hhb⟩ : ∃ q, heirB xn xl nd.core = q := ⟨_, rfl⟩
          rw [hhb] at HST ⊢
          clear hhb
          cases hb_ with
          | false =>
            have HS2 : Hid (selB (coreL K) xn xl l (k + 1) = selB (coreL K) xn xl l k) := Lib.hid (by rw [HST.out]; simp)
            go_wp2
            go_roundw
            case rel => exact ⟨k + 1, by omega, by go_num, HBW, Lib.hid (by rw [HS2.out, HN1.out]; exact OW.out)⟩
            case measure => simp [intOf]; omega
          | true =>
            have HS2 : Hid (selB (coreL K) xn xl l (k + 1) = selB (coreL K) xn xl l k ++ [(q : Int)]) := Lib.hid (by rw [HST.out]; simp)
            go_wp2_with (at_builtin
                         refine wpList_append_rows rfl (.tmp 44) (.tmp 49) 36 rfl 3 i0 _ 1 8 Tryz.underlying36 hi0 hz0 hz1 hz2 rfl (by decide) w1.heap.size _ n1 (selB (coreL K) xn xl l k) [(q : Int)] rfl (OW.out.alloc _) _ 1 1 rfl (own_one _ _ _ _ rfl rfl) (fun x _ => encZ_one x) (by unfold maxLen; omega) (by omega) (by have := HBW.out.size; simp; omega) (fun h => by cases h) ?_
                         intro v3 w3 hown3 hg3 hat3
                         have HB3 := Lib.hid (below_own HBW.out OW.out hg3)
                         have HO3 := Lib.hid hown3
                         clear hown3 hg3 hat3)
            go_roundw
            case rel => exact ⟨k + 1, by omega, by go_num, HB3, Lib.hid (by
              have h1 := HO3.out
              rw [← HS2.out] at h1
              rwa [show n1 + 1 = (selB (coreL K) xn xl l (k + 1)).length by rw [HS2.out, List.length_append, HN1.out]; rfl] at h1)⟩
            case measure => simp [intOf]; omega
    · have hkk : k = lo := by omega
      subst hkk
      have HIN : Hid (∀ z ∈ selB (coreL K) xn xl l k, In64 z) := Lib.hid (fun z hz => by
        unfold selB at hz
        obtain ⟨q, rfl, hq⟩ := NUM.out z (List.mem_of_mem_take ((List.mem_filter.1 hz).1))
        exact ⟨by omega, by omega⟩)
      have HSE : Hid (heirsZ m (coreL K) xn xl = selB (coreL K) xn xl l k) := Lib.hid (by rw [HE.out, IR.out.hlen])
      obtain ⟨a9, cap9, rfl, hr9, -⟩ := IntRow.of_own_new (M := selB (coreL K) xn xl l k) (n := (selB (coreL K) xn xl l k).length) rfl OW.out HIN.out
      have HR9 := Lib.hid hr9
      clear hr9 OW
      go_wp2
      go_ret
      exact ⟨_, _, _, rfl, by rw [HSE.out]; exact HR9.out, BX2.out.below⟩
end Go.Proofs.YtkomeijlljcdgaaGreat
