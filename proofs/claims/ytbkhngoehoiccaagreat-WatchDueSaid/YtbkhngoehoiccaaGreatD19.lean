/- Texts joined in build order: ShadeAsk. -/
import Derived.Test.YtbkhngoehoiccaaGreatD14
import Derived.Test.YtbkhngoehoiccaaGreatD17
namespace Go.Proofs.YtbkhngoehoiccaaGreat
open Go.RowKit
set_option maxHeartbeats 4000000 in
set_option maxRecDepth 100000 in
theorem shknows_any (a : Option Addr) (len cap : Nat) (m : Int) (L : List NodeD) (b : Option Addr) (ln cn : Nat) (l : List Int) (w : World) (h : NodeRow w a len cap L) (hm : In64 m) (hs : smallF L) (hn : IntRow w b ln cn l) :
    Calls Tryz.prog 75 #[forV a len cap m, .slice b ln cn] w fun e w' => e = .returned (.bool (knowsB m (coreL L) l)) ∧ Below w.heap.size w w' := by
  have HL := Lib.hid h.hlen
  have hlen := h.len64
  have HNL := Lib.hid hn.hlen
  have hln := hn.len64
  have BX := Lib.hid (Box.start (m := m) h)
  have NR := Lib.hid (hn.below (below_box w (forB a len cap m)))
  have z0 := BX.out.c0
  have z1 := BX.out.c1
  have CR : Hid (∀ W, NodeRow W a len cap L → Calls Tryz.prog 48 #[forV a len cap m] W fun e w' => e = .returned (.bool (rightF m (coreL L))) ∧ Below W.heap.size W w') := Lib.hid (fun W h => rightF_any a len cap m L W h hm hs)
  clear h hm hs hn
  go_enter Tryz.func75, Tryz.ntmps75
  go_wp2
  go_loop [9] (fun i => ∃ k : Nat, k ≤ ln ∧ i = .int .i64 k ∧ Hid (∀ (j : Nat) z, j < k → l[j]? = some z → inB (coreL L).length z = true)) (fun i => ln - (intOf i).toNat)
  case atStart => exact ⟨0, Nat.zero_le _, rfl, Lib.hid (fun j z hj => absurd hj (by omega))⟩
  case round =>
    obtain ⟨k, hk, rfl, HA⟩ := hrel
    by_cases hlt : k < ln
    · obtain ⟨b2, off2, z, rfl, hb2, hz, hcz, hin⟩ := NR.out.get hlt
      have STOP : Hid (inB (coreL L).length z = false → knowsB m (coreL L) l = false) := Lib.hid (fun hq => by
        unfold knowsB
        have : l.all (inB (coreL L).length) = false := by rw [List.all_eq_false]; exact ⟨z, List.mem_of_getElem? hz, by simp [hq]⟩
        rw [this]
        rfl)
      by_cases q1 : z < 0
      · have HR : Hid (knowsB m (coreL L) l = false) := Lib.hid (STOP.out (by unfold inB; rw [decide_eq_false (by omega)]; rfl))
        clear hz
        go_wp2
        go_ret
        exact ⟨ret_bool HR.out.symm, BX.out.below⟩
      by_cases q2 : (len : Int) ≤ z
      · have HR : Hid (knowsB m (coreL L) l = false) := Lib.hid (STOP.out (by unfold inB; rw [decide_eq_false (show ¬ z < ((coreL L).length : Int) by rw [coreL_len, HL.out]; omega), Bool.and_false]))
        clear hz
        go_wp2
        go_ret
        exact ⟨ret_bool HR.out.symm, BX.out.below⟩
      have HA2 : Hid (∀ (j : Nat) z, j < k + 1 → l[j]? = some z → inB (coreL L).length z = true) := Lib.hid (fun j y hj hy => by
        by_cases e : j = k
        · subst e
          rw [hz] at hy
          rw [← Option.some.inj hy]
          unfold inB
          rw [decide_eq_true (by omega), decide_eq_true (by rw [coreL_len, HL.out]; omega)]
          rfl
        · exact HA.out j y (by omega) hy)
      clear hz
      go_wp2
      go_round
      case rel => exact ⟨k + 1, by omega, by go_num, HA2⟩
      case measure => simp [intOf]; omega
    · have HR : Hid (knowsB m (coreL L) l = rightF m (coreL L)) := Lib.hid (by
        unfold knowsB
        have : l.all (inB (coreL L).length) = true := by
          rw [List.all_eq_true]
          intro z hz
          obtain ⟨j, hj, he⟩ := List.mem_iff_getElem.1 hz
          exact HA.out j z (by rw [HNL.out] at hj; omega) (by rw [List.getElem?_eq_getElem hj, he])
        rw [this]
        rfl)
      clear HA
      go_wp2_with (go_at_call 48; (refine (CR.out _ BX.out.row).mono ?_); rintro e w1 ⟨rfl, hb⟩; have BX := Lib.hid (BX.out.keep hb); clear hb)
      go_ret
      exact ⟨ret_bool HR.out.symm, BX.out.below⟩
theorem up_at {m : Int} {F : List Core} (hr : rightF m F = true) {c : Nat} {x : Core} (hx : F[c]? = some x) : (upC x = -1 ∧ parS F c = none) ∨ ∃ p : Nat, upC x = p ∧ p < F.length ∧ parS F c = some p := by
  have hc := (List.getElem?_eq_some_iff.1 hx).1
  by_cases he : nextUp F (c : Int) = -1
  · exact .inl ⟨by rw [← nextUp_at hx]; exact he, parS_none he⟩
  · rcases right_up hr c (by omega) (by omega) with h | ⟨h1, h2⟩
    · exact absurd h he
    · exact .inr ⟨(nextUp F (c : Int)).toNat, by rw [← nextUp_at hx]; omega, by omega, parS_some (by omega)⟩
theorem connZ_eq' {m : Int} {F : List Core} (h : rightF m F = true) {a : Nat} (ha : a < F.length) : connZ m F (a : Int) = (kindK F (topZ m F a) == 0) := by
  unfold connZ
  rw [thereF_of h ha, Bool.true_and]
set_option maxHeartbeats 8000000 in
set_option maxRecDepth 100000 in
theorem wtop_any (a : Option Addr) (len cap : Nat) (m : Int) (L : List NodeD) (k : Nat) (w : World) (h : NodeRow w a len cap L) (hr : rightF m (coreL L) = true) (hk : k < len) :
    Calls Tryz.prog 76 #[.slice a len cap, .int .i64 k] w fun e w' => e = .returned (.int .i64 (topF (coreL L) k : Nat)) ∧ Below w.heap.size w w' := by
  have HCL : Hid ((coreL L).length = len) := Lib.hid (by rw [coreL_len, h.hlen])
  have hlen := h.len64
  have NR := Lib.hid h
  have TR := Lib.hid (treeS hr)
  have HRT := Lib.hid hr
  clear h hr
  go_enter Tryz.func76, Tryz.ntmps76
  go_wp2
  go_loopw [1] (fun i wr => ∃ c : Nat, c < len ∧ i = .int .i64 c ∧ Hid (topF (coreL L) c = topF (coreL L) k) ∧ Hid (Below w.heap.size w wr)) (fun i _ => rankF (coreL L) (intOf i).toNat)
  case atStart => exact ⟨k, hk, rfl, Lib.hid rfl, Lib.hid (Below.refl _ _)⟩
  case round =>
    obtain ⟨c, hc, rfl, HE, HBW⟩ := hrel
    obtain ⟨b, off, x, hab, hb, hx, hat, hok⟩ := (NR.out.below HBW.out).get hc
    have HAT := Lib.hid hat
    have HBL := Lib.hid hb
    obtain ⟨c0, c1, c2, c3, c4, c5, c6, c7, c8, c9⟩ := hat
    have hxc := coreL_get hx
    subst hab
    have hcl : c < (coreL L).length := by rw [HCL.out]; exact hc
    rcases up_at HRT.out hxc with ⟨hu, hp⟩ | ⟨p, hu, hpl, hp⟩
    · have UP : Hid (∀ W, Calls Tryz.prog 87 #[nodVal x] W fun e w' => e = .returned (.int .i64 (-1)) ∧ Below W.heap.size W w') := Lib.hid (fun W => by
        have := up_any x W
        rwa [hu] at this)
      have HQ : Hid (topF (coreL L) k = c) := Lib.hid (by
        rw [← HE.out]
        exact rootN_none hp)
      clear hxc hx hok hp hu hb
      go_wp2_with (go_at_call 87; (refine (UP.out _).mono ?_); rintro e w2 ⟨rfl, hb⟩; have HBW := Lib.hid (HBW.out.trans (hb.mono HBW.out.size)); have HAT := Lib.hid (HAT.out.below HBL.out hb); have HBL := Lib.hid (Nat.lt_of_lt_of_le HBL.out hb.size); clear c0 c1 c2 c3 c4 c5 c6 c7 c8 c9; obtain ⟨c0, c1, c2, c3, c4, c5, c6, c7, c8, c9⟩ := HAT.out; clear hb)
      go_ret
      exact ⟨ret_int (by rw [HQ.out]), HBW.out⟩
    · have UP : Hid (∀ W, Calls Tryz.prog 87 #[nodVal x] W fun e w' => e = .returned (.int .i64 (p : Int)) ∧ Below W.heap.size W w') := Lib.hid (fun W => by
        have := up_any x W
        rwa [hu] at this)
      have HRK := Lib.hid (TR.out.rank_up _ c hcl hp)
      have HE2 : Hid (topF (coreL L) p = topF (coreL L) k) := Lib.hid (by
        rw [← HE.out]
        exact TR.out.root_held hcl (by omega) (holds_par hp))
      rw [HCL.out] at hpl
      have hne : ((p : Int) != -1) = true := bne_iff_ne.2 (by omega)
      clear hxc hx hok hp hu hb
      go_wp2_with (go_at_call 87; (refine (UP.out _).mono ?_); rintro e w2 ⟨rfl, hb⟩; have HBW := Lib.hid (HBW.out.trans (hb.mono HBW.out.size)); have HAT := Lib.hid (HAT.out.below HBL.out hb); have HBL := Lib.hid (Nat.lt_of_lt_of_le HBL.out hb.size); clear c0 c1 c2 c3 c4 c5 c6 c7 c8 c9; obtain ⟨c0, c1, c2, c3, c4, c5, c6, c7, c8, c9⟩ := HAT.out; clear hb)
      go_roundw
      case rel => exact ⟨p, hpl, rfl, HE2, HBW⟩
      case measure =>
        have := HRK.out
        unfold rankF at this ⊢
        simp [intOf]
        omega
set_option maxHeartbeats 8000000 in
set_option maxRecDepth 100000 in
theorem topFn_any (a : Option Addr) (len cap : Nat) (m : Int) (L : List NodeD) (n : Int) (w : World) (h : NodeRow w a len cap L) (hm : In64 m) (hn : In64 n) (hs : smallF L) :
    Calls Tryz.prog 52 #[forV a len cap m, .int .i64 n] w fun e w' => e = .returned (.int .i64 (topZ m (coreL L) n)) ∧ Below w.heap.size w w' := by
  have HCL : Hid ((coreL L).length = len) := Lib.hid (by rw [coreL_len, h.hlen])
  have hlen := h.len64
  have BX := Lib.hid ((Box.start (m := m) h).keep (below_box _ (.cells #[.int .i64 n] 3)))
  have NB := Lib.hid (lit_one (w.alloc (forB a len cap m)) 3 n hn)
  have CK : Hid (∀ W b, NodeRow W a len cap L → IntRow W b 1 1 [n] → Calls Tryz.prog 75 #[forV a len cap m, .slice b 1 1] W fun e w' => e = .returned (.bool (thereF m (coreL L) n)) ∧ Below W.heap.size W w') := Lib.hid (fun W b h1 h2 => by
    rw [← knowsB_one]
    exact shknows_any a len cap m L b 1 1 [n] W h1 hm hs h2)
  simp only [World.size_alloc] at NB
  have z0 := BX.out.c0
  have z1 := BX.out.c1
  clear h hm hs hn
  cases q : thereF m (coreL L) n with
  | false =>
    rw [q] at CK
    have HR : Hid (topZ m (coreL L) n = -1) := Lib.hid (by unfold topZ; rw [q]; rfl)
    clear q
    go_enter Tryz.func52, Tryz.ntmps52
    go_wp2_with (go_at_call 75; ((with_reducible refine (CK.out _ _ BX.out.row NB.out).mono ?_); rintro e w1 ⟨rfl, hb⟩; have BX := Lib.hid (BX.out.keep hb); have z0 := BX.out.c0; have z1 := BX.out.c1; clear hb))
    go_ret
    exact ⟨ret_int HR.out.symm, BX.out.below⟩
  | true =>
    rw [q] at CK
    obtain ⟨hr, k, rfl, hk⟩ := there_nat q
    have HR : Hid (topZ m (coreL L) k = (topF (coreL L) k : Nat)) := Lib.hid (topZ_eq hr hk)
    rw [HCL.out] at hk
    have CT : Hid (∀ W, NodeRow W a len cap L → Calls Tryz.prog 76 #[.slice a len cap, .int .i64 k] W fun e w' => e = .returned (.int .i64 (topF (coreL L) k : Nat)) ∧ Below W.heap.size W w') := Lib.hid (fun W h1 => wtop_any a len cap m L k W h1 hr hk)
    clear q hr
    go_enter Tryz.func52, Tryz.ntmps52
    go_wp2_with (first
      | (go_at_call 75; ((with_reducible refine (CK.out _ _ BX.out.row NB.out).mono ?_); rintro e w1 ⟨rfl, hb⟩; have BX := Lib.hid (BX.out.keep hb); have z0 := BX.out.c0; have z1 := BX.out.c1; clear hb))
      | (go_at_call 76; ((with_reducible refine (CT.out _ BX.out.row).mono ?_); rintro e w2 ⟨rfl, hb⟩; have BX := Lib.hid (BX.out.keep hb); clear hb)))
    go_ret
    exact ⟨ret_int HR.out.symm, BX.out.below⟩
set_option maxHeartbeats 8000000 in
set_option maxRecDepth 100000 in
theorem connFn_any (a : Option Addr) (len cap : Nat) (m : Int) (L : List NodeD) (n : Int) (w : World) (h : NodeRow w a len cap L) (hm : In64 m) (hn : In64 n) (hs : smallF L) :
    Calls Tryz.prog 30 #[forV a len cap m, .int .i64 n] w fun e w' => e = .returned (.bool (connZ m (coreL L) n)) ∧ Below w.heap.size w w' := by
  have HCL : Hid ((coreL L).length = len) := Lib.hid (by rw [coreL_len, h.hlen])
  have hlen := h.len64
  have BX := Lib.hid (Box.start (m := m) h)
  have z0 := BX.out.c0
  have z1 := BX.out.c1
  cases q : thereF m (coreL L) n with
  | false =>
    have CT : Hid (∀ W, NodeRow W a len cap L → Calls Tryz.prog 52 #[forV a len cap m, .int .i64 n] W fun e w' => e = .returned (.int .i64 (-1)) ∧ Below W.heap.size W w') := Lib.hid (fun W h => by
      have := topFn_any a len cap m L n W h hm hn hs
      rwa [show topZ m (coreL L) n = -1 by unfold topZ; rw [q]; rfl] at this)
    have HR : Hid (connZ m (coreL L) n = false) := Lib.hid (by unfold connZ; rw [q]; rfl)
    clear q h hm hn hs
    go_enter Tryz.func30, Tryz.ntmps30
    go_wp2_with (go_at_call 52; ((with_reducible refine (CT.out _ BX.out.row).mono ?_); rintro e w1 ⟨rfl, hb⟩; have BX := Lib.hid (BX.out.keep hb); have z0 := BX.out.c0; have z1 := BX.out.c1; clear hb))
    go_ret
    exact ⟨ret_bool HR.out.symm, BX.out.below⟩
  | true =>
    obtain ⟨hr, k, rfl, hk⟩ := there_nat q
    have ht := topF_lt hr hk
    have hte := topZ_eq hr hk
    obtain ⟨t, hT⟩ : ∃ t, topF (coreL L) k = t := ⟨_, rfl⟩
    rw [hT] at ht hte
    rw [HCL.out] at ht
    have CT : Hid (∀ W, NodeRow W a len cap L → Calls Tryz.prog 52 #[forV a len cap m, .int .i64 k] W fun e w' => e = .returned (.int .i64 (t : Int)) ∧ Below W.heap.size W w') := Lib.hid (fun W h => by
      have := topFn_any a len cap m L k W h hm hn hs
      rwa [hte] at this)
    obtain ⟨b, off, x, rfl, hb, hx, hat, -⟩ := h.get ht
    have C0 := Lib.hid (stays hat.c0 hb)
    have HR : Hid (connZ m (coreL L) k = (x.core.kind == 0)) := Lib.hid (by
      rw [connZ_eq' hr hk, hte]
      unfold kindK
      rw [getC_nat, coreL_get hx])
    have hne : ((t : Int) != -1) = true := bne_iff_ne.2 (by omega)
    clear q h hm hn hs hr hk hT hte hb hx hat
    go_enter Tryz.func30, Tryz.ntmps30
    go_wp2_with (go_at_call 52; ((with_reducible refine (CT.out _ BX.out.row).mono ?_); rintro e w1 ⟨rfl, hb⟩; have BX := Lib.hid (BX.out.keep hb); have z0 := BX.out.c0; have z1 := BX.out.c1; have c0 := C0.out _ BX.out.below; clear hb))
    go_ret
    exact ⟨ret_bool HR.out.symm, BX.out.below⟩
end Go.Proofs.YtbkhngoehoiccaaGreat
