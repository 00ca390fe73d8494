/- Texts joined in build order: ValidAsk ValidMay. -/
import Derived.Test.YtkfmengdffpcnaaGreatDoorA13
import Derived.Test.YtkfmengdffpcnaaGreatDoorA12
namespace Go.Proofs.YtkfmengdffpcnaaGreatDoor
open Go.RowKit
theorem inF_nat {F : List Core} {n : Int} (h : inF F n = true) : ∃ k : Nat, n = k ∧ k < F.length := by
  unfold inF at h
  rw [Bool.and_eq_true, decide_eq_true_eq, decide_eq_true_eq] at h
  exact ⟨n.toNat, by omega, by omega⟩
set_option maxHeartbeats 4000000 in
set_option maxRecDepth 100000 in
theorem vhas_any (a : Option Addr) (len cap : Nat) (m : Int) (L : List NodeD) (n : Int) (w : World) (h : NodeRow w a len cap L) (hn : In64 n) :
    Calls Tryz.prog 78 #[forV a len cap m, .int .i64 n] w fun e w' => e = .returned (.bool (inF (coreL L) n)) ∧ Below w.heap.size w w' := by
  have HCL : Hid ((coreL L).length = len) := Lib.hid (by rw [coreL_len, h.hlen])
  have hlen := h.len64
  have BX := Lib.hid (Box.start (m := m) h)
  have z0 := BX.out.c0
  have z1 := BX.out.c1
  obtain ⟨hn1, hn2⟩ := hn
  clear h
  by_cases h0 : 0 ≤ n
  · by_cases h1 : n < (len : Int)
    · have HR : Hid (inF (coreL L) n = true) := Lib.hid (by unfold inF; rw [HCL.out, decide_eq_true h0, decide_eq_true h1]; rfl)
      go_enter Tryz.func78, Tryz.ntmps78
      go_wp2
      go_ret
      exact ⟨ret_bool HR.out.symm, BX.out.below⟩
    · have HR : Hid (inF (coreL L) n = false) := Lib.hid (by unfold inF; rw [HCL.out, decide_eq_false h1, Bool.and_false])
      go_enter Tryz.func78, Tryz.ntmps78
      go_wp2
      go_ret
      exact ⟨ret_bool HR.out.symm, BX.out.below⟩
  · have HR : Hid (inF (coreL L) n = false) := Lib.hid (by unfold inF; rw [decide_eq_false h0, Bool.false_and])
    go_enter Tryz.func78, Tryz.ntmps78
    go_wp2
    go_ret
    exact ⟨ret_bool HR.out.symm, BX.out.below⟩
set_option maxHeartbeats 4000000 in
set_option maxRecDepth 100000 in
theorem vknows_any (a : Option Addr) (len cap : Nat) (m : Int) (L : List NodeD) (n p c : Int) (w : World) (h : NodeRow w a len cap L) (hm : In64 m) (hn : In64 n) (hp : In64 p) (hc : In64 c) (hs : smallF L) :
    Calls Tryz.prog 50 #[forV a len cap m, .int .i64 n, .int .i64 p, .int .i64 c] w fun e w' => e = .returned (.bool (vknowsB m (coreL L) n p c)) ∧ Below w.heap.size w w' := by
  have BX := Lib.hid (Box.start (m := m) h)
  have z0 := BX.out.c0
  have z1 := BX.out.c1
  have HF : Hid (∀ W k b, NodeRow W a len cap L → In64 k → inF (coreL L) k = b → Calls Tryz.prog 78 #[forV a len cap m, .int .i64 k] W fun e w' => e = .returned (.bool b) ∧ Below W.heap.size W w') := Lib.hid (fun W k b h1 h2 h3 => by
    rw [← h3]
    exact vhas_any a len cap m L k W h1 h2)
  have CR : Hid (∀ W b, NodeRow W a len cap L → rightF m (coreL L) = b → Calls Tryz.prog 20 #[forV a len cap m] W fun e w' => e = .returned (.bool b) ∧ Below W.heap.size W w') := Lib.hid (fun W b h h1 => by
    rw [← h1]
    exact rightF_any a len cap m L W h hm hs)
  have HN := Lib.hid hn
  have HP := Lib.hid hp
  have HC := Lib.hid hc
  clear h hm hs hn hp hc
  obtain ⟨R, hR⟩ : ∃ R, rightF m (coreL L) = R := ⟨_, rfl⟩
  have HRR := Lib.hid hR
  obtain ⟨V, hV⟩ : ∃ V, vknowsB m (coreL L) n p c = V := ⟨_, rfl⟩
  have HV := Lib.hid hV
  have hV2 := hV
  unfold vknowsB at hV2
  rw [hR] at hV2
  rw [hV]
  clear hR hV
  cases q1 : inF (coreL L) n
  all_goals cases q2 : inF (coreL L) p
  all_goals by_cases q3 : c = -1
  all_goals first | (have q4 : (c == -1) = true := beq_iff_eq.2 q3) | (have q4 : (c == -1) = false := beq_eq_false_iff_ne.2 q3; cases q5 : inF (coreL L) c)
  all_goals cases R
  all_goals
    rw [q1, q2, q4] at hV2
    try rw [q5] at hV2
    obtain rfl := hV2
    clear q3
    have HQ1 := Lib.hid q1
    have HQ2 := Lib.hid q2
    first | (have HQ5 := Lib.hid q5; clear q5) | skip
    clear q1 q2
    go_enter Tryz.func50, Tryz.ntmps50
    go_wp2_with (first
      | (go_at_call 78; ((with_reducible refine (HF.out _ _ _ BX.out.row HN.out HQ1.out).mono ?_)); rintro e w1 ⟨rfl, hb⟩; have BX := Lib.hid (BX.out.keep hb); have z0 := BX.out.c0; have z1 := BX.out.c1; clear hb)
      | (go_at_call 78; ((with_reducible refine (HF.out _ _ _ BX.out.row HP.out HQ2.out).mono ?_)); rintro e w1 ⟨rfl, hb⟩; have BX := Lib.hid (BX.out.keep hb); have z0 := BX.out.c0; have z1 := BX.out.c1; clear hb)
      | (go_at_call 78; ((with_reducible refine (HF.out _ _ _ BX.out.row HC.out HQ5.out).mono ?_)); rintro e w1 ⟨rfl, hb⟩; have BX := Lib.hid (BX.out.keep hb); have z0 := BX.out.c0; have z1 := BX.out.c1; clear hb)
      | (go_at_call 20; ((with_reducible refine (CR.out _ _ BX.out.row HRR.out).mono ?_)); rintro e w1 ⟨rfl, hb⟩; have BX := Lib.hid (BX.out.keep hb); clear hb))
    go_ret
    exact ⟨rfl, BX.out.below⟩
set_option maxHeartbeats 4000000 in
set_option maxRecDepth 100000 in
theorem vparts_any (a : Option Addr) (len cap : Nat) (m : Int) (L : List NodeD) (n : Int) (w : World) (h : NodeRow w a len cap L) (hn : In64 n) (hs : smallF L) :
    Calls Tryz.prog 54 #[forV a len cap m, .int .i64 n] w (OrdPost w (partsZ (coreL L) n)) := by
  have HCL : Hid ((coreL L).length = len) := Lib.hid (by rw [coreL_len, h.hlen])
  have hlen := h.len64
  have BX := Lib.hid (Box.start (m := m) h)
  have HF : Hid (∀ W b, NodeRow W a len cap L → inF (coreL L) n = b → Calls Tryz.prog 78 #[forV a len cap m, .int .i64 n] W fun e w' => e = .returned (.bool b) ∧ Below W.heap.size W w') := Lib.hid (fun W b h1 h3 => by
    rw [← h3]
    exact vhas_any a len cap m L n W h1 hn)
  have HS := Lib.hid hs
  have HN := Lib.hid hn
  have HH := Lib.hid h
  clear h hs hn
  cases q : inF (coreL L) n with
  | false =>
    have HQ := Lib.hid q
    have HP : Hid (partsZ (coreL L) n = []) := Lib.hid (by
      unfold partsZ getC
      unfold inF at q
      by_cases h0 : 0 ≤ n
      · rw [decide_eq_true h0, Bool.true_and, decide_eq_false_iff_not] at q
        rw [if_pos h0, List.getElem?_eq_none (by omega)]
      · rw [if_neg h0])
    clear q
    have z0 := BX.out.c0
    have z1 := BX.out.c1
    go_enter Tryz.func54, Tryz.ntmps54
    go_wp2_with (go_at_call 78; (refine (HF.out _ _ BX.out.row HQ.out).mono ?_); rintro e w1 ⟨rfl, hb⟩; have BX := Lib.hid (BX.out.keep hb); have z0 := BX.out.c0; have z1 := BX.out.c1; clear hb)
    go_ret
    exact ⟨none, 0, 0, rfl, by rw [HP.out]; exact ⟨SRow.nil, by simp, fun _ => rfl⟩, BX.out.below⟩
  | true =>
    have HQ := Lib.hid q
    obtain ⟨k, rfl, hk⟩ := inF_nat q
    rw [HCL.out] at hk
    clear q
    obtain ⟨b, off, x, rfl, hb, hx, hat, hok⟩ := HH.out.get hk
    have hxc := coreL_get hx
    have C0 := Lib.hid (stays hat.c0 hb)
    have C6 := Lib.hid (stays hat.c6 hb)
    have NK := Lib.hid hok
    by_cases h3 : x.core.kind = 3
    · have HP : Hid (partsZ (coreL L) k = x.core.kids) := Lib.hid (by unfold partsZ; rw [getC_nat, hxc]; dsimp only; rw [if_pos h3])
      have hk3 : (x.core.kind == 3) = true := beq_iff_eq.2 h3
      have HKL : Hid (x.core.kids.length ≤ 1000) := Lib.hid (HS.out.2 x (List.mem_of_getElem? hx)).1
      have IN : Hid (∀ z ∈ x.core.kids, In64 z) := Lib.hid NK.out.kids.inb
      have CC : Hid (∀ W, Below w.heap.size w W → Calls Tryz.prog 83 #[.slice x.kA x.kN x.kC] W (OwnPostI W x.core.kids)) := Lib.hid (fun W hb => cloneI_any x.kA x.kN x.kC x.core.kids W (NK.out.kids.below hb) (by have h1 := HKL.out; have h2 := NK.out.kids.hlen; omega))
      clear hat hok hx hxc hb h3
      have z0 := BX.out.c0
      have z1 := BX.out.c1
      go_enter Tryz.func54, Tryz.ntmps54
      go_wp2_with (first
        | (go_at_call 78; ((with_reducible refine (HF.out _ _ BX.out.row HQ.out).mono ?_); rintro e w1 ⟨rfl, hb⟩; have BX := Lib.hid (BX.out.keep hb); have z0 := BX.out.c0; have z1 := BX.out.c1; clear hb; have c0 := C0.out _ BX.out.below; have c6 := C6.out _ BX.out.below))
        | (go_at_call 83; ((with_reducible refine (CC.out _ BX.out.below).mono ?_)); intro e w2 hp; obtain ⟨a2, cap2, rfl, hr2, -, hb2⟩ := OwnPostI.row hp IN.out; have BX := Lib.hid (BX.out.keep hb2); have HR2 := Lib.hid hr2; clear hp hr2 hb2))
      go_ret
      exact ⟨a2, _, cap2, rfl, by rw [HP.out]; exact HR2.out, BX.out.below⟩
    · have HP : Hid (partsZ (coreL L) k = [(k : Int)]) := Lib.hid (by unfold partsZ; rw [getC_nat, hxc]; dsimp only; rw [if_neg h3])
      have hk3 : (x.core.kind == 3) = false := beq_eq_false_iff_ne.2 h3
      clear hat hok hx hxc hb h3
      have z0 := BX.out.c0
      have z1 := BX.out.c1
      go_enter Tryz.func54, Tryz.ntmps54
      go_wp2_with (go_at_call 78; ((with_reducible refine (HF.out _ _ BX.out.row HQ.out).mono ?_); rintro e w1 ⟨rfl, hb⟩; have BX := Lib.hid (BX.out.keep hb); have z0 := BX.out.c0; have z1 := BX.out.c1; clear hb; have c0 := C0.out _ BX.out.below; have c6 := C6.out _ BX.out.below))
      go_ret
      exact ⟨_, 1, 1, rfl, by rw [HP.out]; exact lit_one _ _ _ HN.out, BX.out.below.trans ((below_box _ _).mono BX.out.below.size)⟩
end Go.Proofs.YtkfmengdffpcnaaGreatDoor
namespace Go.Proofs.YtkfmengdffpcnaaGreatDoor
open Go.RowKit
theorem parts_in {m : Int} {F : List Core} (h : rightF m F = true) {n : Nat} (hn : n < F.length) {z : Int} (hz : z ∈ partsZ F n) : ∃ k : Nat, z = k ∧ k < F.length := by
  have hx : F[n]? = some F[n] := List.getElem?_eq_getElem hn
  unfold partsZ at hz
  rw [getC_nat, hx] at hz
  dsimp only at hz
  split at hz
  · have h1 := (nodeOk_iff.1 (((rightF_iff m F).1 h).2.1 n _ hx)).2.2.1 z hz
    unfold kidOk at h1
    rw [Bool.and_eq_true] at h1
    cases hg : getC F z with
    | none => rw [hg] at h1; simp at h1
    | some c =>
      obtain ⟨e1, e2, _⟩ := getC_some hg
      exact ⟨z.toNat, by omega, e2⟩
  · rw [List.mem_singleton] at hz
    exact ⟨n, hz, hn⟩
theorem countNe_step {l : List Int} {g z : Int} {k : Nat} (h : l[k]? = some z) : countNe (l.take (k + 1)) g = countNe (l.take k) g + if z != g then 1 else 0 := by
  obtain ⟨hl, hg⟩ := List.getElem?_eq_some_iff.1 h
  unfold countNe
  rw [List.take_succ_eq_append_getElem hl, hg, List.countP_append]
  simp [List.countP_cons]
theorem countNe_le (l : List Int) (g : Int) : countNe l g ≤ l.length := List.countP_le_length
set_option maxHeartbeats 4000000 in
set_option maxRecDepth 100000 in
theorem vdoc_any (a : Option Addr) (len cap : Nat) (m : Int) (L : List NodeD) (n p : Nat) (gone : Int) (w : World) (h : NodeRow w a len cap L) (hg : In64 gone) (hs : smallF L) (hr : rightF m (coreL L) = true) (hn : n < len) (hp : p < len) :
    Calls Tryz.prog 80 #[forV a len cap m, .int .i64 n, .int .i64 p, .int .i64 gone] w fun e w' => e = .returned (.bool (docTakesB (coreL L) n p gone)) ∧ Below w.heap.size w w' := by
  have HCL : Hid ((coreL L).length = len) := Lib.hid (by rw [coreL_len, h.hlen])
  have hlen := h.len64
  have BX := Lib.hid (Box.start (m := m) h)
  have hnn : n < (coreL L).length := by rw [HCL.out]; exact hn
  have PI := Lib.hid (fun z hz => parts_in hr hnn (z := z) hz)
  obtain ⟨P, hP⟩ : ∃ P, partsZ (coreL L) n = P := ⟨_, rfl⟩
  rw [hP] at PI
  have CP : Hid (∀ W, NodeRow W a len cap L → Calls Tryz.prog 54 #[forV a len cap m, .int .i64 n] W (OrdPost W P)) := Lib.hid (fun W h => by
    rw [← hP]
    exact vparts_any a len cap m L n W h ⟨by omega, by omega⟩ hs)
  have HP := Lib.hid hP
  have HPL : Hid (P.length ≤ 1000) := Lib.hid (by
    obtain ⟨b, off, x, -, -, hx, -⟩ := h.get hn
    rw [← hP]
    unfold partsZ
    rw [getC_nat, coreL_get hx]
    dsimp only
    split
    · exact (hs.2 x (List.mem_of_getElem? hx)).1
    · simp)
  obtain ⟨b, off, x, rfl, hb, hx, hat, hok⟩ := h.get hp
  have hxc := coreL_get hx
  have HK : Hid (kidsK (coreL L) p = x.core.kids) := Lib.hid (by unfold kidsK; rw [getC_nat, hxc])
  have HKL : Hid (x.core.kids.length ≤ 1000) := Lib.hid (hs.2 x (List.mem_of_getElem? hx)).1
  have KR := Lib.hid (hok.kids.below (below_box w (forB (some ⟨b, off, none⟩) len cap m)))
  have c6 := (below_box w (forB (some ⟨b, off, none⟩) len cap m)).cell (p := ⟨b, off + p * 10 + 6, none⟩) hb
  rw [hat.c6] at c6
  have hk64 := KR.out.len64
  obtain ⟨hg1, hg2⟩ := hg
  have z0 := BX.out.c0
  have z1 := BX.out.c1
  clear h hs hr hnn hx hat hok hxc hP
  go_enter Tryz.func80, Tryz.ntmps80
  go_wp2
  go_loop [9, 21] (fun e i => ∃ k : Nat, k ≤ x.kN ∧ i = .int .i64 k ∧ e = .int .i64 (countNe (x.core.kids.take k) gone : Nat)) (fun _ i => x.kN - (intOf i).toNat)
  case atStart => exact ⟨0, Nat.zero_le _, rfl, rfl⟩
  case round =>
    obtain ⟨k, hk, rfl, rfl⟩ := hrel
    have hle : countNe (x.core.kids.take k) gone ≤ 1000 := Nat.le_trans (countNe_le _ _) (Nat.le_trans (List.length_take_le' _ _) HKL.out)
    obtain ⟨q, hq⟩ : ∃ q, countNe (x.core.kids.take k) gone = q := ⟨_, rfl⟩
    rw [hq] at hle ⊢
    by_cases hlt : k < x.kN
    · obtain ⟨bk, ok, z, hka, hbk, hz, hcz, hin⟩ := KR.out.get hlt
      have HST := Lib.hid (countNe_step (g := gone) hz)
      have HQ := Lib.hid hq
      rw [hka] at c6 ⊢
      obtain ⟨hz1, hz2⟩ := hin
      clear hz hq
      by_cases he : z = gone
      · have e1 : (z != gone) = false := by rw [he]; simp
        have HE : Hid (countNe (x.core.kids.take (k + 1)) gone = q) := Lib.hid (by rw [HST.out, HQ.out, e1]; rfl)
        clear he
        go_wp2
        go_round
        case rel => exact ⟨k + 1, by omega, by go_num, by rw [HE.out]⟩
        case measure => simp [intOf]; omega
      · have e1 : (z != gone) = true := bne_iff_ne.2 he
        have HE : Hid (countNe (x.core.kids.take (k + 1)) gone = q + 1) := Lib.hid (by rw [HST.out, HQ.out, e1]; rfl)
        clear he
        go_wp2
        go_round
        case rel => exact ⟨k + 1, by omega, by go_num, by rw [HE.out]; go_num⟩
        case measure => simp [intOf]; omega
    · have HC : Hid (countNe (kidsK (coreL L) p) gone = q) := Lib.hid (by rw [HK.out, ← hq, List.take_of_length_le (by have := KR.out.hlen; omega)])
      clear hq
      go_wp2_with (go_at_call 54; ((with_reducible refine (CP.out _ BX.out.row).mono ?_); rintro e w1 ⟨ao, lo, co, rfl, hro, hb⟩; have BX := Lib.hid (BX.out.keep hb); have IR := Lib.hid hro; have z0 := BX.out.c0; have z1 := BX.out.c1; clear hb hro))
      have hl64 := IR.out.len64
      have hl1k : lo ≤ 1000 := by rw [← IR.out.hlen]; exact HPL.out
      go_loopw [9, 35] (fun e i wr => ∃ k : Nat, k ≤ lo ∧ i = .int .i64 k ∧ e = .int .i64 ((q : Int) + k) ∧ Hid (∀ (j : Nat) z, j < k → P[j]? = some z → kindK (coreL L) z ≠ 2) ∧ wr = w1) (fun _ i _ => lo - (intOf i).toNat)
      case atStart => exact ⟨0, Nat.zero_le _, rfl, by simp, Lib.hid (fun j z hj => absurd hj (by omega)), rfl⟩
      case round =>
        obtain ⟨k2, hk2, rfl, rfl, HA, rfl⟩ := hrel
        by_cases hlt : k2 < lo
        · obtain ⟨bk, ok, z, rfl, hbk, hz, hcz, hin⟩ := IR.out.get hlt
          obtain ⟨r, rfl, hrl⟩ := PI.out z (List.mem_of_getElem? hz)
          rw [HCL.out] at hrl
          obtain ⟨br, offr, xr, hab, hbr, hxr, hatr, -⟩ := BX.out.row.get hrl
          obtain ⟨rfl, rfl⟩ : b = br ∧ off = offr := by injection hab with h1; injection h1 with h2 h3; exact ⟨h2, h3⟩
          have HKD : Hid (kindK (coreL L) (r : Int) = xr.core.kind) := Lib.hid (by unfold kindK; rw [getC_nat, coreL_get hxr])
          have c0 := hatr.c0
          have HZ := Lib.hid hz
          clear hz hxr hatr hab
          by_cases hk2 : xr.core.kind = 2
          · have e1 : (xr.core.kind == 2) = true := beq_iff_eq.2 hk2
            have HR : Hid (docTakesB (coreL L) n p gone = false) := Lib.hid (by
              unfold docTakesB
              rw [HP.out, show P.any (fun k => kindK (coreL L) k == 2) = true from List.any_eq_true.2 ⟨_, List.mem_of_getElem? HZ.out, by rw [HKD.out, hk2]; rfl⟩]
              rfl)
            clear hk2
            go_wp2
            go_ret
            exact ⟨ret_bool HR.out.symm, BX.out.below⟩
          · have e1 : (xr.core.kind == 2) = false := beq_eq_false_iff_ne.2 hk2
            have HA2 : Hid (∀ (j : Nat) z, j < k2 + 1 → P[j]? = some z → kindK (coreL L) z ≠ 2) := Lib.hid (fun j z hj hz => by
              by_cases e : j = k2
              · rw [e, HZ.out] at hz
                rw [← Option.some.inj hz, HKD.out]
                exact hk2
              · exact HA.out j z (by omega) hz)
            clear hk2
            go_wp2
            go_roundw
            case rel => exact ⟨k2 + 1, by omega, by go_num, by go_num, HA2, by first | trivial | rfl⟩
            case measure => simp [intOf]; omega
        · have hkk : k2 = lo := by omega
          subst hkk
          have HR : Hid (docTakesB (coreL L) n p gone = decide ((q : Int) + (k2 : Int) ≤ 1)) := Lib.hid (by
            unfold docTakesB
            rw [HP.out, HC.out, IR.out.hlen]
            have : P.any (fun k => kindK (coreL L) k == 2) = false := by
              rw [List.any_eq_false]
              intro z hz
              obtain ⟨j, hj, he⟩ := List.mem_iff_getElem.1 hz
              have := HA.out j z (by rw [IR.out.hlen] at hj; exact hj) (by rw [List.getElem?_eq_getElem hj, he])
              simpa using this
            rw [this, Bool.not_false, Bool.true_and]
            exact decide_eq_decide.2 (by omega))
          go_wp2
          go_ret
          exact ⟨ret_bool HR.out.symm, BX.out.below⟩
theorem kindK_get {L : List NodeD} {k : Nat} {x : NodeD} (hx : L[k]? = some x) : kindK (coreL L) (k : Int) = x.core.kind := by unfold kindK; rw [getC_nat, coreL_get hx]
theorem parentK_get {L : List NodeD} {k : Nat} {x : NodeD} (hx : L[k]? = some x) : parentK (coreL L) (k : Int) = x.core.parent := by unfold parentK; rw [getC_nat, coreL_get hx]
theorem in_nat64 {k len : Nat} (h : k < len) (hl : len ≤ 9223372036854775807) : In64 (k : Int) := ⟨by omega, by omega⟩
set_option maxHeartbeats 4000000 in
set_option maxRecDepth 100000 in
theorem vrefuse_any (a : Option Addr) (len cap : Nat) (m : Int) (L : List NodeD) (n p : Nat) (placed : Bool) (gone : Int) (w : World) (h : NodeRow w a len cap L) (hm : In64 m) (hg : In64 gone) (hs : smallF L) (hr : rightF m (coreL L) = true) (hn : n < len) (hp : p < len) :
    Calls Tryz.prog 51 #[forV a len cap m, .int .i64 n, .int .i64 p, .bool placed, .int .i64 gone] w fun e w' => e = .returned (.int .i64 (refuseE m (coreL L) n p placed gone)) ∧ Below w.heap.size w w' := by
  have hlen := h.len64
  have BX := Lib.hid (Box.start (m := m) h)
  have GO : Hid (∀ W b, NodeRow W a len cap L → overZ m (coreL L) n p = b → Calls Tryz.prog 79 #[forV a len cap m, .int .i64 n, .int .i64 p] W fun e w' => e = .returned (.bool b) ∧ Below W.heap.size W w') := Lib.hid (fun W b h1 h2 => by
    rw [← h2]
    exact overFn_any a len cap m L n p W h1 hm (in_nat64 hn hlen) (in_nat64 hp hlen) hs)
  have GD : Hid (∀ W b, NodeRow W a len cap L → docTakesB (coreL L) n p gone = b → Calls Tryz.prog 80 #[forV a len cap m, .int .i64 n, .int .i64 p, .int .i64 gone] W fun e w' => e = .returned (.bool b) ∧ Below W.heap.size W w') := Lib.hid (fun W b h1 h2 => by
    rw [← h2]
    exact vdoc_any a len cap m L n p gone W h1 hg hs hr hn hp)
  obtain ⟨b, off, x, rfl, hb, hx, hat, hok⟩ := h.get hn
  obtain ⟨b2, off2, y, hab, hb2, hy, hat2, hok2⟩ := h.get hp
  obtain ⟨rfl, rfl⟩ : b = b2 ∧ off = off2 := by injection hab with h1; injection h1 with h2 h3; exact ⟨h2, h3⟩
  have C0 := Lib.hid (stays hat.c0 hb)
  have D0 := Lib.hid (stays hat2.c0 hb)
  have c0 := C0.out _ BX.out.below
  have d0 := D0.out _ BX.out.below
  have z0 := BX.out.c0
  have z1 := BX.out.c1
  obtain ⟨E, hE⟩ : ∃ E, refuseE m (coreL L) n p placed gone = E := ⟨_, rfl⟩
  have hE2 := hE
  rw [hE]
  unfold refuseE at hE2
  rw [kindK_get hx, kindK_get hy] at hE2
  clear h hm hs hr hx hy hat hat2 hok hok2 hab hE hg
  generalize hkx : x.core.kind = kx at *
  generalize hky : y.core.kind = ky at *
  clear hkx hky
  by_cases k2 : ky = 2
  · have e1 : (ky == 2) = true := beq_iff_eq.2 k2
    rw [if_pos (.inl k2)] at hE2
    subst hE2
    clear k2
    (go_enter Tryz.func51, Tryz.ntmps51; go_wp2; have E0 := Ext.cell z0 BX.out.lt; have E1 := Ext.cell z1 BX.out.lt; have E2 := Ext.cell c0 (by simp; omega); have E3 := Ext.cell d0 (by simp; omega); refine wp_region_ext (by kernel_rfl) (by kernel_rfl) ?_; (repeat (go_big_quiet_step (fail))); refine wpQuiet_nil ?_; intro w' hw'; obtain ⟨⟨w2, hb2⟩, hw''⟩ := hw'; dsimp only at hw''; subst hw''; clear E0 E1 E2 E3; have BX := Lib.hid (BX.out.keep hb2); clear hb2 z0 z1 c0 d0; have z0 := BX.out.c0; have z1 := BX.out.c1; go_wp2_with (first | (go_at_call 79; ((with_reducible refine (GO.out _ _ BX.out.row QO.out).mono ?_); rintro e w1 ⟨rfl, hb⟩; have BX := Lib.hid (BX.out.keep hb); have z0 := BX.out.c0; have z1 := BX.out.c1; clear hb)) | (go_at_call 80; ((with_reducible refine (GD.out _ _ BX.out.row QD.out).mono ?_); rintro e w1 ⟨rfl, hb⟩; have BX := Lib.hid (BX.out.keep hb); have z0 := BX.out.c0; have z1 := BX.out.c1; clear hb))); go_ret; exact ⟨rfl, BX.out.below⟩)
  have e1 : (ky == 2) = false := beq_eq_false_iff_ne.2 k2
  cases qo : overZ m (coreL L) n p with
  | true =>
    rw [if_pos (.inr qo)] at hE2
    subst hE2
    have QO := Lib.hid qo
    clear k2 qo
    (go_enter Tryz.func51, Tryz.ntmps51; go_wp2; have E0 := Ext.cell z0 BX.out.lt; have E1 := Ext.cell z1 BX.out.lt; have E2 := Ext.cell c0 (by simp; omega); have E3 := Ext.cell d0 (by simp; omega); refine wp_region_ext (by kernel_rfl) (by kernel_rfl) ?_; (repeat (go_big_quiet_step (fail))); refine wpQuiet_nil ?_; intro w' hw'; obtain ⟨⟨w2, hb2⟩, hw''⟩ := hw'; dsimp only at hw''; subst hw''; clear E0 E1 E2 E3; have BX := Lib.hid (BX.out.keep hb2); clear hb2 z0 z1 c0 d0; have z0 := BX.out.c0; have z1 := BX.out.c1; go_wp2_with (first | (go_at_call 79; ((with_reducible refine (GO.out _ _ BX.out.row QO.out).mono ?_); rintro e w1 ⟨rfl, hb⟩; have BX := Lib.hid (BX.out.keep hb); have z0 := BX.out.c0; have z1 := BX.out.c1; clear hb)) | (go_at_call 80; ((with_reducible refine (GD.out _ _ BX.out.row QD.out).mono ?_); rintro e w1 ⟨rfl, hb⟩; have BX := Lib.hid (BX.out.keep hb); have z0 := BX.out.c0; have z1 := BX.out.c1; clear hb))); go_ret; exact ⟨rfl, BX.out.below⟩)
  | false =>
    rw [if_neg (by rw [qo]; simp [k2])] at hE2
    have QO := Lib.hid qo
    clear k2 qo
    cases placed with
    | false =>
      rw [if_pos rfl] at hE2
      subst hE2
      (go_enter Tryz.func51, Tryz.ntmps51; go_wp2; have E0 := Ext.cell z0 BX.out.lt; have E1 := Ext.cell z1 BX.out.lt; have E2 := Ext.cell c0 (by simp; omega); have E3 := Ext.cell d0 (by simp; omega); refine wp_region_ext (by kernel_rfl) (by kernel_rfl) ?_; (repeat (go_big_quiet_step (fail))); refine wpQuiet_nil ?_; intro w' hw'; obtain ⟨⟨w2, hb2⟩, hw''⟩ := hw'; dsimp only at hw''; subst hw''; clear E0 E1 E2 E3; have BX := Lib.hid (BX.out.keep hb2); clear hb2 z0 z1 c0 d0; have z0 := BX.out.c0; have z1 := BX.out.c1; go_wp2_with (first | (go_at_call 79; ((with_reducible refine (GO.out _ _ BX.out.row QO.out).mono ?_); rintro e w1 ⟨rfl, hb⟩; have BX := Lib.hid (BX.out.keep hb); have z0 := BX.out.c0; have z1 := BX.out.c1; clear hb)) | (go_at_call 80; ((with_reducible refine (GD.out _ _ BX.out.row QD.out).mono ?_); rintro e w1 ⟨rfl, hb⟩; have BX := Lib.hid (BX.out.keep hb); have z0 := BX.out.c0; have z1 := BX.out.c1; clear hb))); go_ret; exact ⟨rfl, BX.out.below⟩)
    | true =>
      rw [if_neg (by decide)] at hE2
      by_cases k0 : kx = 0
      · have e2 : (kx == 0) = true := beq_iff_eq.2 k0
        rw [if_pos (.inl k0)] at hE2
        subst hE2
        clear k0
        (go_enter Tryz.func51, Tryz.ntmps51; go_wp2; have E0 := Ext.cell z0 BX.out.lt; have E1 := Ext.cell z1 BX.out.lt; have E2 := Ext.cell c0 (by simp; omega); have E3 := Ext.cell d0 (by simp; omega); refine wp_region_ext (by kernel_rfl) (by kernel_rfl) ?_; (repeat (go_big_quiet_step (fail))); refine wpQuiet_nil ?_; intro w' hw'; obtain ⟨⟨w2, hb2⟩, hw''⟩ := hw'; dsimp only at hw''; subst hw''; clear E0 E1 E2 E3; have BX := Lib.hid (BX.out.keep hb2); clear hb2 z0 z1 c0 d0; have z0 := BX.out.c0; have z1 := BX.out.c1; go_wp2_with (first | (go_at_call 79; ((with_reducible refine (GO.out _ _ BX.out.row QO.out).mono ?_); rintro e w1 ⟨rfl, hb⟩; have BX := Lib.hid (BX.out.keep hb); have z0 := BX.out.c0; have z1 := BX.out.c1; clear hb)) | (go_at_call 80; ((with_reducible refine (GD.out _ _ BX.out.row QD.out).mono ?_); rintro e w1 ⟨rfl, hb⟩; have BX := Lib.hid (BX.out.keep hb); have z0 := BX.out.c0; have z1 := BX.out.c1; clear hb))); go_ret; exact ⟨rfl, BX.out.below⟩)
      have e2 : (kx == 0) = false := beq_eq_false_iff_ne.2 k0
      by_cases k4 : kx = 4
      · have e3 : (kx == 4) = true := beq_iff_eq.2 k4
        rw [if_pos (.inr k4)] at hE2
        subst hE2
        clear k0 k4
        (go_enter Tryz.func51, Tryz.ntmps51; go_wp2; have E0 := Ext.cell z0 BX.out.lt; have E1 := Ext.cell z1 BX.out.lt; have E2 := Ext.cell c0 (by simp; omega); have E3 := Ext.cell d0 (by simp; omega); refine wp_region_ext (by kernel_rfl) (by kernel_rfl) ?_; (repeat (go_big_quiet_step (fail))); refine wpQuiet_nil ?_; intro w' hw'; obtain ⟨⟨w2, hb2⟩, hw''⟩ := hw'; dsimp only at hw''; subst hw''; clear E0 E1 E2 E3; have BX := Lib.hid (BX.out.keep hb2); clear hb2 z0 z1 c0 d0; have z0 := BX.out.c0; have z1 := BX.out.c1; go_wp2_with (first | (go_at_call 79; ((with_reducible refine (GO.out _ _ BX.out.row QO.out).mono ?_); rintro e w1 ⟨rfl, hb⟩; have BX := Lib.hid (BX.out.keep hb); have z0 := BX.out.c0; have z1 := BX.out.c1; clear hb)) | (go_at_call 80; ((with_reducible refine (GD.out _ _ BX.out.row QD.out).mono ?_); rintro e w1 ⟨rfl, hb⟩; have BX := Lib.hid (BX.out.keep hb); have z0 := BX.out.c0; have z1 := BX.out.c1; clear hb))); go_ret; exact ⟨rfl, BX.out.below⟩)
      have e3 : (kx == 4) = false := beq_eq_false_iff_ne.2 k4
      rw [if_neg (by simp [k0, k4])] at hE2
      clear k0 k4
      by_cases k0 : ky = 0
      · have e4 : (ky == 0) = true := beq_iff_eq.2 k0
        cases qd : docTakesB (coreL L) n p gone with
        | false =>
          rw [if_pos ⟨k0, qd⟩] at hE2
          subst hE2
          have QD := Lib.hid qd
          clear k0 qd
          (go_enter Tryz.func51, Tryz.ntmps51; go_wp2; have E0 := Ext.cell z0 BX.out.lt; have E1 := Ext.cell z1 BX.out.lt; have E2 := Ext.cell c0 (by simp; omega); have E3 := Ext.cell d0 (by simp; omega); refine wp_region_ext (by kernel_rfl) (by kernel_rfl) ?_; (repeat (go_big_quiet_step (fail))); refine wpQuiet_nil ?_; intro w' hw'; obtain ⟨⟨w2, hb2⟩, hw''⟩ := hw'; dsimp only at hw''; subst hw''; clear E0 E1 E2 E3; have BX := Lib.hid (BX.out.keep hb2); clear hb2 z0 z1 c0 d0; have z0 := BX.out.c0; have z1 := BX.out.c1; go_wp2_with (first | (go_at_call 79; ((with_reducible refine (GO.out _ _ BX.out.row QO.out).mono ?_); rintro e w1 ⟨rfl, hb⟩; have BX := Lib.hid (BX.out.keep hb); have z0 := BX.out.c0; have z1 := BX.out.c1; clear hb)) | (go_at_call 80; ((with_reducible refine (GD.out _ _ BX.out.row QD.out).mono ?_); rintro e w1 ⟨rfl, hb⟩; have BX := Lib.hid (BX.out.keep hb); have z0 := BX.out.c0; have z1 := BX.out.c1; clear hb))); go_ret; exact ⟨rfl, BX.out.below⟩)
        | true =>
          rw [if_neg (by rw [qd]; simp)] at hE2
          subst hE2
          have QD := Lib.hid qd
          clear k0 qd
          (go_enter Tryz.func51, Tryz.ntmps51; go_wp2; have E0 := Ext.cell z0 BX.out.lt; have E1 := Ext.cell z1 BX.out.lt; have E2 := Ext.cell c0 (by simp; omega); have E3 := Ext.cell d0 (by simp; omega); refine wp_region_ext (by kernel_rfl) (by kernel_rfl) ?_; (repeat (go_big_quiet_step (fail))); refine wpQuiet_nil ?_; intro w' hw'; obtain ⟨⟨w2, hb2⟩, hw''⟩ := hw'; dsimp only at hw''; subst hw''; clear E0 E1 E2 E3; have BX := Lib.hid (BX.out.keep hb2); clear hb2 z0 z1 c0 d0; have z0 := BX.out.c0; have z1 := BX.out.c1; go_wp2_with (first | (go_at_call 79; ((with_reducible refine (GO.out _ _ BX.out.row QO.out).mono ?_); rintro e w1 ⟨rfl, hb⟩; have BX := Lib.hid (BX.out.keep hb); have z0 := BX.out.c0; have z1 := BX.out.c1; clear hb)) | (go_at_call 80; ((with_reducible refine (GD.out _ _ BX.out.row QD.out).mono ?_); rintro e w1 ⟨rfl, hb⟩; have BX := Lib.hid (BX.out.keep hb); have z0 := BX.out.c0; have z1 := BX.out.c1; clear hb))); go_ret; exact ⟨rfl, BX.out.below⟩)
      · have e4 : (ky == 0) = false := beq_eq_false_iff_ne.2 k0
        rw [if_neg (by simp [k0])] at hE2
        subst hE2
        clear k0
        (go_enter Tryz.func51, Tryz.ntmps51; go_wp2; have E0 := Ext.cell z0 BX.out.lt; have E1 := Ext.cell z1 BX.out.lt; have E2 := Ext.cell c0 (by simp; omega); have E3 := Ext.cell d0 (by simp; omega); refine wp_region_ext (by kernel_rfl) (by kernel_rfl) ?_; (repeat (go_big_quiet_step (fail))); refine wpQuiet_nil ?_; intro w' hw'; obtain ⟨⟨w2, hb2⟩, hw''⟩ := hw'; dsimp only at hw''; subst hw''; clear E0 E1 E2 E3; have BX := Lib.hid (BX.out.keep hb2); clear hb2 z0 z1 c0 d0; have z0 := BX.out.c0; have z1 := BX.out.c1; go_wp2_with (first | (go_at_call 79; ((with_reducible refine (GO.out _ _ BX.out.row QO.out).mono ?_); rintro e w1 ⟨rfl, hb⟩; have BX := Lib.hid (BX.out.keep hb); have z0 := BX.out.c0; have z1 := BX.out.c1; clear hb)) | (go_at_call 80; ((with_reducible refine (GD.out _ _ BX.out.row QD.out).mono ?_); rintro e w1 ⟨rfl, hb⟩; have BX := Lib.hid (BX.out.keep hb); have z0 := BX.out.c0; have z1 := BX.out.c1; clear hb))); go_ret; exact ⟨rfl, BX.out.below⟩)
end Go.Proofs.YtkfmengdffpcnaaGreatDoor
