/- Texts joined in build order: OwnerAwake OwnerBegin OwnerFirst. -/
import Derived.Test.YtkgbgnmmgmnnlaaGreatDoorA40
import Derived.Test.YtkgbgnmmgmnnlaaGreatDoorA30
import Derived.Test.YtkgbgnmmgmnnlaaGreatDoorA35
import Derived.Test.YtkgbgnmmgmnnlaaGreatDoorA39
import Derived.Test.YtkgbgnmmgmnnlaaGreatDoorA04
import Derived.Test.YtkgbgnmmgmnnlaaGreatDoorA22
import Derived.Test.YtkgbgnmmgmnnlaaGreatDoorA17
namespace Go.Proofs.YtkgbgnmmgmnnlaaGreatDoor
open Go.RowKit
def aw13S : BL := [60, 100, 105, 118, 62, 60, 102, 111, 114, 109, 32, 105, 100, 61, 34, 102, 34, 62, 60, 112, 62, 60, 105, 110, 112, 117, 116, 62, 60, 47, 105, 110, 112, 117, 116, 62, 60, 47, 112, 62, 60, 47, 102, 111, 114, 109, 62, 60, 105, 110, 112, 117, 116, 32, 102, 111, 114, 109, 61, 34, 102, 34, 62, 60, 47, 105, 110, 112, 117, 116, 62, 60, 47, 100, 105, 118, 62]
def aw13F : List Core := match readM 0 100 .node aw13S [docC] with | some (_, F) => F | none => []
def aw13G : List Core := (insZ 9 aw13F 1 0 (-1)).1
def aw13N : List NoteD := (insZ 9 aw13F 1 0 (-1)).2.1
theorem aw13a : readM 0 100 .node aw13S [docC] = some ([], aw13F) := by decide +kernel
theorem aw13b : rightF 400 aw13F = true ∧ (aw13F.length : Int) ≤ 9 := by decide +kernel
theorem aw13c : insZ 9 aw13F 1 0 (-1) = (aw13G, aw13N, 0) := by decide +kernel
theorem aw13d : ofO 9 aw13F 4 = 2 ∧ ofO 9 aw13F 5 = -1 ∧ ofO 9 aw13G 5 = 2 := by decide +kernel
theorem aw13e : membersO 9 aw13G 2 = [3, 4, 5] := by decide +kernel
theorem aw13f : (allO 9 aw13G).length = 6 := by decide +kernel
theorem aw13s {L : List NodeD} (h : coreL L = aw13F) : smallF L := mvSmall h (by decide +kernel)
theorem aw13t {L : List NodeD} (h : coreL L = aw13G) : smallF L := mvSmall h (by decide +kernel)
theorem in13 {z : Int} (h : -100 ≤ z) (h2 : z ≤ 100) : In64 z := ⟨by omega, by omega⟩
theorem lit_three (w : World) (e : TypeId) (n m k : Int) (h1 : In64 n) (h2 : In64 m) (h3 : In64 k) : IntRow (w.alloc (.cells #[.int .i64 n, .int .i64 m, .int .i64 k] e)) (some ⟨w.heap.size, 0, none⟩) 3 3 [n, m, k] := by
  have hb := CBox.new w #[.int .i64 n, .int .i64 m, .int .i64 k] e
  refine ⟨CBox.row (L := [n, m, k]) (enc := encZ) hb (fun _ => rfl) rfl (by unfold maxLen; omega), fun z hz => ?_, fun h => by cases h⟩
  simp at hz
  rcases hz with rfl | rfl | rfl <;> assumption
set_option maxHeartbeats 8000000 in
set_option maxRecDepth 100000 in
theorem awake13_any (w : World) (hg : ErrVar w) : Calls Tryz.prog 9 #[] w fun e w' => e = .returned (.bool true) ∧ Below w.heap.size w w' := by
  have in9 : In64 9 := in13 (by decide) (by decide)
  have in1 : In64 1 := in13 (by decide) (by decide)
  have in0 : In64 0 := in13 (by decide) (by decide)
  have inm : In64 (-1) := in13 (by decide) (by decide)
  have HG := Lib.hid hg
  have CF : Hid (∀ W, Calls Tryz.prog 30 #[.string ⟨#[60, 100, 105, 118, 62, 60, 102, 111, 114, 109, 32, 105, 100, 61, 34, 102, 34, 62, 60, 112, 62, 60, 105, 110, 112, 117, 116, 62, 60, 47, 105, 110, 112, 117, 116, 62, 60, 47, 112, 62, 60, 47, 102, 111, 114, 109, 62, 60, 105, 110, 112, 117, 116, 32, 102, 111, 114, 109, 61, 34, 102, 34, 62, 60, 47, 105, 110, 112, 117, 116, 62, 60, 47, 100, 105, 118, 62]⟩, .int .i64 9] W (WkFor W 9 aw13F [.int .i64 1, .int .i64 0])) := Lib.hid (fun W => pFresh_ok 9 aw13S aw13F W in9 (by decide) (by decide) (by decide) aw13a aw13b.1 aw13b.2)
  have CI : Hid (∀ W a len cap L, NodeRow W a len cap L → coreL L = aw13F → ErrVar W → Calls Tryz.prog 31 #[forV a len cap 9, .int .i64 1, .int .i64 0, .int .i64 (-1)] W (MvPost W 9 (aw13G, aw13N, 0))) := Lib.hid (fun W a len cap L h hc hg => by
    have := minsert_any a len cap 9 L 1 0 (-1) W h in9 in1 in0 inm (aw13s hc) hg
    rwa [hc, aw13c] at this)
  have CO4 : Hid (∀ W a len cap L, NodeRow W a len cap L → coreL L = aw13F → Calls Tryz.prog 13 #[forV a len cap 9, .int .i64 4] W fun e w' => e = .returned (.int .i64 2) ∧ Below W.heap.size W w') := Lib.hid (fun W a len cap L h hc => by
    have := ofO_any a len cap 9 L 4 W h in9 (aw13s hc)
    rwa [hc, aw13d.1] at this)
  have CO5 : Hid (∀ W a len cap L, NodeRow W a len cap L → coreL L = aw13F → Calls Tryz.prog 13 #[forV a len cap 9, .int .i64 5] W fun e w' => e = .returned (.int .i64 (-1)) ∧ Below W.heap.size W w') := Lib.hid (fun W a len cap L h hc => by
    have := ofO_any a len cap 9 L 5 W h in9 (aw13s hc)
    rwa [hc, aw13d.2.1] at this)
  have CP5 : Hid (∀ W a len cap L, NodeRow W a len cap L → coreL L = aw13G → Calls Tryz.prog 13 #[forV a len cap 9, .int .i64 5] W fun e w' => e = .returned (.int .i64 2) ∧ Below W.heap.size W w') := Lib.hid (fun W a len cap L h hc => by
    have := ofO_any a len cap 9 L 5 W h in9 (aw13t hc)
    rwa [hc, aw13d.2.2] at this)
  have CM : Hid (∀ W a len cap L, NodeRow W a len cap L → coreL L = aw13G → Calls Tryz.prog 14 #[forV a len cap 9, .int .i64 2] W (OrdPost W [3, 4, 5])) := Lib.hid (fun W a len cap L h hc => by
    have := membersO_any a len cap 9 L 2 W h in9 (aw13t hc)
    rwa [hc, aw13e] at this)
  have CA : Hid (∀ W a len cap L, NodeRow W a len cap L → coreL L = aw13G → Calls Tryz.prog 11 #[forV a len cap 9] W fun e w' => ∃ a2 c2, e = .returned (.slice a2 6 c2) ∧ Below W.heap.size W w') := Lib.hid (fun W a len cap L h hc => by
    refine (allO_any a len cap 9 L W h in9 (aw13t hc)).mono ?_
    rintro e w' ⟨a2, l2, c2, rfl, hr, hb, -⟩
    have := hr.hlen
    rw [hc, aw13f] at this
    subst this
    exact ⟨a2, c2, rfl, hb⟩)
  have CT : Hid (∀ W a b c1 c2, IntRow W a 3 c1 [3, 4, 5] → IntRow W b 3 c2 [3, 4, 5] → Calls Tryz.prog 17 #[.slice a 3 c1, .slice b 3 c2] W fun e w' => e = .returned (.bool true) ∧ ∃ n, w' = W.drewN n) := Lib.hid (fun W a b c1 c2 h1 h2 => refints_any a b 3 c1 3 c2 [3, 4, 5] [3, 4, 5] W h1 h2)
  clear in9 in1 in0 inm hg
  go_enter Tryz.func9, Tryz.ntmps9
  go_upto_region 2 with (go_at_call 30; (with_reducible refine (CF.out _).mono ?_); rintro e w1 ⟨ρ, pw, g, cap, len, M, v, rfl, hWk, hsm, hcm, hb, -⟩; have BF := Lib.hid (MBox.new (m := 9) hb hWk.row hcm).box; clear hWk hsm hcm hb)
  have z0 := BF.out.c0
  have z1 := BF.out.c1
  go_upto_region 3 with (go_at_call 31; ((with_reducible refine (CI.out _ _ _ _ _ BF.out.row BF.out.core (HG.out.keep BF.out.below)).mono ?_); rintro e w3 ⟨a3, len3, cap3, L3, va3, vl3, vc3, rfl, hr3, hc3, -, -, hb3, -⟩); have BF := Lib.hid (BF.out.keep hb3); have BG := Lib.hid (MBox.new (m := 9) hb3 hr3 hc3).box; clear hr3 hc3 z0 z1; have z0 := BF.out.c0; have z1 := BF.out.c1)
  have BF := Lib.hid (BF.out.keep (box_below w3 (forB a3 len3 cap3 9)))
  clear z0 z1
  have z0 := BF.out.c0
  have z1 := BF.out.c1
  have g0 := BG.out.c0
  have g1 := BG.out.c1
  clear CF CI HG
  go_wp2_with (first
    | (go_at_call 13; (with_reducible refine (CO4.out _ _ _ _ _ BF.out.row BF.out.core).mono ?_); rintro e w4 ⟨rfl, hb⟩; (have BF := Lib.hid (BF.out.keep hb); have BG := Lib.hid (BG.out.keep hb); clear z0 z1 g0 g1; have z0 := BF.out.c0; have z1 := BF.out.c1; have g0 := BG.out.c0; have g1 := BG.out.c1); clear hb)
    | (go_at_call 13; (with_reducible refine (CO5.out _ _ _ _ _ BF.out.row BF.out.core).mono ?_); rintro e w4 ⟨rfl, hb⟩; (have BF := Lib.hid (BF.out.keep hb); have BG := Lib.hid (BG.out.keep hb); clear z0 z1 g0 g1; have z0 := BF.out.c0; have z1 := BF.out.c1; have g0 := BG.out.c0; have g1 := BG.out.c1); clear hb)
    | (go_at_call 13; (with_reducible refine (CP5.out _ _ _ _ _ BG.out.row BG.out.core).mono ?_); rintro e w4 ⟨rfl, hb⟩; (have BF := Lib.hid (BF.out.keep hb); have BG := Lib.hid (BG.out.keep hb); clear z0 z1 g0 g1; have z0 := BF.out.c0; have z1 := BF.out.c1; have g0 := BG.out.c0; have g1 := BG.out.c1); clear hb)
    | (go_at_call 14; (with_reducible refine (CM.out _ _ _ _ _ BG.out.row BG.out.core).mono ?_); rintro e w5 ⟨a5, l5, c5, rfl, hr5, hb⟩; obtain rfl : 3 = l5 := hr5.hlen; have IR := Lib.hid hr5; (have BF := Lib.hid (BF.out.keep hb); have BG := Lib.hid (BG.out.keep hb); clear z0 z1 g0 g1; have z0 := BF.out.c0; have z1 := BF.out.c1; have g0 := BG.out.c0; have g1 := BG.out.c1); clear hb hr5)
    | (go_at_call 17; (with_reducible refine (CT.out _ _ _ _ _ (IR.out.below (box_below _ _)) (lit_three _ _ _ _ _ (in13 (by decide) (by decide)) (in13 (by decide) (by decide)) (in13 (by decide) (by decide)))).mono ?_); rintro e w6 ⟨rfl, n6, rfl⟩; have hb := below_drewN (box_below w5 (.cells #[.int .i64 3, .int .i64 4, .int .i64 5] 3)) n6; (have BF := Lib.hid (BF.out.keep hb); have BG := Lib.hid (BG.out.keep hb); clear z0 z1 g0 g1; have z0 := BF.out.c0; have z1 := BF.out.c1; have g0 := BG.out.c0; have g1 := BG.out.c1); clear hb)
    | (go_at_call 11; (with_reducible refine (CA.out _ _ _ _ _ BG.out.row BG.out.core).mono ?_); rintro e w7 ⟨a7, c7, rfl, hb⟩; (have BF := Lib.hid (BF.out.keep hb); have BG := Lib.hid (BG.out.keep hb); clear z0 z1 g0 g1; have z0 := BF.out.c0; have z1 := BF.out.c1; have g0 := BG.out.c0; have g1 := BG.out.c1); clear hb))
  go_ret
  exact ⟨rfl, BF.out.below⟩
end Go.Proofs.YtkgbgnmmgmnnlaaGreatDoor
namespace Go.Proofs.YtkgbgnmmgmnnlaaGreatDoor
open Go.RowKit
theorem stays13 {W : World} {b o : Nat} {v : Option Value} (h : W.cell? ⟨b, o, none⟩ = v) (hb : b < W.heap.size) : ∀ X, Below W.heap.size W X → X.cell? ⟨b, o, none⟩ = v := fun _ hx => (hx.cell (p := ⟨b, o, none⟩) hb).trans h
theorem get13 {W0 : World} {x : NodeD} (h : NodeOk W0 x) (s : ByteArray) (hs : s.size ≤ 100) {n : List UInt8} (hn : s.toList = n) : ∀ W, Below W0.heap.size W0 W →
    Calls Tryz.prog 20 #[.slice x.aA x.aN x.aC, .string s] W fun e w' => e = .returned (.tuple #[.string (valA x.core.attrs n), .bool (hasA x.core.attrs n)]) ∧ Below W.heap.size W w' := fun W hb => by
  have := attrget_any x.aA x.aN x.aC x.core.attrs s W (h.attrs.below hb) (by unfold maxLen; omega)
  rwa [hn] at this
end Go.Proofs.YtkgbgnmmgmnnlaaGreatDoor
namespace Go.Proofs.YtkgbgnmmgmnnlaaGreatDoor
open Go.RowKit
set_option maxHeartbeats 16000000 in
set_option maxRecDepth 100000 in
theorem first13_no (a : Option Addr) (len cap : Nat) (m : Int) (L : List NodeD) (n j : Nat) (v : ByteArray) (w : World) (h : NodeRow w a len cap L) (hm : In64 m) (hs : smallF L) (hn : n < len)
    (hj : j < len) (h1 : hasId (coreL L) j = true) (h2 : idF (coreL L) j = v.toList) (h3 : aheadZ m (coreL L) j n = true) :
    Calls Tryz.prog 25 #[forV a len cap m, .int .i64 n, .string v] w fun e w' => e = .returned (.bool false) ∧ Below w.heap.size w w' := by
  have BX := Lib.hid (Box.start (m := m) h)
  have hl0 := h.len64
  have HM := Lib.hid hm
  have SM := Lib.hid hs
  have H1 := Lib.hid h1
  have H2 := Lib.hid h2
  have H3 := Lib.hid h3
  have z0 := BX.out.c0
  have z1 := BX.out.c1
  have HX : Hid (∀ W, Below (w.alloc (forB a len cap m)).heap.size (w.alloc (forB a len cap m)) W → Box w W w.heap.size a len cap m L (coreL L)) := Lib.hid (fun W hb => BX.out.keep hb)
  obtain ⟨w0, hw0⟩ : ∃ w0, w.alloc (forB a len cap m) = w0 := ⟨_, rfl⟩
  have HW0 := Lib.hid hw0
  rw [hw0] at HX z0 z1
  clear h hm hs h1 h2 h3 BX hw0
  go_enter Tryz.func25, Tryz.ntmps25
  go_upto_region 1 with fail
  rw [HW0.out]
  go_wp2
  go_loopw [7] (fun i wr => ∃ k : Nat, k ≤ j ∧ i = .int .i64 k ∧ Hid (Below w0.heap.size w0 wr)) (fun i _ => len - (intOf i).toNat)
  case atStart => exact ⟨0, Nat.zero_le _, rfl, Lib.hid (Below.refl _ _)⟩
  case round =>
    clear z0 z1
    obtain ⟨k, hk, rfl, HB⟩ := hrel
    have BX := Lib.hid (HX.out _ HB.out)
    have z0 := BX.out.c0
    have z1 := BX.out.c1
    have hlt : k < len := by omega
    obtain ⟨b, off, x, rfl, hb, hx, hat, hok⟩ := BX.out.row.get hlt
    have c4 := hat.c4
    have HIK : Hid (idF (coreL L) k = (valA x.core.attrs idT).toList) := Lib.hid (by rw [idF_at (coreL_get hx)]; rfl)
    have HHK : Hid (hasId (coreL L) k = hasA x.core.attrs idT) := Lib.hid (hasId_at (coreL_get hx))
    obtain ⟨V, hV⟩ : ∃ V, valA x.core.attrs idT = V := ⟨_, rfl⟩
    obtain ⟨hh, hhh⟩ : ∃ hh, hasA x.core.attrs idT = hh := ⟨_, rfl⟩
    have CG : Hid (Calls Tryz.prog 20 #[.slice x.aA x.aN x.aC, .string ⟨#[105, 100]⟩] wr fun e w' => e = .returned (.tuple #[.string V, .bool hh]) ∧ Below wr.heap.size wr w') := Lib.hid (by
      have := get13 hok ⟨#[105, 100]⟩ (by decide) idK wr (Below.refl _ _)
      rwa [hV, hhh] at this)
    rw [hV] at HIK
    rw [hhh] at HHK
    clear hx hat hok hb hV hhh
    cases hh with
    | false =>
      have hkj : k ≠ j := fun e => by
        have h1 := H1.out
        rw [← e, HHK.out] at h1
        cases h1
      go_wp2_with (go_at_call 20; (refine CG.out.mono ?_); rintro e w1 ⟨rfl, hb⟩; have HB1 := Lib.hid (HB.out.trans (hb.mono HB.out.size)); have BX := Lib.hid (BX.out.keep hb); clear z0 z1 c4 hb; have z0 := BX.out.c0; have z1 := BX.out.c1)
      go_roundw
      case rel => exact ⟨k + 1, by omega, by go_num, HB1⟩
      case measure => simp [intOf]; omega
    | true =>
      cases hv : (V.toList == v.toList) with
      | false =>
        have hkj : k ≠ j := fun e => by
          have h2 := H2.out
          rw [← e, HIK.out] at h2
          exact beq_eq_false_iff_ne.1 hv h2
        go_wp2_with (go_at_call 20; (refine CG.out.mono ?_); rintro e w1 ⟨rfl, hb⟩; have HB1 := Lib.hid (HB.out.trans (hb.mono HB.out.size)); have BX := Lib.hid (BX.out.keep hb); clear z0 z1 c4 hb; have z0 := BX.out.c0; have z1 := BX.out.c1)
        go_roundw
        case rel => exact ⟨k + 1, by omega, by go_num, HB1⟩
        case measure => simp [intOf]; omega
      | true =>
        cases ha : aheadZ m (coreL L) k n with
        | true =>
          have CA : Hid (∀ W, NodeRow W (some ⟨b, off, none⟩) len cap L → Calls Tryz.prog 24 #[forV (some ⟨b, off, none⟩) len cap m, .int .i64 k, .int .i64 n] W fun e w' => e = .returned (.bool true) ∧ Below W.heap.size W w') := Lib.hid (fun W h => by
            have := aheadFn_any _ len cap m L k n W h HM.out ⟨by omega, by omega⟩ ⟨by omega, by omega⟩ SM.out
            rwa [ha] at this)
          clear ha
          go_wp2_with (first
            | (go_at_call 20; (refine CG.out.mono ?_); rintro e w1 ⟨rfl, hb⟩; have HB1 := Lib.hid (HB.out.trans (hb.mono HB.out.size)); have BX := Lib.hid (BX.out.keep hb); clear z0 z1 c4 hb; have z0 := BX.out.c0; have z1 := BX.out.c1)
            | (go_at_call 24; (with_reducible refine (CA.out _ BX.out.row).mono ?_); rintro e w2 ⟨rfl, hb⟩; have BX := Lib.hid (BX.out.keep hb); clear z0 z1 hb))
          go_ret
          exact ⟨rfl, BX.out.below⟩
        | false =>
          have hkj : k ≠ j := fun e => by
            have h3 := H3.out
            rw [← e, ha] at h3
            cases h3
          have CA : Hid (∀ W, NodeRow W (some ⟨b, off, none⟩) len cap L → Calls Tryz.prog 24 #[forV (some ⟨b, off, none⟩) len cap m, .int .i64 k, .int .i64 n] W fun e w' => e = .returned (.bool false) ∧ Below W.heap.size W w') := Lib.hid (fun W h => by
            have := aheadFn_any _ len cap m L k n W h HM.out ⟨by omega, by omega⟩ ⟨by omega, by omega⟩ SM.out
            rwa [ha] at this)
          clear ha
          go_wp2_with (first
            | (go_at_call 20; (refine CG.out.mono ?_); rintro e w1 ⟨rfl, hb⟩; have HB1 := Lib.hid (HB.out.trans (hb.mono HB.out.size)); have BX := Lib.hid (BX.out.keep hb); clear z0 z1 c4 hb; have z0 := BX.out.c0; have z1 := BX.out.c1)
            | (go_at_call 24; (with_reducible refine (CA.out _ BX.out.row).mono ?_); rintro e w2 ⟨rfl, hb⟩; have BX := Lib.hid (BX.out.keep hb); have HB2 := Lib.hid (HB1.out.trans (hb.mono HB1.out.size)); clear z0 z1 hb; have z0 := BX.out.c0; have z1 := BX.out.c1))
          go_roundw
          case rel => exact ⟨k + 1, by omega, by go_num, HB2⟩
          case measure => simp [intOf]; omega
end Go.Proofs.YtkgbgnmmgmnnlaaGreatDoor
