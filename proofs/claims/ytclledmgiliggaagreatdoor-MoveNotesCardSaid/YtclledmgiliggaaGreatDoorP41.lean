/- Texts joined in build order: MoveChained MoveNotesFacts. -/
import Derived.Test.YtclledmgiliggaaGreatDoorP40
import Derived.Test.YtclledmgiliggaaGreatDoorP37
import Derived.Test.YtclledmgiliggaaGreatDoorP38
import Derived.Test.YtclledmgiliggaaGreatDoorP39
namespace Go.Proofs.YtclledmgiliggaaGreatDoor
open Go.RowKit
set_option linter.unusedVariables false
def let6 (k : Nat) : UInt8 := UInt8.ofNat (97 + k)
theorem let6_nat {k : Nat} (h : k < 3) : ((let6 k).toNat : Int) = 97 + k := by
  have : (let6 k).toNat = (97 + k) % 256 := UInt8.toNat_ofNat'
  omega
theorem one_back6 (b : UInt8) (z : Int) (hz : z = (b.toNat : Int)) (W : World) : (convert 48 9 (.slice (some ⟨W.heap.size, 0, none⟩) 1 1)).run Tryz.prog (W.alloc (.cells #[.int .u8 z] 5)) = .ok (.string (ofL [b])) (W.alloc (.cells #[.int .u8 z] 5)) := by
  have := run_convert_bytes_back (P := Tryz.prog) (W.alloc (.cells #[.int .u8 z] 5)) 48 9 5 ⟨W.heap.size, 0, none⟩ 1 [b] Tryz.underlying48 Tryz.underlying5 Tryz.underlying9 (fun j hj => by
    have hj0 : j = 0 := by simpa using hj
    subst hj0
    rw [Go.WideShapes.add_plain, Nat.zero_add, cell_of_row (W.alloc (.cells #[.int .u8 z] 5)) W.heap.size 0 _ 5 (0, 0) (heap_alloc_new W _)]
    rw [hz]
    rfl)
  exact this
theorem u8_in6 {n : Int} (h1 : 0 ≤ n) (h2 : n ≤ 255) : IntKind.u8.wrap n = n := by rw [IntKind.wrap_u8]; omega
theorem stepC_on {j : Nat} {k : List UInt8} {s t : Option ByteArray} {x : NoteD} (h1 : x.node = j) (h2 : x.kind = 4) (h3 : x.name.toList = k) (h : stepC j k s x = some t) : x.old = s.getD (ofL []) ∧ x.had = s.isSome ∧ (x.had = true ∨ x.has = true) ∧ (x.has = true ∨ x.new = ofL []) ∧ t = if x.has = true then some x.new else none := by
  unfold stepC at h
  rw [if_pos ⟨h1, h2, by rw [← h3, ofL_self]⟩] at h
  split at h
  · rename_i hc
    obtain ⟨c1, c2, c3, c4⟩ := hc
    exact ⟨c1, c2, c3, c4, (Option.some.inj h).symm⟩
  · cases h
theorem stepC_off {j : Nat} {k : List UInt8} {s t : Option ByteArray} {x : NoteD} (h1 : ¬ (x.node = j ∧ x.kind = 4 ∧ x.name.toList = k)) (h : stepC j k s x = some t) : s = t := by
  unfold stepC at h
  rw [if_neg (fun hc => h1 ⟨hc.1, hc.2.1, by rw [hc.2.2, toList_ofL]⟩)] at h
  exact Option.some.inj h
set_option maxHeartbeats 16000000 in
set_option maxRecDepth 100000 in
theorem chained_any (a : Option Addr) (len cap : Nat) (m : Int) (L : List NodeD) (a2 : Option Addr) (len2 cap2 : Nat) (m2 : Int) (L2 : List NodeD) (n : Nat) (x y : NodeD) (va : Option Addr) (vl vc : Nat) (N : List NoteD) (w : World) (h : NodeRow w a len cap L) (h2 : NodeRow w a2 len2 cap2 L2) (hv : NoteRow w va vl vc N) (hx : L[n]? = some x) (hy : L2[n]? = some y)
    (ht : ∀ k, runN (stepC n k) (lookA x.core.attrs k) N = some (lookA y.core.attrs k)) :
    Calls Tryz.prog 25 #[forV a len cap m, forV a2 len2 cap2 m2, .int .i64 n, .slice va vl vc] w fun e w' => e = .returned (.bool true) ∧ Below w.heap.size w w' := by
  have hvl := hv.len64
  have HLV := Lib.hid hv.row.hlen
  have HT := Lib.hid ht
  have CV1 : Hid (∀ k W, Below w.heap.size w W → Calls Tryz.prog 70 #[forV a len cap m, .int .i64 n, .string k] W fun e w' => e = .returned (.tuple #[.string ((lookA x.core.attrs k.toList).getD ⟨#[]⟩), .bool (lookA x.core.attrs k.toList).isSome]) ∧ Below W.heap.size W w') := Lib.hid (fun k W hb => value_any a len cap m L n x k W (h.below hb) hx)
  have CV2 : Hid (∀ k W, Below w.heap.size w W → Calls Tryz.prog 70 #[forV a2 len2 cap2 m2, .int .i64 n, .string k] W fun e w' => e = .returned (.tuple #[.string ((lookA y.core.attrs k.toList).getD ⟨#[]⟩), .bool (lookA y.core.attrs k.toList).isSome]) ∧ Below W.heap.size W w') := Lib.hid (fun k W hb => value_any a2 len2 cap2 m2 L2 n y k W (h2.below hb) hy)
  obtain ⟨w0, hw0, BX, BY, HB0⟩ : ∃ w0, (w.alloc (forB a len cap m)).alloc (forB a2 len2 cap2 m2) = w0 ∧ Hid (Box2 w0 w.heap.size (.slice a len cap) (.int .i64 m)) ∧ Hid (Box2 w0 (w.heap.size + 1) (.slice a2 len2 cap2) (.int .i64 m2)) ∧ Hid (Below w.heap.size w w0) := by
    refine ⟨_, rfl, Lib.hid ((Box2.new w _ _ 24).keep (below_box _ _)), Lib.hid ?_, Lib.hid ((below_box _ _).trans ((below_box _ _).mono (by simp)))⟩
    have := Box2.new (w.alloc (forB a len cap m)) (.slice a2 len2 cap2) (.int .i64 m2) 24
    rwa [show (w.alloc (forB a len cap m)).heap.size = w.heap.size + 1 by simp] at this
  have HW0 := Lib.hid hw0
  have HV := Lib.hid hv
  clear h h2 hv hx hy ht hw0
  go_enter Tryz.func25, Tryz.ntmps25
  go_upto_region 1 with fail
  rw [HW0.out]
  go_wp2
  go_loopw [9] (fun i wr => ∃ j : Nat, j ≤ 3 ∧ i = .int .i64 j ∧ Hid (Below w0.heap.size w0 wr)) (fun i _ => 3 - (intOf i).toNat)
  case atStart => exact ⟨0, by omega, rfl, Lib.hid (Below.refl _ _)⟩
  case round =>
    obtain ⟨j, hj, rfl, HB⟩ := hrel
    by_cases hlt : j < 3
    · have hb1 := one_back6 (let6 j) (97 + j) (let6_nat hlt).symm
      have e1 : IntKind.u8.wrap (j : Int) = j := u8_in6 (by omega) (by omega)
      have e2 : IntKind.u8.wrap (97 + (j : Int)) = 97 + j := u8_in6 (by omega) (by omega)
      have z0 := (BX.out.keep HB.out).c0
      have z1 := (BX.out.keep HB.out).c1
      have HBW := Lib.hid (HB0.out.trans (HB.out.mono HB0.out.size))
      go_upto_region 5 with fail
      clear hb1 e1 e2
      obtain ⟨kk, hkk⟩ : ∃ kk : List UInt8, [let6 j] = kk := ⟨_, rfl⟩
      rw [hkk]
      obtain ⟨s0, hs0⟩ : ∃ s0, lookA x.core.attrs kk = s0 := ⟨_, rfl⟩
      obtain ⟨sy, hsy⟩ : ∃ sy, lookA y.core.attrs kk = sy := ⟨_, rfl⟩
      obtain ⟨o0, ho0⟩ : ∃ o0, s0.getD ⟨#[]⟩ = o0 := ⟨_, rfl⟩
      obtain ⟨b0, hb0⟩ : ∃ b0, s0.isSome = b0 := ⟨_, rfl⟩
      obtain ⟨oy, hoy⟩ : ∃ oy, sy.getD ⟨#[]⟩ = oy := ⟨_, rfl⟩
      obtain ⟨by_, hby⟩ : ∃ by_, sy.isSome = by_ := ⟨_, rfl⟩
      have DV1 : Hid (∀ W, Below w.heap.size w W → Calls Tryz.prog 70 #[forV a len cap m, .int .i64 n, .string (ofL kk)] W fun e w' => e = .returned (.tuple #[.string o0, .bool b0]) ∧ Below W.heap.size W w') := Lib.hid (fun W hb => by
        have h1 := CV1.out (ofL kk) W hb
        rwa [toList_ofL, hs0, ho0, hb0] at h1)
      have DV2 : Hid (∀ W, Below w.heap.size w W → Calls Tryz.prog 70 #[forV a2 len2 cap2 m2, .int .i64 n, .string (ofL kk)] W fun e w' => e = .returned (.tuple #[.string oy, .bool by_]) ∧ Below W.heap.size W w') := Lib.hid (fun W hb => by
        have h1 := CV2.out (ofL kk) W hb
        rwa [toList_ofL, hsy, hoy, hby] at h1)
      have HTK : Hid (runN (stepC n kk) s0 N = some sy) := Lib.hid (by rw [← hs0, ← hsy]; exact HT.out kk)
      have HO0 := Lib.hid ho0
      have HB00 := Lib.hid hb0
      have HOY := Lib.hid hoy
      have HBY := Lib.hid hby
      clear hkk hs0 hsy ho0 hb0 hoy hby
      obtain ⟨w1, hw1, HB⟩ : ∃ w1, wr.alloc (.cells #[.int .u8 (97 + (j : Int))] 5) = w1 ∧ Hid (Below w0.heap.size w0 w1) := ⟨_, rfl, Lib.hid (HB.out.alloc HB.out.size _)⟩
      rw [hw1]
      clear hw1 z0 z1
      have z0 := (BX.out.keep HB.out).c0
      have z1 := (BX.out.keep HB.out).c1
      go_upto_region 6 with (go_at_call 70; (with_reducible refine (DV1.out _ (HB0.out.trans (HB.out.mono HB0.out.size))).mono ?_); rintro e w2 ⟨rfl, hb⟩; have HB := Lib.hid (HB.out.trans (hb.mono HB.out.size)); clear hb z0 z1)
      go_wp2
      go_loopw [11, 12, 13] (fun ov hv iv wx => ∃ (p : Nat) (s : Option ByteArray) (o : ByteArray) (bb : Bool), p ≤ vl ∧ iv = .int .i64 p ∧ ov = .string o ∧ hv = .bool bb ∧ Hid (s.getD ⟨#[]⟩ = o) ∧ Hid (s.isSome = bb) ∧ Hid (runN (stepC n kk) s0 (N.take p) = some s) ∧ Hid (Below w0.heap.size w0 wx)) (fun _ _ iv _ => vl - (intOf iv).toNat)
      case atStart => exact ⟨0, s0, o0, b0, Nat.zero_le _, rfl, rfl, rfl, HO0, HB00, Lib.hid rfl, HB⟩
      case round =>
        obtain ⟨p, s, o, bb, hp, rfl, rfl, rfl, HO, HBB, HS, HBI⟩ := hrel
        by_cases hpl : p < vl
        · have HBW := Lib.hid (HB0.out.trans (HBI.out.mono HB0.out.size))
          obtain ⟨bl, ol, xl, rfl, hbl, hxl, -, hcl⟩ := (HV.out.below HBW.out).row.get hpl
          obtain ⟨t', hst, hrun⟩ := runN_next HTK.out hxl HS.out
          have HST := Lib.hid hst
          have HRUN := Lib.hid hrun
          clear hst hrun
          obtain ⟨k0, k1, k2, k3, k4, k5, k6, k7, k8⟩ := xl
          have p0 : wr.cell? ⟨bl, ol + p * 9 + 0, none⟩ = some (.int .i64 k0) := hcl 0 _ rfl
          have p1 : wr.cell? ⟨bl, ol + p * 9 + 1, none⟩ = some (.int .i64 k1) := hcl 1 _ rfl
          have p2 : wr.cell? ⟨bl, ol + p * 9 + 2, none⟩ = some (.int .i64 k2) := hcl 2 _ rfl
          have p3 : wr.cell? ⟨bl, ol + p * 9 + 3, none⟩ = some (.int .i64 k3) := hcl 3 _ rfl
          have p4 : wr.cell? ⟨bl, ol + p * 9 + 4, none⟩ = some (.string k4) := hcl 4 _ rfl
          have p5 : wr.cell? ⟨bl, ol + p * 9 + 5, none⟩ = some (.bool k5) := hcl 5 _ rfl
          have p6 : wr.cell? ⟨bl, ol + p * 9 + 6, none⟩ = some (.bool k6) := hcl 6 _ rfl
          have p7 : wr.cell? ⟨bl, ol + p * 9 + 7, none⟩ = some (.string k7) := hcl 7 _ rfl
          have p8 : wr.cell? ⟨bl, ol + p * 9 + 8, none⟩ = some (.string k8) := hcl 8 _ rfl
          rw [Nat.add_zero] at p0
          have hp64 : (p : Int) + 1 ≤ 9223372036854775807 := by omega
          clear hcl hxl
          go_upto_region 10 with fail
          obtain ⟨wn, hwn, NB, HBN⟩ : ∃ wn, wr.alloc (.cells #[.int .i64 k0, .int .i64 k1, .int .i64 k2, .int .i64 k3, .string k4, .bool k5, .bool k6, .string k7, .string k8] 53) = wn ∧ Hid (VBox wn wr.heap.size [.int .i64 k0, .int .i64 k1, .int .i64 k2, .int .i64 k3, .string k4, .bool k5, .bool k6, .string k7, .string k8]) ∧ Hid (Below w0.heap.size w0 wn) := ⟨_, rfl, Lib.hid (VBox.new wr _ _), Lib.hid (HBI.out.alloc HBI.out.size _)⟩
          rw [hwn]
          clear hwn p0 p1 p2 p3 p4 p5 p6 p7 p8
          have p0 := NB.out.c 0 _ rfl
          have p1 := NB.out.c 1 _ rfl
          have p4 := NB.out.c 4 _ rfl
          have p5 := NB.out.c 5 _ rfl
          have p6 := NB.out.c 6 _ rfl
          have p7 := NB.out.c 7 _ rfl
          have p8 := NB.out.c 8 _ rfl
          by_cases c1 : k1 = (n : Int)
          rotate_left
          · have f1 : (k1 != (n : Int)) = true := bne_iff_ne.2 c1
            have HOFF := Lib.hid (stepC_off (fun hc => c1 hc.1) HST.out)
            clear c1
            go_wp2
            go_roundw
            case rel => exact ⟨p + 1, s, o, bb, hpl, by go_num, rfl, rfl, HO, HBB, Lib.hid (by rw [HOFF.out]; exact HRUN.out), HBN⟩
            case measure => simp [intOf]; omega
          by_cases c2 : k0 = 4
          rotate_left
          · have f1 : (k1 != (n : Int)) = false := by rw [c1]; simp
            have f2 : (k0 != 4) = true := bne_iff_ne.2 c2
            have HOFF := Lib.hid (stepC_off (fun hc => c2 hc.2.1) HST.out)
            clear c1 c2
            go_wp2
            go_roundw
            case rel => exact ⟨p + 1, s, o, bb, hpl, by go_num, rfl, rfl, HO, HBB, Lib.hid (by rw [HOFF.out]; exact HRUN.out), HBN⟩
            case measure => simp [intOf]; omega
          by_cases c3 : k4.toList = kk
          rotate_left
          · have f1 : (k1 != (n : Int)) = false := by rw [c1]; simp
            have f2 : (k0 != 4) = false := by rw [c2]; rfl
            have f3 : (k4.toList == kk) = false := beq_eq_false_iff_ne.2 c3
            have HOFF := Lib.hid (stepC_off (fun hc => c3 hc.2.2) HST.out)
            clear c1 c2 c3
            go_wp2
            go_roundw
            case rel => exact ⟨p + 1, s, o, bb, hpl, by go_num, rfl, rfl, HO, HBB, Lib.hid (by rw [HOFF.out]; exact HRUN.out), HBN⟩
            case measure => simp [intOf]; omega
          obtain ⟨d1, d2, d3, d4, d5⟩ := stepC_on c1 c2 c3 HST.out
          have f1 : (k1 != (n : Int)) = false := by rw [c1]; simp
          have f2 : (k0 != 4) = false := by rw [c2]; rfl
          have f3 : (k4.toList == kk) = true := beq_iff_eq.2 c3
          have f7 : (k7.toList == o.toList) = true := beq_iff_eq.2 (congrArg ByteArray.toList (d1.trans HO.out))
          obtain rfl : k5 = bb := d2.trans HBB.out
          have HD5 := Lib.hid d5
          have D3 := Lib.hid d3
          have D4 := Lib.hid d4
          clear c1 c2 c3 d1 d2 d3 d4 d5
          cases k6 with
          | true =>
            obtain rfl : t' = some k8 := HD5.out
            cases k5
            all_goals
              go_wp2
              go_quiet (fail)
              go_wp2
              go_roundw
              case rel => exact ⟨p + 1, some k8, k8, true, hpl, by go_num, rfl, rfl, Lib.hid rfl, Lib.hid rfl, HRUN, Lib.hid (below_drewN HBN.out _)⟩
              case measure => simp [intOf]; omega
          | false =>
            obtain rfl : t' = none := HD5.out
            obtain rfl : k8 = ofL [] := by
              rcases D4.out with h | h
              · cases h
              · exact h
            cases k5 with
            | false => rcases D3.out with h | h <;> cases h
            | true =>
              have f8 : ((ofL []).toList == ByteArray.toList ⟨#[]⟩) = true := beq_iff_eq.2 rfl
              go_wp2
              go_quiet (fail)
              go_wp2
              go_roundw
              case rel => exact ⟨p + 1, none, ofL [], false, hpl, by go_num, rfl, rfl, Lib.hid rfl, Lib.hid rfl, HRUN, Lib.hid (below_drewN HBN.out _)⟩
              case measure => simp [intOf]; omega
        · obtain rfl : p = vl := by omega
          obtain rfl : s = sy := by
            have h1 := HS.out
            rw [List.take_of_length_le (by rw [HLV.out]; exact Nat.le_refl _), HTK.out] at h1
            exact (Option.some.inj h1).symm
          obtain rfl : o = oy := HO.out.symm.trans HOY.out
          obtain rfl : bb = by_ := HBB.out.symm.trans HBY.out
          have y0 := (BY.out.keep HBI.out).c0
          have y1 := (BY.out.keep HBI.out).c1
          have f7 : (o.toList == o.toList) = true := beq_iff_eq.2 rfl
          cases bb
          all_goals
            go_wp2_with (go_at_call 70; (with_reducible refine (DV2.out _ (HB0.out.trans (HBI.out.mono HB0.out.size))).mono ?_); rintro e w3 ⟨rfl, hb⟩; have HBE := Lib.hid (HBI.out.trans (hb.mono HBI.out.size)); clear hb y0 y1)
            go_roundw
            case rel => exact ⟨j + 1, hlt, by go_num, HBE⟩
            case measure => simp [intOf]; omega
    · go_wp2
      go_ret
      exact ⟨rfl, HB0.out.trans (HB.out.mono HB0.out.size)⟩
end Go.Proofs.YtclledmgiliggaaGreatDoor
namespace Go.Proofs.YtclledmgiliggaaGreatDoor
open Go.RowKit
set_option linter.unusedVariables false
theorem stepB_on {j : Int} {s t : Bool × Int} {x : NoteD} (hn : x.node = j) (h : stepB j s x = some t) : (x.kind = 1 ∧ s.1 = false ∧ t = (true, s.2)) ∨ (x.kind = 2 ∧ s.1 = true ∧ t = (false, s.2)) ∨ (x.kind = 3 ∧ x.src = s.2 ∧ x.dst ≠ s.2 ∧ s.1 = false ∧ t = (false, x.dst)) ∨ (x.kind ≠ 1 ∧ x.kind ≠ 2 ∧ x.kind ≠ 3 ∧ t = s) := by
  unfold stepB at h
  rw [if_pos hn] at h
  by_cases h1 : x.kind = 1
  · rw [if_pos h1] at h
    cases hs : s.1 with
    | true => rw [hs, if_pos rfl] at h; cases h
    | false =>
      rw [hs, if_neg (by decide)] at h
      exact .inl ⟨h1, rfl, (Option.some.inj h).symm⟩
  rw [if_neg h1] at h
  by_cases h2 : x.kind = 2
  · rw [if_pos h2] at h
    cases hs : s.1 with
    | false => rw [hs, if_neg (by decide)] at h; cases h
    | true =>
      rw [hs, if_pos rfl] at h
      exact .inr (.inl ⟨h2, rfl, (Option.some.inj h).symm⟩)
  rw [if_neg h2] at h
  by_cases h3 : x.kind = 3
  · rw [if_pos h3] at h
    split at h
    · rename_i hc
      obtain ⟨c1, c2, c3⟩ := hc
      rw [c3] at h
      exact .inr (.inr (.inl ⟨h3, c1, c2, c3, (Option.some.inj h).symm⟩))
    · cases h
  rw [if_neg h3] at h
  exact .inr (.inr (.inr ⟨h1, h2, h3, (Option.some.inj h).symm⟩))
theorem stepB_off {j : Int} {s t : Bool × Int} {x : NoteD} (hn : x.node ≠ j) (h : stepB j s x = some t) : s = t := by
  unfold stepB at h
  rw [if_neg hn] at h
  exact Option.some.inj h
theorem NoteRow.of_own {w : World} {base : Nat} {v : Value} {n : Nat} {N : List NoteD} (hl : N.length = n) (h : w.ownsRow base 53 9 v n (N.flatMap encO)) (hs : ∀ x ∈ N, NoteOk x) : ∃ a cap, v = .slice a n cap ∧ NoteRow w a n cap N := by
  rcases Nat.eq_zero_or_pos n with h0 | h0
  · subst h0
    obtain rfl : N = [] := List.length_eq_zero_iff.1 hl
    rcases h.2 with ⟨rfl, _⟩ | ⟨g, cap, cur, rfl, _⟩
    · exact ⟨none, 0, rfl, NoteRow.nil w⟩
    · obtain ⟨a, c, e, hr⟩ := SRow.of_own (enc := encO) (fun x _ => rfl) hl h
      injection e with e1 e2 e3
      subst e1 e3
      exact ⟨_, _, rfl, ⟨hr.1, hs, fun e => by cases e⟩⟩
  · obtain ⟨a, c, e, hr⟩ := SRow.of_own (enc := encO) (fun x _ => rfl) hl h
    obtain ⟨g, cap, e2⟩ := own_some h h0
    rw [e] at e2
    injection e2 with e3 _ e4
    subst e3 e4
    exact ⟨_, _, e, ⟨hr.1, hs, fun e => by cases e⟩⟩
structure OpEnd (W wx : World) (gB : Nat) (m : Int) (a2 : Option Addr) (len2 cap2 : Nat) (M2 : List NodeD) (G2 : List Core) (va : Option Addr) (vl vc : Nat) (X : List NoteD) : Prop where
  row : NodeRow wx a2 len2 cap2 M2
  core : coreL M2 = G2
  small : smallF M2
  notes : NoteRow wx va vl vc X
  lt : W.heap.size < wx.heap.size
  c0 : wx.cell? ⟨W.heap.size, 0, none⟩ = some (.slice a2 len2 cap2)
  c1 : wx.cell? ⟨W.heap.size, 1, none⟩ = some (.int .i64 m)
  below : Below W.heap.size W wx
  away : MvNew W.heap.size a2 va M2
theorem op_end {W Wc w7 : World} {gB : Nat} {m : Int} {a2 va : Option Addr} {len2 cap2 vl vc : Nat} {M2 : List NodeD} {G2 : List Core} {X : List NoteD} (hg : gB < W.heap.size) (hz : Below (W.alloc (.cells #[.slice none 0 0, .int .i64 0] 24)).heap.size (W.alloc (.cells #[.slice none 0 0, .int .i64 0] 24)) Wc)
    (hr : NodeRow w7 a2 len2 cap2 M2) (hc : coreL M2 = G2) (hs : smallF M2) (hn : NoteRow w7 va vl vc X) (hb : Below Wc.heap.size Wc w7) (hv : MvNew Wc.heap.size a2 va M2) :
    OpEnd W ((w7.setCell ⟨W.heap.size, 0, none⟩ (.slice a2 len2 cap2)).setCell ⟨W.heap.size, 1, none⟩ (.int .i64 m)) gB m a2 len2 cap2 M2 G2 va vl vc X := by
  have ZB : MBox W Wc W.heap.size none 0 0 0 [] [] := (MBox.new (m := 0) (Below.refl _ W) ⟨SRow.nil, (fun z hz => by cases hz), fun _ => rfl⟩ rfl).keep hz
  have MV := ZB.mv (m2 := m) hb hr hc hv
  have h1 := hv _ ZB.box.lt
  exact ⟨MV.box.row, MV.box.core, hs, (hn.far h1.2.2 0 _).far h1.2.2 1 _, MV.box.lt, MV.box.c0, MV.box.c1, MV.box.below, hv.mono (Nat.le_of_lt ZB.box.lt)⟩
theorem OpEnd.keep {W wx wy : World} {gB : Nat} {m : Int} {a2 va : Option Addr} {len2 cap2 vl vc : Nat} {M2 : List NodeD} {G2 : List Core} {X : List NoteD} (h : OpEnd W wx gB m a2 len2 cap2 M2 G2 va vl vc X) (hb : Below wx.heap.size wx wy) : OpEnd W wy gB m a2 len2 cap2 M2 G2 va vl vc X :=
  ⟨h.row.below hb, h.core, h.small, h.notes.below hb, Nat.lt_of_lt_of_le h.lt hb.size, (hb.cell (p := ⟨W.heap.size, 0, none⟩) h.lt).trans h.c0, (hb.cell (p := ⟨W.heap.size, 1, none⟩) h.lt).trans h.c1, h.below.trans (hb.mono (Nat.le_of_lt h.lt)), h.away⟩
def OpPost (W : World) (gB : Nat) (m : Int) (G2 : List Core) (X2 : List NoteD) (E : Int) (e : Ending) (w7 : World) : Prop :=
  ∃ (a2 : Option Addr) (len2 cap2 : Nat) (M2 : List NodeD) (va : Option Addr) (vl vc : Nat), e = .returned (.tuple #[forV a2 len2 cap2 m, .slice va vl vc, .int .i64 E]) ∧ w7.cell? ⟨W.heap.size, 0, none⟩ = some (.slice none 0 0) ∧ w7.cell? ⟨W.heap.size, 1, none⟩ = some (.int .i64 0) ∧ (∀ o, w7.frozen? ⟨W.heap.size, o, none⟩ = false) ∧
    OpEnd W ((w7.setCell ⟨W.heap.size, 0, none⟩ (.slice a2 len2 cap2)).setCell ⟨W.heap.size, 1, none⟩ (.int .i64 m)) gB m a2 len2 cap2 M2 G2 va vl vc X2
theorem op_call {f : FuncId} {args : Array Value} {W Wa Wc : World} {gB : Nat} {m : Int} {G2 : List Core} {X2 : List NoteD} {E : Int} (hg : gB < W.heap.size) (hwa : W.alloc (.cells #[.slice none 0 0, .int .i64 0] 24) = Wa) (hz : Below Wa.heap.size Wa Wc) (h : Calls Tryz.prog f args Wc (MvPost Wc m (G2, X2, E))) : Calls Tryz.prog f args Wc (OpPost W gB m G2 X2 E) := by
  refine h.mono ?_
  rintro e w7 ⟨a2, len2, cap2, M2, va, vl, vc, he, hr, hc, hs, hn, hb, hv⟩
  subst hwa
  have ZB : MBox W Wc W.heap.size none 0 0 0 [] [] := (MBox.new (m := 0) (Below.refl _ W) ⟨SRow.nil, (fun z hz => by cases hz), fun _ => rfl⟩ rfl).keep hz
  have ZC := ZB.keep hb
  exact ⟨a2, len2, cap2, M2, va, vl, vc, he, ZC.box.c0, ZC.box.c1, ZC.free, op_end hg hz hr hc hs hn hb hv⟩
theorem NodeRow.grownN {w w' : World} {a : Option Addr} {len cap : Nat} {L : List NodeD} {row : Option Nat} (h : NodeRow w a len cap L) (hg : w.grownBy w' row) (ha : ∀ k, row = some k → (∀ b off, a = some ⟨b, off, none⟩ → b ≠ k) ∧ ∀ x ∈ L, NodeAway k x) : NodeRow w' a len cap L :=
  ⟨h.row.grown hg (fun b off e _ e2 => (ha b e2.symm).1 b off e rfl), fun x hx => (h.ok x hx).grown hg (fun k e => (ha k e).2 x hx), h.hnil⟩
theorem MBox.grown {w W W2 : World} {g : Nat} {a : Option Addr} {len cap : Nat} {m : Int} {L : List NodeD} {F : List Core} {row : Option Nat} (h : MBox w W g a len cap m L F) (hg : W.grownBy W2 row) (h0 : ∀ k, row = some k → w.heap.size ≤ k ∧ k ≠ g ∧ (∀ b off, a = some ⟨b, off, none⟩ → b ≠ k) ∧ ∀ x ∈ L, NodeAway k x) : MBox w W2 g a len cap m L F := by
  have hne : some g ≠ row := fun e => (h0 g e.symm).2.1 rfl
  have hb := hg.block g h.box.lt hne
  have hc : ∀ o, W2.cell? ⟨g, o, none⟩ = W.cell? ⟨g, o, none⟩ := fun o => World.cell?_of_block (w := W) (a := ⟨g, o, none⟩) hb
  refine ⟨⟨h.box.row.grownN hg (fun k e => ⟨(h0 k e).2.2.1, (h0 k e).2.2.2⟩), h.box.core, h.box.low, Nat.lt_of_lt_of_le h.box.lt hg.size, (hc 0).trans h.box.c0, (hc 1).trans h.box.c1, h.box.below.grown hg h.box.below.size (fun k e => (h0 k e).1)⟩, fun o => (World.frozen?_of_block (w := W) (a := ⟨g, o, none⟩) hb).trans (h.free o), fun j s => by rw [hc]; exact h.nt j s⟩
end Go.Proofs.YtclledmgiliggaaGreatDoor
