/-
  Proved: for all two strings, the law NameSmall of package instarlaw01 returns true, and its arguments read as before. No condition.
-/
import Derived.Test.YtgcejejnbcjckaaRows
import Derived.Test.YtgcejejnbcjckaaNameAwake
import Derived.Test.YtgcejejnbcjckaaNameFacts
import Derived.Deep.QuietTactic
import Derived.BigQuiet
import Derived.WalkSmall
import Derived.WalkKit
import Derived.ProofKit
import Derived.OpenShut
import Derived.ShutString
namespace Go.Proofs.Ytgcejejnbcjckaa.nameSmall
open Go.ChangeShapes Go.WideShapes Go.ChangeAt Go.RowKit
open Go.ChangeMaps (open_string shut_string)
set_option linter.unusedVariables false

theorem own : ownKnob Try.prog.godebug = none := by kernel_rfl

theorem add_ofL (s : ByteArray) (m : List UInt8) : s ++ ofL m = ofL (s.toList ++ m) := by
  obtain ⟨⟨l⟩⟩ := s
  unfold ofL
  rw [ByteArray.mk_append_mk, ByteArray.toList_mk]
theorem ofL_self (s : ByteArray) : ofL s.toList = s := by
  obtain ⟨⟨l⟩⟩ := s
  unfold ofL
  rw [ByteArray.toList_mk]
theorem add_any (s t : ByteArray) : s ++ t = ofL (s.toList ++ t.toList) := by
  rw [← add_ofL, ofL_self]
theorem get_ofL (l : List UInt8) (k : Nat) (c : UInt8) (h : l[k]? = some c) (hk : k < (ofL l).size) : (ofL l)[k]'hk = c := by
  have := tl_get (ofL l) k hk
  rw [toList_ofL, h] at this
  exact (Option.some.inj this).symm

set_option maxHeartbeats 16000000 in
set_option maxRecDepth 100000 in
theorem walk (a0 a1 : ByteArray) (w0 : a0.size ≤ maxLen) (w1 : a1.size ≤ maxLen) (w : World) :
    Calls Try.prog 6 #[.string a0, .string a1] w fun e w' => e = .returned (.bool true) ∧ Below w.heap.size w w' := by
  have HB : Below w.heap.size w w := Below.refl _ _
  have hm0 : a0.size ≤ 9223372036854775807 := by unfold maxLen at w0; omega
  have hm1 : a1.size ≤ 9223372036854775807 := by unfold maxLen at w1; omega
  have HW0 := Lib.hid w0
  have HW1 := Lib.hid w1
  clear w0 w1
  by_cases hbig : 300 < a0.size
  · go_enter Try.func6, Try.ntmps6
    go_wp2_with (first
      | (go_at_call 8; refine (awake_any _).mono ?_; rintro e w' ⟨rfl, hb⟩; have HB := HB.trans (hb.mono HB.size); clear hb))
    go_ret
    exact ⟨rfl, by assumption⟩
  by_cases hbig1 : 300 < a1.size
  · go_enter Try.func6, Try.ntmps6
    go_wp2_with (first
      | (go_at_call 8; refine (awake_any _).mono ?_; rintro e w' ⟨rfl, hb⟩; have HB := HB.trans (hb.mono HB.size); clear hb))
    go_ret
    exact ⟨rfl, by assumption⟩
  have h300 : a0.size ≤ 300 := by omega
  have h301 : a1.size ≤ 300 := by omega
  have hadd : ∀ W : World, (Op.stringOp .add a0 a1).run Try.prog W = .ok (.string (ofL (a0.toList ++ a1.toList))) W := fun W => by
    rw [run_string_add_sum W _ _ (by omega), add_any]
  have hadd2 : ∀ W : World, (Op.stringOp .add (ofL (smallL a0.toList)) (ofL (smallL a1.toList))).run Try.prog W = .ok (.string (ofL (smallL (a0.toList ++ a1.toList)))) W := fun W => by
    rw [run_string_add_sum W _ _ (by rw [size_ofL, size_ofL, smallL_length, smallL_length, tl_len, tl_len]; omega), add_ofL, toList_ofL, smallL_append]
  have hsl : (smallL a0.toList).length = a0.size := by rw [smallL_length, tl_len]
  have HT : Hid ((ofL (a0.toList ++ a1.toList)).size ≤ maxLen) := by
    refine Lib.hid ?_
    rw [size_ofL, List.length_append, tl_len, tl_len]
    unfold maxLen
    omega
  clear hbig hbig1
  go_enter Try.func6, Try.ntmps6
  go_wp2_with (first
    | (go_at_call 8; refine (awake_any _).mono ?_; rintro e w' ⟨rfl, hb⟩; have HB := HB.trans (hb.mono HB.size); clear hb)
    | (go_at_call 19; refine (small_any _ _ (by first | exact HW0.out | exact HW1.out | exact HT.out)).mono ?_; rintro e w' ⟨rfl, hb⟩; have HB := HB.trans (hb.mono HB.size); clear hb))
  clear hadd hadd2
  go_loopw [7] (fun i wr => ∃ k : Nat, k ≤ a0.size ∧ i = .int .i64 k ∧ Below w.heap.size w wr) (fun i _ => a0.size - (intOf i).toNat)
  case atStart => exact ⟨0, Nat.zero_le _, rfl, by assumption⟩
  case round =>
    obtain ⟨k, hk, rfl, HR⟩ := hrel
    by_cases hlt : k < a0.size
    · have hkx : k < (ofL (smallL a0.toList)).size := by rw [size_ofL, hsl]; exact hlt
      have hkl : k < (smallL a0.toList).length := by rw [hsl]; exact hlt
      have hx : ((ofL (smallL a0.toList))[k]'hkx) = smallB (a0[k]'hlt) := by
        refine get_ofL _ _ _ ?_ _
        unfold smallL
        rw [List.getElem?_map, tl_get a0 k hlt]
        rfl
      have hxn : (((ofL (smallL a0.toList))[k]'hkx).toNat : Int) = if capI ((a0[k]'hlt).toNat : Int) then ((a0[k]'hlt).toNat : Int) + 32 else ((a0[k]'hlt).toNat : Int) := by
        rw [hx, smallB_nat]
      obtain ⟨cx, hcx⟩ : ∃ c : Nat, ((ofL (smallL a0.toList))[k]'hkx).toNat = c := ⟨_, rfl⟩
      obtain ⟨cs, hcs⟩ : ∃ c : Nat, (a0[k]'hlt).toNat = c := ⟨_, rfl⟩
      rw [hcx, hcs] at hxn
      clear hx
      by_cases hcap : capI (cs : Int) = true
      · rw [if_pos hcap] at hxn
        have hb := of_decide_eq_true hcap
        have b1 : (65 : Int) ≤ (cs : Int) := hb.1
        have b2 : (cs : Int) ≤ 90 := hb.2
        have b3 : (97 : Int) ≤ (cx : Int) := by omega
        have b4 : (cx : Int) ≤ 122 := by omega
        have d1 : decide ((65 : Int) ≤ (cs : Int)) = true := decide_eq_true b1
        have d2 : decide ((cs : Int) ≤ 90) = true := decide_eq_true b2
        have d3 : ((cx : Int) == (cs : Int)) = false := beq_eq_false_iff_ne.2 (by omega)
        have d4 : ((cx : Int) != (cs : Int)) = true := by unfold bne; rw [d3]; rfl
        have d5 : decide ((cx : Int) < 97) = false := decide_eq_false (by omega)
        have d6 : decide ((122 : Int) < (cx : Int)) = false := decide_eq_false (by omega)
        have d7 : ((cx : Int) - 97 == (cs : Int) - 65) = true := beq_iff_eq.2 (by omega)
        have d8 : ((cx : Int) - 97 != (cs : Int) - 65) = false := by unfold bne; rw [d7]; rfl
        have d9 : IntKind.u8.wrap ((cx : Int) - 97) = (cx : Int) - 97 := IntWalk.u8_in _ (by omega)
        have d10 : IntKind.u8.wrap ((cs : Int) - 65) = (cs : Int) - 65 := IntWalk.u8_in _ (by omega)
        clear hxn hcap hb
        go_wp2
        go_quiet (fail)
        go_wp2
        go_roundw
        case rel => exact ⟨k + 1, by omega, by go_num, below_drewN HR _⟩
        case measure => simp [intOf]; omega
      · rw [if_neg hcap] at hxn
        have hcap : capI (cs : Int) = false := by simpa using hcap
        have d3 : ((cx : Int) == (cs : Int)) = true := beq_iff_eq.2 (by omega)
        have d4 : ((cx : Int) != (cs : Int)) = false := by unfold bne; rw [d3]; rfl
        have hno : ¬ ((65 : Int) ≤ (cs : Int) ∧ (cs : Int) ≤ 90) := of_decide_eq_false hcap
        clear hxn hcap
        by_cases b1 : (65 : Int) ≤ (cs : Int)
        · have d1 : decide ((65 : Int) ≤ (cs : Int)) = true := decide_eq_true b1
          have d2 : decide ((cs : Int) ≤ 90) = false := decide_eq_false (by omega)
          clear hno
          go_wp2
          go_quiet (fail)
          go_wp2
          go_roundw
          case rel => exact ⟨k + 1, by omega, by go_num, below_drewN HR _⟩
          case measure => simp [intOf]; omega
        · have d1 : decide ((65 : Int) ≤ (cs : Int)) = false := decide_eq_false b1
          clear hno
          go_wp2
          go_quiet (fail)
          go_wp2
          go_roundw
          case rel => exact ⟨k + 1, by omega, by go_num, below_drewN HR _⟩
          case measure => simp [intOf]; omega
    · go_wp2
      go_ret
      exact ⟨rfl, HR⟩

set_option maxRecDepth 100000 in
theorem lifted (os : Os) (started : os.Started) (H : Type) (enc : TypeId × Value → H) :
    ReturnsInHanded {} Try.checked os 6 .any (Rows.nameSmallSpec.pre6 enc Try.prog Try.f6 Rows.nameSmallRow.domain false) (Rows.nameSmallSpec.post enc Try.prog Try.f6 false true false false) := by
  refine returnsInHanded_of_change (C := Try.checked) own started (by kernel_rfl) Try.func6
    (ChangeSpec.witness6 (enc := enc) (C := Try.checked) false ⟨#[], #[.string ByteArray.empty, .string ByteArray.empty], []⟩ 8 (by kernel_rfl) (by kernel_rfl) (by kernel_rfl) (by kernel_rfl)) ?_
  intro W base args ds gs before hval0 hW hcnd _
  have hval : ∀ (j : Nat) t v, Try.f6.params[j]? = some t → args[j]? = some v → Value.okWide Try.prog W .any base t v := hval0
  have hW' := hW
  obtain ⟨p, q, hA0, hV, rfl, hfz, hnd⟩ := hW
  have hA : DataW.TrodAll enc Try.prog W 0 (fun _ => true) true Try.f6.params.toList args.toList ds p := hA0
  rw [Try.params6] at hA hval
  obtain ⟨v0, vs0, d0, ds0, p0, q0, hargs, rfl, rfl, h0, r0⟩ := trodAll_cons hA
  obtain ⟨v1, vs1, d1, ds1, p1, q1, rfl, rfl, rfl, h1, r1⟩ := trodAll_cons r0
  obtain ⟨rfl, rfl, rfl⟩ := trodAll_nil r1
  obtain rfl : args = #[v0, v1] := by cases args; simp_all
  obtain ⟨rfl, rfl⟩ := trodVars_none hV
  obtain ⟨a0, rfl, rfl, rfl, w0⟩ := open_string Try.underlying9 (hval 0 9 v0 rfl rfl) h0
  obtain ⟨a1, rfl, rfl, rfl, w1⟩ := open_string Try.underlying9 (hval 1 9 v1 rfl rfl) h1
  clear hA0 hval0
  simp only [List.append_nil] at hW'
  refine (walk a0 a1 w0 w1 W).mono fun e W' ⟨he, bel⟩ => ?_
  subst he
  exact ⟨_, rfl, _, _, _, [], _, [], hW', trodAll_mk1 (shut_bool Try.underlying4 _), (trodAll_cons_mk (shut_string Try.underlying9 w0) (trodAll_cons_mk (shut_string Try.underlying9 w1) trodAll_mk0)), rfl, bel.frame _, fun h => by cases h⟩

theorem over : Rows.nameSmallRow.holds Try.pinned (OpenSpec.ofChange Rows.nameSmallSpec) :=
  OpenClaim.holds_of_wide 6 Try.f6 rfl rfl rfl rfl rfl rfl rfl ⟨rfl, rfl, rfl, rfl, rfl⟩ rfl rfl rfl rfl rfl (by kernel_rfl) Try.func6 (by kernel_rfl)
    (of_decide_eq_true (by kernel_rfl)) (by unfold Func.isWrapper; first | (rw [if_pos (by decide +kernel)]; kernel_rfl) | (rw [if_neg (by decide +kernel)]; exact ⟨rfl, rfl⟩))
    (fun os started H enc _ => lifted os started H enc)

theorem proved : Rows.NameSmallSaid := over
#print axioms proved
end Go.Proofs.Ytgcejejnbcjckaa.nameSmall
