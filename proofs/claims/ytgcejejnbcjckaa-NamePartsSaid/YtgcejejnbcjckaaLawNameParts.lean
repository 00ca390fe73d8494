/-
  Proved: for every string and every byte, the law NameParts of package instarlaw01 returns true, and its arguments read as before. No condition.
-/
import Derived.Test.YtgcejejnbcjckaaRows
import Derived.Test.YtgcejejnbcjckaaNameAwake
import Derived.Test.YtgcejejnbcjckaaNameFacts
import Derived.WalkSmall
import Derived.Lib.Strings
import Derived.WalkKit
import Derived.ProofKit
import Derived.OpenShut
import Derived.ShutString
namespace Go.Proofs.Ytgcejejnbcjckaa.nameParts
open Go.ChangeShapes Go.WideShapes Go.ChangeAt Go.RowKit
open Go.ChangeMaps (open_string shut_string)
set_option linter.unusedVariables false

theorem own : ownKnob Try.prog.godebug = none := by kernel_rfl

theorem take_right {l : List UInt8} {m : Nat} (h : rightL l = true) (hm : 1 ≤ m) (hl : m ≤ l.length) : rightL (l.take m) = true := by
  unfold rightL at *
  cases l with
  | nil => simp at h
  | cons b r =>
    simp only [Bool.and_eq_true, decide_eq_true_eq] at h
    obtain ⟨⟨⟨h1, h2⟩, h3⟩, h4⟩ := h
    obtain ⟨j, rfl⟩ : ∃ j, m = j + 1 := ⟨m - 1, by omega⟩
    have h5 : ((b :: r).take (j + 1)).all signB = true := by
      rw [List.all_eq_true] at h4 ⊢
      exact fun x hx => h4 x (List.mem_of_mem_take hx)
    have h6 : decide (1 ≤ ((b :: r).take (j + 1)).length ∧ ((b :: r).take (j + 1)).length ≤ 40) = true := by
      rw [List.length_take, Nat.min_eq_left hl]
      simp
      omega
    rw [h5, h6]
    simp only [List.headD_cons] at h3
    simp [h3]
theorem take_custom {l : List UInt8} {m : Nat} (h : customL l = true) (hm : 1 ≤ m) (hl : m ≤ l.length) (hd : dashL (l.take m) = true) (hc : customL (l.take m) = false) : 9 ≤ m := by
  obtain ⟨h1, h2, h3, h4, h5⟩ := custom_parts h
  have k1 := take_right h1 hm hl
  have k2 : smallL (l.take m) = l.take m := by
    have : smallL (l.take m) = (smallL l).take m := by unfold smallL; rw [List.map_take]
    rw [this, h2]
  have k3 : (l.take m).headD 0 = l.headD 0 := by
    cases l with
    | nil => simp at hl; omega
    | cons b r =>
      obtain ⟨j, rfl⟩ : ∃ j, m = j + 1 := ⟨m - 1, by omega⟩
      rfl
  have k4 : reservedL (l.take m) = true := by
    unfold customL at hc
    rw [k1, k2, k3, h3, hd] at hc
    simpa using hc
  have := reserved_long k4
  rw [List.length_take] at this
  omega
theorem no_dash_custom {l : List UInt8} (h : dashL l = false) : customL l = false := by
  by_cases hc : customL l = true
  · rw [(custom_parts hc).2.2.2.1] at h; cases h
  · simpa using hc
theorem dash_take (l : List UInt8) (k : Nat) (c : UInt8) (h : l[k]? = some c) : dashL (l.take (k + 1)) = (dashL (l.take k) || ((c.toNat : Int) == 45)) := by
  obtain ⟨hl, he⟩ := List.getElem?_eq_some_iff.1 h
  unfold dashL
  rw [List.take_succ_eq_append_getElem hl, he, Bool.eq_iff_iff]
  have e : (45 : UInt8) = c ↔ (c.toNat : Int) = 45 := by
    constructor
    · rintro rfl; rfl
    · intro h; apply UInt8.toNat_inj.1; have : (45 : UInt8).toNat = 45 := rfl; omega
  simp [e]
theorem bool_or {a b : Bool} (h : a = b) : Value.bool a = Value.bool b := by rw [h]

set_option maxHeartbeats 16000000 in
set_option maxRecDepth 100000 in
theorem walk (a0 : ByteArray) (a1 : Int) (w0 : a0.size ≤ maxLen) (w1 : (Lit.int .u8 a1).wf = true) (w : World) :
    Calls Try.prog 7 #[.string a0, .int .u8 a1] w fun e w' => e = .returned (.bool true) ∧ Below w.heap.size w w' := by
  have HB : Below w.heap.size w w := Below.refl _ _
  have hm0 : a0.size ≤ 9223372036854775807 := by unfold maxLen at w0; omega
  obtain ⟨hn0, hn1⟩ : 0 ≤ a1 ∧ a1 ≤ 255 := Go.bounds_u8 w1
  have HW0 := Lib.hid w0
  clear w0 w1
  by_cases hbig : 300 < a0.size
  · go_enter Try.func7, Try.ntmps7
    go_wp2_with (first
      | (go_at_call 8; refine (awake_any _).mono ?_; rintro e w' ⟨rfl, hb⟩; have HB := HB.trans (hb.mono HB.size); clear hb))
    go_ret
    exact ⟨rfl, by assumption⟩
  by_cases hr : rightL a0.toList = true
  rotate_left
  · have hr' : rightL a0.toList = false := by simpa using hr
    clear hr
    go_enter Try.func7, Try.ntmps7
    go_wp2_with (first
      | (go_at_call 8; refine (awake_any _).mono ?_; rintro e w' ⟨rfl, hb⟩; have HB := HB.trans (hb.mono HB.size); clear hb)
      | (go_at_call 12; refine (right_any _ _ HW0.out).mono ?_; rintro e w' ⟨rfl, rfl⟩))
    go_ret
    exact ⟨rfl, by assumption⟩
  have hp := rightL_pos a0 hr
  obtain ⟨m, hmod⟩ : ∃ m : Nat, (1 : Int) + a1 % (a0.size : Int) = (m : Int) := ⟨((1 : Int) + a1 % (a0.size : Int)).toNat, by have := Int.emod_nonneg a1 (b := (a0.size : Int)) (by omega); omega⟩
  have q1 := Int.emod_nonneg a1 (b := (a0.size : Int)) (by omega)
  have q2 := Int.emod_lt_of_pos a1 (b := (a0.size : Int)) (by omega)
  have hm1 : 1 ≤ m := by omega
  have hm2 : m ≤ a0.size := by omega
  obtain ⟨T, hT⟩ : ∃ T, a0.extract 0 m = T := ⟨_, rfl⟩
  have hTl : T.toList = a0.toList.take m := by
    rw [← hT, tl, tl, Lib.extract_data]
    simp
  have hTs : T.size = m := by rw [← tl_len, hTl, List.length_take, tl_len]; omega
  have HTL := Lib.hid hTl
  have HTS := Lib.hid hTs
  have hsz : T.size ≤ 9223372036854775807 := by omega
  have HT : Hid (T.size ≤ maxLen) := Lib.hid (by unfold maxLen; omega)
  have hTr : rightL T.toList = true := by rw [hTl]; exact take_right hr hm1 (by rw [tl_len]; exact hm2)
  obtain ⟨d, hd⟩ : ∃ d, dashL T.toList = d := ⟨_, rfl⟩
  obtain ⟨kt, hkt⟩ : ∃ d, knownL T.toList = d := ⟨_, rfl⟩
  obtain ⟨cs, hcs⟩ : ∃ d, customL a0.toList = d := ⟨_, rfl⟩
  obtain ⟨ct, hct⟩ : ∃ d, customL T.toList = d := ⟨_, rfl⟩
  have HK : Hid (kt = true → d = false) := Lib.hid (fun h => by subst h; rw [← hd]; exact known_dash hkt)
  have HN : Hid (d = false → ct = false) := Lib.hid (fun h => by subst h; rw [← hct]; exact no_dash_custom hd)
  have HL : Hid (cs = true → d = true → ct = false → 9 ≤ T.size) := Lib.hid (fun h1 h2 h3 => by
    subst h1; subst h2; subst h3
    rw [hTs]
    exact take_custom hcs hm1 (by rw [tl_len]; exact hm2) (by rw [← hTl]; exact hd) (by rw [← hTl]; exact hct))
  have HD := Lib.hid hd
  clear hTl hTs hd
  go_enter Try.func7, Try.ntmps7
  go_wp2_with (first
    | (go_at_call 8; refine (awake_any _).mono ?_; rintro e w' ⟨rfl, hb⟩; have HB := HB.trans (hb.mono HB.size); clear hb)
    | (go_at_call 12; refine (right_any _ _ HW0.out).mono ?_; rintro e w' ⟨rfl, rfl⟩))
  go_loop [6, 7] (fun dv i => ∃ k : Nat, k ≤ T.size ∧ i = .int .i64 k ∧ dv = .bool (dashL (T.toList.take k))) (fun _ i => T.size - (intOf i).toNat)
  case atStart => exact ⟨0, Nat.zero_le _, rfl, rfl⟩
  case round =>
    obtain ⟨k, hk, rfl, rfl⟩ := hrel
    by_cases hlt : k < T.size
    · have HG := Lib.hid (dash_take T.toList k _ (tl_get T k hlt))
      obtain ⟨dk, hdk⟩ : ∃ d, dashL (T.toList.take k) = d := ⟨_, rfl⟩
      cases dk
      all_goals
        go_wp2
        go_round
        case rel => exact ⟨k + 1, by omega, by go_num, by rw [HG.out, hdk]; simp⟩
        case measure => simp [intOf]; omega
    · have hdk : dashL (T.toList.take k) = d := by rw [← HD.out, List.take_of_length_le (by rw [tl_len]; omega)]
      have hk1 := HK.out
      have hk2 := HN.out
      have hk3 := HL.out
      clear HK HN HL
      cases d <;> cases kt <;> cases cs <;> cases ct <;> first
        | (exfalso; simp at hk1; done)
        | (exfalso; simp at hk2; done)
        | ((try (have h9 := hk3 rfl rfl rfl))
           clear hk1 hk2 hk3
           go_wp2_with (first
             | (go_at_call 12; refine (right_any _ _ HT.out).mono ?_; rintro e w' ⟨rfl, rfl⟩)
             | (go_at_call 15; refine (known_any _ _).mono ?_; rintro e w' ⟨rfl, rfl⟩)
             | (go_at_call 13; refine (custom_any _ _ (by first | exact HW0.out | exact HT.out)).mono ?_; rintro e w' ⟨rfl, hb⟩; have HB := HB.trans (hb.mono HB.size); clear hb))
           go_ret
           first
             | exact ⟨rfl, by assumption⟩
             | exact ⟨ret_bool (decide_eq_true (by omega)), by assumption⟩)

set_option maxRecDepth 100000 in
theorem lifted (os : Os) (started : os.Started) (H : Type) (enc : TypeId × Value → H) :
    ReturnsInHanded {} Try.checked os 7 .any (Rows.namePartsSpec.pre6 enc Try.prog Try.f7 Rows.namePartsRow.domain false) (Rows.namePartsSpec.post enc Try.prog Try.f7 false true false false) := by
  refine returnsInHanded_of_change (C := Try.checked) own started (by kernel_rfl) Try.func7
    (ChangeSpec.witness6 (enc := enc) (C := Try.checked) false ⟨#[], #[.string ByteArray.empty, .int .u8 0], []⟩ 8 (by kernel_rfl) (by kernel_rfl) (by kernel_rfl) (by kernel_rfl)) ?_
  intro W base args ds gs before hval0 hW hcnd _
  have hval : ∀ (j : Nat) t v, Try.f7.params[j]? = some t → args[j]? = some v → Value.okWide Try.prog W .any base t v := hval0
  have hW' := hW
  obtain ⟨p, q, hA0, hV, rfl, hfz, hnd⟩ := hW
  have hA : DataW.TrodAll enc Try.prog W 0 (fun _ => true) true Try.f7.params.toList args.toList ds p := hA0
  rw [Try.params7] at hA hval
  obtain ⟨v0, vs0, d0, ds0, p0, q0, hargs, rfl, rfl, h0, r0⟩ := trodAll_cons hA
  obtain ⟨v1, vs1, d1, ds1, p1, q1, rfl, rfl, rfl, h1, r1⟩ := trodAll_cons r0
  obtain ⟨rfl, rfl, rfl⟩ := trodAll_nil r1
  obtain rfl : args = #[v0, v1] := by cases args; simp_all
  obtain ⟨rfl, rfl⟩ := trodVars_none hV
  obtain ⟨a0, rfl, rfl, rfl, w0⟩ := open_string Try.underlying9 (hval 0 9 v0 rfl rfl) h0
  obtain ⟨a1, rfl, rfl, rfl, w1⟩ := open_int Try.underlying5 (hval 1 5 v1 rfl rfl) h1
  clear hA0 hval0
  simp only [List.append_nil] at hW'
  refine (walk a0 a1 w0 w1 W).mono fun e W' ⟨he, bel⟩ => ?_
  subst he
  exact ⟨_, rfl, _, _, _, [], _, [], hW', trodAll_mk1 (shut_bool Try.underlying4 _), (trodAll_cons_mk (shut_string Try.underlying9 w0) (trodAll_cons_mk (shut_int Try.underlying5 w1) trodAll_mk0)), rfl, bel.frame _, fun h => by cases h⟩

theorem over : Rows.namePartsRow.holds Try.pinned (OpenSpec.ofChange Rows.namePartsSpec) :=
  OpenClaim.holds_of_wide 7 Try.f7 rfl rfl rfl rfl rfl rfl rfl ⟨rfl, rfl, rfl, rfl, rfl⟩ rfl rfl rfl rfl rfl (by kernel_rfl) Try.func7 (by kernel_rfl)
    (of_decide_eq_true (by kernel_rfl)) (by unfold Func.isWrapper; first | (rw [if_pos (by decide +kernel)]; kernel_rfl) | (rw [if_neg (by decide +kernel)]; exact ⟨rfl, rfl⟩))
    (fun os started H enc _ => lifted os started H enc)

theorem proved : Rows.NamePartsSaid := over
#print axioms proved
end Go.Proofs.Ytgcejejnbcjckaa.nameParts
