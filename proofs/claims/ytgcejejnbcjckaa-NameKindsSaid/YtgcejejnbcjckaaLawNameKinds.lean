/-
  Proved: for every string, the law NameKinds of package instarlaw01 returns true, and its argument reads as before. No condition.
-/
import Derived.Test.YtgcejejnbcjckaaRows
import Derived.Test.YtgcejejnbcjckaaNameAwake
import Derived.Test.YtgcejejnbcjckaaNameFacts
import Derived.WalkKit
import Derived.ProofKit
import Derived.OpenShut
import Derived.ShutString
namespace Go.Proofs.Ytgcejejnbcjckaa.nameKinds
open Go.ChangeShapes Go.WideShapes Go.ChangeAt Go.RowKit
open Go.ChangeMaps (open_string shut_string)
set_option linter.unusedVariables false

theorem own : ownKnob Try.prog.godebug = none := by kernel_rfl

set_option maxHeartbeats 4000000 in
set_option maxRecDepth 100000 in
theorem walk (a0 : ByteArray) (w0 : a0.size ≤ maxLen) (w : World) :
    Calls Try.prog 4 #[.string a0] w fun e w' => e = .returned (.bool true) ∧ Below w.heap.size w w' := by
  have HB : Below w.heap.size w w := Below.refl _ _
  have hm : a0.size ≤ 9223372036854775807 := by unfold maxLen at w0; omega
  have htl := tl_len a0
  have hss := smallL_twice a0.toList
  have hrs := right_small a0.toList
  have hsl : (smallL a0.toList).length = a0.size := by rw [smallL_length, tl_len]
  have HT : Hid ((ofL (smallL a0.toList)).size ≤ maxLen) := by
    refine Lib.hid ?_
    rw [size_ofL, hsl]
    exact w0
  have HU : Hid ((ofL a0.toList).size ≤ maxLen) := by
    refine Lib.hid ?_
    rw [size_ofL, tl_len]
    exact w0
  have HW := Lib.hid w0
  clear w0
  by_cases hbig : 300 < a0.size
  · go_enter Try.func4, Try.ntmps4
    go_wp2_with (first
      | (go_at_call 8; refine (awake_any _).mono ?_; rintro e w' ⟨rfl, hb⟩; have HB := HB.trans (hb.mono HB.size); clear hb))
    go_ret
    exact ⟨rfl, by assumption⟩
  have main : ∀ (r c k : Bool) (n : Int) , rightL a0.toList = r → customL a0.toList = c → knownL a0.toList = k → kindL a0.toList = n → ((c = true ∨ k = true) → smallL a0.toList = a0.toList) →
      (r = false ∧ c = false ∧ k = false ∧ n = 0 ∨ r = true ∧ c = true ∧ k = false ∧ n = 1 ∨ r = true ∧ c = false ∧ k = true ∧ n = 2 ∨ r = true ∧ c = false ∧ k = false ∧ n = 3) →
      Calls Try.prog 4 #[.string a0] w fun e w' => e = .returned (.bool true) ∧ Below w.heap.size w w' := by
    intro r c k n hr hc hk hn hsame hall
    rcases hall with ⟨rfl, rfl, rfl, rfl⟩ | ⟨rfl, rfl, rfl, rfl⟩ | ⟨rfl, rfl, rfl, rfl⟩ | ⟨rfl, rfl, rfl, rfl⟩
    all_goals
      first
        | (have hsm := hsame (.inl rfl); clear hsame)
        | (have hsm := hsame (.inr rfl); clear hsame)
        | clear hsame
      go_enter Try.func4, Try.ntmps4
      go_wp2_with (first
        | (go_at_call 8; refine (awake_any _).mono ?_; rintro e w' ⟨rfl, hb⟩; have HB := HB.trans (hb.mono HB.size); clear hb)
        | (go_at_call 19; refine (small_any _ _ (by first | exact HW.out | exact HT.out | exact HU.out)).mono ?_; rintro e w' ⟨rfl, hb⟩; have HB := HB.trans (hb.mono HB.size); clear hb)
        | (go_at_call 12; refine (right_any _ _ (by first | exact HW.out | exact HT.out | exact HU.out)).mono ?_; rintro e w' ⟨rfl, rfl⟩)
        | (go_at_call 17; refine (kind_any _ _ HW.out).mono ?_; rintro e w' ⟨rfl, hb⟩; have HB := HB.trans (hb.mono HB.size); clear hb)
        | (go_at_call 13; refine (custom_any _ _ HW.out).mono ?_; rintro e w' ⟨rfl, hb⟩; have HB := HB.trans (hb.mono HB.size); clear hb)
        | (go_at_call 15; refine (known_any _ _).mono ?_; rintro e w' ⟨rfl, rfl⟩))
      go_ret
      exact ⟨rfl, by assumption⟩
  by_cases hr : rightL a0.toList = true
  · by_cases hc : customL a0.toList = true
    · exact main _ _ _ _ hr hc (custom_known hc) (kind_custom hc) (fun _ => (custom_parts hc).2.1) (.inr (.inl ⟨rfl, rfl, rfl, rfl⟩))
    · have hc' : customL a0.toList = false := by simpa using hc
      by_cases hk : knownL a0.toList = true
      · exact main _ _ _ _ hr hc' hk (kind_known hk) (fun _ => known_small hk) (.inr (.inr (.inl ⟨rfl, rfl, rfl, rfl⟩)))
      · have hk' : knownL a0.toList = false := by simpa using hk
        exact main _ _ _ _ hr hc' hk' (kind_other hr hc' hk') (fun h => by rcases h with h | h <;> cases h) (.inr (.inr (.inr ⟨rfl, rfl, rfl, rfl⟩)))
  · have hr' : rightL a0.toList = false := by simpa using hr
    have hk' : knownL a0.toList = false := by
      by_cases hk : knownL a0.toList = true
      · exact absurd (known_right hk) hr
      · simpa using hk
    exact main _ _ _ _ hr' (customL_no _ hr') hk' (kind_none hr') (fun h => by rcases h with h | h <;> cases h) (.inl ⟨rfl, rfl, rfl, rfl⟩)

set_option maxRecDepth 100000 in
theorem lifted (os : Os) (started : os.Started) (H : Type) (enc : TypeId × Value → H) :
    ReturnsInHanded {} Try.checked os 4 .any (Rows.nameKindsSpec.pre6 enc Try.prog Try.f4 Rows.nameKindsRow.domain false) (Rows.nameKindsSpec.post enc Try.prog Try.f4 false true false false) := by
  refine returnsInHanded_of_change (C := Try.checked) own started (by kernel_rfl) Try.func4
    (ChangeSpec.witness6 (enc := enc) (C := Try.checked) false ⟨#[], #[.string ByteArray.empty], []⟩ 8 (by kernel_rfl) (by kernel_rfl) (by kernel_rfl) (by kernel_rfl)) ?_
  intro W base args ds gs before hval0 hW hcnd _
  have hval : ∀ (j : Nat) t v, Try.f4.params[j]? = some t → args[j]? = some v → Value.okWide Try.prog W .any base t v := hval0
  have hW' := hW
  obtain ⟨p, q, hA0, hV, rfl, hfz, hnd⟩ := hW
  have hA : DataW.TrodAll enc Try.prog W 0 (fun _ => true) true Try.f4.params.toList args.toList ds p := hA0
  rw [Try.params4] at hA hval
  obtain ⟨v0, vs0, d0, ds0, p0, q0, hargs, rfl, rfl, h0, r0⟩ := trodAll_cons hA
  obtain ⟨rfl, rfl, rfl⟩ := trodAll_nil r0
  obtain rfl : args = #[v0] := by cases args; simp_all
  obtain ⟨rfl, rfl⟩ := trodVars_none hV
  obtain ⟨a0, rfl, rfl, rfl, w0⟩ := open_string Try.underlying9 (hval 0 9 v0 rfl rfl) h0
  clear hA0 hval0
  simp only [List.append_nil] at hW'
  refine (walk a0 w0 W).mono fun e W' ⟨he, bel⟩ => ?_
  subst he
  exact ⟨_, rfl, _, _, _, [], _, [], hW', trodAll_mk1 (shut_bool Try.underlying4 _), (trodAll_cons_mk (shut_string Try.underlying9 w0) trodAll_mk0), rfl, bel.frame _, fun h => by cases h⟩

theorem over : Rows.nameKindsRow.holds Try.pinned (OpenSpec.ofChange Rows.nameKindsSpec) :=
  OpenClaim.holds_of_wide 4 Try.f4 rfl rfl rfl rfl rfl rfl rfl ⟨rfl, rfl, rfl, rfl, rfl⟩ rfl rfl rfl rfl rfl (by kernel_rfl) Try.func4 (by kernel_rfl)
    (of_decide_eq_true (by kernel_rfl)) (by unfold Func.isWrapper; first | (rw [if_pos (by decide +kernel)]; kernel_rfl) | (rw [if_neg (by decide +kernel)]; exact ⟨rfl, rfl⟩))
    (fun os started H enc _ => lifted os started H enc)

theorem proved : Rows.NameKindsSaid := over
#print axioms proved
end Go.Proofs.Ytgcejejnbcjckaa.nameKinds
