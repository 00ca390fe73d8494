/-
  Proved: for every string and every byte, the law NameJoins of package instarlaw01 returns true, and its arguments read as before. No condition.
-/
import Derived.Test.YtgcejejnbcjckaaRows
import Derived.Test.YtgcejejnbcjckaaNameAwake
import Derived.Test.YtgcejejnbcjckaaNameFacts
import Derived.Laws.IdiomStrings
import Derived.WalkKit
import Derived.ProofKit
import Derived.OpenShut
import Derived.ShutString
namespace Go.Proofs.Ytgcejejnbcjckaa.nameJoins
open Go.ChangeShapes Go.WideShapes Go.ChangeAt Go.RowKit
open Go.ChangeMaps (open_string shut_string)
set_option linter.unusedVariables false

theorem own : ownKnob Try.prog.godebug = none := by kernel_rfl

def ofI (n : Int) : UInt8 := UInt8.ofNat n.toNat
theorem ofI_nat {n : Int} (h0 : 0 ≤ n) (h1 : n ≤ 255) : ((ofI n).toNat : Int) = n := by
  unfold ofI
  have : (UInt8.ofNat n.toNat).toNat = n.toNat % 256 := by simp
  rw [this]
  omega
def lowM (n : Int) : Bool := lowI n || digI n || decide (n = 45 ∨ n = 95 ∨ n = 46)
theorem small_snoc (l : List UInt8) (c : UInt8) : smallL (l ++ [c]) = smallL l ++ [smallB c] := by simp [smallL]
theorem right_snoc (l : List UInt8) (c : UInt8) (h : rightL l = true) : rightL (l ++ [c]) = (decide (l.length + 1 ≤ 40) && signB c) := by
  unfold rightL at *
  cases l with
  | nil => simp at h
  | cons b r =>
    simp only [Bool.and_eq_true, decide_eq_true_eq] at h
    obtain ⟨⟨⟨h1, h2⟩, h3⟩, h4⟩ := h
    rw [List.all_append, h4, Bool.true_and]
    simp only [List.cons_append, List.headD_cons] at h3 ⊢
    rw [h3]
    simp
theorem dash_snoc (l : List UInt8) (c : UInt8) (h : dashL l = true) : dashL (l ++ [c]) = true := by
  unfold dashL at *
  simp at *
  exact .inl h
theorem known_snoc (l : List UInt8) (c : UInt8) (h : dashL l = true) : knownL (l ++ [c]) = false := by
  by_cases hk : knownL (l ++ [c]) = true
  · have := known_dash hk
    rw [dash_snoc l c h] at this
    cases this
  · simpa using hk
theorem kind_low {l : List UInt8} {n : Int} (h0 : 0 ≤ n) (h1 : n ≤ 255) (hc : customL l = true) (hl : l.length + 1 ≤ 40) (hm : lowM n = true) (hn : customL (l ++ [ofI n]) = false) : kindL (l ++ [ofI n]) = 3 := by
  refine kind_other ?_ hn (known_snoc _ _ (custom_parts hc).2.2.2.1)
  rw [right_snoc _ _ (custom_parts hc).1, decide_eq_true hl, Bool.true_and]
  unfold signB
  rw [ofI_nat h0 h1]
  unfold lowM at hm
  unfold signI alphI
  revert hm
  cases lowI n <;> cases capI n <;> cases digI n <;> simp
theorem custom_cap {l : List UInt8} {n : Int} (h0 : 0 ≤ n) (h1 : n ≤ 255) (hm : capI n = true) : customL (l ++ [ofI n]) = false := by
  by_cases h : customL (l ++ [ofI n]) = true
  · have h2 := (custom_parts h).2.1
    rw [small_snoc] at h2
    have h3 := List.append_inj_right' h2 rfl
    have h4 : smallB (ofI n) = ofI n := by simpa using h3
    have h5 := smallB_nat (ofI n)
    rw [h4, ofI_nat h0 h1, if_pos hm] at h5
    omega
  · simpa using h
theorem kind_cap {l : List UInt8} {n : Int} (h0 : 0 ≤ n) (h1 : n ≤ 255) (hc : customL l = true) (hl : l.length + 1 ≤ 40) (hm : capI n = true) : kindL (l ++ [ofI n]) = 3 := by
  refine kind_other ?_ (custom_cap h0 h1 hm) (known_snoc _ _ (custom_parts hc).2.2.2.1)
  rw [right_snoc _ _ (custom_parts hc).1, decide_eq_true hl, Bool.true_and]
  unfold signB
  rw [ofI_nat h0 h1]
  unfold signI alphI
  rw [hm]
  simp
theorem kind_rest {l : List UInt8} {n : Int} (h0 : 0 ≤ n) (h1 : n ≤ 255) (hc : customL l = true) (h : ¬ (l.length + 1 ≤ 40) ∨ lowM n = false ∧ capI n = false) : kindL (l ++ [ofI n]) = 0 := by
  refine kind_none ?_
  rw [right_snoc _ _ (custom_parts hc).1]
  rcases h with h | ⟨h, h'⟩
  · rw [decide_eq_false h, Bool.false_and]
  · have : signB (ofI n) = false := by
      unfold signB
      rw [ofI_nat h0 h1]
      unfold lowM at h
      unfold signI alphI
      rw [h']
      revert h
      cases lowI n <;> cases digI n <;> simp
    rw [this, Bool.and_false]

theorem bytes_one (w : World) (a : Addr) (n : Int) (h0 : 0 ≤ n) (h1 : n ≤ 255) (hc : w.cell? a = some (.int .u8 n)) :
    (convert 29 9 (.slice (some a) 1 1)).run Try.prog w = .ok (.string (ofL [ofI n])) w := by
  have hs := World.cell?_spot hc
  have := run_convert_bytes_back (P := Try.prog) w 29 9 5 a 1 [ofI n] Try.underlying29 Try.underlying5 Try.underlying9 (fun j hj => by
    have : j = 0 := by simpa using hj
    subst this
    have ha : a.add 0 = a := by
      obtain ⟨b, o, sp⟩ := a
      simp at hs
      subst hs
      rw [Go.WideShapes.add_plain, Nat.add_zero]
    rw [ha, hc]
    simp [ofI_nat h0 h1])
  exact this

theorem add_ofL (s : ByteArray) (m : List UInt8) : s ++ ofL m = ofL (s.toList ++ m) := by
  obtain ⟨⟨l⟩⟩ := s
  unfold ofL
  rw [ByteArray.mk_append_mk, ByteArray.toList_mk]

set_option maxHeartbeats 16000000 in
set_option maxRecDepth 100000 in
theorem walk (a0 : ByteArray) (a1 : Int) (w0 : a0.size ≤ maxLen) (w1 : (Lit.int .u8 a1).wf = true) (w : World) :
    Calls Try.prog 5 #[.string a0, .int .u8 a1] w fun e w' => e = .returned (.bool true) ∧ Below w.heap.size w w' := by
  have HB : Below w.heap.size w w := Below.refl _ _
  have hm : a0.size ≤ 9223372036854775807 := by unfold maxLen at w0; omega
  obtain ⟨hn0, hn1⟩ : 0 ≤ a1 ∧ a1 ≤ 255 := Go.bounds_u8 w1
  have htl := tl_len a0
  by_cases hbig : 300 < a0.size
  · have HW := Lib.hid w0
    clear w0 w1
    go_enter Try.func5, Try.ntmps5
    go_wp2_with (first
      | (go_at_call 8; refine (awake_any _).mono ?_; rintro e w' ⟨rfl, hb⟩; have HB := HB.trans (hb.mono HB.size); clear hb))
    go_ret
    exact ⟨rfl, by assumption⟩
  have HW := Lib.hid w0
  by_cases hc : customL a0.toList = true
  rotate_left
  · have hc' : customL a0.toList = false := by simpa using hc
    clear w0 w1 hc
    go_enter Try.func5, Try.ntmps5
    go_wp2_with (first
      | (go_at_call 8; refine (awake_any _).mono ?_; rintro e w' ⟨rfl, hb⟩; have HB := HB.trans (hb.mono HB.size); clear hb)
      | (go_at_call 13; refine (custom_any _ _ HW.out).mono ?_; rintro e w' ⟨rfl, hb⟩; have HB := HB.trans (hb.mono HB.size); clear hb))
    go_ret
    exact ⟨rfl, by assumption⟩
  have HT : Hid ((ofL (a0.toList ++ [ofI a1])).size ≤ maxLen) := by
    refine Lib.hid ?_
    rw [size_ofL, List.length_append, htl]
    unfold maxLen
    simp
    omega
  have hcv : ∀ W : World, (convert 29 9 (.slice (some ⟨W.heap.size, 0, none⟩) 1 1)).run Try.prog (W.alloc (.cells #[.int .u8 a1] 5)) = .ok (.string (ofL [ofI a1])) (W.alloc (.cells #[.int .u8 a1] 5)) :=
    fun W => bytes_one _ _ _ hn0 hn1 (by simp [go_sem])
  have hadd : ∀ W : World, (Op.stringOp .add a0 (ofL [ofI a1])).run Try.prog W = .ok (.string (ofL (a0.toList ++ [ofI a1]))) W := fun W => by
    rw [run_string_add_sum W _ _ (by rw [size_ofL]; simp; omega), add_ofL]
  have hlen : (a0.toList ++ [ofI a1]).length = a0.size + 1 := by rw [List.length_append, htl]; rfl
  obtain ⟨t, HD⟩ : ∃ t, Hid (t = a0.toList ++ [ofI a1]) := ⟨_, Lib.hid rfl⟩
  have ht := HD.out
  rw [← ht] at HT hadd hlen
  have HS := Lib.hid w1
  have hcases : (97 ≤ a1 ∧ a1 ≤ 122) ∨ (48 ≤ a1 ∧ a1 ≤ 57) ∨ (45 ≤ a1 ∧ a1 ≤ 45) ∨ (95 ≤ a1 ∧ a1 ≤ 95) ∨ (46 ≤ a1 ∧ a1 ≤ 46) ∨ (65 ≤ a1 ∧ a1 ≤ 90) ∨ (0 ≤ a1 ∧ a1 ≤ 44) ∨ (47 ≤ a1 ∧ a1 ≤ 47) ∨ (58 ≤ a1 ∧ a1 ≤ 64) ∨ (91 ≤ a1 ∧ a1 ≤ 94) ∨ (96 ≤ a1 ∧ a1 ≤ 96) ∨ (123 ≤ a1 ∧ a1 ≤ 255) := by omega
  have hlc := tl_len a0
  have facts : ∀ (lo hi : Int), lo ≤ a1 → a1 ≤ hi →
      ((a0.size + 1 ≤ 40 ∧ lowM a1 = true ∧ (customL t = true ∨ customL t = false ∧ kindL t = 3)) ∨ (a0.size + 1 ≤ 40 ∧ lowM a1 = false ∧ capI a1 = true ∧ kindL t = 3) ∨ (a0.size + 1 ≤ 40 ∧ lowM a1 = false ∧ capI a1 = false ∧ kindL t = 0) ∨ (¬ (a0.size + 1 ≤ 40) ∧ kindL t = 0)) := by
    intro lo hi _ _
    rw [ht]
    by_cases hf : a0.size + 1 ≤ 40
    · by_cases hlm : lowM a1 = true
      · refine .inl ⟨hf, hlm, ?_⟩
        by_cases hcn : customL (a0.toList ++ [ofI a1]) = true
        · exact .inl hcn
        · have hcn : customL (a0.toList ++ [ofI a1]) = false := by simpa using hcn
          exact .inr ⟨hcn, kind_low hn0 hn1 hc (by omega) hlm hcn⟩
      · have hlm : lowM a1 = false := by simpa using hlm
        by_cases hcp : capI a1 = true
        · exact .inr (.inl ⟨hf, hlm, hcp, kind_cap hn0 hn1 hc (by omega) hcp⟩)
        · have hcp : capI a1 = false := by simpa using hcp
          exact .inr (.inr (.inl ⟨hf, hlm, hcp, kind_rest hn0 hn1 hc (.inr ⟨hlm, hcp⟩)⟩))
    · exact .inr (.inr (.inr ⟨hf, kind_rest hn0 hn1 hc (.inl (by omega))⟩))
  clear ht hlc w1 w0
  rcases hcases with hr | hr | hr | hr | hr | hr | hr | hr | hr | hr | hr | hr
  all_goals
    obtain ⟨hr1, hr2⟩ := hr
    have hf := facts _ _ hr1 hr2
    clear facts
    first | (have e1 : decide (97 ≤ a1) = true := decide_eq_true (by omega)) | (have e1 : decide (97 ≤ a1) = false := decide_eq_false (by omega))
    first | (have e2 : decide (a1 ≤ 122) = true := decide_eq_true (by omega)) | (have e2 : decide (a1 ≤ 122) = false := decide_eq_false (by omega))
    first | (have e3 : decide (48 ≤ a1) = true := decide_eq_true (by omega)) | (have e3 : decide (48 ≤ a1) = false := decide_eq_false (by omega))
    first | (have e4 : decide (a1 ≤ 57) = true := decide_eq_true (by omega)) | (have e4 : decide (a1 ≤ 57) = false := decide_eq_false (by omega))
    first | (have e5 : (a1 == 45) = true := beq_iff_eq.2 (by omega)) | (have e5 : (a1 == 45) = false := beq_eq_false_iff_ne.2 (by omega))
    first | (have e6 : (a1 == 95) = true := beq_iff_eq.2 (by omega)) | (have e6 : (a1 == 95) = false := beq_eq_false_iff_ne.2 (by omega))
    first | (have e7 : (a1 == 46) = true := beq_iff_eq.2 (by omega)) | (have e7 : (a1 == 46) = false := beq_eq_false_iff_ne.2 (by omega))
    first | (have e8 : decide (65 ≤ a1) = true := decide_eq_true (by omega)) | (have e8 : decide (65 ≤ a1) = false := decide_eq_false (by omega))
    first | (have e9 : decide (a1 ≤ 90) = true := decide_eq_true (by omega)) | (have e9 : decide (a1 ≤ 90) = false := decide_eq_false (by omega))
    rcases hf with ⟨hf, hl, hcn | ⟨hcn, hk⟩⟩ | ⟨hf, hl, hcp, hk⟩ | ⟨hf, hl, hcp, hk⟩ | ⟨hf, hk⟩
  all_goals
    first
      | (exfalso; unfold lowM lowI digI at hl; simp at hl; omega)
      | (exfalso; unfold capI at hcp; simp at hcp; omega)
      | ((try clear hl)
         (try clear hcp)
         clear hr1 hr2
         go_enter Try.func5, Try.ntmps5
         go_wp2_with (first
           | (go_at_call 8; refine (awake_any _).mono ?_; rintro e w' ⟨rfl, hb⟩; have HB := HB.trans (hb.mono HB.size); clear hb)
           | (go_at_call 13; refine (custom_any _ _ (by first | exact HW.out | exact HT.out)).mono ?_; rintro e w' ⟨rfl, hb⟩; first | (have HB := HB.trans (hb.mono HB.size); clear hb) | (have HB := (HB.alloc HB.size _).trans (hb.mono (HB.alloc HB.size _).size); clear hb))
           | (go_at_call 17; refine (kind_any _ _ (by first | exact HW.out | exact HT.out)).mono ?_; rintro e w' ⟨rfl, hb⟩; first | (have HB := HB.trans (hb.mono HB.size); clear hb) | (have HB := (HB.alloc HB.size _).trans (hb.mono (HB.alloc HB.size _).size); clear hb)))
         go_ret
         exact ⟨rfl, by assumption⟩)

set_option maxRecDepth 100000 in
theorem lifted (os : Os) (started : os.Started) (H : Type) (enc : TypeId × Value → H) :
    ReturnsInHanded {} Try.checked os 5 .any (Rows.nameJoinsSpec.pre6 enc Try.prog Try.f5 Rows.nameJoinsRow.domain false) (Rows.nameJoinsSpec.post enc Try.prog Try.f5 false true false false) := by
  refine returnsInHanded_of_change (C := Try.checked) own started (by kernel_rfl) Try.func5
    (ChangeSpec.witness6 (enc := enc) (C := Try.checked) false ⟨#[], #[.string ByteArray.empty, .int .u8 0], []⟩ 8 (by kernel_rfl) (by kernel_rfl) (by kernel_rfl) (by kernel_rfl)) ?_
  intro W base args ds gs before hval0 hW hcnd _
  have hval : ∀ (j : Nat) t v, Try.f5.params[j]? = some t → args[j]? = some v → Value.okWide Try.prog W .any base t v := hval0
  have hW' := hW
  obtain ⟨p, q, hA0, hV, rfl, hfz, hnd⟩ := hW
  have hA : DataW.TrodAll enc Try.prog W 0 (fun _ => true) true Try.f5.params.toList args.toList ds p := hA0
  rw [Try.params5] at hA hval
  obtain ⟨v0, vs0, d0, ds0, p0, q0, hargs, rfl, rfl, h0, r0⟩ := trodAll_cons hA
  obtain ⟨v1, vs1, d1, ds1, p1, q1, rfl, rfl, rfl, h1, r1⟩ := trodAll_cons r0
  obtain ⟨rfl, rfl, rfl⟩ := trodAll_nil r1
  obtain rfl : args = #[v0, v1] := by cases args; simp_all
  obtain ⟨rfl, rfl⟩ := trodVars_none hV
  obtain ⟨a0, rfl, rfl, rfl, w0⟩ := open_string Try.underlying9 (hval 0 9 v0 rfl rfl) h0
  obtain ⟨a1, rfl, rfl, rfl, w1⟩ := open_int Try.underlying5 (hval 1 5 v1 rfl rfl) h1
  clear hA0 hval0
  simp only [List.append_nil] at hW'
  refine (walk a0 a1 w0 w1 W).mono fun e W' ⟨he, bel⟩ => ?_
  subst he
  exact ⟨_, rfl, _, _, _, [], _, [], hW', trodAll_mk1 (shut_bool Try.underlying4 _), (trodAll_cons_mk (shut_string Try.underlying9 w0) (trodAll_cons_mk (shut_int Try.underlying5 w1) trodAll_mk0)), rfl, bel.frame _, fun h => by cases h⟩

theorem over : Rows.nameJoinsRow.holds Try.pinned (OpenSpec.ofChange Rows.nameJoinsSpec) :=
  OpenClaim.holds_of_wide 5 Try.f5 rfl rfl rfl rfl rfl rfl rfl ⟨rfl, rfl, rfl, rfl, rfl⟩ rfl rfl rfl rfl rfl (by kernel_rfl) Try.func5 (by kernel_rfl)
    (of_decide_eq_true (by kernel_rfl)) (by unfold Func.isWrapper; first | (rw [if_pos (by decide +kernel)]; kernel_rfl) | (rw [if_neg (by decide +kernel)]; exact ⟨rfl, rfl⟩))
    (fun os started H enc _ => lifted os started H enc)

theorem proved : Rows.NameJoinsSaid := over
#print axioms proved
end Go.Proofs.Ytgcejejnbcjckaa.nameJoins
