/- Plain facts on the lists of NamePure: small forms, known and custom names, kinds. -/
import Derived.Test.YtadlmjiebhpaoaaNamePure
namespace Go.Proofs.Ytadlmjiebhpaoaa
theorem smallB_nat (c : UInt8) : ((smallB c).toNat : Int) = if capI (c.toNat : Int) then (c.toNat : Int) + 32 else (c.toNat : Int) := by
  unfold smallB
  by_cases h : capI (c.toNat : Int) = true
  · have hb := of_decide_eq_true h
    rw [if_pos h, if_pos h, UInt8.toNat_add]
    have : (32 : UInt8).toNat = 32 := rfl
    rw [this]
    omega
  · rw [if_neg h, if_neg h]
theorem sign_small (c : UInt8) : signB (smallB c) = signB c := by
  unfold signB
  rw [smallB_nat, Bool.eq_iff_iff]
  by_cases h : capI (c.toNat : Int) = true
  · rw [if_pos h]
    have hb := of_decide_eq_true h
    unfold signI alphI lowI capI digI; simp; omega
  · rw [if_neg h]
theorem head_small (c : UInt8) : headB (smallB c) = headB c := by
  unfold headB
  rw [smallB_nat, Bool.eq_iff_iff]
  by_cases h : capI (c.toNat : Int) = true
  · rw [if_pos h]
    have hb := of_decide_eq_true h
    unfold headI alphI lowI capI; simp; omega
  · rw [if_neg h]
theorem cap_small (c : UInt8) : capI ((smallB c).toNat : Int) = false := by
  rw [smallB_nat]
  by_cases h : capI (c.toNat : Int) = true
  · rw [if_pos h]
    have hb := of_decide_eq_true h
    unfold capI; simp; omega
  · rw [if_neg h]; simpa using h
theorem smallB_twice (c : UInt8) : smallB (smallB c) = smallB c := by
  have := cap_small c
  unfold smallB at *
  rw [if_neg (by rw [this]; decide)]
theorem smallL_twice (l : List UInt8) : smallL (smallL l) = smallL l := by
  unfold smallL
  rw [List.map_map]
  exact List.map_congr_left fun c _ => smallB_twice c
theorem smallL_length (l : List UInt8) : (smallL l).length = l.length := by simp [smallL]
theorem smallL_append (l m : List UInt8) : smallL (l ++ m) = smallL l ++ smallL m := by simp [smallL]
theorem all_small : ∀ l : List UInt8, (smallL l).all signB = l.all signB
  | [] => rfl
  | c :: l => by
    show (signB (smallB c) && (smallL l).all signB) = (signB c && l.all signB)
    rw [sign_small, all_small l]
theorem headD_small (l : List UInt8) : headB ((smallL l).headD 0) = headB (l.headD 0) := by
  cases l with
  | nil => rfl
  | cons c l => exact head_small c
theorem right_small (l : List UInt8) : rightL (smallL l) = rightL l := by
  unfold rightL
  rw [all_small, headD_small, smallL_length]
theorem of_known {l : List UInt8} {p : List UInt8 → Bool} (h : knownL l = true) (hp : ([[97], [98], [98, 117, 116, 116, 111, 110], [100, 105, 118], [102, 105, 101, 108, 100, 115, 101, 116], [102, 111, 114, 109], [105], [105, 110, 112, 117, 116], [108, 97, 98, 101, 108], [108, 101, 103, 101, 110, 100], [108, 105], [111, 112, 116, 105, 111, 110], [111, 117, 116, 112, 117, 116], [112], [115, 101, 108, 101, 99, 116], [115, 112, 97, 110], [116, 101, 109, 112, 108, 97, 116, 101], [116, 101, 120, 116, 97, 114, 101, 97], [117, 108]] : List (List UInt8)).all p = true) : p l = true :=
  List.all_eq_true.1 hp l (List.contains_iff_mem.1 h)
theorem of_reserved {l : List UInt8} {p : List UInt8 → Bool} (h : reservedL l = true) (hp : ([[97, 110, 110, 111, 116, 97, 116, 105, 111, 110, 45, 120, 109, 108], [99, 111, 108, 111, 114, 45, 112, 114, 111, 102, 105, 108, 101], [102, 111, 110, 116, 45, 102, 97, 99, 101], [102, 111, 110, 116, 45, 102, 97, 99, 101, 45, 115, 114, 99], [102, 111, 110, 116, 45, 102, 97, 99, 101, 45, 117, 114, 105], [102, 111, 110, 116, 45, 102, 97, 99, 101, 45, 102, 111, 114, 109, 97, 116], [102, 111, 110, 116, 45, 102, 97, 99, 101, 45, 110, 97, 109, 101], [109, 105, 115, 115, 105, 110, 103, 45, 103, 108, 121, 112, 104]] : List (List UInt8)).all p = true) : p l = true :=
  List.all_eq_true.1 hp l (List.contains_iff_mem.1 h)
theorem known_dash {l : List UInt8} (h : knownL l = true) : dashL l = false := by
  have := of_known (p := fun l => !dashL l) h (by decide)
  simpa using this
theorem known_small {l : List UInt8} (h : knownL l = true) : smallL l = l := by
  have := of_known (p := fun l => smallL l == l) h (by decide)
  simpa using this
theorem known_right {l : List UInt8} (h : knownL l = true) : rightL l = true := of_known (p := rightL) h (by decide)
theorem reserved_long {l : List UInt8} (h : reservedL l = true) : 9 ≤ l.length := by
  have := of_reserved (p := fun l => decide (9 ≤ l.length)) h (by decide)
  simpa using this
theorem custom_parts {l : List UInt8} (h : customL l = true) : rightL l = true ∧ smallL l = l ∧ lowI ((l.headD 0).toNat : Int) = true ∧ dashL l = true ∧ reservedL l = false := by
  unfold customL at h
  simpa [and_assoc] using h
theorem custom_known {l : List UInt8} (h : customL l = true) : knownL l = false := by
  by_cases hk : knownL l = true
  · have h1 := known_dash hk
    rw [(custom_parts h).2.2.2.1] at h1
    cases h1
  · simpa using hk
theorem kind_none {l : List UInt8} (h : rightL l = false) : kindL l = 0 := by unfold kindL; rw [if_neg (by rw [h]; decide)]
theorem kind_custom {l : List UInt8} (h : customL l = true) : kindL l = 1 := by unfold kindL; rw [if_pos (custom_parts h).1, if_pos h]
theorem kind_known {l : List UInt8} (h : knownL l = true) : kindL l = 2 := by
  have hc : customL l = false := by
    by_cases hc : customL l = true
    · rw [custom_known hc] at h; cases h
    · simpa using hc
  unfold kindL
  rw [if_pos (known_right h), if_neg (by rw [hc]; decide), if_pos h]
theorem kind_other {l : List UInt8} (h : rightL l = true) (hc : customL l = false) (hk : knownL l = false) : kindL l = 3 := by
  unfold kindL
  rw [if_pos h, if_neg (by rw [hc]; decide), if_neg (by rw [hk]; decide)]
end Go.Proofs.Ytadlmjiebhpaoaa
