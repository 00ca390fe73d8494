/- Texts joined in build order: RefCustom. -/
import Derived.Test.YtioeagadhnnajaaA11
import Derived.Test.YtioeagadhnnajaaA13
import Derived.Test.YtioeagadhnnajaaA14
import Derived.Test.YtioeagadhnnajaaA10
/- The document's own answers Custom and Kind (package instarref01). -/
namespace Go.Proofs.Ytioeagadhnnajaa
open Go.RowKit
theorem low_of_right (s : ByteArray) (hr : rightL s.toList = true) (hp : 0 < s.size) (hsm : smallL s.toList = s.toList) : lowI (s[0].toNat : Int) = !((s[0].toNat : Int) == 95) := by
  have hh : headB s[0] = true := by
    by_cases h : headB s[0] = true
    · exact h
    · have := rightL_head _ _ (tl_get s 0 hp) (by simpa using h)
      rw [this] at hr; cases hr
  have hcap : capI (s[0].toNat : Int) = false := by
    have h1 : (smallL s.toList)[0]? = some (smallB s[0]) := by
      unfold smallL
      rw [List.getElem?_map, tl_get s 0 hp]
      rfl
    rw [hsm, tl_get s 0 hp] at h1
    have h2 := cap_small s[0]
    rw [← Option.some.inj h1] at h2
    exact h2
  unfold headB headI alphI at hh
  rw [hcap] at hh
  rw [Bool.eq_iff_iff]
  unfold lowI at *
  simp at hh ⊢
  omega
/-- What holds at the head of a round of the reference's Custom. -/
theorem dash_step (l : List UInt8) (k : Nat) (c : UInt8) (h : l[k]? = some c) (hd : dashL (l.take k) = false) : dashL (l.take (k + 1)) = ((c.toNat : Int) == 45) := by
  obtain ⟨hl, he⟩ := List.getElem?_eq_some_iff.1 h
  unfold dashL at *
  rw [List.take_succ_eq_append_getElem hl, he, Bool.eq_iff_iff]
  have e : (45 : UInt8) = c ↔ (c.toNat : Int) = 45 := by
    constructor
    · rintro rfl; rfl
    · intro h; apply UInt8.toNat_inj.1; have : (45 : UInt8).toNat = 45 := rfl; omega
  simp at hd
  simp [e, hd]
theorem dash_hit (l : List UInt8) (k : Nat) (c : UInt8) (h : l[k]? = some c) (hc : (c.toNat : Int) = 45) : dashL l = true := by
  have : c = 45 := by apply UInt8.toNat_inj.1; have : (45 : UInt8).toNat = 45 := rfl; omega
  subst this
  unfold dashL
  simp
  exact List.mem_of_getElem? h

set_option maxHeartbeats 16000000 in
set_option maxRecDepth 100000 in
theorem refcustom_any (s : ByteArray) (w : World) (hs : s.size ≤ 1000000) :
    Calls Try.prog 21 #[.string s] w fun e w' => e = .returned (.bool (customL s.toList)) ∧ Below w.heap.size w w' := by
  have HB : Below w.heap.size w w := Below.refl _ _
  by_cases hr : rightL s.toList = true
  rotate_left
  · have hr' : rightL s.toList = false := by simpa using hr
    have HC := Lib.hid (customL_no _ hr')
    clear hr
    go_enter Try.func21, Try.ntmps21
    go_wp2_with (go_at_call 39; refine (refright_any _ _ (le_max hs)).mono ?_; rintro e w' ⟨rfl, rfl⟩)
    go_ret
    exact ⟨ret_bool HC.out.symm, HB⟩
  have hp := rightL_pos s hr
  have HC := Lib.hid (customL_eq s hr hp)
  have HL := Lib.hid (tl_len s)
  by_cases hsm : smallL s.toList = s.toList
  rotate_left
  · have b1 : (s.toList == smallL s.toList) = false := beq_eq_false_iff_ne.2 (fun e => hsm e.symm)
    have b2 : (s.toList != smallL s.toList) = true := by unfold bne; rw [b1]; rfl
    have HR : Hid (customL s.toList = false) := Lib.hid (by rw [HC.out, beq_eq_false_iff_ne.2 hsm]; rfl)
    clear hsm
    go_enter Try.func21, Try.ntmps21
    go_wp2_with (first
      | (go_at_call 39; refine (refright_any _ _ (le_max hs)).mono ?_; rintro e w' ⟨rfl, rfl⟩)
      | (go_at_call 40; refine (refsmall_any _ _ hs).mono ?_; rintro e w' ⟨rfl, hb⟩; have HB := HB.trans (hb.mono HB.size); clear hb))
    go_ret
    exact ⟨ret_bool HR.out.symm, by assumption⟩
  have HW := Lib.hid (low_of_right s hr hp hsm)
  have HV : Hid (customL s.toList = (!((s[0].toNat : Int) == 95) && dashL s.toList && !reservedL s.toList)) := Lib.hid (by rw [HC.out, HW.out, hsm]; simp)
  by_cases h95 : (s[0].toNat : Int) = 95
  · have e95 : ((s[0].toNat : Int) == 95) = true := beq_iff_eq.2 h95
    have HR : Hid (customL s.toList = false) := Lib.hid (by rw [HV.out, e95]; rfl)
    clear h95
    go_enter Try.func21, Try.ntmps21
    go_wp2_with (first
      | (go_at_call 39; refine (refright_any _ _ (le_max hs)).mono ?_; rintro e w' ⟨rfl, rfl⟩)
      | (go_at_call 40; refine (refsmall_any _ _ hs).mono ?_; rintro e w' ⟨rfl, hb⟩; have HB := HB.trans (hb.mono HB.size); clear hb))
    go_ret
    exact ⟨ret_bool HR.out.symm, by assumption⟩
  have e95 : ((s[0].toNat : Int) == 95) = false := beq_eq_false_iff_ne.2 h95
  have hone := one_reserved s.toList
  by_cases hres : reservedL s.toList = true
  · rw [hres] at hone
    have HR : Hid (customL s.toList = false) := Lib.hid (by rw [HV.out, hres]; simp)
    clear h95 hres
    go_enter Try.func21, Try.ntmps21
    go_wp2_with (first
      | (go_at_call 39; refine (refright_any _ _ (le_max hs)).mono ?_; rintro e w' ⟨rfl, rfl⟩)
      | (go_at_call 40; refine (refsmall_any _ _ hs).mono ?_; rintro e w' ⟨rfl, hb⟩; have HB := HB.trans (hb.mono HB.size); clear hb)
      | (go_at_call 41; refine (one_any _ ⟨RESERVED_WORDS.toArray⟩ _ (by decide)).mono ?_; rintro e w' ⟨rfl, rfl⟩))
    go_ret
    exact ⟨ret_bool HR.out.symm, by assumption⟩
  have hres' : reservedL s.toList = false := by simpa using hres
  rw [hres'] at hone
  have HR : Hid (customL s.toList = dashL s.toList) := Lib.hid (by rw [HV.out, hres', e95]; simp)
  clear h95 hres hres'
  go_enter Try.func21, Try.ntmps21
  go_wp2_with (first
    | (go_at_call 39; refine (refright_any _ _ (le_max hs)).mono ?_; rintro e w' ⟨rfl, rfl⟩)
    | (go_at_call 40; refine (refsmall_any _ _ hs).mono ?_; rintro e w' ⟨rfl, hb⟩; have HB := HB.trans (hb.mono HB.size); clear hb)
    | (go_at_call 41; refine (one_any _ ⟨RESERVED_WORDS.toArray⟩ _ (by decide)).mono ?_; rintro e w' ⟨rfl, rfl⟩))
  clear hone hsm
  go_loop [3] (fun i => ∃ k : Nat, k ≤ s.size ∧ i = .int .i64 k ∧ Hid (dashL (s.toList.take k) = false)) (fun i => s.size - (intOf i).toNat)
  case atStart => exact ⟨0, by omega, rfl, Lib.hid rfl⟩
  case round =>
    obtain ⟨k, hk, rfl, HA⟩ := hrel
    by_cases hlt : k < s.size
    · have HG := Lib.hid (tl_get s k hlt)
      obtain ⟨n, hn⟩ : ∃ n : Nat, (s[k]'hlt).toNat = n := ⟨_, rfl⟩
      have HN := Lib.hid hn
      by_cases h45 : (n : Int) = 45
      · have e45 : ((n : Int) == 45) = true := beq_iff_eq.2 h45
        have HR2 : Hid (customL s.toList = true) := Lib.hid (by rw [HR.out]; exact dash_hit _ _ _ HG.out (by rw [HN.out]; exact h45))
        clear h45
        go_wp2
        go_ret
        exact ⟨ret_bool HR2.out.symm, by assumption⟩
      · have e45 : ((n : Int) == 45) = false := beq_eq_false_iff_ne.2 h45
        have HS : Hid (dashL (s.toList.take (k + 1)) = false) := Lib.hid ((dash_step _ _ _ HG.out HA.out).trans (by rw [HN.out]; exact e45))
        clear h45
        go_wp2
        go_round
        case rel => exact ⟨k + 1, by omega, by go_num, HS⟩
        case measure => simp [intOf]; omega
    · have HR2 : Hid (customL s.toList = false) := Lib.hid (by
        rw [HR.out]
        have h := HA.out
        rwa [List.take_of_length_le (by rw [HL.out]; omega)] at h)
      go_wp2
      go_ret
      exact ⟨ret_bool HR2.out.symm, by assumption⟩

end Go.Proofs.Ytioeagadhnnajaa
