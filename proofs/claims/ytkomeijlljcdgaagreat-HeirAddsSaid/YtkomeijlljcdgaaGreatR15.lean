/- Texts joined in build order: RefName RefCustom Ref9Find. -/
import Derived.Test.YtkomeijlljcdgaaGreatR08
import Derived.Test.YtkomeijlljcdgaaGreatR06
import Derived.Test.YtkomeijlljcdgaaGreatR03
import Derived.Test.YtkomeijlljcdgaaGreatR07
import Derived.Test.YtkomeijlljcdgaaGreatR09
namespace Go.Proofs.YtkomeijlljcdgaaGreat
open Go.RowKit
def KNOWN_WORDS : List UInt8 := [97, 32, 98, 32, 98, 117, 116, 116, 111, 110, 32, 100, 105, 118, 32, 102, 105, 101, 108, 100, 115, 101, 116, 32, 102, 111, 114, 109, 32, 105, 32, 105, 110, 112, 117, 116, 32, 108, 97, 98, 101, 108, 32, 108, 101, 103, 101, 110, 100, 32, 108, 105, 32, 111, 112, 116, 105, 111, 110, 32, 111, 117, 116, 112, 117, 116, 32, 112, 32, 115, 101, 108, 101, 99, 116, 32, 115, 112, 97, 110, 32, 116, 101, 109, 112, 108, 97, 116, 101, 32, 116, 101, 120, 116, 97, 114, 101, 97, 32, 117, 108]
def RESERVED_WORDS : List UInt8 := [97, 110, 110, 111, 116, 97, 116, 105, 111, 110, 45, 120, 109, 108, 32, 99, 111, 108, 111, 114, 45, 112, 114, 111, 102, 105, 108, 101, 32, 102, 111, 110, 116, 45, 102, 97, 99, 101, 32, 102, 111, 110, 116, 45, 102, 97, 99, 101, 45, 115, 114, 99, 32, 102, 111, 110, 116, 45, 102, 97, 99, 101, 45, 117, 114, 105, 32, 102, 111, 110, 116, 45, 102, 97, 99, 101, 45, 102, 111, 114, 109, 97, 116, 32, 102, 111, 110, 116, 45, 102, 97, 99, 101, 45, 110, 97, 109, 101, 32, 109, 105, 115, 115, 105, 110, 103, 45, 103, 108, 121, 112, 104]
theorem one_known (l : List UInt8) : oneL l KNOWN_WORDS = knownL l := by
  rw [one_split]
  have : splitL [] KNOWN_WORDS = [[97], [98], [98, 117, 116, 116, 111, 110], [100, 105, 118], [102, 105, 101, 108, 100, 115, 101, 116], [102, 111, 114, 109], [105], [105, 110, 112, 117, 116], [108, 97, 98, 101, 108], [108, 101, 103, 101, 110, 100], [108, 105], [111, 112, 116, 105, 111, 110], [111, 117, 116, 112, 117, 116], [112], [115, 101, 108, 101, 99, 116], [115, 112, 97, 110], [116, 101, 109, 112, 108, 97, 116, 101], [116, 101, 120, 116, 97, 114, 101, 97], [117, 108]] := by decide +kernel
  rw [this]
  rfl
theorem one_reserved (l : List UInt8) : oneL l RESERVED_WORDS = reservedL l := by
  rw [one_split]
  have : splitL [] RESERVED_WORDS = [[97, 110, 110, 111, 116, 97, 116, 105, 111, 110, 45, 120, 109, 108], [99, 111, 108, 111, 114, 45, 112, 114, 111, 102, 105, 108, 101], [102, 111, 110, 116, 45, 102, 97, 99, 101], [102, 111, 110, 116, 45, 102, 97, 99, 101, 45, 115, 114, 99], [102, 111, 110, 116, 45, 102, 97, 99, 101, 45, 117, 114, 105], [102, 111, 110, 116, 45, 102, 97, 99, 101, 45, 102, 111, 114, 109, 97, 116], [102, 111, 110, 116, 45, 102, 97, 99, 101, 45, 110, 97, 109, 101], [109, 105, 115, 115, 105, 110, 103, 45, 103, 108, 121, 112, 104]] := by decide +kernel
  rw [this]
  rfl
set_option maxHeartbeats 2000000 in
set_option maxRecDepth 100000 in
theorem refknown_any (s : ByteArray) (w : World) :
    Calls Tryz.prog 34 #[.string s] w fun e w' => e = .returned (.bool (knownL s.toList)) ∧ w = w' := by
  by_cases h0 : s.toList = []
  · have hb : s.toList.isEmpty = true := by rw [h0]; rfl
    have hk : knownL s.toList = false := by rw [h0]; rfl
    have HK := Lib.hid hk
    clear h0 hk
    go_enter Tryz.func34, Tryz.ntmps34
    go_wp2_with fail
    go_ret
    exact ⟨ret_bool (by rw [HK.out]), rfl⟩
  · have hk := one_known s.toList
    have HK := Lib.hid hk
    have hb : s.toList.isEmpty = false := by cases e : s.toList <;> simp_all
    have hb2 : ¬ s.toList = [] := h0
    clear hk
    go_enter Tryz.func34, Tryz.ntmps34
    go_wp2_with (go_at_call 68; refine (one_any _ ⟨KNOWN_WORDS.toArray⟩ _ (by decide)).mono ?_; rintro e w' ⟨rfl, rfl⟩)
    go_ret
    exact ⟨ret_bool HK.out, rfl⟩
end Go.Proofs.YtkomeijlljcdgaaGreat
namespace Go.Proofs.YtkomeijlljcdgaaGreat
open Go.RowKit
theorem low_of_right (s : ByteArray) (hr : rightL s.toList = true) (hp : 0 < s.size) (hsm : smallL s.toList = s.toList) : lowI (s[0].toNat : Int) = !((s[0].toNat : Int) == 95) := by
  have hh : headB s[0] = true := by
    by_cases h : headB s[0] = true
    · exact h
    · have := rightL_head _ _ (tl_get s 0 hp) (by simpa using h)
      rw [this] at hr; cases hr
  have hcap : capI (s[0].toNat : Int) = false := by
    have h1 : (smallL s.toList)[0]? = some (smallB s[0]) := by
      unfold smallL
      rw [List.getElem?_map, tl_get s 0 hp]
      rfl
    rw [hsm, tl_get s 0 hp] at h1
    have h2 := cap_small s[0]
    rw [← Option.some.inj h1] at h2
    exact h2
  unfold headB headI alphI at hh
  rw [hcap] at hh
  rw [Bool.eq_iff_iff]
  unfold lowI at *
  simp at hh ⊢
  omega
theorem dash_step (l : List UInt8) (k : Nat) (c : UInt8) (h : l[k]? = some c) (hd : dashL (l.take k) = false) : dashL (l.take (k + 1)) = ((c.toNat : Int) == 45) := by
  obtain ⟨hl, he⟩ := List.getElem?_eq_some_iff.1 h
  unfold dashL at *
  rw [List.take_succ_eq_append_getElem hl, he, Bool.eq_iff_iff]
  have e : (45 : UInt8) = c ↔ (c.toNat : Int) = 45 := by
    constructor
    · rintro rfl; rfl
    · intro h; apply UInt8.toNat_inj.1; have : (45 : UInt8).toNat = 45 := rfl; omega
  simp at hd
  simp [e, hd]
theorem dash_hit (l : List UInt8) (k : Nat) (c : UInt8) (h : l[k]? = some c) (hc : (c.toNat : Int) = 45) : dashL l = true := by
  have : c = 45 := by apply UInt8.toNat_inj.1; have : (45 : UInt8).toNat = 45 := rfl; omega
  subst this
  unfold dashL
  simp
  exact List.mem_of_getElem? h
set_option maxHeartbeats 16000000 in
set_option maxRecDepth 100000 in
theorem refcustom_any (s : ByteArray) (w : World) (hs : s.size ≤ 1000000) :
    Calls Tryz.prog 32 #[.string s] w fun e w' => e = .returned (.bool (customL s.toList)) ∧ Below w.heap.size w w' := by
  have HB : Below w.heap.size w w := Below.refl _ _
  by_cases hr : rightL s.toList = true
  rotate_left
  · have hr' : rightL s.toList = false := by simpa using hr
    have HC := Lib.hid (customL_no _ hr')
    clear hr
    go_enter Tryz.func32, Tryz.ntmps32
    go_wp2_with (go_at_call 66; refine (refright_any _ _ (le_max hs)).mono ?_; rintro e w' ⟨rfl, rfl⟩)
    go_ret
    exact ⟨ret_bool HC.out.symm, HB⟩
  have hp := rightL_pos s hr
  have HC := Lib.hid (customL_eq s hr hp)
  have HL := Lib.hid (tl_len s)
  by_cases hsm : smallL s.toList = s.toList
  rotate_left
  · have b1 : (s.toList == smallL s.toList) = false := beq_eq_false_iff_ne.2 (fun e => hsm e.symm)
    have b2 : (s.toList != smallL s.toList) = true := by unfold bne; rw [b1]; rfl
    have HR : Hid (customL s.toList = false) := Lib.hid (by rw [HC.out, beq_eq_false_iff_ne.2 hsm]; rfl)
    clear hsm
    go_enter Tryz.func32, Tryz.ntmps32
    go_wp2_with (first
      | (go_at_call 66; refine (refright_any _ _ (le_max hs)).mono ?_; rintro e w' ⟨rfl, rfl⟩)
      | (go_at_call 67; refine (refsmall_any _ _ hs).mono ?_; rintro e w' ⟨rfl, hb⟩; have HB := HB.trans (hb.mono HB.size); clear hb))
    go_ret
    exact ⟨ret_bool HR.out.symm, by assumption⟩
  have HW := Lib.hid (low_of_right s hr hp hsm)
  have HV : Hid (customL s.toList = (!((s[0].toNat : Int) == 95) && dashL s.toList && !reservedL s.toList)) := Lib.hid (by rw [HC.out, HW.out, hsm]; simp)
  by_cases h95 : (s[0].toNat : Int) = 95
  · have e95 : ((s[0].toNat : Int) == 95) = true := beq_iff_eq.2 h95
    have HR : Hid (customL s.toList = false) := Lib.hid (by rw [HV.out, e95]; rfl)
    clear h95
    go_enter Tryz.func32, Tryz.ntmps32
    go_wp2_with (first
      | (go_at_call 66; refine (refright_any _ _ (le_max hs)).mono ?_; rintro e w' ⟨rfl, rfl⟩)
      | (go_at_call 67; refine (refsmall_any _ _ hs).mono ?_; rintro e w' ⟨rfl, hb⟩; have HB := HB.trans (hb.mono HB.size); clear hb))
    go_ret
    exact ⟨ret_bool HR.out.symm, by assumption⟩
  have e95 : ((s[0].toNat : Int) == 95) = false := beq_eq_false_iff_ne.2 h95
  have hone := one_reserved s.toList
  by_cases hres : reservedL s.toList = true
  · rw [hres] at hone
    have HR : Hid (customL s.toList = false) := Lib.hid (by rw [HV.out, hres]; simp)
    clear h95 hres
    go_enter Tryz.func32, Tryz.ntmps32
    go_wp2_with (first
      | (go_at_call 66; refine (refright_any _ _ (le_max hs)).mono ?_; rintro e w' ⟨rfl, rfl⟩)
      | (go_at_call 67; refine (refsmall_any _ _ hs).mono ?_; rintro e w' ⟨rfl, hb⟩; have HB := HB.trans (hb.mono HB.size); clear hb)
      | (go_at_call 68; refine (one_any _ ⟨RESERVED_WORDS.toArray⟩ _ (by decide)).mono ?_; rintro e w' ⟨rfl, rfl⟩))
    go_ret
    exact ⟨ret_bool HR.out.symm, by assumption⟩
  have hres' : reservedL s.toList = false := by simpa using hres
  rw [hres'] at hone
  have HR : Hid (customL s.toList = dashL s.toList) := Lib.hid (by rw [HV.out, hres', e95]; simp)
  clear h95 hres hres'
  go_enter Tryz.func32, Tryz.ntmps32
  go_wp2_with (first
    | (go_at_call 66; refine (refright_any _ _ (le_max hs)).mono ?_; rintro e w' ⟨rfl, rfl⟩)
    | (go_at_call 67; refine (refsmall_any _ _ hs).mono ?_; rintro e w' ⟨rfl, hb⟩; have HB := HB.trans (hb.mono HB.size); clear hb)
    | (go_at_call 68; refine (one_any _ ⟨RESERVED_WORDS.toArray⟩ _ (by decide)).mono ?_; rintro e w' ⟨rfl, rfl⟩))
  clear hone hsm
  go_loop [3] (fun i => ∃ k : Nat, k ≤ s.size ∧ i = .int .i64 k ∧ Hid (dashL (s.toList.take k) = false)) (fun i => s.size - (intOf i).toNat)
  case atStart => exact ⟨0, by omega, rfl, Lib.hid rfl⟩
  case round =>
    obtain ⟨k, hk, rfl, HA⟩ := hrel
    by_cases hlt : k < s.size
    · have HG := Lib.hid (tl_get s k hlt)
      obtain ⟨n, hn⟩ : ∃ n : Nat, (s[k]'hlt).toNat = n := ⟨_, rfl⟩
      have HN := Lib.hid hn
      by_cases h45 : (n : Int) = 45
      · have e45 : ((n : Int) == 45) = true := beq_iff_eq.2 h45
        have HR2 : Hid (customL s.toList = true) := Lib.hid (by rw [HR.out]; exact dash_hit _ _ _ HG.out (by rw [HN.out]; exact h45))
        clear h45
        go_wp2
        go_ret
        exact ⟨ret_bool HR2.out.symm, by assumption⟩
      · have e45 : ((n : Int) == 45) = false := beq_eq_false_iff_ne.2 h45
        have HS : Hid (dashL (s.toList.take (k + 1)) = false) := Lib.hid ((dash_step _ _ _ HG.out HA.out).trans (by rw [HN.out]; exact e45))
        clear h45
        go_wp2
        go_round
        case rel => exact ⟨k + 1, by omega, by go_num, HS⟩
        case measure => simp [intOf]; omega
    · have HR2 : Hid (customL s.toList = false) := Lib.hid (by
        rw [HR.out]
        have h := HA.out
        rwa [List.take_of_length_le (by rw [HL.out]; omega)] at h)
      go_wp2
      go_ret
      exact ⟨ret_bool HR2.out.symm, by assumption⟩
end Go.Proofs.YtkomeijlljcdgaaGreat
namespace Go.Proofs.YtkomeijlljcdgaaGreat
open Go.RowKit
theorem find2_own {L : List DefD} {l s : List UInt8} {k : Nat} (h : firstZ (isOwn l) L = (k : Int)) : findZ2 L l s = (k : Int) := by
  unfold findZ2
  rw [h, if_pos (by omega)]
theorem find2_is {L : List DefD} {l s : List UInt8} (h : firstZ (isOwn l) L = -1) : findZ2 L l s = firstZ (isIs l s) L := by
  unfold findZ2
  rw [h, if_neg (by decide)]
set_option maxHeartbeats 8000000 in
set_option maxRecDepth 100000 in
theorem reffind9_any (da : Option Addr) (dl dc : Nat) (wa : Option Addr) (wl wc : Nat) (nx : Int) (bz : Bool) (L : List DefD) (l s : ByteArray) (w : World) (h0 : DefRow w da dl dc L) :
    Calls Tryz.prog 41 #[deskV da dl dc wa wl wc nx bz, .string l, .string s] w fun e w' => e = .returned (.int .i64 (findZ2 L l.toList s.toList)) ∧ Below w.heap.size w w' := by
  have hl := h0.len64
  have HLN := Lib.hid h0.hlen
  have h := h0.below (below_desk w (deskB da dl dc wa wl wc nx bz))
  clear h0
  go_enter Tryz.func41, Tryz.ntmps41
  go_wp2
  go_loop [7] (fun i => ∃ k : Nat, k ≤ dl ∧ i = .int .i64 k ∧ Hid (k ≤ firstN (isOwn l.toList) L)) (fun i => dl - (intOf i).toNat)
  case atStart => exact ⟨0, Nat.zero_le _, rfl, Lib.hid (Nat.zero_le _)⟩
  case round =>
    obtain ⟨k, hk, rfl, HA⟩ := hrel
    by_cases hlt : k < dl
    · obtain ⟨b, off, x, rfl, hb, hx, c0, c1, -, -⟩ := h.get hlt
      have hb2 : b < w.heap.size + 1 := by simpa using hb
      have HX := Lib.hid hx
      clear hx
      obtain ⟨n, hn⟩ : ∃ n, x.name = n := ⟨_, rfl⟩
      obtain ⟨o, ho⟩ : ∃ n, x.loc = n := ⟨_, rfl⟩
      rw [hn] at c0
      rw [ho] at c1
      cases e1 : o.toList == l.toList with
      | false =>
        have HR : Hid (k + 1 ≤ firstN (isOwn l.toList) L) := Lib.hid (first_step HA.out HX.out (by unfold isOwn; rw [ho, e1]; rfl))
        go_wp2
        go_round
        case rel => exact ⟨k + 1, by omega, by go_num, HR⟩
        case measure => simp [intOf]; omega
      | true =>
        cases e2 : n.toList == l.toList with
        | false =>
          have HR : Hid (k + 1 ≤ firstN (isOwn l.toList) L) := Lib.hid (first_step HA.out HX.out (by unfold isOwn; rw [ho, e1, hn, e2]; rfl))
          go_wp2
          go_round
          case rel => exact ⟨k + 1, by omega, by go_num, HR⟩
          case measure => simp [intOf]; omega
        | true =>
          have HR : Hid (findZ2 L l.toList s.toList = (k : Int)) := Lib.hid (find2_own (firstZ_here HA.out HX.out (by unfold isOwn; rw [ho, e1, hn, e2]; rfl)))
          go_wp2
          go_ret
          exact ⟨ret_int HR.out.symm, below_desk _ _⟩
    · have HO : Hid (firstZ (isOwn l.toList) L = -1) := Lib.hid (firstZ_none HA.out (by rw [HLN.out]; omega))
      go_wp2
      go_loop [8] (fun i => ∃ k : Nat, k ≤ dl ∧ i = .int .i64 k ∧ Hid (k ≤ firstN (isIs l.toList s.toList) L)) (fun i => dl - (intOf i).toNat)
      case atStart => exact ⟨0, Nat.zero_le _, rfl, Lib.hid (Nat.zero_le _)⟩
      case round =>
        obtain ⟨k, hk, rfl, HA⟩ := hrel
        by_cases hlt : k < dl
        · obtain ⟨b, off, x, rfl, hb, hx, c0, c1, -, -⟩ := h.get hlt
          have hb2 : b < w.heap.size + 1 := by simpa using hb
          have HX := Lib.hid hx
          clear hx
          obtain ⟨n, hn⟩ : ∃ n, x.name = n := ⟨_, rfl⟩
          obtain ⟨o, ho⟩ : ∃ n, x.loc = n := ⟨_, rfl⟩
          rw [hn] at c0
          rw [ho] at c1
          cases e1 : o.toList == l.toList with
          | false =>
            have HR : Hid (k + 1 ≤ firstN (isIs l.toList s.toList) L) := Lib.hid (first_step HA.out HX.out (by unfold isIs; rw [ho, e1]; rfl))
            go_wp2
            go_round
            case rel => exact ⟨k + 1, by omega, by go_num, HR⟩
            case measure => simp [intOf]; omega
          | true =>
            cases e2 : n.toList == s.toList with
            | false =>
              have HR : Hid (k + 1 ≤ firstN (isIs l.toList s.toList) L) := Lib.hid (first_step HA.out HX.out (by unfold isIs; rw [ho, e1, hn, e2]; rfl))
              go_wp2
              go_round
              case rel => exact ⟨k + 1, by omega, by go_num, HR⟩
              case measure => simp [intOf]; omega
            | true =>
              have HR : Hid (findZ2 L l.toList s.toList = (k : Int)) := Lib.hid (by rw [find2_is HO.out]; exact firstZ_here HA.out HX.out (by unfold isIs; rw [ho, e1, hn, e2]; rfl))
              go_wp2
              go_ret
              exact ⟨ret_int HR.out.symm, below_desk _ _⟩
        · have HR : Hid (findZ2 L l.toList s.toList = -1) := Lib.hid (by rw [find2_is HO.out]; exact firstZ_none HA.out (by rw [HLN.out]; omega))
          go_wp2
          go_ret
          exact ⟨ret_int HR.out.symm, below_desk _ _⟩
end Go.Proofs.YtkomeijlljcdgaaGreat
