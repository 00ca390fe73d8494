/- Texts joined in build order: ForestRefs RefRight. -/
import Derived.Test.YtkomeijlljcdgaaGreatP03
import Derived.Test.YtkomeijlljcdgaaGreatChecked
import Derived.WalkLawsBesides
import Derived.Lib.Hide
import Derived.Deep.QuietTactic
import Derived.BigQuiet
import Derived.Test.YtkomeijlljcdgaaGreatP01
/- instarref03's small functions: Has, Find, Ints. -/
namespace Go.Proofs.YtkomeijlljcdgaaGreat
open Go.RowKit
def hasZ (L : List Int) (n : Int) : Nat := L.countP (fun z => z == n)
def findN (L : List Int) (n : Int) : Nat := L.findIdx (fun z => z == n)
def findZ (L : List Int) (n : Int) : Int := if findN L n < L.length then (findN L n : Int) else -1
theorem hasZ_step {L : List Int} {n z : Int} {k : Nat} (h : L[k]? = some z) : hasZ (L.take (k + 1)) n = hasZ (L.take k) n + if z == n then 1 else 0 := by
  obtain ⟨hl, hg⟩ := List.getElem?_eq_some_iff.1 h
  unfold hasZ
  rw [List.take_succ_eq_append_getElem hl, hg, List.countP_append]
  simp [List.countP_cons]
theorem hasZ_le (L : List Int) (n : Int) (k : Nat) : hasZ (L.take k) n ≤ k := Nat.le_trans (List.countP_le_length) (List.length_take_le _ _)
theorem findN_here {L : List Int} {n z : Int} {k : Nat} (h : k ≤ findN L n) (hk : L[k]? = some z) (hz : (z == n) = true) : findN L n = k := by
  obtain ⟨hl, hg⟩ := List.getElem?_eq_some_iff.1 hk
  by_cases e : k < findN L n
  · have := List.not_of_lt_findIdx e
    rw [hg, hz] at this
    cases this
  · omega
theorem findN_step {L : List Int} {n z : Int} {k : Nat} (h : k ≤ findN L n) (hk : L[k]? = some z) (hz : (z == n) = false) : k + 1 ≤ findN L n := by
  obtain ⟨hl, hg⟩ := List.getElem?_eq_some_iff.1 hk
  by_cases e : k = findN L n
  · have h1 : findN L n < L.length := by omega
    have h2 : ((L[findN L n]'h1) == n) = true := List.findIdx_getElem (w := h1)
    have h3 : (L[findN L n]'h1) = z := by rw [← hg]; congr 1; exact e.symm
    rw [h3, hz] at h2
    cases h2
  · omega
theorem refhas_any (a : Option Addr) (len cap : Nat) (L : List Int) (n : Int) (w : World) (h : IntRow w a len cap L) :
    Calls Tryz.prog 28 #[.slice a len cap, .int .i64 n] w fun e w' => e = .returned (.int .i64 (hasZ L n)) ∧ w = w' := by
  have hl := h.len64
  go_enter Tryz.func28, Tryz.ntmps28
  go_wp2
  go_loop [5, 6] (fun m i => ∃ k : Nat, k ≤ len ∧ i = .int .i64 k ∧ m = .int .i64 (hasZ (L.take k) n : Nat)) (fun _ i => len - (intOf i).toNat)
  case atStart => exact ⟨0, Nat.zero_le _, rfl, rfl⟩
  case round =>
    obtain ⟨k, hk, rfl, rfl⟩ := hrel
    have hle := hasZ_le L n k
    obtain ⟨m, hm⟩ : ∃ m, hasZ (L.take k) n = m := ⟨_, rfl⟩
    rw [hm] at hle ⊢
    by_cases hlt : k < len
    · obtain ⟨b, off, z, rfl, hb, hx, hc, _⟩ := h.get hlt
      have HS := Lib.hid (hasZ_step (n := n) hx)
      have HM := Lib.hid hm
      clear hx hm
      by_cases he : z = n
      · have e1 : (z == n) = true := beq_iff_eq.2 he
        have HE : Hid (hasZ (L.take (k + 1)) n = m + 1) := Lib.hid (by rw [HS.out, HM.out, e1]; rfl)
        clear he
        go_wp2
        go_round
        case rel => exact ⟨k + 1, by omega, by go_num, by rw [HE.out]; go_num⟩
        case measure => simp [intOf]; omega
      · have e1 : (z == n) = false := beq_eq_false_iff_ne.2 he
        have HE : Hid (hasZ (L.take (k + 1)) n = m) := Lib.hid (by rw [HS.out, HM.out, e1]; rfl)
        clear he
        go_wp2
        go_round
        case rel => exact ⟨k + 1, by omega, by go_num, by rw [HE.out]⟩
        case measure => simp [intOf]; omega
    · have HR : Hid (m = hasZ L n) := Lib.hid (by rw [← hm, List.take_of_length_le (by have := h.hlen; omega)])
      clear hm
      go_wp2
      go_ret
      exact ⟨ret_int (by rw [HR.out]), rfl⟩
theorem refints_any (a a' : Option Addr) (len cap len' cap' : Nat) (L M : List Int) (w : World) (h : IntRow w a len cap L) (h' : IntRow w a' len' cap' M) :
    Calls Tryz.prog 17 #[.slice a len cap, .slice a' len' cap'] w fun e w' => e = .returned (.bool (decide (L = M))) ∧ ∃ n, w' = w.drewN n := by
  have hl := h.len64
  have hl' := h'.len64
  by_cases hll : len = len'
  rotate_left
  · have hr : Hid (decide (L = M) = false) := Lib.hid (decide_eq_false (fun e => hll (by rw [← h.hlen, ← h'.hlen, e])))
    have e1 : ((len : Int) == (len' : Int)) = false := beq_eq_false_iff_ne.2 (by omega)
    have e2 : ((len : Int) != (len' : Int)) = true := by unfold bne; rw [e1]; rfl
    clear hll
    go_enter Tryz.func17, Tryz.ntmps17
    go_wp2
    go_ret
    exact ⟨ret_bool hr.out.symm, 0, rfl⟩
  subst hll
  have e1 : ((len : Int) == (len : Int)) = true := beq_iff_eq.2 rfl
  have e2 : ((len : Int) != (len : Int)) = false := by unfold bne; rw [e1]; rfl
  go_enter Tryz.func17, Tryz.ntmps17
  go_wp2
  go_loopw [5] (fun i wr => ∃ k n : Nat, k ≤ len ∧ i = .int .i64 k ∧ wr = w.drewN n ∧ Hid (L.take k = M.take k)) (fun i _ => len - (intOf i).toNat)
  case atStart => exact ⟨0, 0, Nat.zero_le _, rfl, rfl, Lib.hid rfl⟩
  case round =>
    obtain ⟨k, n, hk, rfl, rfl, HT⟩ := hrel
    by_cases hlt : k < len
    · obtain ⟨b, off, x, rfl, hb, hx, hc1, _⟩ := h.get hlt
      obtain ⟨b', off', y, rfl, hb', hy, hd1, _⟩ := h'.get hlt
      have HX := Lib.hid hx
      have HY := Lib.hid hy
      clear hx hy
      by_cases he : x = y
      · have f1 : (x == y) = true := beq_iff_eq.2 he
        have f2 : (x != y) = false := by unfold bne; rw [f1]; rfl
        have HE := Lib.hid he
        clear he
        go_wp2
        go_quiet (fail)
        go_wp2
        go_roundw
        case rel =>
          refine ⟨k + 1, _, by omega, by go_num, by first | rfl | exact World.drewN_drewN _ _ _, Lib.hid ?_⟩
          obtain ⟨hl1, hg1⟩ := List.getElem?_eq_some_iff.1 HX.out
          obtain ⟨hl2, hg2⟩ := List.getElem?_eq_some_iff.1 HY.out
          rw [List.take_succ_eq_append_getElem hl1, List.take_succ_eq_append_getElem hl2, hg1, hg2, HT.out, HE.out]
        case measure => simp [intOf]; omega
      · have f1 : (x == y) = false := beq_eq_false_iff_ne.2 he
        have f2 : (x != y) = true := by unfold bne; rw [f1]; rfl
        have HR : Hid (decide (L = M) = false) := Lib.hid (decide_eq_false (fun e => he (by
          have h1 := HX.out
          rw [e, HY.out] at h1
          exact (Option.some.inj h1).symm)))
        clear he
        go_wp2
        go_quiet (fail)
        go_wp2
        go_ret
        exact ⟨ret_bool HR.out.symm, _, by first | rfl | exact World.drewN_drewN _ _ _⟩
    · have HR : Hid (decide (L = M) = true) := Lib.hid (decide_eq_true (by
        have h1 := HT.out
        rwa [List.take_of_length_le (by have := h.hlen; omega), List.take_of_length_le (by have := h'.hlen; omega)] at h1))
      go_wp2
      go_ret
      exact ⟨ret_bool HR.out.symm, n, rfl⟩
end Go.Proofs.YtkomeijlljcdgaaGreat
/- The document's own answer Right (package instarref01). -/
namespace Go.Proofs.YtkomeijlljcdgaaGreat
open Go.RowKit
/-- What holds at the head of a round of the reference's Right: all bytes before are signs, and the first may begin. -/
def RightAt (l : List UInt8) (k : Nat) : Prop := (l.take k).all signB = true ∧ (0 < k → headB (l.headD 0) = true)
theorem RightAt.start (l : List UInt8) : RightAt l 0 := ⟨rfl, fun h => absurd h (by omega)⟩
theorem RightAt.next {l : List UInt8} {k : Nat} {c : UInt8} (h : RightAt l k) (hc : l[k]? = some c) (hk : k = 0 ∧ headB c = true ∨ 0 < k ∧ signB c = true) : RightAt l (k + 1) := by
  rcases hk with ⟨rfl, hk⟩ | ⟨hk, hs⟩
  · refine ⟨(all_take_succ l 0 c hc rfl).trans (sign_of_head c hk), fun _ => ?_⟩
    cases l with
    | nil => simp at hc
    | cons b r => simp at hc; subst hc; exact hk
  · exact ⟨(all_take_succ l k c hc h.1).trans hs, fun _ => h.2 hk⟩
theorem RightAt.stop {l : List UInt8} {k : Nat} {c : UInt8} (hc : l[k]? = some c) (hk : k = 0 ∧ headB c = false ∨ 0 < k ∧ signB c = false) : rightL l = false := by
  rcases hk with ⟨rfl, hk⟩ | ⟨_, hs⟩
  · exact rightL_head l c hc hk
  · exact rightL_stop l k c hc hs
theorem RightAt.full {l : List UInt8} {k : Nat} (h : RightAt l k) (hk : k = l.length) (h1 : 1 ≤ l.length) (h2 : l.length ≤ 40) : rightL l = true := by
  have ha := h.1
  rw [hk, List.take_length] at ha
  unfold rightL
  rw [ha, h.2 (by omega), decide_eq_true ⟨h1, h2⟩]
  rfl

theorem le_max {n : Nat} (h : n ≤ 1000000) : n ≤ maxLen := by unfold maxLen; omega
set_option maxHeartbeats 16000000 in
set_option maxRecDepth 100000 in
theorem refright_any (s : ByteArray) (w : World) (hs : s.size ≤ maxLen) :
    Calls Tryz.prog 66 #[.string s] w fun e w' => e = .returned (.bool (rightL s.toList)) ∧ w = w' := by
  unfold maxLen at hs
  have hlen := tl_len s
  by_cases h0 : s.size < 1
  · have H := Lib.hid (rightL_ends s.toList (by omega))
    have hz : ((s.size : Int) == 0) = true := beq_iff_eq.2 (by omega)
    clear hlen
    go_enter Tryz.func66, Tryz.ntmps66
    go_wp2
    go_ret
    exact ⟨ret_bool H.out.symm, rfl⟩
  have hz : ((s.size : Int) == 0) = false := beq_eq_false_iff_ne.2 (by omega)
  by_cases h1 : 40 < s.size
  · have H := Lib.hid (rightL_ends s.toList (by omega))
    clear hlen
    go_enter Tryz.func66, Tryz.ntmps66
    go_wp2
    go_ret
    exact ⟨ret_bool H.out.symm, rfl⟩
  have HL := Lib.hid hlen
  clear hlen
  go_enter Tryz.func66, Tryz.ntmps66
  go_wp2
  go_loop [3] (fun i => ∃ k : Nat, k ≤ s.size ∧ i = .int .i64 k ∧ Hid (RightAt s.toList k)) (fun i => s.size - (intOf i).toNat)
  case atStart => exact ⟨0, by omega, rfl, Lib.hid (RightAt.start _)⟩
  case round =>
    obtain ⟨k, hk, rfl, HA⟩ := hrel
    by_cases hlt : k < s.size
    · have HG := Lib.hid (tl_get s k hlt)
      obtain ⟨n, hn⟩ : ∃ n : Nat, (s[k]'hlt).toNat = n := ⟨_, rfl⟩
      have hn1 : n ≤ 255 := by have := (s[k]'hlt).toNat_lt; omega
      have HC := Lib.hid (show signB (s[k]'hlt) = signI (n : Int) ∧ headB (s[k]'hlt) = headI (n : Int) from by unfold signB headB; rw [hn]; exact ⟨rfl, rfl⟩)
      have hcases : (97 ≤ n ∧ n ≤ 122) ∨ (48 ≤ n ∧ n ≤ 57) ∨ (45 ≤ n ∧ n ≤ 45) ∨ (95 ≤ n ∧ n ≤ 95) ∨ (46 ≤ n ∧ n ≤ 46) ∨ (65 ≤ n ∧ n ≤ 90) ∨ (0 ≤ n ∧ n ≤ 44) ∨ (47 ≤ n ∧ n ≤ 47) ∨ (58 ≤ n ∧ n ≤ 64) ∨ (91 ≤ n ∧ n ≤ 94) ∨ (96 ≤ n ∧ n ≤ 96) ∨ (123 ≤ n ∧ n ≤ 255) := by omega
      have hk0 : k = 0 ∨ 0 < k := by omega
      rcases hcases with hr | hr | hr | hr | hr | hr | hr | hr | hr | hr | hr | hr
      all_goals
        obtain ⟨hr1, hr2⟩ := hr
        first | (have e1 : decide ((97 : Int) ≤ (n : Int)) = true := decide_eq_true (by omega)) | (have e1 : decide ((97 : Int) ≤ (n : Int)) = false := decide_eq_false (by omega))
        first | (have e2 : decide ((n : Int) ≤ 122) = true := decide_eq_true (by omega)) | (have e2 : decide ((n : Int) ≤ 122) = false := decide_eq_false (by omega))
        first | (have e3 : decide ((65 : Int) ≤ (n : Int)) = true := decide_eq_true (by omega)) | (have e3 : decide ((65 : Int) ≤ (n : Int)) = false := decide_eq_false (by omega))
        first | (have e4 : decide ((n : Int) ≤ 90) = true := decide_eq_true (by omega)) | (have e4 : decide ((n : Int) ≤ 90) = false := decide_eq_false (by omega))
        first | (have e5 : decide ((48 : Int) ≤ (n : Int)) = true := decide_eq_true (by omega)) | (have e5 : decide ((48 : Int) ≤ (n : Int)) = false := decide_eq_false (by omega))
        first | (have e6 : decide ((n : Int) ≤ 57) = true := decide_eq_true (by omega)) | (have e6 : decide ((n : Int) ≤ 57) = false := decide_eq_false (by omega))
        first | (have e7 : ((n : Int) == 45) = true := beq_iff_eq.2 (by omega)) | (have e7 : ((n : Int) == 45) = false := beq_eq_false_iff_ne.2 (by omega))
        first | (have e8 : ((n : Int) == 46) = true := beq_iff_eq.2 (by omega)) | (have e8 : ((n : Int) == 46) = false := beq_eq_false_iff_ne.2 (by omega))
        first | (have e9 : ((n : Int) == 95) = true := beq_iff_eq.2 (by omega)) | (have e9 : ((n : Int) == 95) = false := beq_eq_false_iff_ne.2 (by omega))
        first | (have e10 : ((n : Int) != 95) = false := by unfold bne; rw [e9]; rfl; done) | (have e10 : ((n : Int) != 95) = true := by unfold bne; rw [e9]; rfl)
        first | (have HS : Hid (signI (n : Int) = true) := Lib.hid (by unfold signI alphI lowI capI digI; simp; omega)) | (have HS : Hid (signI (n : Int) = false) := Lib.hid (by unfold signI alphI lowI capI digI; simp; omega))
        first | (have HH : Hid (headI (n : Int) = true) := Lib.hid (by unfold headI alphI lowI capI; simp; omega)) | (have HH : Hid (headI (n : Int) = false) := Lib.hid (by unfold headI alphI lowI capI; simp; omega))
        clear hr1 hr2
        rcases hk0 with hk0 | hk0
        · have e11 : ((k : Int) == 0) = true := beq_iff_eq.2 (by omega)
          have HK := Lib.hid hk0
          clear hk0
          go_wp2
          first
            | (go_ret
               exact ⟨ret_bool (RightAt.stop HG.out (.inl ⟨HK.out, HC.out.2.trans HH.out⟩)).symm, rfl⟩)
            | (go_round
               case rel => exact ⟨k + 1, by omega, by go_num, Lib.hid (HA.out.next HG.out (.inl ⟨HK.out, HC.out.2.trans HH.out⟩))⟩
               case measure => simp [intOf]; omega)
        · have e11 : ((k : Int) == 0) = false := beq_eq_false_iff_ne.2 (by omega)
          go_wp2
          first
            | (go_ret
               exact ⟨ret_bool (RightAt.stop HG.out (.inr ⟨hk0, HC.out.1.trans HS.out⟩)).symm, rfl⟩)
            | (go_round
               case rel => exact ⟨k + 1, by omega, by go_num, Lib.hid (HA.out.next HG.out (.inr ⟨hk0, HC.out.1.trans HS.out⟩))⟩
               case measure => simp [intOf]; omega)
    · go_wp2
      go_ret
      exact ⟨ret_bool (HA.out.full (by rw [HL.out]; omega) (by rw [HL.out]; omega) (by rw [HL.out]; omega)).symm, rfl⟩

end Go.Proofs.YtkomeijlljcdgaaGreat
