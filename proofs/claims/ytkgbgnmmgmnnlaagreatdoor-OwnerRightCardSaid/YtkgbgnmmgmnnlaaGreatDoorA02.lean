/- Texts joined in build order: NameWords NameKinds RefOne. -/
import Derived.Test.YtkgbgnmmgmnnlaaGreatDoorA01
import Derived.Lib.Strings
import Derived.Lib.Slices
import Derived.Lib.Walk
import Derived.Test.YtkgbgnmmgmnnlaaGreatDoorChecked
import Derived.WalkLawsBesides
import Derived.Lib.Hide
import Derived.Lib.IndexBytes
namespace Go.Proofs.YtkgbgnmmgmnnlaaGreatDoor
open Go.RowKit
set_option maxHeartbeats 1000000 in
set_option maxRecDepth 100000 in
theorem indexByte_any (s : ByteArray) (c : Int) (w : World) :
    Calls Tryz.prog 155 #[.string s, .int .u8 c] w fun e w' => e = .returned (.int .i64 (Lib.indexByte s.data.toList c.toNat.toUInt8)) ∧ w' = w := by
  go_enter Tryz.func155, Tryz.ntmps155
  go_wp2
  rw [run_callFunc_extern Tryz.func166 (by kernel_rfl) (by kernel_rfl) (by kernel_rfl) (e := Extern.BytealgIndexByte.indexByte) (by kernel_rfl), Lib.run_indexByteString]
  simp only [Result.andThen]
  rw [Oper.upon_value]
  go_wp2
  go_ret
  exact ⟨rfl, rfl⟩
theorem has_indexByte (c : UInt8) : ∀ l : List UInt8, l.contains c = decide (0 ≤ Lib.indexByte l c)
  | [] => by simp [Lib.indexByte]
  | b :: l => by
    have ih := has_indexByte c l
    have hg := Lib.indexByte_ge l c
    unfold Lib.indexByte
    rw [List.contains_cons, ih]
    by_cases h : b = c
    · subst h; simp
    · have h1 : (c == b) = false := by simp; exact fun e => h e.symm
      have h2 : (b == c) = false := by simp [h]
      rw [h1, h2]
      by_cases h3 : Lib.indexByte l c = -1
      · simp [h3]
      · have h4 : (Lib.indexByte l c == -1) = false := by simp [h3]
        simp only [h4, Bool.false_or, Bool.false_eq_true, if_false]
        rw [decide_eq_decide]
        omega
set_option maxHeartbeats 2000000 in
set_option maxRecDepth 100000 in
theorem dash_any (s : ByteArray) (w : World) :
    Calls Tryz.prog 123 #[.string s, .string ⟨#[45]⟩] w fun e w' => e = .returned (.bool (dashL s.toList)) ∧ w = w' := by
  go_enter Tryz.func123, Tryz.ntmps123
  go_wp2_with (first | (go_at_call 155; refine (indexByte_any _ _ _).mono ?_; rintro e w' ⟨rfl, rfl⟩) | go_in)
  · have h : ([45] == s.toList) = true := by assumption
    go_ret
    refine ⟨ret_bool ?_, rfl⟩
    have e : s.toList = [45] := (beq_iff_eq.1 h).symm
    rw [e]; rfl
  · go_ret
    refine ⟨ret_bool ?_, rfl⟩
    unfold dashL
    rw [has_indexByte, tl]
    rfl
set_option maxHeartbeats 1000000 in
theorem reserved_any (s : ByteArray) (w : World) :
    Calls Tryz.prog 124 #[.string s] w fun e w' => e = .returned (.bool (reservedL s.toList)) ∧ w = w' := by
  go_enter Tryz.func124, Tryz.ntmps124
  go_wp2
  all_goals (go_ret; exact ⟨ret_bool (by unfold reservedL; simp_all), rfl⟩)
end Go.Proofs.YtkgbgnmmgmnnlaaGreatDoor
namespace Go.Proofs.YtkgbgnmmgmnnlaaGreatDoor
open Go.RowKit
theorem headD_get (s : ByteArray) (h : 0 < s.size) : s.toList.headD 0 = s[0] := by
  have := tl_get s 0 h
  cases e : s.toList with
  | nil => rw [e] at this; simp at this
  | cons b r => rw [e] at this; simpa using this
theorem rightL_pos (s : ByteArray) (h : rightL s.toList = true) : 0 < s.size := by
  by_cases h0 : 0 < s.size
  · exact h0
  · rw [rightL_ends _ (by rw [tl_len]; omega)] at h
    cases h
theorem customL_no (l : List UInt8) (h : rightL l = false) : customL l = false := by unfold customL; rw [h]; rfl
theorem customL_eq (s : ByteArray) (h : rightL s.toList = true) (hp : 0 < s.size) :
    customL s.toList = ((smallL s.toList == s.toList) && lowI (s[0].toNat : Int) && dashL s.toList && !reservedL s.toList) := by
  unfold customL
  rw [h, headD_get s hp, Bool.true_and]
set_option maxHeartbeats 2000000 in
theorem custom_any (s : ByteArray) (w : World) (hs : s.size ≤ maxLen) :
    Calls Tryz.prog 102 #[.string s] w fun e w' => e = .returned (.bool (customL s.toList)) ∧ Below w.heap.size w w' := by
  have HB : Below w.heap.size w w := Below.refl _ _
  by_cases hr : rightL s.toList = true
  · have hp := rightL_pos s hr
    have HC := Lib.hid (customL_eq s hr hp)
    go_enter Tryz.func102, Tryz.ntmps102
    go_wp2_with (first
      | (go_at_call 85; refine (right_any _ _ hs).mono ?_; rintro e w' ⟨rfl, rfl⟩)
      | (go_at_call 84; refine (small_any _ _ hs).mono ?_; rintro e w' ⟨rfl, hb⟩; have HB := HB.trans (hb.mono HB.size); clear hb)
      | (go_at_call 122; refine (isSmall_any _ _).mono ?_; rintro e w' ⟨rfl, rfl⟩)
      | (go_at_call 123; refine (dash_any _ _).mono ?_; rintro e w' ⟨rfl, rfl⟩)
      | (go_at_call 124; refine (reserved_any _ _).mono ?_; rintro e w' ⟨rfl, rfl⟩))
    all_goals (go_ret; exact ⟨ret_bool (by rw [HC.out]; simp [*]), by assumption⟩)
  · have hr' : rightL s.toList = false := by simpa using hr
    have HC := Lib.hid (customL_no _ hr')
    clear hr
    go_enter Tryz.func102, Tryz.ntmps102
    go_wp2_with (go_at_call 85; refine (right_any _ _ hs).mono ?_; rintro e w' ⟨rfl, rfl⟩)
    go_ret
    exact ⟨ret_bool HC.out.symm, HB⟩
end Go.Proofs.YtkgbgnmmgmnnlaaGreatDoor
namespace Go.Proofs.YtkgbgnmmgmnnlaaGreatDoor
open Go.RowKit
def splitL : List UInt8 → List UInt8 → List (List UInt8)
  | cur, [] => [cur]
  | cur, c :: r => if c == 32 then cur :: splitL [] r else splitL (cur ++ [c]) r
def oneGo (s : List UInt8) : List UInt8 → List UInt8 → Bool
  | cur, [] => cur == s
  | cur, c :: r => if c == 32 then (cur == s) || oneGo s [] r else oneGo s (cur ++ [c]) r
def oneL (s v : List UInt8) : Bool := oneGo s [] v
theorem oneGo_split (s : List UInt8) : ∀ (v cur : List UInt8), oneGo s cur v = (splitL cur v).contains s
  | [], cur => by
    unfold oneGo splitL
    rw [BEq.comm (a := cur), List.contains_cons]
    simp only [List.contains_nil, Bool.or_false]
  | c :: r, cur => by
    unfold oneGo splitL
    by_cases h : (c == 32) = true
    · rw [if_pos h, if_pos h, List.contains_cons, oneGo_split s r []]
      rw [BEq.comm (a := cur)]
    · rw [if_neg h, if_neg h]
      exact oneGo_split s r _
theorem one_split (s v : List UInt8) : oneL s v = (splitL [] v).contains s := oneGo_split s v []
def OneAt (s v : List UInt8) (a i : Nat) : Prop := (a ≤ i ∧ i ≤ v.length ∧ oneGo s ((v.take i).drop a) (v.drop i) = oneL s v) ∨ (i = v.length + 1 ∧ oneL s v = false)
theorem OneAt.start (s v : List UInt8) : OneAt s v 0 0 := .inl ⟨Nat.le_refl _, Nat.zero_le _, by simp [oneL]⟩
theorem OneAt.hit {s v : List UInt8} {a i : Nat} (h : OneAt s v a i) (hi : i ≤ v.length) (hc : i = v.length ∨ v[i]? = some 32) (he : (v.take i).drop a = s) : oneL s v = true := by
  rcases h with ⟨h1, h2, h3⟩ | ⟨h1, _⟩
  · rw [← h3]
    rcases hc with hc | hc
    · have : v.drop i = [] := by rw [hc]; simp
      rw [this]
      unfold oneGo
      rw [he]; simp
    · obtain ⟨hl, hg⟩ := List.getElem?_eq_some_iff.1 hc
      rw [List.drop_eq_getElem_cons hl, hg]
      unfold oneGo
      rw [he]; simp
  · omega
theorem OneAt.last {s v : List UInt8} {a i : Nat} (h : OneAt s v a i) (hi : i = v.length) (he : ¬ (v.take i).drop a = s) (b : Nat) : OneAt s v b (i + 1) := by
  rcases h with ⟨h1, h2, h3⟩ | ⟨h1, _⟩
  · refine .inr ⟨by omega, ?_⟩
    rw [← h3]
    have : v.drop i = [] := by rw [hi]; simp
    rw [this]
    unfold oneGo
    simpa using he
  · omega
theorem OneAt.blank {s v : List UInt8} {a i : Nat} (h : OneAt s v a i) (hc : v[i]? = some 32) (he : ¬ (v.take i).drop a = s) : OneAt s v (i + 1) (i + 1) := by
  obtain ⟨hl, hg⟩ := List.getElem?_eq_some_iff.1 hc
  rcases h with ⟨h1, h2, h3⟩ | ⟨h1, _⟩
  · refine .inl ⟨Nat.le_refl _, by omega, ?_⟩
    rw [← h3, List.drop_eq_getElem_cons hl, hg]
    have : (v.take (i + 1)).drop (i + 1) = [] := by simp
    rw [this]
    conv => rhs; unfold oneGo
    simp [he]
  · omega
theorem OneAt.sign {s v : List UInt8} {a i : Nat} (h : OneAt s v a i) {c : UInt8} (hc : v[i]? = some c) (h32 : ¬ c = 32) : OneAt s v a (i + 1) := by
  obtain ⟨hl, hg⟩ := List.getElem?_eq_some_iff.1 hc
  rcases h with ⟨h1, h2, h3⟩ | ⟨h1, _⟩
  · refine .inl ⟨by omega, by omega, ?_⟩
    rw [← h3, List.drop_eq_getElem_cons hl, hg]
    have : (v.take (i + 1)).drop a = (v.take i).drop a ++ [c] := by
      rw [List.take_succ_eq_append_getElem hl, hg, List.drop_append_of_le_length (by rw [List.length_take]; omega)]
    rw [this]
    conv => rhs; unfold oneGo
    simp [h32]
  · omega
theorem OneAt.none {s v : List UInt8} {a i : Nat} (h : OneAt s v a i) (hi : ¬ i ≤ v.length) : oneL s v = false := by
  rcases h with ⟨h1, h2, h3⟩ | ⟨_, h⟩
  · omega
  · exact h
theorem OneAt.le {s v : List UInt8} {a i : Nat} (h : OneAt s v a i) (hi : i ≤ v.length) : a ≤ i := by
  rcases h with ⟨h1, _, _⟩ | ⟨h1, _⟩
  · exact h1
  · omega
theorem cut_list (v : ByteArray) (a i : Nat) : (v.extract a i).toList = (v.toList.take i).drop a := by
  rw [tl, tl, Lib.extract_data]
  first
    | rfl
    | (rw [List.take_drop]; congr 1; omega)
    | simp [List.drop_take]
set_option maxHeartbeats 4000000 in
set_option maxRecDepth 100000 in
theorem one_any (s v : ByteArray) (w : World) (hv : v.size ≤ 1000000) :
    Calls Tryz.prog 99 #[.string s, .string v] w fun e w' => e = .returned (.bool (oneL s.toList v.toList)) ∧ w = w' := by
  have HV := Lib.hid (tl_len v)
  go_enter Tryz.func99, Tryz.ntmps99
  go_wp2
  go_loop [5, 6] (fun a i => ∃ ka ki : Nat, a = .int .i64 ka ∧ i = .int .i64 ki ∧ Hid (OneAt s.toList v.toList ka ki) ∧ ki ≤ v.size + 1) (fun _ i => v.size + 1 - (intOf i).toNat)
  case atStart => exact ⟨0, 0, rfl, rfl, Lib.hid (OneAt.start _ _), by omega⟩
  case round =>
    obtain ⟨ka, ki, rfl, rfl, HA, hki⟩ := hrel
    by_cases hle : ki ≤ v.size
    · have hak : ka ≤ ki := HA.out.le (by rw [HV.out]; exact hle)
      have hcut := cut_list v ka ki
      by_cases hend : ki = v.size
      · have hend1 : ((ki : Int) == (v.size : Int)) = true := beq_iff_eq.2 (by omega)
        have HE := Lib.hid hend
        clear hend
        by_cases heq : (v.toList.take ki).drop ka = s.toList
        · have hb : ((v.toList.take ki).drop ka == s.toList) = true := beq_iff_eq.2 heq
          have HR := Lib.hid (HA.out.hit (by rw [HV.out]; exact hle) (.inl (by rw [HV.out]; exact HE.out)) heq)
          clear heq
          go_wp2
          go_ret
          exact ⟨ret_bool HR.out.symm, rfl⟩
        · have hb : ((v.toList.take ki).drop ka == s.toList) = false := beq_eq_false_iff_ne.2 heq
          have HR := Lib.hid (HA.out.last (by rw [HV.out]; exact HE.out) heq (ki + 1))
          clear heq
          go_wp2
          go_round
          case rel => exact ⟨ki + 1, ki + 1, by go_num, by go_num, HR, by omega⟩
          case measure => simp [intOf]; omega
      · have hlt : ki < v.size := by omega
        have hend1 : ((ki : Int) == (v.size : Int)) = false := beq_eq_false_iff_ne.2 (by omega)
        have hg := tl_get v ki hlt
        by_cases h32 : v[ki] = 32
        · have hc1 : ((v[ki].toNat : Int) == 32) = true := by rw [h32]; rfl
          rw [h32] at hg
          have HG := Lib.hid hg
          clear hg h32 hend
          by_cases heq : (v.toList.take ki).drop ka = s.toList
          · have hb : ((v.toList.take ki).drop ka == s.toList) = true := beq_iff_eq.2 heq
            have HR := Lib.hid (HA.out.hit (by rw [HV.out]; exact hle) (.inr HG.out) heq)
            clear heq
            go_wp2
            go_ret
            exact ⟨ret_bool HR.out.symm, rfl⟩
          · have hb : ((v.toList.take ki).drop ka == s.toList) = false := beq_eq_false_iff_ne.2 heq
            have HR := Lib.hid (HA.out.blank HG.out heq)
            clear heq
            go_wp2
            go_round
            case rel => exact ⟨ki + 1, ki + 1, by go_num, by go_num, HR, by omega⟩
            case measure => simp [intOf]; omega
        · have hc1 : ((v[ki].toNat : Int) == 32) = false := beq_eq_false_iff_ne.2 (fun e => h32 (by
            apply UInt8.toNat_inj.1
            have : (32 : UInt8).toNat = 32 := rfl
            omega))
          have HR := Lib.hid (HA.out.sign hg h32)
          clear hg h32 hend
          go_wp2
          go_round
          case rel => exact ⟨ka, ki + 1, by go_num, by go_num, HR, by omega⟩
          case measure => simp [intOf]; omega
    · have HR := Lib.hid (HA.out.none (by rw [HV.out]; exact hle))
      go_wp2
      go_ret
      exact ⟨ret_bool HR.out.symm, rfl⟩
end Go.Proofs.YtkgbgnmmgmnnlaaGreatDoor
