/- Texts joined in build order: RefOne. -/
import Derived.Test.YtioeagadhnnajaaChecked
import Derived.Test.YtioeagadhnnajaaA01
import Derived.WalkLawsBesides
import Derived.Lib.Hide
import Derived.Test.YtioeagadhnnajaaA03
import Derived.Lib.IndexBytes
/- The document's own answer One: is a text one of some words, with blanks between? -/
namespace Go.Proofs.Ytioeagadhnnajaa
open Go.RowKit
def splitL : List UInt8 → List UInt8 → List (List UInt8)
  | cur, [] => [cur]
  | cur, c :: r => if c == 32 then cur :: splitL [] r else splitL (cur ++ [c]) r
def oneGo (s : List UInt8) : List UInt8 → List UInt8 → Bool
  | cur, [] => cur == s
  | cur, c :: r => if c == 32 then (cur == s) || oneGo s [] r else oneGo s (cur ++ [c]) r
def oneL (s v : List UInt8) : Bool := oneGo s [] v
theorem oneGo_split (s : List UInt8) : ∀ (v cur : List UInt8), oneGo s cur v = (splitL cur v).contains s
  | [], cur => by
    unfold oneGo splitL
    rw [BEq.comm (a := cur), List.contains_cons]
    simp only [List.contains_nil, Bool.or_false]
  | c :: r, cur => by
    unfold oneGo splitL
    by_cases h : (c == 32) = true
    · rw [if_pos h, if_pos h, List.contains_cons, oneGo_split s r []]
      rw [BEq.comm (a := cur)]
    · rw [if_neg h, if_neg h]
      exact oneGo_split s r _
theorem one_split (s v : List UInt8) : oneL s v = (splitL [] v).contains s := oneGo_split s v []

/-- What holds at the head of a round: the part of the words that is left decides. -/
def OneAt (s v : List UInt8) (a i : Nat) : Prop := (a ≤ i ∧ i ≤ v.length ∧ oneGo s ((v.take i).drop a) (v.drop i) = oneL s v) ∨ (i = v.length + 1 ∧ oneL s v = false)
theorem OneAt.start (s v : List UInt8) : OneAt s v 0 0 := .inl ⟨Nat.le_refl _, Nat.zero_le _, by simp [oneL]⟩
theorem OneAt.hit {s v : List UInt8} {a i : Nat} (h : OneAt s v a i) (hi : i ≤ v.length) (hc : i = v.length ∨ v[i]? = some 32) (he : (v.take i).drop a = s) : oneL s v = true := by
  rcases h with ⟨h1, h2, h3⟩ | ⟨h1, _⟩
  · rw [← h3]
    rcases hc with hc | hc
    · have : v.drop i = [] := by rw [hc]; simp
      rw [this]
      unfold oneGo
      rw [he]; simp
    · obtain ⟨hl, hg⟩ := List.getElem?_eq_some_iff.1 hc
      rw [List.drop_eq_getElem_cons hl, hg]
      unfold oneGo
      rw [he]; simp
  · omega
theorem OneAt.last {s v : List UInt8} {a i : Nat} (h : OneAt s v a i) (hi : i = v.length) (he : ¬ (v.take i).drop a = s) (b : Nat) : OneAt s v b (i + 1) := by
  rcases h with ⟨h1, h2, h3⟩ | ⟨h1, _⟩
  · refine .inr ⟨by omega, ?_⟩
    rw [← h3]
    have : v.drop i = [] := by rw [hi]; simp
    rw [this]
    unfold oneGo
    simpa using he
  · omega
theorem OneAt.blank {s v : List UInt8} {a i : Nat} (h : OneAt s v a i) (hc : v[i]? = some 32) (he : ¬ (v.take i).drop a = s) : OneAt s v (i + 1) (i + 1) := by
  obtain ⟨hl, hg⟩ := List.getElem?_eq_some_iff.1 hc
  rcases h with ⟨h1, h2, h3⟩ | ⟨h1, _⟩
  · refine .inl ⟨Nat.le_refl _, by omega, ?_⟩
    rw [← h3, List.drop_eq_getElem_cons hl, hg]
    have : (v.take (i + 1)).drop (i + 1) = [] := by simp
    rw [this]
    conv => rhs; unfold oneGo
    simp [he]
  · omega
theorem OneAt.sign {s v : List UInt8} {a i : Nat} (h : OneAt s v a i) {c : UInt8} (hc : v[i]? = some c) (h32 : ¬ c = 32) : OneAt s v a (i + 1) := by
  obtain ⟨hl, hg⟩ := List.getElem?_eq_some_iff.1 hc
  rcases h with ⟨h1, h2, h3⟩ | ⟨h1, _⟩
  · refine .inl ⟨by omega, by omega, ?_⟩
    rw [← h3, List.drop_eq_getElem_cons hl, hg]
    have : (v.take (i + 1)).drop a = (v.take i).drop a ++ [c] := by
      rw [List.take_succ_eq_append_getElem hl, hg, List.drop_append_of_le_length (by rw [List.length_take]; omega)]
    rw [this]
    conv => rhs; unfold oneGo
    simp [h32]
  · omega
theorem OneAt.none {s v : List UInt8} {a i : Nat} (h : OneAt s v a i) (hi : ¬ i ≤ v.length) : oneL s v = false := by
  rcases h with ⟨h1, h2, h3⟩ | ⟨_, h⟩
  · omega
  · exact h
theorem OneAt.le {s v : List UInt8} {a i : Nat} (h : OneAt s v a i) (hi : i ≤ v.length) : a ≤ i := by
  rcases h with ⟨h1, _, _⟩ | ⟨h1, _⟩
  · exact h1
  · omega
theorem OneAt.bound {s v : List UInt8} {a i : Nat} (h : OneAt s v a i) : i ≤ v.length + 1 := by
  rcases h with ⟨h1, _, _⟩ | ⟨h1, _⟩ <;> omega
theorem cut_list (v : ByteArray) (a i : Nat) : (v.extract a i).toList = (v.toList.take i).drop a := by
  rw [tl, tl, Lib.extract_data]
  first
    | rfl
    | (rw [List.take_drop]; congr 1; omega)
    | simp [List.drop_take]

set_option maxHeartbeats 4000000 in
set_option maxRecDepth 100000 in
theorem one_any (s v : ByteArray) (w : World) (hv : v.size ≤ 1000000) :
    Calls Try.prog 41 #[.string s, .string v] w fun e w' => e = .returned (.bool (oneL s.toList v.toList)) ∧ w = w' := by
  have HV := Lib.hid (tl_len v)
  go_enter Try.func41, Try.ntmps41
  go_wp2
  go_loop [5, 6] (fun a i => ∃ ka ki : Nat, a = .int .i64 ka ∧ i = .int .i64 ki ∧ Hid (OneAt s.toList v.toList ka ki) ∧ ki ≤ v.size + 1) (fun _ i => v.size + 1 - (intOf i).toNat)
  case atStart => exact ⟨0, 0, rfl, rfl, Lib.hid (OneAt.start _ _), by omega⟩
  case round =>
    obtain ⟨ka, ki, rfl, rfl, HA, hki⟩ := hrel
    by_cases hle : ki ≤ v.size
    · have hak : ka ≤ ki := HA.out.le (by rw [HV.out]; exact hle)
      have hcut := cut_list v ka ki
      by_cases hend : ki = v.size
      · have hend1 : ((ki : Int) == (v.size : Int)) = true := beq_iff_eq.2 (by omega)
        have HE := Lib.hid hend
        clear hend
        by_cases heq : (v.toList.take ki).drop ka = s.toList
        · have hb : ((v.toList.take ki).drop ka == s.toList) = true := beq_iff_eq.2 heq
          have HR := Lib.hid (HA.out.hit (by rw [HV.out]; exact hle) (.inl (by rw [HV.out]; exact HE.out)) heq)
          clear heq
          go_wp2
          go_ret
          exact ⟨ret_bool HR.out.symm, rfl⟩
        · have hb : ((v.toList.take ki).drop ka == s.toList) = false := beq_eq_false_iff_ne.2 heq
          have HR := Lib.hid (HA.out.last (by rw [HV.out]; exact HE.out) heq (ki + 1))
          clear heq
          go_wp2
          go_round
          case rel => exact ⟨ki + 1, ki + 1, by go_num, by go_num, HR, by omega⟩
          case measure => simp [intOf]; omega
      · have hlt : ki < v.size := by omega
        have hend1 : ((ki : Int) == (v.size : Int)) = false := beq_eq_false_iff_ne.2 (by omega)
        have hg := tl_get v ki hlt
        by_cases h32 : v[ki] = 32
        · have hc1 : ((v[ki].toNat : Int) == 32) = true := by rw [h32]; rfl
          rw [h32] at hg
          have HG := Lib.hid hg
          clear hg h32 hend
          by_cases heq : (v.toList.take ki).drop ka = s.toList
          · have hb : ((v.toList.take ki).drop ka == s.toList) = true := beq_iff_eq.2 heq
            have HR := Lib.hid (HA.out.hit (by rw [HV.out]; exact hle) (.inr HG.out) heq)
            clear heq
            go_wp2
            go_ret
            exact ⟨ret_bool HR.out.symm, rfl⟩
          · have hb : ((v.toList.take ki).drop ka == s.toList) = false := beq_eq_false_iff_ne.2 heq
            have HR := Lib.hid (HA.out.blank HG.out heq)
            clear heq
            go_wp2
            go_round
            case rel => exact ⟨ki + 1, ki + 1, by go_num, by go_num, HR, by omega⟩
            case measure => simp [intOf]; omega
        · have hc1 : ((v[ki].toNat : Int) == 32) = false := beq_eq_false_iff_ne.2 (fun e => h32 (by
            apply UInt8.toNat_inj.1
            have : (32 : UInt8).toNat = 32 := rfl
            omega))
          have HR := Lib.hid (HA.out.sign hg h32)
          clear hg h32 hend
          go_wp2
          go_round
          case rel => exact ⟨ka, ki + 1, by go_num, by go_num, HR, by omega⟩
          case measure => simp [intOf]; omega
    · have HR := Lib.hid (HA.out.none (by rw [HV.out]; exact hle))
      go_wp2
      go_ret
      exact ⟨ret_bool HR.out.symm, rfl⟩
end Go.Proofs.Ytioeagadhnnajaa
