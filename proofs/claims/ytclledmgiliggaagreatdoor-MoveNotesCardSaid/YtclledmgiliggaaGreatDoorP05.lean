/- Texts joined in build order: NameWords NameKinds AttrRightFn AttrMath. -/
import Derived.Test.YtclledmgiliggaaGreatDoorP02
import Derived.Lib.Strings
import Derived.Lib.Slices
import Derived.Lib.Walk
import Derived.Test.YtclledmgiliggaaGreatDoorP03
namespace Go.Proofs.YtclledmgiliggaaGreatDoor
open Go.RowKit
set_option maxHeartbeats 1000000 in
set_option maxRecDepth 100000 in
theorem indexByte_any (s : ByteArray) (c : Int) (w : World) :
    Calls Tryz.prog 172 #[.string s, .int .u8 c] w fun e w' => e = .returned (.int .i64 (Lib.indexByte s.data.toList c.toNat.toUInt8)) ∧ w' = w := by
  go_enter Tryz.func172, Tryz.ntmps172
  go_wp2
  rw [run_callFunc_extern Tryz.func176 (by kernel_rfl) (by kernel_rfl) (by kernel_rfl) (e := Extern.BytealgIndexByte.indexByte) (by kernel_rfl), Lib.run_indexByteString]
  simp only [Result.andThen]
  rw [Oper.upon_value]
  go_wp2
  go_ret
  exact ⟨rfl, rfl⟩
theorem has_indexByte (c : UInt8) : ∀ l : List UInt8, l.contains c = decide (0 ≤ Lib.indexByte l c)
  | [] => by simp [Lib.indexByte]
  | b :: l => by
    have ih := has_indexByte c l
    have hg := Lib.indexByte_ge l c
    unfold Lib.indexByte
    rw [List.contains_cons, ih]
    by_cases h : b = c
    · subst h; simp
    · have h1 : (c == b) = false := by simp; exact fun e => h e.symm
      have h2 : (b == c) = false := by simp [h]
      rw [h1, h2]
      by_cases h3 : Lib.indexByte l c = -1
      · simp [h3]
      · have h4 : (Lib.indexByte l c == -1) = false := by simp [h3]
        simp only [h4, Bool.false_or, Bool.false_eq_true, if_false]
        rw [decide_eq_decide]
        omega
set_option maxHeartbeats 2000000 in
set_option maxRecDepth 100000 in
theorem dash_any (s : ByteArray) (w : World) :
    Calls Tryz.prog 157 #[.string s, .string ⟨#[45]⟩] w fun e w' => e = .returned (.bool (dashL s.toList)) ∧ w = w' := by
  go_enter Tryz.func157, Tryz.ntmps157
  go_wp2_with (first | (go_at_call 172; refine (indexByte_any _ _ _).mono ?_; rintro e w' ⟨rfl, rfl⟩) | go_in)
  · have h : ([45] == s.toList) = true := by assumption
    go_ret
    refine ⟨ret_bool ?_, rfl⟩
    have e : s.toList = [45] := (beq_iff_eq.1 h).symm
    rw [e]; rfl
  · go_ret
    refine ⟨ret_bool ?_, rfl⟩
    unfold dashL
    rw [has_indexByte, tl]
    rfl
set_option maxHeartbeats 1000000 in
theorem reserved_any (s : ByteArray) (w : World) :
    Calls Tryz.prog 158 #[.string s] w fun e w' => e = .returned (.bool (reservedL s.toList)) ∧ w = w' := by
  go_enter Tryz.func158, Tryz.ntmps158
  go_wp2
  all_goals (go_ret; exact ⟨ret_bool (by unfold reservedL; simp_all), rfl⟩)
end Go.Proofs.YtclledmgiliggaaGreatDoor
namespace Go.Proofs.YtclledmgiliggaaGreatDoor
open Go.RowKit
theorem headD_get (s : ByteArray) (h : 0 < s.size) : s.toList.headD 0 = s[0] := by
  have := tl_get s 0 h
  cases e : s.toList with
  | nil => rw [e] at this; simp at this
  | cons b r => rw [e] at this; simpa using this
theorem rightL_pos (s : ByteArray) (h : rightL s.toList = true) : 0 < s.size := by
  by_cases h0 : 0 < s.size
  · exact h0
  · rw [rightL_ends _ (by rw [tl_len]; omega)] at h
    cases h
theorem customL_no (l : List UInt8) (h : rightL l = false) : customL l = false := by unfold customL; rw [h]; rfl
theorem customL_eq (s : ByteArray) (h : rightL s.toList = true) (hp : 0 < s.size) :
    customL s.toList = ((smallL s.toList == s.toList) && lowI (s[0].toNat : Int) && dashL s.toList && !reservedL s.toList) := by
  unfold customL
  rw [h, headD_get s hp, Bool.true_and]
set_option maxHeartbeats 2000000 in
theorem custom_any (s : ByteArray) (w : World) (hs : s.size ≤ maxLen) :
    Calls Tryz.prog 144 #[.string s] w fun e w' => e = .returned (.bool (customL s.toList)) ∧ Below w.heap.size w w' := by
  have HB : Below w.heap.size w w := Below.refl _ _
  by_cases hr : rightL s.toList = true
  · have hp := rightL_pos s hr
    have HC := Lib.hid (customL_eq s hr hp)
    go_enter Tryz.func144, Tryz.ntmps144
    go_wp2_with (first
      | (go_at_call 122; refine (right_any _ _ hs).mono ?_; rintro e w' ⟨rfl, rfl⟩)
      | (go_at_call 121; refine (small_any _ _ hs).mono ?_; rintro e w' ⟨rfl, hb⟩; have HB := HB.trans (hb.mono HB.size); clear hb)
      | (go_at_call 156; refine (isSmall_any _ _).mono ?_; rintro e w' ⟨rfl, rfl⟩)
      | (go_at_call 157; refine (dash_any _ _).mono ?_; rintro e w' ⟨rfl, rfl⟩)
      | (go_at_call 158; refine (reserved_any _ _).mono ?_; rintro e w' ⟨rfl, rfl⟩))
    all_goals (go_ret; exact ⟨ret_bool (by rw [HC.out]; simp [*]), by assumption⟩)
  · have hr' : rightL s.toList = false := by simpa using hr
    have HC := Lib.hid (customL_no _ hr')
    clear hr
    go_enter Tryz.func144, Tryz.ntmps144
    go_wp2_with (go_at_call 122; refine (right_any _ _ hs).mono ?_; rintro e w' ⟨rfl, rfl⟩)
    go_ret
    exact ⟨ret_bool HC.out.symm, HB⟩
end Go.Proofs.YtclledmgiliggaaGreatDoor
namespace Go.Proofs.YtclledmgiliggaaGreatDoor
open Go.RowKit Go.Maps Go.WideMaps
theorem right_first {L : AL} (h : rightA L = true) : firstK L L.length := fun j x _ hx => by
  have := ((rightA_iff L).1 h).2 j x hx
  rw [okAt_eq] at this
  simp at this
  exact this.2
theorem placesRight_any (a : Option Addr) (len cap : Nat) (L : AL) (w : World) (h : AttrRow w a len cap L) (hr : rightA L = true) :
    Calls Tryz.prog 146 #[.slice a len cap] w fun e w' => ∃ b, e = .returned (.tuple #[.map (some b), .bool true]) ∧ w.heap.size ≤ b ∧ ownsPl w' b L.length (plD L L.length) ∧ Below w.heap.size w w' :=
  (places_any a len cap L w h).mono fun e w' hp => by
    unfold PlacesPost at hp
    rw [hr] at hp
    exact hp
theorem placesWrong_any (a : Option Addr) (len cap : Nat) (L : AL) (w : World) (h : AttrRow w a len cap L) (hr : rightA L = false) :
    Calls Tryz.prog 146 #[.slice a len cap] w fun e w' => e = .returned (.tuple #[.map none, .bool false]) ∧ Below w.heap.size w w' :=
  (places_any a len cap L w h).mono fun e w' hp => by
    unfold PlacesPost at hp
    rw [hr] at hp
    exact hp
theorem right_any' (a : Option Addr) (len cap : Nat) (L : AL) (w : World) (h : AttrRow w a len cap L) :
    Calls Tryz.prog 145 #[.slice a len cap] w fun e w' => e = .returned (.bool (rightA L)) ∧ Below w.heap.size w w' := by
  by_cases hr : rightA L = true
  · have C1 := Lib.hid (placesRight_any a len cap L w h hr)
    rw [hr]
    clear h hr
    go_enter Tryz.func145, Tryz.ntmps145
    go_wp2_with (first
      | (go_at_call 146; refine C1.out.mono ?_; rintro e w' ⟨b, rfl, _, _, HB⟩))
    go_ret
    exact ⟨rfl, HB⟩
  · have hr : rightA L = false := by simpa using hr
    have C1 := Lib.hid (placesWrong_any a len cap L w h hr)
    rw [hr]
    clear h hr
    go_enter Tryz.func145, Tryz.ntmps145
    go_wp2_with (first
      | (go_at_call 146; refine C1.out.mono ?_; rintro e w' ⟨rfl, HB⟩))
    go_ret
    exact ⟨rfl, HB⟩
end Go.Proofs.YtclledmgiliggaaGreatDoor
namespace Go.Proofs.YtclledmgiliggaaGreatDoor
def keyA (x : ByteArray × ByteArray) : List UInt8 := x.1.toList
def fineA (x : ByteArray × ByteArray) : Prop := rightL (keyA x) = true ∧ smallL (keyA x) = keyA x ∧ x.2.size ≤ 200
def lookA (L : AL) (k : List UInt8) : Option ByteArray := (L.find? (keyIs k)).map (·.2)
theorem keyIs_iff {n : List UInt8} {x : ByteArray × ByteArray} : keyIs n x = true ↔ keyA x = n := by unfold keyIs keyA; simp
theorem atN_get (L : AL) (n : List UInt8) : L[atN L n]? = L.find? (keyIs n) := by
  unfold atN
  induction L with
  | nil => rfl
  | cons x r ih =>
    by_cases h : keyIs n x = true
    · rw [List.findIdx_cons, List.find?_cons]; simp [h]
    · rw [List.findIdx_cons, List.find?_cons]; simp [h, ih]
theorem nodup_at (L : AL) : (∀ (k : Nat) x, L[k]? = some x → atN L (keyA x) = k) ↔ (L.map keyA).Nodup := by
  unfold List.Nodup
  rw [List.pairwise_iff_getElem]
  constructor
  · intro h i j hi hj hij he
    simp only [List.length_map] at hi hj
    simp only [List.getElem_map] at he
    have h1 := h i _ (List.getElem?_eq_getElem hi)
    have h2 := h j _ (List.getElem?_eq_getElem hj)
    rw [he] at h1
    omega
  · intro h k x hx
    obtain ⟨hl, hg⟩ := List.getElem?_eq_some_iff.1 hx
    have hle : atN L (keyA x) ≤ k := by
      rcases Nat.lt_or_ge k (atN L (keyA x)) with h1 | h1
      · have := List.not_of_lt_findIdx h1
        rw [hg, keyIs_iff.2 rfl] at this
        cases this
      · exact h1
    rcases Nat.lt_or_ge (atN L (keyA x)) k with h1 | h1
    · have hl1 : atN L (keyA x) < L.length := by omega
      have h2 : keyIs (keyA x) (L[atN L (keyA x)]'hl1) = true := List.findIdx_getElem (w := hl1)
      have h3 := h (atN L (keyA x)) k (by simpa using hl1) (by simpa using hl) h1
      simp only [List.getElem_map] at h3
      rw [keyIs_iff.1 h2, hg] at h3
      exact absurd rfl h3
    · omega
theorem right_iff (L : AL) : rightA L = true ↔ L.length ≤ 40 ∧ (∀ x ∈ L, fineA x) ∧ (L.map keyA).Nodup := by
  rw [rightA_iff, ← nodup_at]
  constructor
  · rintro ⟨h1, h2⟩
    refine ⟨h1, fun x hx => ?_, fun k x hx => ?_⟩
    · obtain ⟨k, hk, he⟩ := List.mem_iff_getElem.1 hx
      have := h2 k x (by rw [List.getElem?_eq_getElem hk, he])
      unfold okAt at this
      simp at this
      exact ⟨this.1.1.1, this.1.1.2, this.1.2⟩
    · have := h2 k x hx
      unfold okAt at this
      simp at this
      exact this.2
  · rintro ⟨h1, h2, h3⟩
    refine ⟨h1, fun k x hx => ?_⟩
    obtain ⟨f1, f2, f3⟩ := h2 x (List.mem_of_getElem? hx)
    have f4 := h3 k x hx
    unfold keyA at *
    unfold okAt
    rw [f1, f2, decide_eq_true f3, decide_eq_true f4]
    simp
theorem place_none {L : AL} {n : List UInt8} (h : ¬ placeA L n < L.length) : ∀ x ∈ L, keyA x ≠ smallL n := by
  intro x hx he
  have : atN L (smallL n) < L.length := List.findIdx_lt_length_of_exists ⟨x, hx, keyIs_iff.2 he⟩
  exact h this
theorem has_iff (L : AL) (n : List UInt8) : hasA L n = (rightA L && rightL n && (lookA L (smallL n)).isSome) := by
  unfold hasA
  congr 1
  have h := atN_get L (smallL n)
  unfold lookA
  rw [← h]
  unfold placeA
  by_cases hp : atN L (smallL n) < L.length
  · rw [decide_eq_true hp, List.getElem?_eq_getElem hp]; rfl
  · rw [decide_eq_false hp, List.getElem?_eq_none (by omega)]; rfl
theorem val_iff (L : AL) (n : List UInt8) : valA L n = if hasA L n then (lookA L (smallL n)).getD (ofL []) else ofL [] := by
  unfold valA
  by_cases h : hasA L n = true
  · rw [if_pos h, if_pos h]
    unfold lookA
    rw [← atN_get]
    have hp := (hasA_right h).2.2
    unfold placeA at *
    rw [List.getElem?_eq_getElem hp]
    rfl
  · rw [if_neg h, if_neg h]
theorem set_parts {L : AL} {n : List UInt8} {v : ByteArray} (h : setE L n v = 0) : rightA L = true ∧ rightL n = true ∧ longA L n v = false := by
  unfold setE at h
  by_cases h1 : rightA L = true
  · rw [if_pos h1] at h
    by_cases h2 : rightL n = true
    · rw [if_pos h2] at h
      by_cases h3 : longA L n v = true
      · rw [if_pos h3] at h; cases h
      · exact ⟨h1, h2, by simpa using h3⟩
    · rw [if_neg h2] at h; cases h
  · rw [if_neg h1] at h; cases h
theorem setA_eq {L : AL} {n : List UInt8} {v : ByteArray} (h : setE L n v = 0) : setA L n v = setL L n v := by unfold setA; rw [if_pos h]
theorem setA_ne {L : AL} {n : List UInt8} {v : ByteArray} (h : ¬ setE L n v = 0) : setA L n v = L := by unfold setA; rw [if_neg h]
theorem key_ofL (k : List UInt8) (v : ByteArray) : keyA (ofL k, v) = k := toList_ofL k
theorem set_keys {L : AL} {n : List UInt8} (v : ByteArray) (hp : placeA L n < L.length) : (L.set (placeA L n) (ofL (smallL n), v)).map keyA = L.map keyA := by
  obtain ⟨x, hx, hk⟩ := place_key hp
  obtain ⟨hl, hg⟩ := List.getElem?_eq_some_iff.1 hx
  rw [List.map_set, key_ofL]
  apply List.ext_getElem (by simp)
  intro i h1 h2
  by_cases e : placeA L n = i
  · subst e
    simp [hg]
    rw [show keyA x = x.1.toList from rfl, hk, toList_ofL]
  · simp [e]
theorem setL_right {L : AL} {n : List UInt8} {v : ByteArray} (h : setE L n v = 0) : rightA (setL L n v) = true := by
  obtain ⟨h1, h2, h3⟩ := set_parts h
  obtain ⟨g1, g2, g3⟩ := (right_iff L).1 h1
  have hf : fineA (ofL (smallL n), v) := by
    refine ⟨by rw [key_ofL, right_small]; exact h2, by rw [key_ofL, smallL_twice], ?_⟩
    unfold longA at h3
    simp at h3
    show v.size ≤ 200
    omega
  rw [right_iff]
  unfold setL
  by_cases hp : placeA L n < L.length
  · rw [if_pos hp]
    refine ⟨by rw [List.length_set]; exact g1, fun x hx => ?_, by rw [set_keys v hp]; exact g3⟩
    rcases List.mem_or_eq_of_mem_set hx with hx | rfl
    · exact g2 x hx
    · exact hf
  · rw [if_neg hp]
    have h40 : L.length < 40 := by
      unfold longA at h3
      simp at h3
      omega
    refine ⟨by rw [List.length_append]; simp; omega, fun x hx => ?_, ?_⟩
    · rcases List.mem_append.1 hx with hx | hx
      · exact g2 x hx
      · simp at hx; subst hx; exact hf
    · rw [List.map_append, List.nodup_append]
      refine ⟨g3, by simp, fun a ha b hb => ?_⟩
      simp at hb
      subst hb
      obtain ⟨x, hx, rfl⟩ := List.mem_map.1 ha
      rw [show keyA (ofL (smallL n), v) = smallL n from key_ofL _ _]
      exact place_none hp x hx
theorem look_set_same {L : AL} {n : List UInt8} (v : ByteArray) : lookA (setL L n v) (smallL n) = some v := by
  unfold setL lookA
  have hk : keyIs (smallL n) (ofL (smallL n), v) = true := keyIs_iff.2 (key_ofL _ _)
  by_cases hp : placeA L n < L.length
  · rw [if_pos hp, ← atN_get]
    have : atN (L.set (placeA L n) (ofL (smallL n), v)) (smallL n) = placeA L n := by
      refine atN_here ?_ (x := (ofL (smallL n), v)) (by rw [List.getElem?_set_self hp]) hk
      rcases Nat.lt_or_ge (atN (L.set (placeA L n) (ofL (smallL n), v)) (smallL n)) (placeA L n) with h1 | h1
      · have hl : atN (L.set (placeA L n) (ofL (smallL n), v)) (smallL n) < (L.set (placeA L n) (ofL (smallL n), v)).length := by rw [List.length_set]; omega
        have h2 : keyIs (smallL n) ((L.set (placeA L n) (ofL (smallL n), v))[atN (L.set (placeA L n) (ofL (smallL n), v)) (smallL n)]'hl) = true := List.findIdx_getElem (w := hl)
        rw [List.getElem_set_ne (by omega)] at h2
        have h3 := List.not_of_lt_findIdx (xs := L) (p := keyIs (smallL n)) (i := atN (L.set (placeA L n) (ofL (smallL n), v)) (smallL n)) h1
        rw [h2] at h3
        cases h3
      · exact h1
    rw [this, List.getElem?_set_self hp]
    rfl
  · rw [if_neg hp, List.find?_append]
    have : L.find? (keyIs (smallL n)) = none := by
      rw [List.find?_eq_none]
      intro x hx h
      exact place_none hp x hx (keyIs_iff.1 h)
    rw [this]
    simp [hk]
theorem look_set_other {L : AL} {n k : List UInt8} (v : ByteArray) (hk : k ≠ smallL n) : lookA (setL L n v) k = lookA L k := by
  have hno : keyIs k (ofL (smallL n), v) = false := by
    by_cases h : keyIs k (ofL (smallL n), v) = true
    · have := keyIs_iff.1 h
      rw [key_ofL] at this
      exact absurd this.symm hk
    · simpa using h
  unfold setL lookA
  by_cases hp : placeA L n < L.length
  · rw [if_pos hp]
    obtain ⟨x, hx, hxk⟩ := place_key hp
    have hxno : keyIs k x = false := by
      by_cases h : keyIs k x = true
      · have := keyIs_iff.1 h
        rw [show keyA x = x.1.toList from rfl, hxk, toList_ofL] at this
        exact absurd this.symm hk
      · simpa using h
    generalize placeA L n = p at hp hx
    induction L generalizing p with
    | nil => simp at hx
    | cons y r ih =>
      cases p with
      | zero =>
        simp at hx; subst hx
        rw [List.set_cons_zero, List.find?_cons, List.find?_cons, hno, hxno]
      | succ p =>
        rw [List.set_cons_succ, List.find?_cons, List.find?_cons]
        by_cases hy : keyIs k y = true
        · simp [hy]
        · have hy : keyIs k y = false := by simpa using hy
          simp only [hy]
          exact ih p (by simpa using hp) (by simpa using hx)
  · rw [if_neg hp, List.find?_append]
    simp [hno]
theorem look_filter {L : AL} {n k : List UInt8} (hk : k ≠ smallL n) : lookA (L.filter (offQ n)) k = lookA L k := by
  unfold lookA
  rw [List.find?_filter]
  congr 2
  funext x
  unfold offQ
  by_cases h : keyIs k x = true
  · have h1 := keyIs_iff.1 h
    have h2 : keyIs (smallL n) x = false := by
      by_cases h2 : keyIs (smallL n) x = true
      · exact absurd (h1.symm.trans (keyIs_iff.1 h2)) hk
      · simpa using h2
    rw [h, h2]
    rfl
  · have h : keyIs k x = false := by simpa using h
    rw [h]
    simp
theorem filter_right {L : AL} (q : ByteArray × ByteArray → Bool) (h : rightA L = true) : rightA (L.filter q) = true := by
  obtain ⟨g1, g2, g3⟩ := (right_iff L).1 h
  rw [right_iff]
  refine ⟨Nat.le_trans (List.length_filter_le _ _) g1, fun x hx => g2 x (List.mem_filter.1 hx).1, ?_⟩
  exact List.Nodup.sublist (List.Sublist.map _ List.filter_sublist) g3
end Go.Proofs.YtclledmgiliggaaGreatDoor
