/- Plain facts on lists of attributes: right lists have no name twice; what is got behind setting and removing. -/
import Derived.Test.YtmofeddldcifbaaAttrRem
namespace Go.Proofs.Ytmofeddldcifbaa
def keyA (x : ByteArray × ByteArray) : List UInt8 := x.1.toList
def fineA (x : ByteArray × ByteArray) : Prop := rightL (keyA x) = true ∧ smallL (keyA x) = keyA x ∧ x.2.size ≤ 200
def lookA (L : AL) (k : List UInt8) : Option ByteArray := (L.find? (keyIs k)).map (·.2)
theorem keyIs_iff {n : List UInt8} {x : ByteArray × ByteArray} : keyIs n x = true ↔ keyA x = n := by unfold keyIs keyA; simp
theorem atN_get (L : AL) (n : List UInt8) : L[atN L n]? = L.find? (keyIs n) := by
  unfold atN
  induction L with
  | nil => rfl
  | cons x r ih =>
    by_cases h : keyIs n x = true
    · rw [List.findIdx_cons, List.find?_cons]; simp [h]
    · rw [List.findIdx_cons, List.find?_cons]; simp [h, ih]
theorem nodup_at (L : AL) : (∀ (k : Nat) x, L[k]? = some x → atN L (keyA x) = k) ↔ (L.map keyA).Nodup := by
  unfold List.Nodup
  rw [List.pairwise_iff_getElem]
  constructor
  · intro h i j hi hj hij he
    simp only [List.length_map] at hi hj
    simp only [List.getElem_map] at he
    have h1 := h i _ (List.getElem?_eq_getElem hi)
    have h2 := h j _ (List.getElem?_eq_getElem hj)
    rw [he] at h1
    omega
  · intro h k x hx
    obtain ⟨hl, hg⟩ := List.getElem?_eq_some_iff.1 hx
    have hle : atN L (keyA x) ≤ k := by
      rcases Nat.lt_or_ge k (atN L (keyA x)) with h1 | h1
      · have := List.not_of_lt_findIdx h1
        rw [hg, keyIs_iff.2 rfl] at this
        cases this
      · exact h1
    rcases Nat.lt_or_ge (atN L (keyA x)) k with h1 | h1
    · have hl1 : atN L (keyA x) < L.length := by omega
      have h2 : keyIs (keyA x) (L[atN L (keyA x)]'hl1) = true := List.findIdx_getElem (w := hl1)
      have h3 := h (atN L (keyA x)) k (by simpa using hl1) (by simpa using hl) h1
      simp only [List.getElem_map] at h3
      rw [keyIs_iff.1 h2, hg] at h3
      exact absurd rfl h3
    · omega
theorem right_iff (L : AL) : rightA L = true ↔ L.length ≤ 40 ∧ (∀ x ∈ L, fineA x) ∧ (L.map keyA).Nodup := by
  rw [rightA_iff, ← nodup_at]
  constructor
  · rintro ⟨h1, h2⟩
    refine ⟨h1, fun x hx => ?_, fun k x hx => ?_⟩
    · obtain ⟨k, hk, he⟩ := List.mem_iff_getElem.1 hx
      have := h2 k x (by rw [List.getElem?_eq_getElem hk, he])
      unfold okAt at this
      simp at this
      exact ⟨this.1.1.1, this.1.1.2, this.1.2⟩
    · have := h2 k x hx
      unfold okAt at this
      simp at this
      exact this.2
  · rintro ⟨h1, h2, h3⟩
    refine ⟨h1, fun k x hx => ?_⟩
    obtain ⟨f1, f2, f3⟩ := h2 x (List.mem_of_getElem? hx)
    have f4 := h3 k x hx
    unfold keyA at *
    unfold okAt
    rw [f1, f2, decide_eq_true f3, decide_eq_true f4]
    simp
theorem place_none {L : AL} {n : List UInt8} (h : ¬ placeA L n < L.length) : ∀ x ∈ L, keyA x ≠ smallL n := by
  intro x hx he
  have : atN L (smallL n) < L.length := List.findIdx_lt_length_of_exists ⟨x, hx, keyIs_iff.2 he⟩
  exact h this
theorem has_iff (L : AL) (n : List UInt8) : hasA L n = (rightA L && rightL n && (lookA L (smallL n)).isSome) := by
  unfold hasA
  congr 1
  have h := atN_get L (smallL n)
  unfold lookA
  rw [← h]
  unfold placeA
  by_cases hp : atN L (smallL n) < L.length
  · rw [decide_eq_true hp, List.getElem?_eq_getElem hp]; rfl
  · rw [decide_eq_false hp, List.getElem?_eq_none (by omega)]; rfl
theorem val_iff (L : AL) (n : List UInt8) : valA L n = if hasA L n then (lookA L (smallL n)).getD (ofL []) else ofL [] := by
  unfold valA
  by_cases h : hasA L n = true
  · rw [if_pos h, if_pos h]
    unfold lookA
    rw [← atN_get]
    have hp := (hasA_right h).2.2
    unfold placeA at *
    rw [List.getElem?_eq_getElem hp]
    rfl
  · rw [if_neg h, if_neg h]
theorem set_parts {L : AL} {n : List UInt8} {v : ByteArray} (h : setE L n v = 0) : rightA L = true ∧ rightL n = true ∧ longA L n v = false := by
  unfold setE at h
  by_cases h1 : rightA L = true
  · rw [if_pos h1] at h
    by_cases h2 : rightL n = true
    · rw [if_pos h2] at h
      by_cases h3 : longA L n v = true
      · rw [if_pos h3] at h; cases h
      · exact ⟨h1, h2, by simpa using h3⟩
    · rw [if_neg h2] at h; cases h
  · rw [if_neg h1] at h; cases h
theorem setA_eq {L : AL} {n : List UInt8} {v : ByteArray} (h : setE L n v = 0) : setA L n v = setL L n v := by unfold setA; rw [if_pos h]
theorem setA_ne {L : AL} {n : List UInt8} {v : ByteArray} (h : ¬ setE L n v = 0) : setA L n v = L := by unfold setA; rw [if_neg h]
theorem key_ofL (k : List UInt8) (v : ByteArray) : keyA (ofL k, v) = k := toList_ofL k
theorem set_keys {L : AL} {n : List UInt8} (v : ByteArray) (hp : placeA L n < L.length) : (L.set (placeA L n) (ofL (smallL n), v)).map keyA = L.map keyA := by
  obtain ⟨x, hx, hk⟩ := place_key hp
  obtain ⟨hl, hg⟩ := List.getElem?_eq_some_iff.1 hx
  rw [List.map_set, key_ofL]
  apply List.ext_getElem (by simp)
  intro i h1 h2
  by_cases e : placeA L n = i
  · subst e
    simp [hg]
    rw [show keyA x = x.1.toList from rfl, hk, toList_ofL]
  · simp [e]
theorem setL_right {L : AL} {n : List UInt8} {v : ByteArray} (h : setE L n v = 0) : rightA (setL L n v) = true := by
  obtain ⟨h1, h2, h3⟩ := set_parts h
  obtain ⟨g1, g2, g3⟩ := (right_iff L).1 h1
  have hf : fineA (ofL (smallL n), v) := by
    refine ⟨by rw [key_ofL, right_small]; exact h2, by rw [key_ofL, smallL_twice], ?_⟩
    unfold longA at h3
    simp at h3
    show v.size ≤ 200
    omega
  rw [right_iff]
  unfold setL
  by_cases hp : placeA L n < L.length
  · rw [if_pos hp]
    refine ⟨by rw [List.length_set]; exact g1, fun x hx => ?_, by rw [set_keys v hp]; exact g3⟩
    rcases List.mem_or_eq_of_mem_set hx with hx | rfl
    · exact g2 x hx
    · exact hf
  · rw [if_neg hp]
    have h40 : L.length < 40 := by
      unfold longA at h3
      simp at h3
      omega
    refine ⟨by rw [List.length_append]; simp; omega, fun x hx => ?_, ?_⟩
    · rcases List.mem_append.1 hx with hx | hx
      · exact g2 x hx
      · simp at hx; subst hx; exact hf
    · rw [List.map_append, List.nodup_append]
      refine ⟨g3, by simp, fun a ha b hb => ?_⟩
      simp at hb
      subst hb
      obtain ⟨x, hx, rfl⟩ := List.mem_map.1 ha
      rw [show keyA (ofL (smallL n), v) = smallL n from key_ofL _ _]
      exact place_none hp x hx
theorem look_set_same {L : AL} {n : List UInt8} (v : ByteArray) : lookA (setL L n v) (smallL n) = some v := by
  unfold setL lookA
  have hk : keyIs (smallL n) (ofL (smallL n), v) = true := keyIs_iff.2 (key_ofL _ _)
  by_cases hp : placeA L n < L.length
  · rw [if_pos hp, ← atN_get]
    have : atN (L.set (placeA L n) (ofL (smallL n), v)) (smallL n) = placeA L n := by
      refine atN_here ?_ (x := (ofL (smallL n), v)) (by rw [List.getElem?_set_self hp]) hk
      rcases Nat.lt_or_ge (atN (L.set (placeA L n) (ofL (smallL n), v)) (smallL n)) (placeA L n) with h1 | h1
      · have hl : atN (L.set (placeA L n) (ofL (smallL n), v)) (smallL n) < (L.set (placeA L n) (ofL (smallL n), v)).length := by rw [List.length_set]; omega
        have h2 : keyIs (smallL n) ((L.set (placeA L n) (ofL (smallL n), v))[atN (L.set (placeA L n) (ofL (smallL n), v)) (smallL n)]'hl) = true := List.findIdx_getElem (w := hl)
        rw [List.getElem_set_ne (by omega)] at h2
        have h3 := List.not_of_lt_findIdx (xs := L) (p := keyIs (smallL n)) (i := atN (L.set (placeA L n) (ofL (smallL n), v)) (smallL n)) h1
        rw [h2] at h3
        cases h3
      · exact h1
    rw [this, List.getElem?_set_self hp]
    rfl
  · rw [if_neg hp, List.find?_append]
    have : L.find? (keyIs (smallL n)) = none := by
      rw [List.find?_eq_none]
      intro x hx h
      exact place_none hp x hx (keyIs_iff.1 h)
    rw [this]
    simp [hk]
theorem look_set_other {L : AL} {n k : List UInt8} (v : ByteArray) (hk : k ≠ smallL n) : lookA (setL L n v) k = lookA L k := by
  have hno : keyIs k (ofL (smallL n), v) = false := by
    by_cases h : keyIs k (ofL (smallL n), v) = true
    · have := keyIs_iff.1 h
      rw [key_ofL] at this
      exact absurd this.symm hk
    · simpa using h
  unfold setL lookA
  by_cases hp : placeA L n < L.length
  · rw [if_pos hp]
    obtain ⟨x, hx, hxk⟩ := place_key hp
    have hxno : keyIs k x = false := by
      by_cases h : keyIs k x = true
      · have := keyIs_iff.1 h
        rw [show keyA x = x.1.toList from rfl, hxk, toList_ofL] at this
        exact absurd this.symm hk
      · simpa using h
    generalize placeA L n = p at hp hx
    induction L generalizing p with
    | nil => simp at hx
    | cons y r ih =>
      cases p with
      | zero =>
        simp at hx; subst hx
        rw [List.set_cons_zero, List.find?_cons, List.find?_cons, hno, hxno]
      | succ p =>
        rw [List.set_cons_succ, List.find?_cons, List.find?_cons]
        by_cases hy : keyIs k y = true
        · simp [hy]
        · have hy : keyIs k y = false := by simpa using hy
          simp only [hy]
          exact ih p (by simpa using hp) (by simpa using hx)
  · rw [if_neg hp, List.find?_append]
    simp [hno]
theorem look_filter {L : AL} {n k : List UInt8} (hk : k ≠ smallL n) : lookA (L.filter (offQ n)) k = lookA L k := by
  unfold lookA
  rw [List.find?_filter]
  congr 2
  funext x
  unfold offQ
  by_cases h : keyIs k x = true
  · have h1 := keyIs_iff.1 h
    have h2 : keyIs (smallL n) x = false := by
      by_cases h2 : keyIs (smallL n) x = true
      · exact absurd (h1.symm.trans (keyIs_iff.1 h2)) hk
      · simpa using h2
    rw [h, h2]
    rfl
  · have h : keyIs k x = false := by simpa using h
    rw [h]
    simp
theorem filter_right {L : AL} (q : ByteArray × ByteArray → Bool) (h : rightA L = true) : rightA (L.filter q) = true := by
  obtain ⟨g1, g2, g3⟩ := (right_iff L).1 h
  rw [right_iff]
  refine ⟨Nat.le_trans (List.length_filter_le _ _) g1, fun x hx => g2 x (List.mem_filter.1 hx).1, ?_⟩
  exact List.Nodup.sublist (List.Sublist.map _ List.filter_sublist) g3
end Go.Proofs.Ytmofeddldcifbaa
