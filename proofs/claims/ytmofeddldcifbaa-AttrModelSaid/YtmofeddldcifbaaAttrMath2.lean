/- More plain facts on lists of attributes: set twice, set and removed, set in either order. -/
import Derived.Test.YtmofeddldcifbaaAttrMath
namespace Go.Proofs.Ytmofeddldcifbaa
theorem setA_right {L : AL} {n : List UInt8} {v : ByteArray} (h : setE L n v = 0) : rightA (setA L n v) = true := by rw [setA_eq h]; exact setL_right h
theorem look_A_same {L : AL} {n : List UInt8} {v : ByteArray} (h : setE L n v = 0) : lookA (setA L n v) (smallL n) = some v := by rw [setA_eq h]; exact look_set_same v
theorem look_A_other {L : AL} {n k : List UInt8} {v : ByteArray} (h : setE L n v = 0) (hk : k ≠ smallL n) : lookA (setA L n v) k = lookA L k := by rw [setA_eq h]; exact look_set_other v hk
theorem back_has {L : AL} {n : List UInt8} {v : ByteArray} (h : setE L n v = 0) : hasA (setA L n v) n = true ∧ valA (setA L n v) n = v := by
  have h1 : hasA (setA L n v) n = true := by rw [has_iff, setA_right h, (set_parts h).2.1, look_A_same h]; rfl
  exact ⟨h1, by rw [val_iff, if_pos h1, look_A_same h]; rfl⟩
theorem back_small {L : AL} {n : List UInt8} {v : ByteArray} (h : setE L n v = 0) : hasA (setA L n v) (smallL n) = true ∧ valA (setA L n v) (smallL n) = v := by
  have h1 : hasA (setA L n v) (smallL n) = true := by rw [has_iff, setA_right h, right_small, (set_parts h).2.1, smallL_twice, look_A_same h]; rfl
  exact ⟨h1, by rw [val_iff, if_pos h1, smallL_twice, look_A_same h]; rfl⟩
theorem long_size {L : AL} {n : List UInt8} {v : ByteArray} (h : longA L n v = false) : v.size ≤ 200 := by
  unfold longA at h
  simp at h
  omega
theorem set_again {L : AL} {n : List UInt8} {v : ByteArray} (h : setE L n v = 0) : setE (setA L n v) n v = 0 ∧ setA (setA L n v) n v = setA L n v := by
  have hr := setA_right h
  have hp := (hasA_right (back_has h).1).2.2
  have hl : longA (setA L n v) n v = false := by
    unfold longA
    have := long_size (set_parts h).2.2
    rw [decide_eq_false (by omega), decide_eq_false (by omega)]
    rfl
  have he : setE (setA L n v) n v = 0 := by
    unfold setE
    rw [if_pos hr, if_pos (set_parts h).2.1, if_neg (by rw [hl]; decide)]
  refine ⟨he, ?_⟩
  rw [setA_eq he]
  unfold setL
  rw [if_pos hp]
  obtain ⟨x, hx, hk⟩ := place_key hp
  have hv := look_A_same h
  unfold lookA at hv
  rw [← atN_get] at hv
  unfold placeA at hx hp ⊢
  rw [hx] at hv
  simp at hv
  have : x = (ofL (smallL n), v) := Prod.ext hk hv
  rw [← this]
  obtain ⟨hl2, hg⟩ := List.getElem?_eq_some_iff.1 hx
  rw [← hg]
  exact List.set_getElem_self hl2
theorem filter_no {L : AL} {n : List UInt8} (h : ∀ x ∈ L, keyA x ≠ smallL n) : L.filter (offQ n) = L := by
  rw [List.filter_eq_self]
  intro x hx
  unfold offQ
  have : keyIs (smallL n) x = false := by
    by_cases hk : keyIs (smallL n) x = true
    · exact absurd (keyIs_iff.1 hk) (h x hx)
    · simpa using hk
  rw [this]
  rfl
theorem filter_one {L : AL} {n : List UInt8} (hn : (L.map keyA).Nodup) (h : ∃ x ∈ L, keyA x = smallL n) : (L.filter (offQ n)).length + 1 = L.length := by
  induction L with
  | nil => obtain ⟨x, hx, _⟩ := h; simp at hx
  | cons y r ih =>
    rw [List.map_cons, List.nodup_cons] at hn
    by_cases hy : keyA y = smallL n
    · have hno : ∀ x ∈ r, keyA x ≠ smallL n := by
        intro x hx he
        exact hn.1 (List.mem_map.2 ⟨x, hx, he.trans hy.symm⟩)
      have hq : offQ n y = false := by unfold offQ; rw [keyIs_iff.2 hy]; rfl
      rw [List.filter_cons, if_neg (by rw [hq]; decide), filter_no hno]
      rfl
    · have hq : offQ n y = true := by
        unfold offQ
        have : keyIs (smallL n) y = false := by
          by_cases hk : keyIs (smallL n) y = true
          · exact absurd (keyIs_iff.1 hk) hy
          · simpa using hk
        rw [this]; rfl
      rw [List.filter_cons, if_pos hq, List.length_cons, List.length_cons]
      have := ih hn.2 (by
        obtain ⟨x, hx, he⟩ := h
        rcases List.mem_cons.1 hx with rfl | hx
        · exact absurd he hy
        · exact ⟨x, hx, he⟩)
      omega
theorem has_mem {L : AL} {n : List UInt8} (h : hasA L n = true) : ∃ x ∈ L, keyA x = smallL n := by
  obtain ⟨x, hx, hk⟩ := place_key (hasA_right h).2.2
  exact ⟨x, List.mem_of_getElem? hx, by rw [show keyA x = x.1.toList from rfl, hk, toList_ofL]⟩
theorem back_len {L : AL} {n : List UInt8} {v : ByteArray} (h : setE L n v = 0) : (remA (setA L n v) n).length + 1 = (setA L n v).length := by
  have hh := (back_has h).1
  rw [remA_yes hh]
  exact filter_one ((right_iff _).1 (setA_right h)).2.2 (has_mem hh)
theorem back_rem {L : AL} {n : List UInt8} {v : ByteArray} (h : setE L n v = 0) (hn : hasA L n = false) : remA (setA L n v) n = L := by
  rw [remA_yes (back_has h).1, setA_eq h]
  have hp : ¬ placeA L n < L.length := by
    intro hp
    unfold hasA at hn
    rw [(set_parts h).1, (set_parts h).2.1, decide_eq_true hp] at hn
    cases hn
  unfold setL
  rw [if_neg hp, List.filter_append, filter_no (place_none hp)]
  have : offQ n (ofL (smallL n), v) = false := by unfold offQ; rw [keyIs_iff.2 (key_ofL _ _)]; rfl
  rw [List.filter_cons, if_neg (by rw [this]; decide)]
  simp
theorem other_M {L : AL} {n o : List UInt8} {v : ByteArray} (h : setE L n v = 0) (ho : smallL o ≠ smallL n) : hasA (setA L n v) o = hasA L o ∧ valA (setA L n v) o = valA L o := by
  have h1 : hasA (setA L n v) o = hasA L o := by rw [has_iff, has_iff, setA_right h, (set_parts h).1, look_A_other h ho]
  exact ⟨h1, by rw [val_iff, val_iff, h1, look_A_other h ho]⟩
theorem other_R {L : AL} {n o : List UInt8} {v : ByteArray} (h : setE L n v = 0) (ho : smallL o ≠ smallL n) : hasA (remA (setA L n v) n) o = hasA L o ∧ valA (remA (setA L n v) n) o = valA L o := by
  rw [remA_yes (back_has h).1]
  have h1 : hasA ((setA L n v).filter (offQ n)) o = hasA L o := by rw [has_iff, has_iff, filter_right _ (setA_right h), (set_parts h).1, look_filter ho, look_A_other h ho]
  exact ⟨h1, by rw [val_iff, val_iff, h1, look_filter ho, look_A_other h ho]⟩
end Go.Proofs.Ytmofeddldcifbaa
