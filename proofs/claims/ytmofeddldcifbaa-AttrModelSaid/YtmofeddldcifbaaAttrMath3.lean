/- Plain facts on lists of attributes: two unlike names may be set in either order; lists that are alike. -/
import Derived.Test.YtmofeddldcifbaaAttrMath2
import Derived.Test.YtmofeddldcifbaaAttrFns
namespace Go.Proofs.Ytmofeddldcifbaa
theorem place_look (L : AL) (n : List UInt8) : placeA L n < L.length ↔ (lookA L (smallL n)).isSome = true := by
  have h := atN_get L (smallL n)
  unfold lookA placeA
  rw [← h]
  by_cases hp : atN L (smallL n) < L.length
  · rw [List.getElem?_eq_getElem hp]; simp [hp]
  · rw [List.getElem?_eq_none (by omega)]; simp [hp]
theorem setL_len (L : AL) (n : List UInt8) (v : ByteArray) : (setL L n v).length = L.length + (if placeA L n < L.length then 0 else 1) := by
  unfold setL
  by_cases hp : placeA L n < L.length
  · rw [if_pos hp, if_pos hp, List.length_set]; rfl
  · rw [if_neg hp, if_neg hp, List.length_append]; rfl
theorem place_other {L : AL} {a b : List UInt8} (x : ByteArray) (h : smallL a ≠ smallL b) : placeA (setL L a x) b < (setL L a x).length ↔ placeA L b < L.length := by
  rw [place_look, place_look, look_set_other x (Ne.symm h)]
theorem long_iff (L : AL) (n : List UInt8) (v : ByteArray) : longA L n v = true ↔ 200 < v.size ∨ (¬ placeA L n < L.length ∧ 40 ≤ L.length) := by
  unfold longA
  simp
theorem setE_zero (L : AL) (n : List UInt8) (v : ByteArray) : setE L n v = 0 ↔ rightA L = true ∧ rightL n = true ∧ ¬ (200 < v.size ∨ (¬ placeA L n < L.length ∧ 40 ≤ L.length)) := by
  constructor
  · intro h
    obtain ⟨h1, h2, h3⟩ := set_parts h
    refine ⟨h1, h2, fun hl => ?_⟩
    rw [(long_iff L n v).2 hl] at h3
    cases h3
  · rintro ⟨h1, h2, h3⟩
    have : longA L n v = false := by
      by_cases h : longA L n v = true
      · exact absurd ((long_iff L n v).1 h) h3
      · simpa using h
    unfold setE
    rw [if_pos h1, if_pos h2, if_neg (by rw [this]; decide)]
theorem setE_three {L : AL} {n : List UInt8} {v : ByteArray} (h1 : rightA L = true) (h2 : rightL n = true) (h3 : 200 < v.size ∨ (¬ placeA L n < L.length ∧ 40 ≤ L.length)) : setE L n v = 3 := by
  unfold setE
  rw [if_pos h1, if_pos h2, if_pos ((long_iff L n v).2 h3)]
/-- If the first can't be set at once, it can't behind another one. -/
theorem order_first {L : AL} {a b : List UInt8} (x y : ByteArray) (h : smallL a ≠ smallL b) (he : ¬ setE L a x = 0) : ¬ setE (setA L b y) a x = 0 := by
  intro hh
  by_cases hg : setE L b y = 0
  · rw [setA_eq hg] at hh
    obtain ⟨g1, g2, g3⟩ := (setE_zero L b y).1 hg
    obtain ⟨k1, k2, k3⟩ := (setE_zero _ a x).1 hh
    rw [place_other y (Ne.symm h), setL_len] at k3
    apply he
    rw [setE_zero]
    refine ⟨g1, k2, fun hl => k3 ?_⟩
    rcases hl with hl | ⟨hl1, hl2⟩
    · exact .inl hl
    · refine .inr ⟨hl1, ?_⟩
      omega
  · rw [setA_ne hg] at hh
    exact he hh
theorem order_full {L : AL} {a b : List UInt8} {x y : ByteArray} (h : smallL a ≠ smallL b) (he : setE L a x = 0) (hg : setE L b y = 0) (hf : ¬ setE (setA L a x) b y = 0) :
    setE (setA L a x) b y = 3 ∧ setE (setA L b y) a x = 3 := by
  have r1 := setA_right he
  have r2 := setA_right hg
  rw [setA_eq he] at hf r1 ⊢
  rw [setA_eq hg] at r2 ⊢
  obtain ⟨e1, e2, e3⟩ := (setE_zero L a x).1 he
  obtain ⟨g1, g2, g3⟩ := (setE_zero L b y).1 hg
  have hfull : ¬ placeA L b < L.length ∧ 40 ≤ (setL L a x).length := by
    by_cases hc : 200 < y.size ∨ (¬ placeA (setL L a x) b < (setL L a x).length ∧ 40 ≤ (setL L a x).length)
    · rw [place_other x h] at hc
      rcases hc with hc | hc
      · exact absurd (.inl hc) g3
      · exact hc
    · exact absurd ((setE_zero _ b y).2 ⟨r1, g2, hc⟩) hf
  rw [setL_len] at hfull
  have hpa : ¬ placeA L a < L.length ∧ L.length = 39 := by
    by_cases hp : placeA L a < L.length
    · rw [if_pos hp] at hfull
      exact absurd (.inr ⟨hfull.1, hfull.2⟩) g3
    · rw [if_neg hp] at hfull
      refine ⟨hp, ?_⟩
      have : ¬ (40 ≤ L.length) := fun h40 => g3 (.inr ⟨hfull.1, h40⟩)
      omega
  refine ⟨setE_three r1 g2 (.inr ⟨by rw [place_other x h]; exact hfull.1, ?_⟩), setE_three r2 e2 (.inr ⟨by rw [place_other y (Ne.symm h)]; exact hpa.1, ?_⟩)⟩
  · rw [setL_len, if_neg hpa.1]; omega
  · rw [setL_len, if_neg hfull.1]; omega
theorem look_mem {L : AL} {x : ByteArray × ByteArray} (hr : rightA L = true) (hx : x ∈ L) : lookA L (keyA x) = some x.2 := by
  obtain ⟨k, hk, he⟩ := List.mem_iff_getElem.1 hx
  have hg : L[k]? = some x := by rw [List.getElem?_eq_getElem hk, he]
  have := (nodup_at L).2 ((right_iff L).1 hr).2.2 k x hg
  unfold lookA
  rw [← atN_get, this, hg]
  rfl
theorem pairIn_iff {M : AL} {x : ByteArray × ByteArray} : pairIn M x = true ↔ lookA M (keyA x) = some x.2 := by
  unfold pairIn lookA
  have e := atN_get M x.1.toList
  rw [e]
  show (match List.find? (keyIs (keyA x)) M with | some y => y.2.toList == x.2.toList | none => false) = true ↔ _
  cases List.find? (keyIs (keyA x)) M with
  | none => simp
  | some y =>
    simp
    constructor
    · intro h; exact toList_inj h
    · intro h; rw [h]
theorem alike_look {N P : AL} (hn : rightA N = true) (hp : rightA P = true) (hl : N.length = P.length) (h : ∀ k, lookA N k = lookA P k) : alikeA N P = true := by
  unfold alikeA
  rw [hn, hp, decide_eq_true hl]
  simp only [Bool.true_and]
  rw [List.all_eq_true]
  intro x hx
  rw [pairIn_iff, ← h]
  exact look_mem hn hx
theorem order_look {L : AL} {a b : List UInt8} (x y : ByteArray) (h : smallL a ≠ smallL b) (k : List UInt8) : lookA (setL (setL L a x) b y) k = lookA (setL (setL L b y) a x) k := by
  by_cases ha : k = smallL a
  · subst ha
    rw [look_set_other y h, look_set_same, look_set_same]
  · by_cases hb : k = smallL b
    · subst hb
      rw [look_set_same, look_set_other x (Ne.symm h), look_set_same]
    · rw [look_set_other y hb, look_set_other x ha, look_set_other x ha, look_set_other y hb]
theorem setL_len2 {L : AL} {a b : List UInt8} (x y : ByteArray) (h : smallL a ≠ smallL b) : (setL (setL L a x) b y).length = L.length + (if placeA L a < L.length then 0 else 1) + (if placeA L b < L.length then 0 else 1) := by
  have e : (if placeA (setL L a x) b < (setL L a x).length then 0 else 1) = (if placeA L b < L.length then 0 else 1) := by
    by_cases hb : placeA L b < L.length
    · rw [if_pos hb, if_pos ((place_other x h).2 hb)]
    · rw [if_neg hb, if_neg (fun k => hb ((place_other x h).1 k))]
  rw [setL_len (setL L a x) b y, e, setL_len L a x]
theorem order_len {L : AL} {a b : List UInt8} (x y : ByteArray) (h : smallL a ≠ smallL b) : (setL (setL L a x) b y).length = (setL (setL L b y) a x).length := by
  rw [setL_len2 x y h, setL_len2 y x (Ne.symm h)]
  omega
theorem order_alike {L : AL} {a b : List UInt8} {x y : ByteArray} (h : smallL a ≠ smallL b) (he : setE L a x = 0) (hf : setE (setA L a x) b y = 0) (hg : setE L b y = 0) (hh : setE (setA L b y) a x = 0) :
    alikeA (setA (setA L a x) b y) (setA (setA L b y) a x) = true ∧ alikeA (setA (setA L b y) a x) (setA (setA L a x) b y) = true := by
  have r1 := setA_right hf
  have r2 := setA_right hh
  rw [setA_eq hf, setA_eq he] at r1 ⊢
  rw [setA_eq hh, setA_eq hg] at r2 ⊢
  exact ⟨alike_look r1 r2 (order_len x y h) (order_look x y h), alike_look r2 r1 (order_len x y h).symm (fun k => (order_look x y h k).symm)⟩
end Go.Proofs.Ytmofeddldcifbaa
