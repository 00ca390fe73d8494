/- A list of attributes as a table of 26 names: places in order, a value each. Plain facts for the law AttrModel. -/
import Derived.Test.YtmofeddldcifbaaAttrMath3
namespace Go.Proofs.Ytmofeddldcifbaa
def letB (k : Nat) : UInt8 := UInt8.ofNat (97 + k)
def letN (k : Nat) : List UInt8 := [letB k]
def tabA (ks : List Nat) (vs : Nat → ByteArray) : AL := ks.map (fun k => (ofL (letN k), vs k))
def upd (vs : Nat → ByteArray) (k : Nat) (v : ByteArray) : Nat → ByteArray := fun j => if j = k then v else vs j
structure FineT (ks : List Nat) (vs : Nat → ByteArray) : Prop where
  nodup : ks.Nodup
  lt : ∀ k ∈ ks, k < 26
  short : ∀ k ∈ ks, (vs k).size ≤ 200
theorem letN_nat {k : Nat} (h : k < 26) : ((letB k).toNat : Int) = 97 + k := by
  have : (letB k).toNat = (97 + k) % 256 := by unfold letB; simp
  rw [this]
  omega
theorem letN_inj {j k : Nat} (hj : j < 26) (hk : k < 26) (h : letN j = letN k) : j = k := by
  unfold letN at h
  have h1 : letB j = letB k := by simpa using h
  have h2 := letN_nat hj
  have h3 := letN_nat hk
  rw [h1] at h2
  omega
theorem letN_small {k : Nat} (h : k < 26) : smallL (letN k) = letN k := by
  unfold smallL letN
  simp only [List.map_cons, List.map_nil]
  congr 1
  unfold smallB
  rw [if_neg]
  rw [letN_nat h]
  unfold capI
  simp
  omega
theorem letN_right {k : Nat} (h : k < 26) : rightL (letN k) = true := by
  unfold rightL letN
  have h1 : headB (letB k) = true := by
    unfold headB
    rw [letN_nat h]
    unfold headI alphI lowI
    simp
    omega
  rw [List.headD_cons, h1]
  simp [sign_of_head _ h1]
theorem tab_keys (ks : List Nat) (vs : Nat → ByteArray) : (tabA ks vs).map keyA = ks.map letN := by
  unfold tabA
  rw [List.map_map]
  exact List.map_congr_left (fun k _ => key_ofL _ _)
theorem nodup_map_letN : ∀ {ks : List Nat}, ks.Nodup → (∀ k ∈ ks, k < 26) → (ks.map letN).Nodup
  | [], _, _ => by simp
  | a :: ks, hn, hl => by
    rw [List.nodup_cons] at hn
    rw [List.map_cons, List.nodup_cons]
    refine ⟨fun h => ?_, nodup_map_letN hn.2 (fun k hk => hl k (by simp [hk]))⟩
    obtain ⟨j, hj, e⟩ := List.mem_map.1 h
    have := letN_inj (hl j (by simp [hj])) (hl a (by simp)) e
    subst this
    exact hn.1 hj
theorem len_of_nodup26 {ks : List Nat} (hn : ks.Nodup) (hl : ∀ k ∈ ks, k < 26) : ks.length ≤ 26 := by
  have key : ∀ (n : Nat) (l : List Nat), l.Nodup → (∀ k ∈ l, k < n) → l.length ≤ n := by
    intro n
    induction n with
    | zero =>
      intro l _ h
      cases l with
      | nil => simp
      | cons a r => exact absurd (h a (by simp)) (by omega)
    | succ n ih =>
      intro l hn h
      by_cases hm : n ∈ l
      · have h1 := ih (l.erase n) (hn.erase n) (fun k hk => by
          have h2 := h k (List.mem_of_mem_erase hk)
          have h3 : k ≠ n := fun e => by
            subst e
            exact (hn.not_mem_erase) hk
          omega)
        rw [List.length_erase_of_mem hm] at h1
        omega
      · have := ih l hn (fun k hk => by
          have h2 := h k hk
          have h3 : k ≠ n := fun e => hm (e ▸ hk)
          omega)
        omega
  exact key 26 ks hn hl
theorem tab_right {ks : List Nat} {vs : Nat → ByteArray} (h : FineT ks vs) : rightA (tabA ks vs) = true := by
  rw [right_iff]
  refine ⟨?_, fun x hx => ?_, by rw [tab_keys]; exact nodup_map_letN h.nodup h.lt⟩
  · have := len_of_nodup26 h.nodup h.lt
    unfold tabA
    rw [List.length_map]
    omega
  · obtain ⟨k, hk, rfl⟩ := List.mem_map.1 hx
    refine ⟨by rw [key_ofL]; exact letN_right (h.lt k hk), by rw [key_ofL]; exact letN_small (h.lt k hk), h.short k hk⟩
theorem tab_keyIs {j k : Nat} (hj : j < 26) (hk : k < 26) (v : ByteArray) : keyIs (letN k) (ofL (letN j), v) = decide (j = k) := by
  rw [Bool.eq_iff_iff, keyIs_iff, key_ofL, decide_eq_true_eq]
  exact ⟨fun e => letN_inj hj hk e, fun e => by rw [e]⟩
theorem tab_place {ks : List Nat} {vs : Nat → ByteArray} {k : Nat} (hl : ∀ j ∈ ks, j < 26) (hk : k < 26) : placeA (tabA ks vs) (letN k) = ks.findIdx (fun j => decide (j = k)) := by
  unfold placeA atN
  rw [letN_small hk]
  induction ks with
  | nil => rfl
  | cons a r ih =>
    unfold tabA at *
    rw [List.map_cons, List.findIdx_cons, List.findIdx_cons, tab_keyIs (hl a (by simp)) hk, ih (fun j hj => hl j (by simp [hj]))]
theorem tab_has {ks : List Nat} {vs : Nat → ByteArray} {k : Nat} (h : FineT ks vs) (hk : k < 26) : hasA (tabA ks vs) (letN k) = decide (k ∈ ks) := by
  unfold hasA
  rw [tab_right h, letN_right hk, Bool.true_and, Bool.true_and, decide_eq_decide, tab_place h.lt hk]
  unfold tabA
  rw [List.length_map, List.findIdx_lt_length]
  simp
theorem tab_setE {ks : List Nat} {vs : Nat → ByteArray} {k : Nat} {v : ByteArray} (h : FineT ks vs) (hk : k < 26) (hv : v.size ≤ 200) : setE (tabA ks vs) (letN k) v = 0 := by
  rw [setE_zero]
  refine ⟨tab_right h, letN_right hk, fun hh => ?_⟩
  have := len_of_nodup26 h.nodup h.lt
  unfold tabA at hh
  rw [List.length_map] at hh
  omega
theorem tab_set_map : ∀ {ks : List Nat} {vs : Nat → ByteArray} {k : Nat} (v : ByteArray), ks.Nodup → k ∈ ks → (tabA ks vs).set (ks.findIdx (fun j => decide (j = k))) (ofL (letN k), v) = tabA ks (upd vs k v)
  | [], _, _, _, _, hm => by simp at hm
  | a :: r, vs, k, v, hn, hm => by
    rw [List.nodup_cons] at hn
    unfold tabA
    rw [List.map_cons, List.map_cons, List.findIdx_cons]
    by_cases e : a = k
    · subst e
      simp only [decide_true, cond_true, List.set_cons_zero]
      have h1 : upd vs a v a = v := by unfold upd; rw [if_pos rfl]
      rw [h1]
      congr 1
      refine List.map_congr_left (fun j hj => ?_)
      have : j ≠ a := fun e => hn.1 (e ▸ hj)
      unfold upd
      rw [if_neg this]
    · have h2 : k ∈ r := by
        rcases List.mem_cons.1 hm with h | h
        · exact absurd h.symm e
        · exact h
      simp only [decide_eq_false e, cond_false, List.set_cons_succ]
      have h1 : upd vs k v a = vs a := by unfold upd; rw [if_neg e]
      rw [h1]
      congr 1
      exact tab_set_map v hn.2 h2
theorem tab_set {ks : List Nat} {vs : Nat → ByteArray} {k : Nat} {v : ByteArray} (h : FineT ks vs) (hk : k < 26) (hv : v.size ≤ 200) :
    setA (tabA ks vs) (letN k) v = tabA (if k ∈ ks then ks else ks ++ [k]) (upd vs k v) := by
  rw [setA_eq (tab_setE h hk hv)]
  unfold setL
  have hp := tab_place (vs := vs) h.lt hk
  rw [letN_small hk]
  by_cases hm : k ∈ ks
  · have hlt : placeA (tabA ks vs) (letN k) < (tabA ks vs).length := by
      rw [hp]
      unfold tabA
      rw [List.length_map, List.findIdx_lt_length]
      exact ⟨k, hm, by simp⟩
    rw [if_pos hlt, if_pos hm, hp]
    exact tab_set_map v h.nodup hm
  · have hlt : ¬ placeA (tabA ks vs) (letN k) < (tabA ks vs).length := by
      rw [hp]
      unfold tabA
      rw [List.length_map, List.findIdx_lt_length]
      rintro ⟨j, hj, e⟩
      have : j = k := by simpa using e
      exact hm (this ▸ hj)
    rw [if_neg hlt, if_neg hm]
    unfold tabA
    rw [List.map_append]
    congr 1
    · refine List.map_congr_left (fun j hj => ?_)
      have : j ≠ k := fun e => hm (e ▸ hj)
      unfold upd
      rw [if_neg this]
    · unfold upd
      simp
theorem tab_rem {ks : List Nat} {vs : Nat → ByteArray} {k : Nat} (h : FineT ks vs) (hk : k < 26) : remA (tabA ks vs) (letN k) = tabA (ks.filter (fun j => !decide (j = k))) vs := by
  have hf : (tabA ks vs).filter (offQ (letN k)) = tabA (ks.filter (fun j => !decide (j = k))) vs := by
    have hl := h.lt
    clear h
    induction ks with
    | nil => rfl
    | cons a r ih =>
      have ih := ih (fun j hj => hl j (by simp [hj]))
      unfold tabA at *
      rw [List.map_cons, List.filter_cons, List.filter_cons]
      have : offQ (letN k) (ofL (letN a), vs a) = !decide (a = k) := by
        unfold offQ
        rw [letN_small hk, tab_keyIs (hl a (by simp)) hk]
      rw [this, ih]
      by_cases e : a = k <;> simp [e]
  by_cases hm : hasA (tabA ks vs) (letN k) = true
  · rw [remA_yes hm, hf]
  · have hm : hasA (tabA ks vs) (letN k) = false := by simpa using hm
    rw [remA_no hm, ← hf]
    symm
    apply filter_no
    intro x hx e
    rw [tab_has h hk] at hm
    obtain ⟨j, hj, rfl⟩ := List.mem_map.1 hx
    rw [key_ofL, letN_small hk] at e
    have := letN_inj (h.lt j hj) hk e
    subst this
    simp at hm
    exact hm hj
theorem fine_add {ks : List Nat} {vs : Nat → ByteArray} {k : Nat} {v : ByteArray} (h : FineT ks vs) (hk : k < 26) (hv : v.size ≤ 200) : FineT (if k ∈ ks then ks else ks ++ [k]) (upd vs k v) := by
  have hs : ∀ j, j ∈ ks ∨ j = k → (upd vs k v j).size ≤ 200 := by
    intro j hj
    unfold upd
    by_cases e : j = k
    · rw [if_pos e]; exact hv
    · rw [if_neg e]
      rcases hj with hj | hj
      · exact h.short j hj
      · exact absurd hj e
  by_cases hm : k ∈ ks
  · rw [if_pos hm]
    exact ⟨h.nodup, h.lt, fun j hj => hs j (.inl hj)⟩
  · rw [if_neg hm]
    refine ⟨?_, fun j hj => ?_, fun j hj => hs j ?_⟩
    · rw [List.nodup_append]
      refine ⟨h.nodup, by simp, fun a ha b hb => ?_⟩
      simp at hb
      subst hb
      exact fun e => hm (e ▸ ha)
    · rcases List.mem_append.1 hj with hj | hj
      · exact h.lt j hj
      · simp at hj; subst hj; exact hk
    · rcases List.mem_append.1 hj with hj | hj
      · exact .inl hj
      · simp at hj; exact .inr hj
theorem fine_sub {ks : List Nat} {vs : Nat → ByteArray} (q : Nat → Bool) (h : FineT ks vs) : FineT (ks.filter q) vs :=
  ⟨h.nodup.sublist List.filter_sublist, fun j hj => h.lt j (List.mem_filter.1 hj).1, fun j hj => h.short j (List.mem_filter.1 hj).1⟩
end Go.Proofs.Ytmofeddldcifbaa
