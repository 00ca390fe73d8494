/- Plain facts on lists of attributes: alike is symmetric; two elements exchanged. -/
import Derived.Test.YtmofeddldcifbaaAttrMath3
namespace Go.Proofs.Ytmofeddldcifbaa
theorem len_le_of_nodup {α : Type} [DecidableEq α] : ∀ {l m : List α}, l.Nodup → (∀ x ∈ l, x ∈ m) → l.length ≤ m.length
  | [], _, _, _ => Nat.zero_le _
  | x :: l, m, hn, hs => by
    rw [List.nodup_cons] at hn
    have hx : x ∈ m := hs x (by simp)
    have h1 : ∀ y ∈ l, y ∈ m.erase x := by
      intro y hy
      have hne : y ≠ x := fun e => hn.1 (e ▸ hy)
      exact (List.mem_erase_of_ne hne).2 (hs y (by simp [hy]))
    have h2 := len_le_of_nodup hn.2 h1
    rw [List.length_erase_of_mem hx] at h2
    have : 0 < m.length := List.length_pos_of_mem hx
    rw [List.length_cons]
    omega
theorem all_of_nodup {α : Type} [DecidableEq α] {l m : List α} (hn : l.Nodup) (hs : ∀ x ∈ l, x ∈ m) (hl : m.length ≤ l.length) : ∀ x ∈ m, x ∈ l := by
  intro x hx
  by_cases h : x ∈ l
  · exact h
  · have := len_le_of_nodup (l := x :: l) (m := m) (List.nodup_cons.2 ⟨h, hn⟩) (fun y hy => by
      rcases List.mem_cons.1 hy with rfl | hy
      · exact hx
      · exact hs y hy)
    rw [List.length_cons] at this
    omega
theorem look_some {L : AL} {k : List UInt8} {v : ByteArray} (h : lookA L k = some v) : ∃ x ∈ L, keyA x = k ∧ x.2 = v := by
  unfold lookA at h
  cases e : L.find? (keyIs k) with
  | none => rw [e] at h; cases h
  | some x =>
    rw [e] at h
    exact ⟨x, List.mem_of_find?_eq_some e, keyIs_iff.1 (List.find?_some e), by simpa using h⟩
theorem alike_parts {L M : AL} (h : alikeA L M = true) : rightA L = true ∧ rightA M = true ∧ L.length = M.length ∧ ∀ x ∈ L, lookA M (keyA x) = some x.2 := by
  unfold alikeA at h
  rw [Bool.and_eq_true, Bool.and_eq_true, Bool.and_eq_true, List.all_eq_true, decide_eq_true_eq] at h
  exact ⟨h.1.1.1, h.1.1.2, h.1.2, fun x hx => pairIn_iff.1 (h.2 x hx)⟩
theorem alike_mk {L M : AL} (h1 : rightA L = true) (h2 : rightA M = true) (h3 : L.length = M.length) (h4 : ∀ x ∈ L, lookA M (keyA x) = some x.2) : alikeA L M = true := by
  unfold alikeA
  rw [Bool.and_eq_true, Bool.and_eq_true, Bool.and_eq_true, List.all_eq_true, decide_eq_true_eq]
  exact ⟨⟨⟨h1, h2⟩, h3⟩, fun x hx => pairIn_iff.2 (h4 x hx)⟩
theorem alike_turn {L M : AL} (h : alikeA L M = true) : alikeA M L = true := by
  obtain ⟨h1, h2, h3, h4⟩ := alike_parts h
  have n1 := ((right_iff L).1 h1).2.2
  have hs : ∀ k ∈ L.map keyA, k ∈ M.map keyA := by
    intro k hk
    obtain ⟨x, hx, rfl⟩ := List.mem_map.1 hk
    obtain ⟨y, hy, e, _⟩ := look_some (h4 x hx)
    exact List.mem_map.2 ⟨y, hy, e⟩
  have hall := all_of_nodup n1 hs (by simp [h3])
  refine alike_mk h2 h1 h3.symm (fun y hy => ?_)
  obtain ⟨x, hx, e⟩ := List.mem_map.1 (hall _ (List.mem_map.2 ⟨y, hy, rfl⟩))
  have a := h4 x hx
  rw [e, look_mem h2 hy] at a
  rw [← e, look_mem h1 hx, ← Option.some.inj a]
theorem alike_symm (L M : AL) : alikeA L M = alikeA M L := by
  rw [Bool.eq_iff_iff]
  exact ⟨alike_turn, alike_turn⟩
theorem alike_same {L M : AL} (hl : L.length = M.length) (hr : rightA L = rightA M) (hm : ∀ x ∈ L, x ∈ M) : alikeA L M = rightA L := by
  cases h : rightA L with
  | true => exact alike_mk h (hr ▸ h) hl (fun x hx => look_mem (hr ▸ h) (hm x hx))
  | false => unfold alikeA; rw [h]; rfl
theorem alike_other {L T M : AL} (hl : L.length = T.length) (hr : rightA L = rightA T) (hm : ∀ x, x ∈ L ↔ x ∈ T) : alikeA L M = alikeA T M := by
  rw [Bool.eq_iff_iff]
  constructor
  · intro h
    obtain ⟨h1, h2, h3, h4⟩ := alike_parts h
    exact alike_mk (hr ▸ h1) h2 (hl ▸ h3) (fun x hx => h4 x ((hm x).2 hx))
  · intro h
    obtain ⟨h1, h2, h3, h4⟩ := alike_parts h
    exact alike_mk (hr ▸ h1) h2 (hl.trans h3) (fun x hx => h4 x ((hm x).1 hx))
/-- Two elements exchanged. -/
def swapL (L : AL) (i j : Nat) (x y : ByteArray × ByteArray) : AL := (L.set i y).set j x
def sw (i j k : Nat) : Nat := if k = j then i else if k = i then j else k
theorem sw_sw (i j k : Nat) : sw i j (sw i j k) = k := by
  unfold sw
  by_cases h1 : k = j <;> by_cases h2 : k = i <;> by_cases h3 : i = j <;> simp [h1, h2, h3] <;> omega
theorem swap_get {L : AL} {i j : Nat} {x y : ByteArray × ByteArray} (hx : L[i]? = some x) (hy : L[j]? = some y) (k : Nat) (_hk : k < L.length) : (swapL L i j x y)[k]? = L[sw i j k]? := by
  obtain ⟨hi, _⟩ := List.getElem?_eq_some_iff.1 hx
  obtain ⟨hj, _⟩ := List.getElem?_eq_some_iff.1 hy
  unfold swapL sw
  by_cases h1 : k = j
  · subst h1
    rw [if_pos rfl, List.getElem?_set_self (by rw [List.length_set]; exact hj), hx]
  · rw [if_neg h1, List.getElem?_set_ne (Ne.symm h1)]
    by_cases h2 : k = i
    · subst h2
      rw [if_pos rfl, List.getElem?_set_self hi, hy]
    · rw [if_neg h2, List.getElem?_set_ne (Ne.symm h2)]
theorem sw_lt {n i j k : Nat} (hi : i < n) (hj : j < n) (hk : k < n) : sw i j k < n := by
  unfold sw
  split
  · exact hi
  · split
    · exact hj
    · exact hk
theorem right_of_sw {L T : AL} {i j : Nat} (hl : T.length = L.length) (hi : i < L.length) (hj : j < L.length) (hg : ∀ k, k < L.length → T[k]? = L[sw i j k]?) (hr : rightA L = true) : rightA T = true := by
  obtain ⟨g1, g2, g3⟩ := (right_iff L).1 hr
  rw [right_iff]
  have hmem : ∀ x ∈ T, x ∈ L := by
    intro x hx
    obtain ⟨k, hk, he⟩ := List.mem_iff_getElem.1 hx
    have := hg k (by omega)
    rw [List.getElem?_eq_getElem hk, he] at this
    exact List.mem_of_getElem? this.symm
  refine ⟨by omega, fun x hx => g2 x (hmem x hx), ?_⟩
  unfold List.Nodup at *
  rw [List.pairwise_iff_getElem] at *
  intro p q hp hq hpq
  simp only [List.length_map] at hp hq
  have hp' : p < L.length := by omega
  have hq' : q < L.length := by omega
  have sp := sw_lt (i := i) (j := j) hi hj hp'
  have sq := sw_lt (i := i) (j := j) hi hj hq'
  have e1 := hg p hp'
  have e2 := hg q hq'
  rw [List.getElem?_eq_getElem hp, List.getElem?_eq_getElem sp] at e1
  rw [List.getElem?_eq_getElem hq, List.getElem?_eq_getElem sq] at e2
  simp only [List.getElem_map]
  rw [Option.some.inj e1, Option.some.inj e2]
  have hne : sw i j p ≠ sw i j q := by
    intro e
    have := congrArg (sw i j) e
    rw [sw_sw, sw_sw] at this
    omega
  rcases Nat.lt_or_ge (sw i j p) (sw i j q) with h | h
  · have := g3 _ _ (by simpa using sp) (by simpa using sq) h
    simpa only [List.getElem_map] using this
  · have := g3 _ _ (by simpa using sq) (by simpa using sp) (by omega)
    simp only [List.getElem_map] at this
    exact Ne.symm this
theorem swap_all {L : AL} {i j : Nat} {x y : ByteArray × ByteArray} (hx : L[i]? = some x) (hy : L[j]? = some y) :
    (swapL L i j x y).length = L.length ∧ rightA L = rightA (swapL L i j x y) ∧ ∀ z, z ∈ L ↔ z ∈ swapL L i j x y := by
  obtain ⟨hi, _⟩ := List.getElem?_eq_some_iff.1 hx
  obtain ⟨hj, _⟩ := List.getElem?_eq_some_iff.1 hy
  have hl : (swapL L i j x y).length = L.length := by unfold swapL; rw [List.length_set, List.length_set]
  have hg := swap_get hx hy
  have hg' : ∀ k, k < L.length → L[k]? = (swapL L i j x y)[sw i j k]? := by
    intro k hk
    rw [hg _ (sw_lt hi hj hk), sw_sw]
  refine ⟨hl, ?_, fun z => ⟨fun hz => ?_, fun hz => ?_⟩⟩
  · rw [Bool.eq_iff_iff]
    exact ⟨right_of_sw hl hi hj hg, right_of_sw hl.symm (by omega) (by omega) (fun k hk => hg' k (by omega))⟩
  · obtain ⟨k, hk, he⟩ := List.mem_iff_getElem.1 hz
    have := hg' k hk
    rw [List.getElem?_eq_getElem hk, he] at this
    exact List.mem_of_getElem? this.symm
  · obtain ⟨k, hk, he⟩ := List.mem_iff_getElem.1 hz
    have := hg k (by omega)
    rw [List.getElem?_eq_getElem hk, he] at this
    exact List.mem_of_getElem? this.symm
theorem set_two {L : AL} {i : Nat} {x : ByteArray × ByteArray} (h : i < L.length) : ((L.flatMap encA).set (i * 2) (.string x.1)).set (i * 2 + 1) (.string x.2) = (L.set i x).flatMap encA := by
  induction L generalizing i with
  | nil => simp at h
  | cons z r ih =>
    cases i with
    | zero => simp [encA]
    | succ i =>
      have := ih (i := i) (by simpa using h)
      have e1 : (i + 1) * 2 = i * 2 + 1 + 1 := by omega
      rw [List.set_cons_succ, List.flatMap_cons, List.flatMap_cons, ← this, e1]
      simp [encA]
end Go.Proofs.Ytmofeddldcifbaa
