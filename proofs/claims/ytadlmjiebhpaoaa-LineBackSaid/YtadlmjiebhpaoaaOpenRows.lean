/- An argument that is a slice of structs, opened: for any struct that can be opened. -/
import Derived.Test.YtadlmjiebhpaoaaAttrOpen
import Derived.OpenShut
namespace Go.Proofs.Ytadlmjiebhpaoaa
open Go.RowKit Go.Deep Go.ChangeShapes Go.WideShapes
theorem open_rows {α : Type} (enc : α → List Value) (size : Nat) (ok : α → Prop) {ts te : TypeId} (hts : Try.prog.underlying ts = some (.slice te)) (ce : Try.prog.cellsOf te = size) (hpos : 0 < size)
    {H : Type} {en : TypeId × Value → H} {W : World} {a : Option Addr} {len cap : Nat} {d : DataW H} {p : List MemPlace}
    (one : ∀ (cs : List Value) (fuel : Nat) (d : DataW H) (p : List MemPlace), cs.length = size → DataW.trod en Try.prog W 0 (fun _ => true) true fuel te cs = some (d, p) → ∃ x, cs = enc x ∧ ok x)
    (h : DataW.Trod en Try.prog W 0 (fun _ => true) true ts (.slice a len cap) d p) : ∃ L, SRow enc size W a len cap L ∧ (∀ x ∈ L, ok x) ∧ (a = none → cap = 0) := by
  obtain ⟨fuel, hf⟩ := h
  rcases open_slice hts hf with ⟨hcs, _⟩ | ⟨ad, l, c, m, n, D, Pl, hcs, _, hl, hm, hmm, _, hi⟩
  · simp [Value.cells] at hcs
    obtain ⟨rfl, rfl, rfl⟩ := hcs
    exact ⟨[], SRow.nil, (fun x hx => by cases hx), fun _ => rfl⟩
  · simp [Value.cells] at hcs
    obtain ⟨rfl, rfl, rfl⟩ := hcs
    have hml : len ≤ m := by rw [hmm]; simpa using hl
    have each : ∀ i, i < len → ∃ x : α, ((enc x).length = size ∧ ok x) ∧ ∀ j v, (enc x)[j]? = some v → W.cell? (ad.add (i * size + j)) = some v := by
      intro i hil
      obtain ⟨cs', h1, h2⟩ := hi i (by omega)
      rw [ce] at h1
      obtain ⟨_, hlen, hcell⟩ := World.cells?_some h1
      obtain ⟨x, hx, hok⟩ := one _ _ _ _ hlen h2
      refine ⟨x, ⟨by rw [← hx, hlen], hok⟩, fun j v hv => ?_⟩
      have hj : j < size := by
        have := (List.getElem?_eq_some_iff.1 hv).1
        rwa [← hx, hlen] at this
      have e0 := hcell j hj
      rw [add_add, hx, hv] at e0
      exact e0
    rcases Nat.eq_zero_or_pos len with h0 | h0
    · subst h0
      exact ⟨[], ⟨rfl, hl, hm, (fun x hx => by cases hx), .inl rfl⟩, (fun x hx => by cases hx), fun e => by cases e⟩
    obtain ⟨q, hq⟩ : ∃ q : Nat → α, ∀ i, i < len → ((enc (q i)).length = size ∧ ok (q i)) ∧ ∀ j v, (enc (q i))[j]? = some v → W.cell? (ad.add (i * size + j)) = some v := by
      refine ⟨fun i => if h : i < len then (each i h).choose else (each 0 h0).choose, fun i hil => ?_⟩
      simp only [dif_pos hil]
      exact (each i hil).choose_spec
    refine ⟨(List.range len).map q, ⟨by simp, hl, hm, fun x hx => ?_, ?_⟩, ?_, fun h => by cases h⟩
    · obtain ⟨i, hi1, rfl⟩ := List.mem_map.1 hx
      exact (hq i (List.mem_range.1 hi1)).1.1
    · obtain ⟨b, off, spot⟩ := ad
      have hlen0 := (hq 0 h0).1.1
      have hc := (hq 0 h0).2 0 _ (List.getElem?_eq_getElem (by omega))
      have hspot : spot = none := by simpa [Addr.add] using World.cell?_spot hc
      subst hspot
      refine .inr ⟨b, off, rfl, ?_, ?_⟩
      · have := block_lt hc
        rwa [add_plain] at this
      · intro i x j v hx hv
        obtain ⟨hil, hgx⟩ := List.getElem?_eq_some_iff.1 hx
        have hil' : i < len := by simpa using hil
        simp at hgx
        have h1 := (hq i hil').2 j v (by rw [hgx]; exact hv)
        rw [add_plain] at h1
        simpa [Nat.add_assoc] using h1
    · intro x hx
      obtain ⟨i, hi1, rfl⟩ := List.mem_map.1 hx
      exact (hq i (List.mem_range.1 hi1)).1.2
end Go.Proofs.Ytadlmjiebhpaoaa
