/- An argument that is a list of things to do (instarlaw02.Do), opened. -/
import Derived.Test.YtmofeddldcifbaaAttrOpen
import Derived.OpenShut
namespace Go.Proofs.Ytmofeddldcifbaa
open Go.RowKit Go.Deep Go.ChangeShapes Go.WideShapes
structure DoIt where
  kind : Int
  name : Int
  value : ByteArray
def encD (x : DoIt) : List Value := [.int .u8 x.kind, .int .u8 x.name, .string x.value]
def fineD (x : DoIt) : Prop := (0 ≤ x.kind ∧ x.kind ≤ 255) ∧ (0 ≤ x.name ∧ x.name ≤ 255) ∧ x.value.size ≤ maxLen
theorem open_dos {H : Type} {enc : TypeId × Value → H} {W : World} {a : Option Addr} {len cap : Nat} {d : DataW H} {p : List MemPlace}
    (h : DataW.Trod enc Try.prog W 0 (fun _ => true) true 43 (.slice a len cap) d p) : ∃ L : List DoIt, SRow encD 3 W a len cap L ∧ ∀ x ∈ L, fineD x := by
  obtain ⟨fuel, hf⟩ := h
  rcases open_slice Try.underlying43 hf with ⟨hcs, _⟩ | ⟨ad, l, c, m, n, D, Pl, hcs, _, hl, hm, hmm, _, hi⟩
  · simp [Value.cells] at hcs
    obtain ⟨rfl, rfl, rfl⟩ := hcs
    exact ⟨[], SRow.nil, by simp⟩
  · simp [Value.cells] at hcs
    obtain ⟨rfl, rfl, rfl⟩ := hcs
    have hml : len ≤ m := by rw [hmm]; simpa using hl
    have ce : Try.prog.cellsOf 48 = 3 := by kernel_rfl
    have c5 : Try.prog.cellsOf 5 = 1 := by kernel_rfl
    have c9 : Try.prog.cellsOf 9 = 1 := by kernel_rfl
    have each : ∀ i, i < len → ∃ x : DoIt, W.cell? (ad.add (i * 3)) = some (.int .u8 x.kind) ∧ W.cell? (ad.add (i * 3 + 1)) = some (.int .u8 x.name) ∧ W.cell? (ad.add (i * 3 + 2)) = some (.string x.value) ∧ fineD x := by
      intro i hil
      obtain ⟨cs', h1, h2⟩ := hi i (by omega)
      rw [ce] at h1
      obtain ⟨_, hlen, hcell⟩ := World.cells?_some h1
      obtain ⟨xs, k, _, _, _, hxl, hff⟩ := DataW.trod_struct Try.underlying48 h2
      match xs, hxl, cs', hlen with
      | [y0, y1, y2], _, [v0, v1, v2], _ =>
        have g0 := hff 0 _ rfl
        have g1 := hff 1 _ rfl
        have g2 := hff 2 _ rfl
        simp [c5, c9] at g0 g1 g2
        have e0 := hcell 0 (by omega)
        have e1 := hcell 1 (by omega)
        have e2 := hcell 2 (by omega)
        rw [add_add] at e0 e1 e2
        obtain ⟨n0, hn0, _, hw0⟩ := DataW.trod_int Try.underlying5 g0
        obtain ⟨n1, hn1, _, hw1⟩ := DataW.trod_int Try.underlying5 g1
        obtain ⟨s, hs, _, hs3⟩ := DataW.trod_string Try.underlying9 g2
        simp at hn0 hn1 hs
        subst hn0; subst hn1; subst hs
        exact ⟨⟨n0, n1, s⟩, by simpa using e0, by simpa using e1, by simpa using e2, bounds_u8 hw0, bounds_u8 hw1, hs3⟩
    obtain ⟨q, hq⟩ : ∃ q : Nat → DoIt, ∀ i, i < len → W.cell? (ad.add (i * 3)) = some (.int .u8 (q i).kind) ∧ W.cell? (ad.add (i * 3 + 1)) = some (.int .u8 (q i).name) ∧ W.cell? (ad.add (i * 3 + 2)) = some (.string (q i).value) ∧ fineD (q i) := by
      refine ⟨fun i => if h : i < len then (each i h).choose else ⟨0, 0, ByteArray.empty⟩, fun i hil => ?_⟩
      simp only [dif_pos hil]
      exact (each i hil).choose_spec
    refine ⟨(List.range len).map q, ⟨by simp, hl, hm, fun x _ => rfl, ?_⟩, ?_⟩
    · rcases Nat.eq_zero_or_pos len with h0 | h0
      · exact .inl h0
      · obtain ⟨b, off, spot⟩ := ad
        have hc := (hq 0 h0).1
        have hspot : spot = none := by simpa [Addr.add] using World.cell?_spot hc
        subst hspot
        refine .inr ⟨b, off, rfl, ?_, ?_⟩
        · have := block_lt hc
          rwa [add_plain] at this
        · intro i x j v hx hv
          obtain ⟨hil, hgx⟩ := List.getElem?_eq_some_iff.1 hx
          have hil' : i < len := by simpa using hil
          simp at hgx
          obtain ⟨h1, h2, h3, _⟩ := hq i hil'
          rw [add_plain] at h1 h2 h3
          rw [hgx] at h1 h2 h3
          obtain ⟨hjl, hgv⟩ := List.getElem?_eq_some_iff.1 hv
          match j, hjl with
          | 0, _ => simp [encD] at hgv; subst hgv; exact h1
          | 1, _ => simp [encD] at hgv; subst hgv; simpa [Nat.add_assoc] using h2
          | 2, _ => simp [encD] at hgv; subst hgv; simpa [Nat.add_assoc] using h3
    · intro x hx
      obtain ⟨i, hi1, rfl⟩ := List.mem_map.1 hx
      exact (hq i (List.mem_range.1 hi1)).2.2.2
end Go.Proofs.Ytmofeddldcifbaa
