/- An argument that is a desk, opened. -/
import Derived.Test.YtapfhgimeohmgaaDeskPure
import Derived.Test.YtapfhgimeohmgaaForestOpen
import Derived.Test.YtapfhgimeohmgaaOpenRows
namespace Go.Proofs.Ytapfhgimeohmgaa
open Go.RowKit Go.Deep Go.ChangeShapes Go.WideShapes
set_option maxRecDepth 100000 in
theorem open_def {H : Type} {en : TypeId × Value → H} {W : World} (cs : List Value) (fuel : Nat) (d : DataW H) (p : List MemPlace) (hc : cs.length = 3)
    (h : DataW.trod en Try.prog W 0 (fun _ => true) true fuel 46 cs = some (d, p)) : ∃ x : DefD, cs = encD x ∧ (x.name.size ≤ maxLen ∧ x.loc.size ≤ maxLen ∧ In64 x.cls) := by
  obtain ⟨xs, k, _, _, _, hxl, hff⟩ := DataW.trod_struct Try.underlying46 h
  have c3 : Try.prog.cellsOf 3 = 1 := by kernel_rfl
  have c9 : Try.prog.cellsOf 9 = 1 := by kernel_rfl
  match cs, hc, xs, hxl with
  | [v0, v1, v2], _, [y0, y1, y2], _ =>
    have g0 := hff 0 _ rfl
    have g1 := hff 1 _ rfl
    have g2 := hff 2 _ rfl
    simp [c3, c9] at g0 g1 g2
    obtain ⟨s0, hs0, _, hl0⟩ := DataW.trod_string Try.underlying9 g0
    obtain ⟨s1, hs1, _, hl1⟩ := DataW.trod_string Try.underlying9 g1
    obtain ⟨n2, hn2, _, hw2⟩ := DataW.trod_int Try.underlying3 g2
    simp at hs0 hs1 hn2
    subst hs0 hs1 hn2
    exact ⟨⟨s0, s1, n2⟩, rfl, hl0, hl1, in64_of hw2⟩
set_option maxRecDepth 100000 in
theorem open_wait {H : Type} {en : TypeId × Value → H} {W : World} (cs : List Value) (fuel : Nat) (d : DataW H) (p : List MemPlace) (hc : cs.length = 2)
    (h : DataW.trod en Try.prog W 0 (fun _ => true) true fuel 51 cs = some (d, p)) : ∃ x : WaitD, cs = encT x ∧ (x.name.size ≤ maxLen ∧ In64 x.ticket) := by
  obtain ⟨xs, k, _, _, _, hxl, hff⟩ := DataW.trod_struct Try.underlying51 h
  have c3 : Try.prog.cellsOf 3 = 1 := by kernel_rfl
  have c9 : Try.prog.cellsOf 9 = 1 := by kernel_rfl
  match cs, hc, xs, hxl with
  | [v0, v1], _, [y0, y1], _ =>
    have g0 := hff 0 _ rfl
    have g1 := hff 1 _ rfl
    simp [c3, c9] at g0 g1
    obtain ⟨s0, hs0, _, hl0⟩ := DataW.trod_string Try.underlying9 g0
    obtain ⟨n1, hn1, _, hw1⟩ := DataW.trod_int Try.underlying3 g1
    simp at hs0 hn1
    subst hs0 hn1
    exact ⟨⟨s0, n1⟩, rfl, hl0, in64_of hw1⟩
theorem open_defs {H : Type} {en : TypeId × Value → H} {W : World} {a : Option Addr} {len cap : Nat} {d : DataW H} {p : List MemPlace}
    (h : DataW.Trod en Try.prog W 0 (fun _ => true) true 22 (.slice a len cap) d p) : ∃ L, DefRow W a len cap L := by
  obtain ⟨L, h1, h2, h3⟩ := open_rows encD 3 (fun x => x.name.size ≤ maxLen ∧ x.loc.size ≤ maxLen ∧ In64 x.cls) Try.underlying22 (te := 46) (by kernel_rfl) (by decide) open_def h
  exact ⟨L, h1, h2, h3⟩
theorem open_waits {H : Type} {en : TypeId × Value → H} {W : World} {a : Option Addr} {len cap : Nat} {d : DataW H} {p : List MemPlace}
    (h : DataW.Trod en Try.prog W 0 (fun _ => true) true 23 (.slice a len cap) d p) : ∃ L, WaitRow W a len cap L := by
  obtain ⟨L, h1, h2, h3⟩ := open_rows encT 2 (fun x => x.name.size ≤ maxLen ∧ In64 x.ticket) Try.underlying23 (te := 51) (by kernel_rfl) (by decide) open_wait h
  exact ⟨L, h1, h2, h3⟩
set_option maxRecDepth 100000 in
/-- A desk, by value. -/
theorem open_desk {H : Type} {en : TypeId × Value → H} {W : World} {r : Reach} {b0 : Nat} {v : Value} {d : DataW H} {p : List MemPlace} (hv : Value.okWide Try.prog W r b0 25 v)
    (h : DataW.Trod en Try.prog W 0 (fun _ => true) true 25 v d p) : ∃ da dl dc wa wl wc nx bz defs waits, v = deskV da dl dc wa wl wc nx bz ∧ DeskAt W da dl dc wa wl wc ⟨defs, waits, nx, bz⟩ := by
  obtain ⟨cs, rfl, hsz⟩ := okWide_struct Try.underlying25 hv
  have hC : Try.prog.cellsOf 25 = 4 := by kernel_rfl
  have c3 : Try.prog.cellsOf 3 = 1 := by kernel_rfl
  have cb : Try.prog.cellsOf 4 = 1 := by kernel_rfl
  have cd : Try.prog.cellsOf 22 = 1 := by kernel_rfl
  have cw : Try.prog.cellsOf 23 = 1 := by kernel_rfl
  obtain ⟨l⟩ := cs
  match l, hsz.trans hC with
  | [v0, v1, v2, v3], _ =>
    obtain ⟨fuel, hf⟩ := h
    obtain ⟨xs, k, _, _, _, hxl, hff⟩ := DataW.trod_struct Try.underlying25 hf
    match xs, hxl with
    | [y0, y1, y2, y3], _ =>
      have g0 := hff 0 _ rfl
      have g1 := hff 1 _ rfl
      have g2 := hff 2 _ rfl
      have g3 := hff 3 _ rfl
      simp [c3, cb, cd, cw, Value.cells] at g0 g1 g2 g3
      obtain ⟨n2, hn2, _, hw2⟩ := DataW.trod_int Try.underlying3 g2
      obtain ⟨b3, hb3, _⟩ := DataW.trod_bool Try.underlying4 g3
      simp at hn2 hb3
      subst hn2 hb3
      obtain ⟨a0, l0, c0, rfl⟩ := slice_cells Try.underlying22 g0
      obtain ⟨a1, l1, c1, rfl⟩ := slice_cells Try.underlying23 g1
      obtain ⟨L, hL⟩ := open_defs (en := en) (W := W) (a := a0) (len := l0) (cap := c0) (d := y0.1) (p := y0.2) ⟨k, by simpa [Value.cells] using g0⟩
      obtain ⟨M, hM⟩ := open_waits (en := en) (W := W) (a := a1) (len := l1) (cap := c1) (d := y1.1) (p := y1.2) ⟨k, by simpa [Value.cells] using g1⟩
      exact ⟨a0, l0, c0, a1, l1, c1, n2, b3, L, M, rfl, hL, hM, in64_of hw2⟩
end Go.Proofs.Ytapfhgimeohmgaa
