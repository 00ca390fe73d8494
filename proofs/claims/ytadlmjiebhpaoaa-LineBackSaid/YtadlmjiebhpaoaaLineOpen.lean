/- Arguments that are lines and todos, opened. -/
import Derived.Test.YtadlmjiebhpaoaaLineRow
import Derived.Test.YtadlmjiebhpaoaaForestOpen
import Derived.Test.YtadlmjiebhpaoaaOpenRows
namespace Go.Proofs.Ytadlmjiebhpaoaa
open Go.RowKit Go.Deep Go.ChangeShapes Go.WideShapes
set_option maxRecDepth 100000 in
theorem open_todoc {H : Type} {en : TypeId × Value → H} {W : World} (cs : List Value) (fuel : Nat) (d : DataW H) (p : List MemPlace) (hc : cs.length = 10)
    (h : DataW.trod en Try.prog W 0 (fun _ => true) true fuel 28 cs = some (d, p)) : ∃ x : TodoD, cs = encTd x ∧ okTd x := by
  obtain ⟨xs, k, _, _, _, hxl, hff⟩ := DataW.trod_struct Try.underlying28 h
  have c3 : Try.prog.cellsOf 3 = 1 := by kernel_rfl
  have c9 : Try.prog.cellsOf 9 = 1 := by kernel_rfl
  have cb : Try.prog.cellsOf 4 = 1 := by kernel_rfl
  match cs, hc, xs, hxl with
  | [v0, v1, v2, v3, v4, v5, v6, v7, v8, v9], _, [y0, y1, y2, y3, y4, y5, y6, y7, y8, y9], _ =>
    have g0 := hff 0 _ rfl
    have g1 := hff 1 _ rfl
    have g2 := hff 2 _ rfl
    have g3 := hff 3 _ rfl
    have g4 := hff 4 _ rfl
    have g5 := hff 5 _ rfl
    have g6 := hff 6 _ rfl
    have g7 := hff 7 _ rfl
    have g8 := hff 8 _ rfl
    have g9 := hff 9 _ rfl
    simp [c3, c9, cb] at g0 g1 g2 g3 g4 g5 g6 g7 g8 g9
    obtain ⟨n0, hn0, _, hw0⟩ := DataW.trod_int Try.underlying3 g0
    obtain ⟨n1, hn1, _, hw1⟩ := DataW.trod_int Try.underlying3 g1
    obtain ⟨s2, hs2, _, hl2⟩ := DataW.trod_string Try.underlying9 g2
    obtain ⟨b3, hb3, _⟩ := DataW.trod_bool Try.underlying4 g3
    obtain ⟨b4, hb4, _⟩ := DataW.trod_bool Try.underlying4 g4
    obtain ⟨s5, hs5, _, hl5⟩ := DataW.trod_string Try.underlying9 g5
    obtain ⟨s6, hs6, _, hl6⟩ := DataW.trod_string Try.underlying9 g6
    obtain ⟨n7, hn7, _, hw7⟩ := DataW.trod_int Try.underlying3 g7
    obtain ⟨n8, hn8, _, hw8⟩ := DataW.trod_int Try.underlying3 g8
    obtain ⟨b9, hb9, _⟩ := DataW.trod_bool Try.underlying4 g9
    simp at hn0 hn1 hs2 hb3 hb4 hs5 hs6 hn7 hn8 hb9
    subst hn0 hn1 hs2 hb3 hb4 hs5 hs6 hn7 hn8 hb9
    exact ⟨⟨n0, n1, s2, b3, b4, s5, s6, n7, n8, b9⟩, rfl, in64_of hw0, in64_of hw1, hl2, hl5, hl6, in64_of hw7, in64_of hw8⟩
set_option maxRecDepth 100000 in
/-- A todo, by value. -/
theorem open_todov {H : Type} {en : TypeId × Value → H} {W : World} {r : Reach} {b0 : Nat} {v : Value} {d : DataW H} {p : List MemPlace} (hv : Value.okWide Try.prog W r b0 28 v)
    (h : DataW.Trod en Try.prog W 0 (fun _ => true) true 28 v d p) : ∃ x : TodoD, v = todoV x.kind x.dfn x.name x.had x.has x.old x.new x.frm x.to x.on ∧ okTd x := by
  obtain ⟨cs, rfl, hsz⟩ := okWide_struct Try.underlying28 hv
  have hC : Try.prog.cellsOf 28 = 10 := by kernel_rfl
  obtain ⟨l⟩ := cs
  match l, hsz.trans hC with
  | [v0, v1, v2, v3, v4, v5, v6, v7, v8, v9], _ =>
    obtain ⟨fuel, hf⟩ := h
    obtain ⟨x, hx, hok⟩ := open_todoc [v0, v1, v2, v3, v4, v5, v6, v7, v8, v9] fuel d p rfl (by simpa [Value.cells] using hf)
    refine ⟨x, ?_, hok⟩
    unfold encTd at hx
    injection hx with e0 hx
    injection hx with e1 hx
    injection hx with e2 hx
    injection hx with e3 hx
    injection hx with e4 hx
    injection hx with e5 hx
    injection hx with e6 hx
    injection hx with e7 hx
    injection hx with e8 hx
    injection hx with e9 hx
    rw [e0, e1, e2, e3, e4, e5, e6, e7, e8, e9]
theorem open_todos {H : Type} {en : TypeId × Value → H} {W : World} {a : Option Addr} {len cap : Nat} {d : DataW H} {p : List MemPlace}
    (h : DataW.Trod en Try.prog W 0 (fun _ => true) true 56 (.slice a len cap) d p) : ∃ L, TodoRow W a len cap L := by
  obtain ⟨L, h1, h2, h3⟩ := open_rows encTd 10 okTd Try.underlying56 (te := 28) (by kernel_rfl) (by decide) open_todoc h
  exact ⟨L, h1, h2, h3⟩
/-- A slice of slices, for any elements that can be opened. -/
theorem open_hrow {α : Type} {enc : α → List Value} {size : Nat} {ok : α → Prop} {H : Type} {en : TypeId × Value → H} {W : World} {ts th : TypeId} (hts : Try.prog.underlying ts = some (.slice th)) {te : TypeId} (hth : Try.prog.underlying th = some (.slice te)) (ce : Try.prog.cellsOf th = 1)
    (one : ∀ (a : Option Addr) (len cap : Nat) (d : DataW H) (p : List MemPlace), DataW.Trod en Try.prog W 0 (fun _ => true) true th (.slice a len cap) d p → ∃ L, LRow enc size ok W a len cap L)
    {a : Option Addr} {len cap : Nat} {d : DataW H} {p : List MemPlace}
    (h : DataW.Trod en Try.prog W 0 (fun _ => true) true ts (.slice a len cap) d p) : ∃ T, HRow enc size ok W a len cap T := by
  obtain ⟨T, h1, h2, h3⟩ := open_rows (α := Hd α) encH 1 (fun x => LRow enc size ok W x.a x.n x.c x.l) hts ce (by decide) (fun cs fuel d p hc hd => by
    match cs, hc with
    | [v0], _ =>
      obtain ⟨a, n, c, rfl⟩ := slice_cells hth hd
      obtain ⟨L, hL⟩ := one a n c d p ⟨fuel, by simpa [Value.cells] using hd⟩
      exact ⟨⟨a, n, c, L⟩, rfl, hL⟩) h
  exact ⟨T, h1, h2, h3⟩
set_option maxRecDepth 100000 in
/-- A line, by value. -/
theorem open_line {H : Type} {en : TypeId × Value → H} {W : World} {r : Reach} {b0 : Nat} {v : Value} {d : DataW H} {p : List MemPlace} (hv : Value.okWide Try.prog W r b0 26 v)
    (h : DataW.Trod en Try.prog W 0 (fun _ => true) true 26 v d p) : ∃ x : LnV, v = lineV x.ta x.tl x.tc x.sa x.sl x.sc x.ba x.bl x.bc x.bz ∧ LineAt W x := by
  obtain ⟨cs, rfl, hsz⟩ := okWide_struct Try.underlying26 hv
  have hC : Try.prog.cellsOf 26 = 4 := by kernel_rfl
  have cb : Try.prog.cellsOf 4 = 1 := by kernel_rfl
  have ct : Try.prog.cellsOf 22 = 1 := by kernel_rfl
  have cs : Try.prog.cellsOf 23 = 1 := by kernel_rfl
  have ci : Try.prog.cellsOf 24 = 1 := by kernel_rfl
  have ctd : Try.prog.cellsOf 56 = 1 := by kernel_rfl
  rename_i cs0
  obtain ⟨l⟩ := cs0
  match l, hsz.trans hC with
  | [v0, v1, v2, v3], _ =>
    obtain ⟨fuel, hf⟩ := h
    obtain ⟨xs, k, _, _, _, hxl, hff⟩ := DataW.trod_struct Try.underlying26 hf
    match xs, hxl with
    | [y0, y1, y2, y3], _ =>
      have g0 := hff 0 _ rfl
      have g1 := hff 1 _ rfl
      have g2 := hff 2 _ rfl
      have g3 := hff 3 _ rfl
      simp [cb, ct, cs, ci, Value.cells] at g0 g1 g2 g3
      obtain ⟨b3, hb3, _⟩ := DataW.trod_bool Try.underlying4 g3
      simp at hb3
      subst hb3
      obtain ⟨a0, l0, c0, rfl⟩ := slice_cells Try.underlying22 g0
      obtain ⟨a1, l1, c1, rfl⟩ := slice_cells Try.underlying23 g1
      obtain ⟨a2, l2, c2, rfl⟩ := slice_cells Try.underlying24 g2
      obtain ⟨T, hT⟩ := open_hrow (en := en) (W := W) (a := a0) (len := l0) (cap := c0) (d := y0.1) (p := y0.2) Try.underlying22 Try.underlying56 ctd (fun a n c d p h => open_todos h) ⟨k, by simpa [Value.cells] using g0⟩
      obtain ⟨S, hS⟩ := open_hrow (en := en) (W := W) (a := a1) (len := l1) (cap := c1) (d := y1.1) (p := y1.2) Try.underlying23 Try.underlying24 ci (fun a n c d p h => by obtain ⟨L, hL⟩ := open_introw h; exact ⟨L, hL.lrow⟩) ⟨k, by simpa [Value.cells] using g1⟩
      obtain ⟨B, hB⟩ := open_introw (enc := en) (W := W) (a := a2) (len := l2) (cap := c2) (d := y2.1) (p := y2.2) ⟨k, by simpa [Value.cells] using g2⟩
      exact ⟨⟨a0, l0, c0, a1, l1, c1, a2, l2, c2, b3, T, S, B⟩, rfl, hT, hS, hB⟩
end Go.Proofs.Ytadlmjiebhpaoaa
