/- Lines that a call owns: slices of slices in memory of its own, and how they are changed in place. -/
import Derived.Test.YtadlmjiebhpaoaaLineRow
import Derived.Deep.SlicePairs
import Derived.Laws.IdiomCopy
namespace Go.Proofs.Ytadlmjiebhpaoaa
open Go.RowKit
/-- What a call owns, behind a change of another block. -/
theorem own_stay {w V : World} {base : Nat} {e : TypeId} {size n : Nat} {v : Value} {xs : List Value} {r : Option Nat} (h : w.ownsRow base e size v n xs) (hg : w.grownBy V r) (hr : ∀ k, v.ownBlock = some k → some k ≠ r) : V.ownsRow base e size v n xs := by
  refine ⟨h.1, ?_⟩
  rcases h.2 with h0 | ⟨g, cap, cur, hv, hb, hh, h1, h2, h3, h4⟩
  · exact .inl h0
  · have hlt : g < w.heap.size := by
      rcases Nat.lt_or_ge g w.heap.size with h | h
      · exact h
      · rw [Array.getElem?_eq_none h] at hh; cases hh
    exact .inr ⟨g, cap, cur, hv, hb, (hg.block g hlt (hr g (by rw [hv]; rfl))).trans hh, h1, h2, h3, h4⟩
theorem grown_refl (w : World) (r : Option Nat) : w.grownBy w r := ⟨rfl, rfl, rfl, Nat.le_refl _, fun _ _ _ => rfl⟩
theorem grown_below {w V : World} (hb : Below w.heap.size w V) (r : Option Nat) : w.grownBy V r := ⟨hb.os, hb.tape, hb.output, hb.size, fun k hk _ => hb.block k hk⟩
theorem grown_then {w W V : World} {r : Option Nat} (h : w.grownBy W r) (hb : Below W.heap.size W V) : w.grownBy V r :=
  ⟨hb.os.trans h.os, hb.tape.trans h.tape, hb.output.trans h.output, Nat.le_trans h.size hb.size, fun k hk hr => (hb.block k (Nat.lt_of_lt_of_le hk h.size)).trans (h.block k hk hr)⟩
theorem grown_put {w : World} {p : Addr} {u : Value} : w.grownBy (w.setCell p u) (some p.block) :=
  ⟨rfl, rfl, rfl, by simp [World.setCell], fun k _ hne => Below.heap_setCell _ _ _ k (fun e => hne (by rw [e]))⟩
/-- Two types' rows lie apart. -/
theorem own_types {w : World} {b1 b2 : Nat} {e1 e2 : TypeId} {s1 s2 n1 n2 : Nat} {v1 v2 : Value} {x1 x2 : List Value} (h1 : w.ownsRow b1 e1 s1 v1 n1 x1) (h2 : w.ownsRow b2 e2 s2 v2 n2 x2) (he : e1 ≠ e2) : ∀ k, v1.ownBlock = some k → some k ≠ v2.ownBlock := by
  intro k hk hk2
  rcases h1.2 with ⟨rfl, _⟩ | ⟨g, cap, cur, rfl, _, hg, _⟩
  · cases hk
  rcases h2.2 with ⟨rfl, _⟩ | ⟨g', cap', cur', rfl, _, hg', _⟩
  · cases hk2
  injection hk with hk
  injection hk2 with hk2
  dsimp only at hk hk2
  subst hk
  subst hk2
  rw [hg] at hg'
  injection hg' with hg'
  injection hg' with _ h4
  exact he h4
/-- A row of a type lies apart from an object of another. -/
theorem own_object {w : World} {b1 : Nat} {e1 e2 : TypeId} {s1 n1 : Nat} {v1 : Value} {x1 : List Value} {g : Nat} {cs : Array Value} {z : Nat × Nat} (h1 : w.ownsRow b1 e1 s1 v1 n1 x1) (h2 : w.heap[g]? = some (.cells cs e2 z)) (he : e1 ≠ e2) : ∀ k, v1.ownBlock = some k → k ≠ g := by
  intro k hk hk2
  rcases h1.2 with ⟨rfl, _⟩ | ⟨g', cap, cur, rfl, _, hg, _⟩
  · cases hk
  injection hk with hk
  dsimp only at hk
  subst hk
  subst hk2
  rw [hg] at h2
  injection h2 with h2
  injection h2 with _ h4
  exact he h4
/-- A store into a row of slices. -/
theorem own_put1 {α : Type} {w : World} {base : Nat} {e : TypeId} {g n cap : Nat} {T : List (Hd α)} (h : w.ownsRow base e 1 (.slice (some ⟨g, 0, none⟩) n cap) n (T.flatMap encH)) {j : Nat} (hj : j < n) (y : Hd α) :
    (w.setCell ⟨g, j, none⟩ (.slice y.a y.n y.c)).ownsRow base e 1 (.slice (some ⟨g, 0, none⟩) n cap) n ((T.set j y).flatMap encH) := by
  have hm : ∀ L : List (Hd α), L.flatMap encH = L.map (fun x => Value.slice x.a x.n x.c) := by
    intro L
    induction L with
    | nil => rfl
    | cons a r ih => rw [List.flatMap_cons, List.map_cons, ih]; rfl
  refine ⟨by rw [hm, List.length_map, List.length_set, ← List.length_map (f := fun x : Hd α => Value.slice x.a x.n x.c), ← hm]; exact h.1, ?_⟩
  rcases h.2 with ⟨hv, _⟩ | ⟨g', cap', cur, hv, hb, hg, h1, h2, h3, h4⟩
  · cases hv
  · injection hv with hv1 hv2 hv3
    injection hv1 with hv1
    injection hv1 with hv1
    subst hv1
    subst hv3
    obtain ⟨hlt, hk⟩ := Array.getElem?_eq_some_iff.1 hg
    have hjc : j < cur.size := by
      rw [h3]; omega
    refine .inr ⟨g, cap, cur.set j (.slice y.a y.n y.c) hjc, rfl, hb, ?_, h1, h2, by rw [Array.size_set]; exact h3, ?_⟩
    · show (w.heap.modify g _)[g]? = _
      rw [Array.getElem?_eq_getElem (by rw [Array.size_modify]; exact hlt), Array.getElem_modify_self, hk]
      simp [Array.setIfInBounds, hjc]
    · rw [Array.toList_set, List.take_set, h4, hm, hm, List.map_set]
theorem own_n {α : Type} {enc : α → List Value} {size : Nat} (henc : ∀ x, (enc x).length = size) (hpos : 0 < size) {w : World} {base : Nat} {e : TypeId} {v : Value} {n : Nat} {L : List α} (h : w.ownsRow base e size v n (L.flatMap enc)) : L.length = n := by
  have h1 := h.1
  rw [flat_len (fun x _ => henc x)] at h1
  exact Nat.eq_of_mul_eq_mul_right hpos h1
theorem LRow.of_own {α : Type} {enc : α → List Value} {size : Nat} {ok : α → Prop} (henc : ∀ x, (enc x).length = size) (hpos : 0 < size) {w : World} {base : Nat} {e : TypeId} {a : Option Addr} {n c : Nat} {L : List α} (h : w.ownsRow base e size (.slice a n c) n (L.flatMap enc)) (hok : ∀ x ∈ L, ok x) :
    LRow enc size ok w a n c L ∧ (∀ b o, a = some ⟨b, o, none⟩ → base ≤ b ∧ o = 0) := by
  obtain ⟨a', c', e', h2, h3⟩ := SRow.of_own (fun x _ => henc x) (own_n henc hpos h) h
  injection e' with e1 _ e3
  subst e1; subst e3
  rcases h.2 with ⟨hv, _⟩ | ⟨g, cap', cur, hv, _⟩
  · injection hv with e1 e2 e3
    subst e1; subst e2; subst e3
    exact ⟨⟨h2, hok, fun _ => rfl⟩, fun b o e => by cases e⟩
  · injection hv with e1 e2 e3
    subst e1
    exact ⟨⟨h2, hok, fun e => by cases e⟩, fun b o e => ⟨h3 b o e, by injection e with e; injection e with _ e; exact e.symm⟩⟩
def Hd.own {α : Type} (x : Hd α) : Option Nat := (Value.slice x.a x.n x.c).ownBlock
/-- A slice of slices of the call's own, each in a block of its own. -/
structure OwnRows {α : Type} (enc : α → List Value) (size : Nat) (ok : α → Prop) (base : Nat) (th te : TypeId) (W : World) (a : Option Addr) (n c : Nat) (T : List (Hd α)) : Prop where
  row : W.ownsRow base th 1 (.slice a n c) n (T.flatMap encH)
  each : ∀ x ∈ T, W.ownsRow base te size (.slice x.a x.n x.c) x.n (x.l.flatMap enc)
  ok : ∀ x ∈ T, ∀ y ∈ x.l, ok y
  apart : ∀ (i j : Nat) (x y : Hd α), i ≠ j → T[i]? = some x → T[j]? = some y → ∀ k, x.own = some k → some k ≠ y.own
section
variable {α : Type} {enc : α → List Value} {size : Nat} {ok : α → Prop} {base : Nat} {th te : TypeId} {W V : World} {a : Option Addr} {n c : Nat} {T : List (Hd α)}
theorem OwnRows.stay (h : OwnRows enc size ok base th te W a n c T) {r : Option Nat} (hg : W.grownBy V r) (h1 : ∀ k, (Value.slice a n c).ownBlock = some k → some k ≠ r) (h2 : ∀ x ∈ T, ∀ k, x.own = some k → some k ≠ r) : OwnRows enc size ok base th te V a n c T :=
  ⟨own_stay h.row hg h1, fun x hx => own_stay (h.each x hx) hg (h2 x hx), h.ok, h.apart⟩
theorem OwnRows.keep (h : OwnRows enc size ok base th te W a n c T) (hb : Below W.heap.size W V) : OwnRows enc size ok base th te V a n c T :=
  h.stay (grown_below hb none) (fun _ _ e => by cases e) (fun _ _ _ _ e => by cases e)
theorem OwnRows.hlen (h : OwnRows enc size ok base th te W a n c T) : T.length = n := own_n (fun x => encH_len x) (by decide) h.row
theorem OwnRows.hrow (h : OwnRows enc size ok base th te W a n c T) (henc : ∀ x, (enc x).length = size) (hpos : 0 < size) : HRow enc size ok W a n c T ∧ (∀ b o, a = some ⟨b, o, none⟩ → base ≤ b ∧ o = 0) ∧ ∀ x ∈ T, ∀ b o, x.a = some ⟨b, o, none⟩ → base ≤ b ∧ o = 0 := by
  have h1 := LRow.of_own (ok := fun _ : Hd α => True) (fun x => encH_len x) (by decide) h.row (fun _ _ => trivial)
  exact ⟨⟨h1.1.row, fun x hx => (LRow.of_own henc hpos (h.each x hx) (h.ok x hx)).1, h1.1.hnil⟩, h1.2, fun x hx => (LRow.of_own henc hpos (h.each x hx) (h.ok x hx)).2⟩
theorem OwnRows.lt (h : OwnRows enc size ok base th te W a n c T) {x : Hd α} (hx : x ∈ T) {k : Nat} (hk : x.own = some k) : base ≤ k ∧ k < W.heap.size := (h.each x hx).lt k hk
/-- One slice of them has become another. -/
theorem OwnRows.edit {g : Nat} (h : OwnRows enc size ok base th te W (some ⟨g, 0, none⟩) n c T) (hne : th ≠ te) {i : Nat} {x : Hd α} (hx : T[i]? = some x) {r : Option Nat} (hg : W.grownBy V r) (hr : r = none ∨ r = x.own) {y : Hd α}
    (ho : V.ownsRow base te size (.slice y.a y.n y.c) y.n (y.l.flatMap enc)) (hok : ∀ z ∈ y.l, ok z) (hat : ∀ k, y.own = some k → x.own = some k ∨ W.heap.size ≤ k) :
    OwnRows enc size ok base th te (V.setCell ⟨g, i, none⟩ (.slice y.a y.n y.c)) (some ⟨g, 0, none⟩) n c (T.set i y) := by
  have hil : i < T.length := (List.getElem?_eq_some_iff.1 hx).1
  have hxm := List.mem_of_getElem? hx
  have hin : i < n := by rw [← h.hlen]; exact hil
  have hgl := (h.row.lt g rfl)
  have hxg : ∀ z ∈ T, ∀ k, z.own = some k → k ≠ g := fun z hz k hk e => own_types (h.each z hz) h.row hne.symm k hk (by rw [e]; rfl)
  have offr : ∀ k, x.own ≠ some k → some k ≠ r := fun k hk e => by
    rcases hr with e1 | e1
    · rw [e1] at e; cases e
    · rw [e1] at e; exact hk e.symm
  have ro : ∀ (j : Nat) z, j ≠ i → T[j]? = some z → ∀ k, z.own = some k → some k ≠ r := fun j z hj hz k hk => offr k (fun e => h.apart j i z x hj hz hx k hk e.symm)
  have gp : V.grownBy (V.setCell ⟨g, i, none⟩ (.slice y.a y.n y.c)) (some g) := grown_put
  have get : ∀ (j : Nat) z, (T.set i y)[j]? = some z → (j = i ∧ z = y) ∨ (j ≠ i ∧ T[j]? = some z) := fun j z hz => by
    by_cases e : j = i
    · subst e
      rw [List.getElem?_set_self hil] at hz
      exact .inl ⟨rfl, (Option.some.inj hz).symm⟩
    · rw [List.getElem?_set_ne (fun e2 => e e2.symm)] at hz
      exact .inr ⟨e, hz⟩
  have yg : ∀ k, y.own = some k → some k ≠ some g := fun k hk e => by
    injection e with e
    rcases hat k hk with h1 | h1
    · exact hxg x hxm k h1 e
    · omega
  refine ⟨own_put1 (own_stay h.row hg (fun k hk => offr k (fun e => hxg x hxm k e (by injection hk with hk; exact hk.symm)))) hin y, fun z hz => ?_, fun z hz => ?_, ?_⟩
  · obtain ⟨j, hj⟩ := List.getElem?_of_mem hz
    rcases get j z hj with ⟨_, rfl⟩ | ⟨e, hj⟩
    · exact own_stay ho gp yg
    · exact own_stay (own_stay (h.each z (List.mem_of_getElem? hj)) hg (ro j z e hj)) gp (fun k hk e => hxg z (List.mem_of_getElem? hj) k hk (by injection e))
  · rcases List.mem_or_eq_of_mem_set hz with hz | rfl
    · exact h.ok z hz
    · exact hok
  · intro j1 j2 z1 z2 hj h1 h2 k hk e
    rcases get j1 z1 h1 with ⟨e1, f1⟩ | ⟨e1, f1⟩
    · subst f1
      rcases get j2 z2 h2 with ⟨e2, _⟩ | ⟨e2, f2⟩
      · exact hj (e1.trans e2.symm)
      · rcases hat k hk with h3 | h3
        · exact h.apart i j2 x z2 (fun e => e2 e.symm) hx f2 k h3 e
        · have := (h.lt (List.mem_of_getElem? f2) e.symm).2
          omega
    · rcases get j2 z2 h2 with ⟨e2, f2⟩ | ⟨e2, f2⟩
      · subst f2
        rcases hat k e.symm with h3 | h3
        · exact h.apart j1 i z1 x e1 f1 hx k hk h3.symm
        · have := (h.lt (List.mem_of_getElem? f1) hk).2
          omega
      · exact h.apart j1 j2 z1 z2 hj f1 f2 k hk e
/-- Other headers, made by a change of the headers' block alone, of slices that are there, or nil. -/
theorem OwnRows.heads (h : OwnRows enc size ok base th te W a n c T) (hne : th ≠ te) {r : Option Nat} (hg : W.grownBy V r) (hr : r = none ∨ r = (Value.slice a n c).ownBlock) {a' : Option Addr} {n' c' : Nat} {T' : List (Hd α)}
    (ho : V.ownsRow base th 1 (.slice a' n' c') n' (T'.flatMap encH)) (hsub : ∀ (j : Nat) x, T'[j]? = some x → T[j]? = some x ∨ x = ⟨none, 0, 0, []⟩) : OwnRows enc size ok base th te V a' n' c' T' := by
  have off : ∀ x ∈ T, ∀ k, x.own = some k → some k ≠ r := fun x hx k hk e => by
    rcases hr with e1 | e1
    · rw [e1] at e; cases e
    · rw [e1] at e; exact own_types (h.each x hx) h.row hne.symm k hk e
  refine ⟨ho, fun x hx => ?_, fun x hx => ?_, ?_⟩
  · obtain ⟨j, hj⟩ := List.getElem?_of_mem hx
    rcases hsub j x hj with h1 | rfl
    · exact own_stay (h.each x (List.mem_of_getElem? h1)) hg (off x (List.mem_of_getElem? h1))
    · exact World.ownsRow_nil _ _ _ _
  · obtain ⟨j, hj⟩ := List.getElem?_of_mem hx
    rcases hsub j x hj with h1 | rfl
    · exact h.ok x (List.mem_of_getElem? h1)
    · intro y hy; cases hy
  · intro i j x y hij hx hy k hk
    rcases hsub i x hx with h1 | rfl
    · rcases hsub j y hy with h2 | rfl
      · exact h.apart i j x y hij h1 h2 k hk
      · intro e; cases e
    · cases hk
end
/-- A line that a call owns. -/
structure OwnLine (base : Nat) (W : World) (v : LnV) : Prop where
  t : OwnRows encTd 10 okTd base 56 28 W v.ta v.tl v.tc v.T
  s : OwnRows encZ 1 In64 base 24 3 W v.sa v.sl v.sc v.S
  b : W.ownsRow base 3 1 (.slice v.ba v.bl v.bc) v.bl (v.B.flatMap encZ)
  bi : ∀ z ∈ v.B, In64 z
  sb : ∀ x ∈ v.S, ∀ k, x.own = some k → some k ≠ (Value.slice v.ba v.bl v.bc).ownBlock
/-- Is k one of the line's blocks? -/
def LnV.has (v : LnV) (k : Nat) : Prop := (Value.slice v.ta v.tl v.tc).ownBlock = some k ∨ (∃ x ∈ v.T, x.own = some k) ∨ (Value.slice v.sa v.sl v.sc).ownBlock = some k ∨ (∃ x ∈ v.S, x.own = some k) ∨ (Value.slice v.ba v.bl v.bc).ownBlock = some k
section
variable {base : Nat} {W V : World} {v : LnV}
theorem OwnLine.stay (h : OwnLine base W v) {r : Option Nat} (hg : W.grownBy V r) (hr : ∀ k, v.has k → some k ≠ r) : OwnLine base V v :=
  ⟨h.t.stay hg (fun k hk => hr k (.inl hk)) (fun x hx k hk => hr k (.inr (.inl ⟨x, hx, hk⟩))), h.s.stay hg (fun k hk => hr k (.inr (.inr (.inl hk)))) (fun x hx k hk => hr k (.inr (.inr (.inr (.inl ⟨x, hx, hk⟩))))), own_stay h.b hg (fun k hk => hr k (.inr (.inr (.inr (.inr hk))))), h.bi, h.sb⟩
theorem OwnLine.keep (h : OwnLine base W v) (hb : Below W.heap.size W V) : OwnLine base V v := h.stay (grown_below hb none) (fun _ _ e => by cases e)
theorem OwnLine.lt (h : OwnLine base W v) {k : Nat} (hk : v.has k) : base ≤ k ∧ k < W.heap.size := by
  rcases hk with h1 | ⟨x, hx, h1⟩ | h1 | ⟨x, hx, h1⟩ | h1
  · exact h.t.row.lt k h1
  · exact h.t.lt hx h1
  · exact h.s.row.lt k h1
  · exact h.s.lt hx h1
  · exact h.b.lt k h1
/-- Apart from an object of another type. -/
theorem OwnLine.off (h : OwnLine base W v) {g : Nat} {cs : Array Value} {e : TypeId} {z : Nat × Nat} (hh : W.heap[g]? = some (.cells cs e z)) (e1 : 56 ≠ e) (e2 : 28 ≠ e) (e3 : 24 ≠ e) (e4 : 3 ≠ e) : ∀ k, v.has k → k ≠ g := by
  intro k hk
  rcases hk with h1 | ⟨x, hx, h1⟩ | h1 | ⟨x, hx, h1⟩ | h1
  · exact own_object h.t.row hh e1 k h1
  · exact own_object (h.t.each x hx) hh e2 k h1
  · exact own_object h.s.row hh e3 k h1
  · exact own_object (h.s.each x hx) hh e4 k h1
  · exact own_object h.b hh e4 k h1
theorem OwnLine.at_ (h : OwnLine base W v) : LineAt W v ∧ LineNew base v := by
  obtain ⟨t1, t2, t3⟩ := h.t.hrow encTd_len (by decide)
  obtain ⟨s1, s2, s3⟩ := h.s.hrow encZ_len (by decide)
  obtain ⟨b1, b2⟩ := LRow.of_own encZ_len (by decide) h.b h.bi
  exact ⟨⟨t1, s1, b1.int⟩, ⟨fun b o e => (t2 b o e).1, fun b o e => (s2 b o e).1, fun b o e => (b2 b o e).1, fun x hx b o e => (t3 x hx b o e).1, fun x hx b o e => (s3 x hx b o e).1⟩⟩
end
end Go.Proofs.Ytadlmjiebhpaoaa
