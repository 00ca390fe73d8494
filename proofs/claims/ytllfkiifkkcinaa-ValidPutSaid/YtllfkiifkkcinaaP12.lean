/- Texts joined in build order: CopyRegion. -/
import Derived.Test.YtllfkiifkkcinaaP09
/- The copy of a forest's nodes, made in a region that draws its order: 'Forest{Nodes: append([]Node{}, f.Nodes...), Most: f.Most}', and the same with one node more. -/
namespace Go.Proofs.Ytllfkiifkkcinaa
open Go.RowKit
/-- What is kept of one operation's result, whatever the others do. -/
structure Item (W : World) where
  fact : Value → World → Prop
  owns : Bool
  used : Option Nat
  stab : ∀ u w w' row, fact u w → w.grownBy w' row → (∀ k, row = some k → owns = true → k ∉ blk u) → (∀ k, row = some k → W.heap.size ≤ k) → fact u w'
def planOf {W : World} (its : List (Item W)) (used : List (Option Nat)) : Plan := ⟨fun i u w => match its[i]? with | some it => it.fact u w | none => True, fun i => match its[i]? with | some it => it.owns | none => false, fun i => used.getD i none⟩
theorem planOf_stab {W : World} (its : List (Item W)) (used : List (Option Nat)) (last : Nat) : ∀ j, j < last → ∀ u w w' row, (planOf its used).fact j u w → w.grownBy w' row → (∀ k, row = some k → (planOf its used).owns j = true → k ∉ blk u) → (∀ k, row = some k → W.heap.size ≤ k) → (planOf its used).fact j u w' := by
  intro j _ u w w' row
  unfold planOf
  dsimp only
  cases its[j]? with
  | none => exact fun _ _ _ _ => trivial
  | some it => exact it.stab u w w' row
theorem own_grown {w w' : World} {base : Nat} {e : TypeId} {size n : Nat} {v : Value} {xs : List Value} {row : Option Nat} (h : w.ownsRow base e size v n xs) (hg : w.grownBy w' row) (hne : ∀ k, row = some k → v.ownBlock ≠ some k) : w'.ownsRow base e size v n xs := by
  refine ⟨h.1, ?_⟩
  rcases h.2 with h | ⟨g, cap, cur, hv, hbg, hg2, h1, h2, h3, h4⟩
  · exact .inl h
  · have hlt : g < w.heap.size := by
      rcases Nat.lt_or_ge g w.heap.size with h | h
      · exact h
      · rw [Array.getElem?_eq_none h] at hg2; cases hg2
    refine .inr ⟨g, cap, cur, hv, hbg, (hg.block g hlt (fun e => hne g e.symm (by rw [hv]; rfl))).trans hg2, h1, h2, h3, h4⟩
theorem own_blk {w : World} {base : Nat} {e : TypeId} {size n : Nat} {v : Value} {xs : List Value} (h : w.ownsRow base e size v n xs) : ∀ k, k ∈ blk v ↔ v.ownBlock = some k := by
  intro k
  rcases h.2 with ⟨rfl, _⟩ | ⟨g, cap, cur, rfl, _⟩
  · simp [blk, blkOf, Value.ownBlock]
  · simp [blk, blkOf, Value.ownBlock, eq_comm]
theorem RowOf.grown {W w w' : World} {v : Value} {n : Nat} {L : List NodeD} {row : Option Nat} (h : RowOf W w v n L) (hg : w.grownBy w' row) (hne : ∀ k, row = some k → k ∉ blk v) (hW : ∀ k, row = some k → W.heap.size ≤ k) : RowOf W w' v n L :=
  ⟨own_grown h.own hg (fun k hk e => hne k hk ((own_blk h.own k).2 e)), h.below.grown hg h.below.size hW⟩
def isItem (W : World) (x : Value) : Item W := ⟨fun u _ => u = x, false, none, fun _ _ _ _ h _ _ _ => h⟩
def nilItem (W : World) : Item W := ⟨fun u w => ∃ g, u = .slice (some ⟨g, 0, none⟩) 0 0 ∧ NilOf W w g, true, none, by
  rintro _ w w' row ⟨g, rfl, h⟩ hg hne _
  exact ⟨g, rfl, ⟨own_grown h.own hg (fun k hk e => hne k hk rfl (by
    injection e with e
    subst e
    simp [blk, blkOf]))⟩⟩⟩
def rowItem (W : World) (n : Nat) (L : List NodeD) : Item W := ⟨fun u w => RowOf W w u n L, true, none, fun _ _ _ _ h hg hne hW => h.grown hg (fun k hk => hne k hk rfl) hW⟩
def litItem (W : World) (y : NodeD) : Item W := ⟨fun u w => ∃ g, u = .slice (some ⟨g, 0, none⟩) 1 1 ∧ LitOf W w g y, true, none, by
  rintro _ w w' row ⟨g, rfl, h⟩ hg hne _
  refine ⟨g, rfl, h.grown hg (fun e => hne g e.symm rfl (by simp [blk, blkOf]))⟩⟩
def aggItem (W : World) (n : Nat) (L : List NodeD) (m : Int) : Item W := ⟨fun u w => ∃ v, u = .agg #[v, .int .i64 m] ∧ RowOf W w v n L, true, none, by
  rintro _ w w' row ⟨v, rfl, h⟩ hg hne hW
  refine ⟨v, rfl, h.grown hg (fun k hk hb => hne k hk rfl ?_) hW⟩
  rcases h.own.2 with ⟨rfl, _⟩ | ⟨g, cap, cur, rfl, _⟩
  · simp [blk, blkOf] at hb
  · simpa [blk, blkOf] using hb⟩
def boxItem (W : World) : Item W := ⟨fun u w => ∃ g, u = .pointer (some ⟨g, 0, none⟩) ∧ W.heap.size ≤ g ∧ Box2 w g (.slice none 0 0) (.int .i64 0), true, none, by
  rintro _ w w' row ⟨g, rfl, hW, h⟩ hg hne _
  refine ⟨g, rfl, hW, h.grown hg (fun e => hne g e.symm rfl (by simp [blk, blkOf]))⟩⟩
theorem stepOut_of {W : World} {its : List (Item W)} {used : List (Option Nat)} {last i : Nat} {v : Nat → Value} {w w' : World} {u : Value} {it : Item W} (h : its[i]? = some it) (hf : it.fact u w')
    (hg : ∃ row, w.grownBy w' row ∧ ∀ k, row = some k → Took (planOf its used) last i v k) (ho : it.owns = true → ∀ b ∈ blk u, (w.heap.size ≤ b ∧ b < w'.heap.size) ∨ Took (planOf its used) last i v b) : StepOut (planOf its used) last i v w u w' := by
  refine ⟨?_, hg, ?_⟩
  · unfold planOf
    dsimp only
    rw [h]
    exact hf
  · unfold planOf
    dsimp only
    rw [h]
    exact ho
theorem grownBy_refl (w : World) (row : Option Nat) : w.grownBy w row := ⟨rfl, rfl, rfl, Nat.le_refl _, fun _ _ _ => rfl⟩
theorem grownBy_alloc (w : World) (o : Obj) : w.grownBy (w.alloc o) none := ⟨rfl, rfl, rfl, by simp, fun k hk _ => Below.heap_alloc _ _ _ hk⟩
theorem StepIn.item {W : World} {its : List (Item W)} {used : List (Option Nat)} {l : List Oper} {last : Nat} {a0 : Act} {i : Nat} {o : Oper} {a : Act} {w : World} {v : Nat → Value} (h : StepIn (planOf its used) l last W a0 i o a w v) {j : Nat} {it : Item W} (hj : j < last) (hit : its[j]? = some it)
    (he : edgeOn o j = true) (hu : used.getD j none = none ∨ used.getD j none = some i) : it.fact (v j) w := by
  have := h.facts j hj he hu
  unfold planOf at this
  dsimp only at this
  rwa [hit] at this
theorem RowOf.shape {W V : World} {v : Value} {n : Nat} {L : List NodeD} (h : RowOf W V v n L) : ∃ ad cap, v = .slice ad n cap := by
  rcases h.own.2 with ⟨rfl, rfl⟩ | ⟨g, cap, cur, rfl, _⟩
  · exact ⟨none, 0, rfl⟩
  · exact ⟨_, _, rfl⟩
section
variable {Q : Exit → Act → World → Prop} {W : World} {its : List (Item W)} {used : List (Option Nat)} {l : List Oper} {last : Nat} {a0 : Act} {i : Nat} {pos : String} {after : Array Edge} {ty : TypeId}
theorem st_nil {s : Nat} (hit : its[i]? = some (nilItem W)) : OpStep Try.prog Q (planOf its used) l last W a0 i { dst := some s, op := .buildSlice 22 0 #[], type := ty, pos := pos, after := after, guard := none } := by
  intro a w v K h hK
  have hb := Lib.hid h.below
  have hK := Lib.hid hK
  clear h
  go_simp
  refine hK.out _ _ (stepOut_of hit ⟨_, rfl, NilOf.new hb.out rfl⟩ ⟨none, grownBy_alloc _ _, fun k hk => by cases hk⟩ (fun _ b hb2 => .inl ?_))
  have : b = w.heap.size := by simpa [blk, blkOf] using hb2
  subst this
  simp
theorem st_field0 {s f b : Nat} (hit : its[i]? = some (isItem W (.pointer (some ⟨b, 0, none⟩)))) (hf : ∀ j, j < last → (l[j]?).bind (·.dst) ≠ some f) (hfv : a0.tmps[f]? = some (.pointer (some ⟨b, 0, none⟩))) :
    OpStep Try.prog Q (planOf its used) l last W a0 i { dst := some s, op := .fieldAddr 24 (.tmp f) 0, type := ty, pos := pos, after := after, guard := none } := by
  intro a w v K h hK
  have e := (h.rest f hf).trans hfv
  have hK := Lib.hid hK
  clear h
  go_simp
  exact hK.out _ _ (stepOut_of hit rfl ⟨none, grownBy_refl _ _, fun k hk => by cases hk⟩ (fun h => by cases h))
theorem st_field1 {s f b : Nat} (hit : its[i]? = some (isItem W (.pointer (some ⟨b, 1, none⟩)))) (hf : ∀ j, j < last → (l[j]?).bind (·.dst) ≠ some f) (hfv : a0.tmps[f]? = some (.pointer (some ⟨b, 0, none⟩))) :
    OpStep Try.prog Q (planOf its used) l last W a0 i { dst := some s, op := .fieldAddr 24 (.tmp f) 1, type := ty, pos := pos, after := after, guard := none } := by
  intro a w v K h hK
  have e := (h.rest f hf).trans hfv
  have hK := Lib.hid hK
  clear h
  go_simp
  exact hK.out _ _ (stepOut_of hit rfl ⟨none, grownBy_refl _ _, fun k hk => by cases hk⟩ (fun h => by cases h))
theorem st_loadRow {s s1 j b : Nat} {ad : Option Addr} {len cap : Nat} (hit : its[i]? = some (isItem W (.slice ad len cap))) (hj : j < last) (hjt : its[j]? = some (isItem W (.pointer (some ⟨b, 0, none⟩)))) (hju : used.getD j none = none) (hs : (l[j]?).bind (·.dst) = some s1)
    (he : edgeOn { dst := some s, op := .load 22 (.tmp s1), type := ty, pos := pos, after := after, guard := none } j = true) (hb : b < W.heap.size) (hc : W.cell? ⟨b, 0, none⟩ = some (.slice ad len cap)) :
    OpStep Try.prog Q (planOf its used) l last W a0 i { dst := some s, op := .load 22 (.tmp s1), type := ty, pos := pos, after := after, guard := none } := by
  intro a w v K h hK
  have e := h.vals j hj he s1 hs
  have e2 : v j = _ := h.item hj hjt he (.inl hju)
  rw [e2] at e
  have ec := (h.below.cell (p := ⟨b, 0, none⟩) hb).trans hc
  have hK := Lib.hid hK
  clear h e2
  go_simp
  exact hK.out _ _ (stepOut_of hit rfl ⟨none, grownBy_refl _ _, fun k hk => by cases hk⟩ (fun h => by cases h))
theorem st_loadInt {s s1 j b : Nat} {m : Int} (hit : its[i]? = some (isItem W (.int .i64 m))) (hj : j < last) (hjt : its[j]? = some (isItem W (.pointer (some ⟨b, 1, none⟩)))) (hju : used.getD j none = none) (hs : (l[j]?).bind (·.dst) = some s1)
    (he : edgeOn { dst := some s, op := .load 3 (.tmp s1), type := ty, pos := pos, after := after, guard := none } j = true) (hb : b < W.heap.size) (hc : W.cell? ⟨b, 1, none⟩ = some (.int .i64 m)) :
    OpStep Try.prog Q (planOf its used) l last W a0 i { dst := some s, op := .load 3 (.tmp s1), type := ty, pos := pos, after := after, guard := none } := by
  intro a w v K h hK
  have e := h.vals j hj he s1 hs
  have e2 : v j = _ := h.item hj hjt he (.inl hju)
  rw [e2] at e
  have ec := (h.below.cell (p := ⟨b, 1, none⟩) hb).trans hc
  have hK := Lib.hid hK
  clear h e2
  go_simp
  exact hK.out _ _ (stepOut_of hit rfl ⟨none, grownBy_refl _ _, fun k hk => by cases hk⟩ (fun h => by cases h))
theorem st_loadNode {s f b : Nat} {y : NodeD} (hit : its[i]? = some (isItem W (nodVal y))) (hf : ∀ j, j < last → (l[j]?).bind (·.dst) ≠ some f) (hfv : a0.tmps[f]? = some (.pointer (some ⟨b, 0, none⟩))) (w1 : World) (hc : NBox w1 W b y) :
    OpStep Try.prog Q (planOf its used) l last W a0 i { dst := some s, op := .load 28 (.tmp f), type := ty, pos := pos, after := after, guard := none } := by
  intro a w v K h hK
  have e := (h.rest f hf).trans hfv
  have hc := hc.keep h.below
  obtain ⟨-, x0, x1, x2, x3, x4, x5, x6, x7, x8, x9, -⟩ := hc
  have hK := Lib.hid hK
  clear h
  go_simp
  exact hK.out _ _ (stepOut_of hit rfl ⟨none, grownBy_refl _ _, fun k hk => by cases hk⟩ (fun h => by cases h))
theorem st_box {s : Nat} (hit : its[i]? = some (boxItem W)) : OpStep Try.prog Q (planOf its used) l last W a0 i { dst := some s, op := .alloc 24, type := ty, pos := pos, after := after, guard := none } := by
  intro a w v K h hK
  have hb := Lib.hid h.below
  have hK := Lib.hid hK
  clear h
  go_simp
  refine hK.out _ _ (stepOut_of hit ⟨_, rfl, hb.out.size, Box2.newAt rfl⟩ ⟨none, grownBy_alloc _ _, fun k hk => by cases hk⟩ (fun _ b hb2 => .inl ?_))
  have : b = w.heap.size := by simpa [blk, blkOf] using hb2
  subst this
  simp
theorem st_lit {s s1 j : Nat} {y : NodeD} (hit : its[i]? = some (litItem W y)) (hj : j < last) (hjt : its[j]? = some (isItem W (nodVal y))) (hju : used.getD j none = none) (hs : (l[j]?).bind (·.dst) = some s1)
    (he : edgeOn { dst := some s, op := .buildSlice 22 1 #[(0, .tmp s1)], type := ty, pos := pos, after := after, guard := none } j = true) :
    OpStep Try.prog Q (planOf its used) l last W a0 i { dst := some s, op := .buildSlice 22 1 #[(0, .tmp s1)], type := ty, pos := pos, after := after, guard := none } := by
  intro a w v K h hK
  have e := h.vals j hj he s1 hs
  have e2 : v j = _ := h.item hj hjt he (.inl hju)
  rw [e2] at e
  have hb := Lib.hid h.below
  have hK := Lib.hid hK
  clear h e2
  unfold nodVal at e
  go_simp
  refine hK.out _ _ (stepOut_of hit ⟨_, rfl, LitOf.new hb.out rfl⟩ ⟨none, grownBy_alloc _ _, fun k hk => by cases hk⟩ (fun _ b hb2 => .inl ?_))
  have : b = w.heap.size := by simpa [blk, blkOf] using hb2
  subst this
  simp
/-- A first append, onto an empty literal. -/
theorem st_app1 {s s1 s2 j k : Nat} {ad : Option Addr} {len cap : Nat} {L : List NodeD} (hit : its[i]? = some (rowItem W len L)) (hj : j < last) (hjt : its[j]? = some (nilItem W)) (hju : used.getD j none = some i) (hs : (l[j]?).bind (·.dst) = some s1)
    (hk : k < last) (hkt : its[k]? = some (isItem W (.slice ad len cap))) (hku : used.getD k none = none) (hs2 : (l[k]?).bind (·.dst) = some s2)
    (he : edgeOn { dst := some s, op := .call { callee := .builtin .append, args := #[.tmp s1, .tmp s2], argTypes := #[22, 22] }, type := ty, pos := pos, after := after, guard := none } j = true)
    (he2 : edgeOn { dst := some s, op := .call { callee := .builtin .append, args := #[.tmp s1, .tmp s2], argTypes := #[22, 22] }, type := ty, pos := pos, after := after, guard := none } k = true)
    (hr : NodeRow W ad len cap L) (hl : len ≤ 1000) :
    OpStep Try.prog Q (planOf its used) l last W a0 i { dst := some s, op := .call { callee := .builtin .append, args := #[.tmp s1, .tmp s2], argTypes := #[22, 22] }, type := ty, pos := pos, after := after, guard := none } := by
  intro a w v K h hK
  obtain ⟨i0, hi0, hz0, hz1, hz2⟩ := info_parts node_info
  have e := h.vals j hj he s1 hs
  obtain ⟨g, e2, hn⟩ := h.item hj hjt he (.inr hju)
  have f := h.vals k hk he2 s2 hs2
  have f2 : v k = _ := h.item hk hkt he2 (.inl hku)
  have := step_first (W := W) (V := w) (ops := #[]) (P := Try.prog) (Q := Q) (K := K) (E := True) (a := a) rfl (.tmp s1) (.tmp s2) 22 (o := { dst := some s, op := .call { callee := .builtin .append, args := #[.tmp s1, .tmp s2], argTypes := #[22, 22] }, type := ty, pos := pos, after := after, guard := none }) rfl i0 _ Try.underlying22 hi0 hz0 hz1 hz2 (by rfl) hr hl g
    (by show a.tmps.getD s1 undef = _; rw [Array.getD_eq_getD_getElem?, e, e2]; rfl) h.below hn (by show a.tmps.getD s2 undef = _; rw [Array.getD_eq_getD_getElem?, f, f2]; rfl) (fun u w' h1 h2 h3 => hK u w' (stepOut_of hit h1 ⟨some g, h2, fun k hk => ?_⟩ (fun _ b hb => ?_)))
  · rwa [if_pos (by simp [Region.wanted])] at this
  · injection hk with hk
    subst hk
    exact ⟨j, hj, hju, by unfold planOf; dsimp only; rw [hjt]; rfl, by rw [e2]; simp [blk, blkOf]⟩
  · have hb2 := (own_blk h1.own b).1 hb
    rcases h3 with h3 | h3
    · rw [h3] at hb2
      injection hb2 with hb2
      subst hb2
      exact .inr ⟨j, hj, hju, by unfold planOf; dsimp only; rw [hjt]; rfl, by rw [e2]; simp [blk, blkOf]⟩
    · rw [h3] at hb2
      injection hb2 with hb2
      subst hb2
      exact .inl ⟨Nat.le_refl _, (h1.own.lt _ h3).2⟩
/-- The second append: one node more. -/
theorem st_app2 {s s1 s2 j k : Nat} {len : Nat} {L : List NodeD} {y : NodeD} (hit : its[i]? = some (rowItem W (len + 1) (L ++ [y]))) (hj : j < last) (hjt : its[j]? = some (rowItem W len L)) (hju : used.getD j none = some i) (hs : (l[j]?).bind (·.dst) = some s1)
    (hk : k < last) (hkt : its[k]? = some (litItem W y)) (hku : used.getD k none = some i) (hs2 : (l[k]?).bind (·.dst) = some s2)
    (he : edgeOn { dst := some s, op := .call { callee := .builtin .append, args := #[.tmp s1, .tmp s2], argTypes := #[22, 22] }, type := ty, pos := pos, after := after, guard := none } j = true)
    (he2 : edgeOn { dst := some s, op := .call { callee := .builtin .append, args := #[.tmp s1, .tmp s2], argTypes := #[22, 22] }, type := ty, pos := pos, after := after, guard := none } k = true) (hl : len ≤ 1000) :
    OpStep Try.prog Q (planOf its used) l last W a0 i { dst := some s, op := .call { callee := .builtin .append, args := #[.tmp s1, .tmp s2], argTypes := #[22, 22] }, type := ty, pos := pos, after := after, guard := none } := by
  intro a w v K h hK
  obtain ⟨i0, hi0, hz0, hz1, hz2⟩ := info_parts node_info
  have e := h.vals j hj he s1 hs
  have hrow : RowOf W w (v j) len L := h.item hj hjt he (.inr hju)
  have f := h.vals k hk he2 s2 hs2
  obtain ⟨g, f2, hlit⟩ := h.item hk hkt he2 (.inr hku)
  have := step_second (W := W) (V := w) (ops := #[]) (P := Try.prog) (Q := Q) (K := K) (E := True) (a := a) rfl (.tmp s1) (.tmp s2) 22 (o := { dst := some s, op := .call { callee := .builtin .append, args := #[.tmp s1, .tmp s2], argTypes := #[22, 22] }, type := ty, pos := pos, after := after, guard := none }) rfl i0 _ Try.underlying22 hi0 hz0 hz1 hz2 (by rfl) (v j) len L hl
    (by show a.tmps.getD s1 undef = _; rw [Array.getD_eq_getD_getElem?, e]; rfl) hrow g y (by show a.tmps.getD s2 undef = _; rw [Array.getD_eq_getD_getElem?, f, f2]; rfl) hlit (fun g' cap' w' h1 h2 h3 => hK _ w' (stepOut_of hit h1 ⟨_, h2, fun k hk => ?_⟩ (fun _ b hb => ?_)))
  · rwa [if_pos (by simp [Region.wanted])] at this
  · exact ⟨j, hj, hju, by unfold planOf; dsimp only; rw [hjt]; rfl, (own_blk hrow.own k).2 hk⟩
  · have hbg : b = g' := by simpa [blk, blkOf] using hb
    subst hbg
    rcases h3 with h3 | h3
    · exact .inr ⟨j, hj, hju, by unfold planOf; dsimp only; rw [hjt]; rfl, (own_blk hrow.own b).2 h3⟩
    · exact .inl ⟨Nat.le_of_eq h3.symm, (h1.own.lt b rfl).2⟩
set_option maxRecDepth 100000 in
set_option maxHeartbeats 4000000 in
/-- The copy, ahead of the store. -/
theorem st_agg {s s1 s2 j k : Nat} {len : Nat} {L : List NodeD} {m : Int} (hit : its[i]? = some (aggItem W len L m)) (hj : j < last) (hjt : its[j]? = some (rowItem W len L)) (hju : used.getD j none = some i) (hs : (l[j]?).bind (·.dst) = some s1)
    (hk : k < last) (hkt : its[k]? = some (isItem W (.int .i64 m))) (hku : used.getD k none = none) (hs2 : (l[k]?).bind (·.dst) = some s2)
    (he : edgeOn { dst := some s, op := .build 24 #[(0, .tmp s1), (1, .tmp s2)], type := ty, pos := pos, after := after, guard := none } j = true)
    (he2 : edgeOn { dst := some s, op := .build 24 #[(0, .tmp s1), (1, .tmp s2)], type := ty, pos := pos, after := after, guard := none } k = true) :
    OpStep Try.prog Q (planOf its used) l last W a0 i { dst := some s, op := .build 24 #[(0, .tmp s1), (1, .tmp s2)], type := ty, pos := pos, after := after, guard := none } := by
  intro a w v K h hK
  have e := h.vals j hj he s1 hs
  have hrow : RowOf W w (v j) len L := h.item hj hjt he (.inr hju)
  have f := h.vals k hk he2 s2 hs2
  have f2 : v k = _ := h.item hk hkt he2 (.inl hku)
  rw [f2] at f
  obtain ⟨ua, uc, hu⟩ := hrow.shape
  have hbu : blk (.agg #[.slice ua len uc, .int .i64 m]) = blk (.slice ua len uc) := by
    rfl
  have HU := Lib.hid hu
  have HB := Lib.hid hbu
  have HR := Lib.hid hrow
  rw [hu] at e
  have hK := Lib.hid hK
  clear h f2 hu hrow hbu
  go_simp
  refine hK.out _ _ (stepOut_of hit ⟨_, rfl, HU.out ▸ HR.out⟩ ⟨none, grownBy_refl _ _, fun k hk => by cases hk⟩ (fun _ b hb => .inr ⟨j, hj, hju, by unfold planOf; dsimp only; rw [hjt]; rfl, ?_⟩))
  rw [HU.out, ← HB.out]
  exact hb
set_option maxRecDepth 100000 in
set_option maxHeartbeats 4000000 in
theorem st_aggC {s s1 j : Nat} {len : Nat} {L : List NodeD} {m : Int} (hit : its[i]? = some (aggItem W len L m)) (hj : j < last) (hjt : its[j]? = some (rowItem W len L)) (hju : used.getD j none = some i) (hs : (l[j]?).bind (·.dst) = some s1)
    (he : edgeOn { dst := some s, op := .build 24 #[(0, .tmp s1), (1, .const (.int .i64 m))], type := ty, pos := pos, after := after, guard := none } j = true) :
    OpStep Try.prog Q (planOf its used) l last W a0 i { dst := some s, op := .build 24 #[(0, .tmp s1), (1, .const (.int .i64 m))], type := ty, pos := pos, after := after, guard := none } := by
  intro a w v K h hK
  have e := h.vals j hj he s1 hs
  have hrow : RowOf W w (v j) len L := h.item hj hjt he (.inr hju)
  obtain ⟨ua, uc, hu⟩ := hrow.shape
  have hbu : blk (.agg #[.slice ua len uc, .int .i64 m]) = blk (.slice ua len uc) := by
    rfl
  have HU := Lib.hid hu
  have HB := Lib.hid hbu
  have HR := Lib.hid hrow
  rw [hu] at e
  have hK := Lib.hid hK
  clear h hu hrow hbu
  go_simp
  refine hK.out _ _ (stepOut_of hit ⟨_, rfl, HU.out ▸ HR.out⟩ ⟨none, grownBy_refl _ _, fun k hk => by cases hk⟩ (fun _ b hb => .inr ⟨j, hj, hju, by unfold planOf; dsimp only; rw [hjt]; rfl, ?_⟩))
  rw [HU.out, ← HB.out]
  exact hb
end
/-- What the copy leaves: a box of its own, and its row of its own. -/
structure Copied (W V : World) (g gr len cap : Nat) (m : Int) (L : List NodeD) : Prop where
  box : Box2 V g (.slice (some ⟨gr, 0, none⟩) len cap) (.int .i64 m)
  row : RowOf W V (.slice (some ⟨gr, 0, none⟩) len cap) len L
  ne : gr ≠ g
  ge : W.heap.size ≤ g
/-- What is stored where it stands changes nothing. -/
theorem setCell_id {w : World} {a : Addr} {u : Value} (h : w.cell? a = some u) : w.setCell a u = w := by
  have e : (w.setCell a u).heap = w.heap := by
    unfold World.setCell
    refine Array.ext_getElem? fun i => ?_
    dsimp only
    rw [Array.getElem?_modify]
    split
    · next hi =>
      subst hi
      unfold World.cell? at h
      cases hb : w.heap[a.block]? with
      | none => rfl
      | some o =>
        rw [hb] at h
        cases o with
        | cells c elem fr =>
          dsimp only at h
          cases hs : a.spot.isSome with
          | true => rw [hs] at h; cases h
          | false =>
            rw [hs] at h
            simp only [Option.map_some, Bool.false_eq_true, if_false] at h ⊢
            congr 2
            refine Array.ext_getElem? fun j => ?_
            rw [Array.getElem?_setIfInBounds]
            split
            · next hj =>
              subst hj
              rw [h, if_pos (Array.getElem?_eq_some_iff.1 h).1]
            · rfl
        | _ => rfl
    · rfl
  have e2 : w.setCell a u = { w with heap := (w.setCell a u).heap } := rfl
  rw [e2, e]
/-- The copy's row may be written. -/
theorem Copied.wrow {W V : World} {g gr len cap : Nat} {m : Int} {L : List NodeD} (h : Copied W V g gr len cap m L) (hl : L.length = len) (hok : ∀ x ∈ L, NodeOk W x) : WRow V gr len cap L := by
  obtain ⟨a, cap', he, hr, _⟩ := SRow.of_own (L := L) (fun x _ => encN_len x) hl h.row.own
  injection he with h1 h2 h3
  subst h1; subst h3
  have hlt := h.row.own.lt gr rfl
  exact ⟨⟨hr, fun x hx => (hok x hx).below h.row.below, fun h => by cases h⟩, hlt.2, fun o => own_free h.row.own o, fun x hx => (hok x hx).away hlt.1⟩
set_option maxHeartbeats 4000000 in
set_option maxRecDepth 100000 in
theorem st_store {Q : Exit → Act → World → Prop} {W : World} {its : List (Item W)} {used : List (Option Nat)} {l : List Oper} {last : Nat} {a0 : Act} {pos : String} {after : Array Edge} {ty : TypeId} {s1 s2 j k len : Nat} {m : Int} {L : List NodeD} {a : Act} {w : World} {v : Nat → Value}
    (h : StepIn (planOf its used) l last W a0 last { dst := none, op := .store 24 (.tmp s1) (.tmp s2), type := ty, pos := pos, after := after, guard := none } a w v)
    (hj : j < last) (hjt : its[j]? = some (boxItem W)) (hju : used.getD j none = some last) (hs : (l[j]?).bind (·.dst) = some s1) (he : edgeOn { dst := none, op := .store 24 (.tmp s1) (.tmp s2), type := ty, pos := pos, after := after, guard := none } j = true)
    (hk : k < last) (hkt : its[k]? = some (aggItem W len L m)) (hku : used.getD k none = some last) (hs2 : (l[k]?).bind (·.dst) = some s2) (he2 : edgeOn { dst := none, op := .store 24 (.tmp s1) (.tmp s2), type := ty, pos := pos, after := after, guard := none } k = true) (hjk : j ≠ k) (hlen : 0 < len)
    (hQ : ∀ g gr cap w', v j = .pointer (some ⟨g, 0, none⟩) → v k = .agg #[.slice (some ⟨gr, 0, none⟩) len cap, .int .i64 m] → Copied W w' g gr len cap m L → Q .normal a w') :
    Oper.wp Try.prog { dst := none, op := .store 24 (.tmp s1) (.tmp s2), type := ty, pos := pos, after := after, guard := none } a w (Q .normal) Q := by
  have e := h.vals j hj he s1 hs
  obtain ⟨g, e2, hg, hbox⟩ := h.item hj hjt he (.inr hju)
  have f := h.vals k hk he2 s2 hs2
  obtain ⟨u, f2, hrow⟩ := h.item hk hkt he2 (.inr hku)
  obtain ⟨gr, cap, rfl⟩ : ∃ gr cap, u = .slice (some ⟨gr, 0, none⟩) len cap := by
    rcases hrow.own.2 with ⟨_, h0⟩ | ⟨g', cap', _, h1, _⟩
    · omega
    · exact ⟨g', cap', h1⟩
  have hne : gr ≠ g := by
    intro e3
    refine h.apart j k hj hk hju hku hjk ?_ ?_ g ?_ ?_
    · unfold planOf; dsimp only; rw [hjt]; rfl
    · unfold planOf; dsimp only; rw [hkt]; rfl
    · rw [e2]; simp [blk, blkOf]
    · rw [f2, e3]; simp [blk, blkOf]
  have HQ := Lib.hid (fun w' => hQ g gr cap w' e2 f2)
  rw [e2] at e
  rw [f2] at f
  have HR := Lib.hid hrow
  have HG := Lib.hid hg
  have HN := Lib.hid hne
  obtain ⟨hlt, hc0, hc1, hf0, hf1⟩ := hbox
  clear h hQ hju hku hjt hkt he he2 hs hs2 hrow e2 f2 hg hne
  have HLT := Lib.hid hlt
  have HC0 := Lib.hid hc0
  have HC1 := Lib.hid hc1
  have HF0 := Lib.hid hf0
  have HF1 := Lib.hid hf1
  clear hlt
  go_simp
  have hne2 : (Value.slice (some ⟨gr, 0, none⟩) len cap).ownBlock ≠ some g := fun e => HN.out (by injection e)
  exact HQ.out _ ⟨Box2.set ⟨HLT.out, HC0.out, HC1.out, HF0.out, HF1.out⟩ _ _, ⟨own_boxCell (own_boxCell HR.out.own hne2 _) hne2 _, (HR.out.below.setCell (p := ⟨g, 0, none⟩) HG.out _).setCell (p := ⟨g, 1, none⟩) HG.out _⟩, HN.out, HG.out⟩
def copy1Ops (f s0 s1 s2 s3 s4 s5 s6 s7 : Nat) (pos : String) : List Oper := [
  { dst := some s0, op := .buildSlice 22 0 #[], type := 22, pos := pos, after := #[], guard := none },
  { dst := some s1, op := .fieldAddr 24 (.tmp f) 0, type := 0, pos := pos, after := #[], guard := none },
  { dst := some s2, op := .load 22 (.tmp s1), type := 22, pos := pos, after := #[{ on := 1, ground := .data }], guard := none },
  { dst := some s3, op := .call { callee := .builtin .append, args := #[.tmp s0, .tmp s2], argTypes := #[22, 22] }, type := 22, pos := pos, after := #[{ on := 0, ground := .data }, { on := 2, ground := .data }], guard := none },
  { dst := some s4, op := .fieldAddr 24 (.tmp f) 1, type := 0, pos := pos, after := #[], guard := none },
  { dst := some s5, op := .load 3 (.tmp s4), type := 3, pos := pos, after := #[{ on := 4, ground := .data }], guard := none },
  { dst := some s6, op := .build 24 #[(0, .tmp s3), (1, .tmp s5)], type := 24, pos := pos, after := #[{ on := 3, ground := .data }, { on := 5, ground := .data }], guard := none },
  { dst := some s7, op := .alloc 24, type := 0, pos := pos, after := #[], guard := none },
  { dst := none, op := .store 24 (.tmp s7) (.tmp s6), type := 0, pos := pos, after := #[{ on := 7, ground := .data }, { on := 6, ground := .data }, { on := 3, ground := .chain }, { on := 0, ground := .phase }, { on := 1, ground := .phase }, { on := 2, ground := .phase }, { on := 3, ground := .phase }, { on := 4, ground := .phase }, { on := 5, ground := .phase }, { on := 6, ground := .phase }, { on := 7, ground := .phase }], guard := none }]
set_option maxHeartbeats 4000000 in
set_option maxRecDepth 100000 in
theorem copy1_region {id : Nat} {Q : Exit → Act → World → Prop} {a0 : Act} {W : World} (f s0 s1 s2 s3 s4 s5 s6 s7 n : Nat) (pos : String)
    (hok : planOK (copy1Ops f s0 s1 s2 s3 s4 s5 s6 s7 pos) 8 n (fun i => [some 3, none, none, some 6, none, none, some 8, some 8].getD i none) = true) (hn : n ≤ a0.tmps.size)
    (hf : ∀ j, j < 8 → ((copy1Ops f s0 s1 s2 s3 s4 s5 s6 s7 pos)[j]?).bind (·.dst) ≠ some f) (b : Nat) (ad : Option Addr) (len cap0 : Nat) (m : Int) (L : List NodeD) (hfv : a0.tmps[f]? = some (.pointer (some ⟨b, 0, none⟩))) (hb : b < W.heap.size) (hc0 : W.cell? ⟨b, 0, none⟩ = some (.slice ad len cap0)) (hc1 : W.cell? ⟨b, 1, none⟩ = some (.int .i64 m)) (hr : NodeRow W ad len cap0 L) (hl : 0 < len ∧ len ≤ 1000)
    (hQ : ∀ (v : Nat → Value) g gr cap w', Copied W w' g gr len cap m L → Q .normal ⟨(puts a0.tmps.toList [(some s0, v 0), (some s1, v 1), (some s2, v 2), (some s3, v 3), (some s4, v 4), (some s5, v 5), (some s6, .agg #[.slice (some ⟨gr, 0, none⟩) len cap, .int .i64 m]), (some s7, .pointer (some ⟨g, 0, none⟩))]).toArray, a0.defers⟩ w') : (Code.region id (copy1Ops f s0 s1 s2 s3 s4 s5 s6 s7 pos).toArray true).wp Try.prog Q a0 W := by
  refine wp_region_inv (planOf [nilItem W, isItem W (.pointer (some ⟨b, 0, none⟩)), isItem W (.slice ad len cap0), rowItem W len L, isItem W (.pointer (some ⟨b, 1, none⟩)), isItem W (.int .i64 m), aggItem W len L m, boxItem W] [some 3, none, none, some 6, none, none, some 8, some 8]) 8 n (by kernel_rfl) hok hn (planOf_stab _ _ _) ?_ ?_
  · intro i hi o ho
    match i, hi with
    | 0, _ => cases ho; exact st_nil rfl
    | 1, _ => cases ho; exact st_field0 rfl hf hfv
    | 2, _ => cases ho; exact st_loadRow rfl (j := 1) (by decide) rfl rfl rfl (by simp [edgeOn, Region.binds]) hb hc0
    | 3, _ => cases ho; exact st_app1 rfl (j := 0) (k := 2) (by decide) rfl rfl rfl (by decide) rfl rfl rfl (by simp [edgeOn, Region.binds]) (by simp [edgeOn, Region.binds]) hr hl.2
    | 4, _ => cases ho; exact st_field1 rfl hf hfv
    | 5, _ => cases ho; exact st_loadInt rfl (j := 4) (by decide) rfl rfl rfl (by simp [edgeOn, Region.binds]) hb hc1
    | 6, _ => cases ho; exact st_agg rfl (j := 3) (k := 5) (by decide) rfl rfl rfl (by decide) rfl rfl rfl (by simp [edgeOn, Region.binds]) (by simp [edgeOn, Region.binds])
    | 7, _ => cases ho; exact st_box rfl
  · intro o ho w v h
    cases ho
    refine st_store h (j := 7) (k := 6) (by decide) rfl rfl rfl (by simp [edgeOn, Region.binds]) (by decide) rfl rfl rfl (by simp [edgeOn, Region.binds]) (by decide) (by omega) ?_
    intro g gr cap w' e1 e2 hc
    have := hQ v g gr cap w' hc
    show Q .normal ⟨(puts a0.tmps.toList [(some s0, v 0), (some s1, v 1), (some s2, v 2), (some s3, v 3), (some s4, v 4), (some s5, v 5), (some s6, v 6), (some s7, v 7)]).toArray, a0.defers⟩ w'
    rw [e1, e2]
    exact this
def copyCOps (f x s0 s1 s2 s3 s4 s5 s6 s7 s8 : Nat) (pos : String) : List Oper := [
  { dst := some s0, op := .buildSlice 22 0 #[], type := 22, pos := pos, after := #[], guard := none },
  { dst := some s1, op := .fieldAddr 24 (.tmp f) 0, type := 0, pos := pos, after := #[], guard := none },
  { dst := some s2, op := .load 22 (.tmp s1), type := 22, pos := pos, after := #[{ on := 1, ground := .data }], guard := none },
  { dst := some s3, op := .call { callee := .builtin .append, args := #[.tmp s0, .tmp s2], argTypes := #[22, 22] }, type := 22, pos := pos, after := #[{ on := 0, ground := .data }, { on := 2, ground := .data }], guard := none },
  { dst := some s4, op := .load 28 (.tmp x), type := 28, pos := pos, after := #[], guard := none },
  { dst := some s5, op := .buildSlice 22 1 #[(0, .tmp s4)], type := 22, pos := pos, after := #[{ on := 4, ground := .data }], guard := none },
  { dst := some s6, op := .call { callee := .builtin .append, args := #[.tmp s3, .tmp s5], argTypes := #[22, 22] }, type := 22, pos := pos, after := #[{ on := 3, ground := .data }, { on := 5, ground := .data }, { on := 3, ground := .chain }], guard := none },
  { dst := some s7, op := .build 24 #[(0, .tmp s6), (1, .const (.int .i64 400))], type := 24, pos := pos, after := #[{ on := 6, ground := .data }], guard := none },
  { dst := some s8, op := .alloc 24, type := 0, pos := pos, after := #[], guard := none },
  { dst := none, op := .store 24 (.tmp s8) (.tmp s7), type := 0, pos := pos, after := #[{ on := 8, ground := .data }, { on := 7, ground := .data }, { on := 6, ground := .chain }, { on := 0, ground := .phase }, { on := 1, ground := .phase }, { on := 2, ground := .phase }, { on := 3, ground := .phase }, { on := 4, ground := .phase }, { on := 5, ground := .phase }, { on := 6, ground := .phase }, { on := 7, ground := .phase }, { on := 8, ground := .phase }], guard := none }]
set_option maxHeartbeats 4000000 in
set_option maxRecDepth 100000 in
theorem copyC_region {id : Nat} {Q : Exit → Act → World → Prop} {a0 : Act} {W : World} (f x s0 s1 s2 s3 s4 s5 s6 s7 s8 n : Nat) (pos : String)
    (hok : planOK (copyCOps f x s0 s1 s2 s3 s4 s5 s6 s7 s8 pos) 9 n (fun i => [some 3, none, none, some 6, none, some 6, some 7, some 9, some 9].getD i none) = true) (hn : n ≤ a0.tmps.size)
    (hf : ∀ j, j < 9 → ((copyCOps f x s0 s1 s2 s3 s4 s5 s6 s7 s8 pos)[j]?).bind (·.dst) ≠ some f) (hx : ∀ j, j < 9 → ((copyCOps f x s0 s1 s2 s3 s4 s5 s6 s7 s8 pos)[j]?).bind (·.dst) ≠ some x) (b : Nat) (ad : Option Addr) (len cap0 : Nat) (L : List NodeD) (hfv : a0.tmps[f]? = some (.pointer (some ⟨b, 0, none⟩))) (hb : b < W.heap.size) (hc0 : W.cell? ⟨b, 0, none⟩ = some (.slice ad len cap0)) (hr : NodeRow W ad len cap0 L) (hl : len ≤ 1000) (w1 : World) (y : NodeD) (q : Nat) (hxv : a0.tmps[x]? = some (.pointer (some ⟨q, 0, none⟩))) (hy : NBox w1 W q y)
    (hQ : ∀ (v : Nat → Value) g gr cap w', Copied W w' g gr (len + 1) cap 400 (L ++ [y]) → Q .normal ⟨(puts a0.tmps.toList [(some s0, v 0), (some s1, v 1), (some s2, v 2), (some s3, v 3), (some s4, v 4), (some s5, v 5), (some s6, v 6), (some s7, .agg #[.slice (some ⟨gr, 0, none⟩) (len + 1) cap, .int .i64 400]), (some s8, .pointer (some ⟨g, 0, none⟩))]).toArray, a0.defers⟩ w') : (Code.region id (copyCOps f x s0 s1 s2 s3 s4 s5 s6 s7 s8 pos).toArray true).wp Try.prog Q a0 W := by
  refine wp_region_inv (planOf [nilItem W, isItem W (.pointer (some ⟨b, 0, none⟩)), isItem W (.slice ad len cap0), rowItem W len L, isItem W (nodVal y), litItem W y, rowItem W (len + 1) (L ++ [y]), aggItem W (len + 1) (L ++ [y]) 400, boxItem W] [some 3, none, none, some 6, none, some 6, some 7, some 9, some 9]) 9 n (by kernel_rfl) hok hn (planOf_stab _ _ _) ?_ ?_
  · intro i hi o ho
    match i, hi with
    | 0, _ => cases ho; exact st_nil rfl
    | 1, _ => cases ho; exact st_field0 rfl hf hfv
    | 2, _ => cases ho; exact st_loadRow rfl (j := 1) (by decide) rfl rfl rfl (by simp [edgeOn, Region.binds]) hb hc0
    | 3, _ => cases ho; exact st_app1 rfl (j := 0) (k := 2) (by decide) rfl rfl rfl (by decide) rfl rfl rfl (by simp [edgeOn, Region.binds]) (by simp [edgeOn, Region.binds]) hr hl
    | 4, _ => cases ho; exact st_loadNode rfl hx hxv w1 hy
    | 5, _ => cases ho; exact st_lit rfl (j := 4) (by decide) rfl rfl rfl (by simp [edgeOn, Region.binds])
    | 6, _ => cases ho; exact st_app2 rfl (j := 3) (k := 5) (by decide) rfl rfl rfl (by decide) rfl rfl rfl (by simp [edgeOn, Region.binds]) (by simp [edgeOn, Region.binds]) hl
    | 7, _ => cases ho; exact st_aggC rfl (j := 6) (by decide) rfl rfl rfl (by simp [edgeOn, Region.binds])
    | 8, _ => cases ho; exact st_box rfl
  · intro o ho w v h
    cases ho
    refine st_store h (j := 8) (k := 7) (by decide) rfl rfl rfl (by simp [edgeOn, Region.binds]) (by decide) rfl rfl rfl (by simp [edgeOn, Region.binds]) (by decide) (by omega) ?_
    intro g gr cap w' e1 e2 hc
    have := hQ v g gr cap w' hc
    show Q .normal ⟨(puts a0.tmps.toList [(some s0, v 0), (some s1, v 1), (some s2, v 2), (some s3, v 3), (some s4, v 4), (some s5, v 5), (some s6, v 6), (some s7, v 7), (some s8, v 8)]).toArray, a0.defers⟩ w'
    rw [e1, e2]
    exact this
def copyMOps (f x s0 s1 s2 s3 s4 s5 s6 s7 s8 s9 s10 : Nat) (pos : String) : List Oper := [
  { dst := some s0, op := .buildSlice 22 0 #[], type := 22, pos := pos, after := #[], guard := none },
  { dst := some s1, op := .fieldAddr 24 (.tmp f) 0, type := 0, pos := pos, after := #[], guard := none },
  { dst := some s2, op := .load 22 (.tmp s1), type := 22, pos := pos, after := #[{ on := 1, ground := .data }], guard := none },
  { dst := some s3, op := .call { callee := .builtin .append, args := #[.tmp s0, .tmp s2], argTypes := #[22, 22] }, type := 22, pos := pos, after := #[{ on := 0, ground := .data }, { on := 2, ground := .data }], guard := none },
  { dst := some s4, op := .load 28 (.tmp x), type := 28, pos := pos, after := #[], guard := none },
  { dst := some s5, op := .buildSlice 22 1 #[(0, .tmp s4)], type := 22, pos := pos, after := #[{ on := 4, ground := .data }], guard := none },
  { dst := some s6, op := .call { callee := .builtin .append, args := #[.tmp s3, .tmp s5], argTypes := #[22, 22] }, type := 22, pos := pos, after := #[{ on := 3, ground := .data }, { on := 5, ground := .data }, { on := 3, ground := .chain }], guard := none },
  { dst := some s7, op := .fieldAddr 24 (.tmp f) 1, type := 0, pos := pos, after := #[], guard := none },
  { dst := some s8, op := .load 3 (.tmp s7), type := 3, pos := pos, after := #[{ on := 7, ground := .data }], guard := none },
  { dst := some s9, op := .build 24 #[(0, .tmp s6), (1, .tmp s8)], type := 24, pos := pos, after := #[{ on := 6, ground := .data }, { on := 8, ground := .data }], guard := none },
  { dst := some s10, op := .alloc 24, type := 0, pos := pos, after := #[], guard := none },
  { dst := none, op := .store 24 (.tmp s10) (.tmp s9), type := 0, pos := pos, after := #[{ on := 10, ground := .data }, { on := 9, ground := .data }, { on := 6, ground := .chain }, { on := 0, ground := .phase }, { on := 1, ground := .phase }, { on := 2, ground := .phase }, { on := 3, ground := .phase }, { on := 4, ground := .phase }, { on := 5, ground := .phase }, { on := 6, ground := .phase }, { on := 7, ground := .phase }, { on := 8, ground := .phase }, { on := 9, ground := .phase }, { on := 10, ground := .phase }], guard := none }]
set_option maxHeartbeats 4000000 in
set_option maxRecDepth 100000 in
theorem copyM_region {id : Nat} {Q : Exit → Act → World → Prop} {a0 : Act} {W : World} (f x s0 s1 s2 s3 s4 s5 s6 s7 s8 s9 s10 n : Nat) (pos : String)
    (hok : planOK (copyMOps f x s0 s1 s2 s3 s4 s5 s6 s7 s8 s9 s10 pos) 11 n (fun i => [some 3, none, none, some 6, none, some 6, some 9, none, none, some 11, some 11].getD i none) = true) (hn : n ≤ a0.tmps.size)
    (hf : ∀ j, j < 11 → ((copyMOps f x s0 s1 s2 s3 s4 s5 s6 s7 s8 s9 s10 pos)[j]?).bind (·.dst) ≠ some f) (hx : ∀ j, j < 11 → ((copyMOps f x s0 s1 s2 s3 s4 s5 s6 s7 s8 s9 s10 pos)[j]?).bind (·.dst) ≠ some x) (b : Nat) (ad : Option Addr) (len cap0 : Nat) (L : List NodeD) (hfv : a0.tmps[f]? = some (.pointer (some ⟨b, 0, none⟩))) (hb : b < W.heap.size) (hc0 : W.cell? ⟨b, 0, none⟩ = some (.slice ad len cap0)) (hr : NodeRow W ad len cap0 L) (hl : len ≤ 1000) (m : Int) (hc1 : W.cell? ⟨b, 1, none⟩ = some (.int .i64 m)) (w1 : World) (y : NodeD) (q : Nat) (hxv : a0.tmps[x]? = some (.pointer (some ⟨q, 0, none⟩))) (hy : NBox w1 W q y)
    (hQ : ∀ (v : Nat → Value) g gr cap w', Copied W w' g gr (len + 1) cap m (L ++ [y]) → Q .normal ⟨(puts a0.tmps.toList [(some s0, v 0), (some s1, v 1), (some s2, v 2), (some s3, v 3), (some s4, v 4), (some s5, v 5), (some s6, v 6), (some s7, v 7), (some s8, v 8), (some s9, .agg #[.slice (some ⟨gr, 0, none⟩) (len + 1) cap, .int .i64 m]), (some s10, .pointer (some ⟨g, 0, none⟩))]).toArray, a0.defers⟩ w') : (Code.region id (copyMOps f x s0 s1 s2 s3 s4 s5 s6 s7 s8 s9 s10 pos).toArray true).wp Try.prog Q a0 W := by
  refine wp_region_inv (planOf [nilItem W, isItem W (.pointer (some ⟨b, 0, none⟩)), isItem W (.slice ad len cap0), rowItem W len L, isItem W (nodVal y), litItem W y, rowItem W (len + 1) (L ++ [y]), isItem W (.pointer (some ⟨b, 1, none⟩)), isItem W (.int .i64 m), aggItem W (len + 1) (L ++ [y]) m, boxItem W] [some 3, none, none, some 6, none, some 6, some 9, none, none, some 11, some 11]) 11 n (by kernel_rfl) hok hn (planOf_stab _ _ _) ?_ ?_
  · intro i hi o ho
    match i, hi with
    | 0, _ => cases ho; exact st_nil rfl
    | 1, _ => cases ho; exact st_field0 rfl hf hfv
    | 2, _ => cases ho; exact st_loadRow rfl (j := 1) (by decide) rfl rfl rfl (by simp [edgeOn, Region.binds]) hb hc0
    | 3, _ => cases ho; exact st_app1 rfl (j := 0) (k := 2) (by decide) rfl rfl rfl (by decide) rfl rfl rfl (by simp [edgeOn, Region.binds]) (by simp [edgeOn, Region.binds]) hr hl
    | 4, _ => cases ho; exact st_loadNode rfl hx hxv w1 hy
    | 5, _ => cases ho; exact st_lit rfl (j := 4) (by decide) rfl rfl rfl (by simp [edgeOn, Region.binds])
    | 6, _ => cases ho; exact st_app2 rfl (j := 3) (k := 5) (by decide) rfl rfl rfl (by decide) rfl rfl rfl (by simp [edgeOn, Region.binds]) (by simp [edgeOn, Region.binds]) hl
    | 7, _ => cases ho; exact st_field1 rfl hf hfv
    | 8, _ => cases ho; exact st_loadInt rfl (j := 7) (by decide) rfl rfl rfl (by simp [edgeOn, Region.binds]) hb hc1
    | 9, _ => cases ho; exact st_agg rfl (j := 6) (k := 8) (by decide) rfl rfl rfl (by decide) rfl rfl rfl (by simp [edgeOn, Region.binds]) (by simp [edgeOn, Region.binds])
    | 10, _ => cases ho; exact st_box rfl
  · intro o ho w v h
    cases ho
    refine st_store h (j := 10) (k := 9) (by decide) rfl rfl rfl (by simp [edgeOn, Region.binds]) (by decide) rfl rfl rfl (by simp [edgeOn, Region.binds]) (by decide) (by omega) ?_
    intro g gr cap w' e1 e2 hc
    have := hQ v g gr cap w' hc
    show Q .normal ⟨(puts a0.tmps.toList [(some s0, v 0), (some s1, v 1), (some s2, v 2), (some s3, v 3), (some s4, v 4), (some s5, v 5), (some s6, v 6), (some s7, v 7), (some s8, v 8), (some s9, v 9), (some s10, v 10)]).toArray, a0.defers⟩ w'
    rw [e1, e2]
    exact this
end Go.Proofs.Ytllfkiifkkcinaa
