/- Texts joined in build order: Iv0Def. -/
import Derived.Test.YtioeagadhnnajaaA19
import Derived.Test.YtioeagadhnnajaaA39
import Derived.Test.YtioeagadhnnajaaA18
/- What the operations of instarref09's drawn regions leave behind, kept by all the others (of a desk's definitions). -/
namespace Go.Proofs.Ytioeagadhnnajaa.Iv0
open Go.RowKit
/-- What is kept of one operation's result, whatever the others do. -/
structure Item (W : World) where
  fact : Value → World → Prop
  owns : Bool
  stab : ∀ u w w' row, fact u w → w.grownBy w' row → (∀ k, row = some k → owns = true → k ∉ blk u) → (∀ k, row = some k → W.heap.size ≤ k) → fact u w'
def planOf {W : World} (its : List (Item W)) (used : List (Option Nat)) : Plan := ⟨fun i u w => match its[i]? with | some it => it.fact u w | none => True, fun i => match its[i]? with | some it => it.owns | none => false, fun i => used.getD i none⟩
theorem planOf_stab {W : World} (its : List (Item W)) (used : List (Option Nat)) (last : Nat) : ∀ j, j < last → ∀ u w w' row, (planOf its used).fact j u w → w.grownBy w' row → (∀ k, row = some k → (planOf its used).owns j = true → k ∉ blk u) → (∀ k, row = some k → W.heap.size ≤ k) → (planOf its used).fact j u w' := by
  intro j _ u w w' row
  unfold planOf
  dsimp only
  cases its[j]? with
  | none => exact fun _ _ _ _ => trivial
  | some it => exact it.stab u w w' row
theorem own_grownI {w w' : World} {base : Nat} {e : TypeId} {size n : Nat} {v : Value} {xs : List Value} {row : Option Nat} (h : w.ownsRow base e size v n xs) (hg : w.grownBy w' row) (hne : ∀ k, row = some k → v.ownBlock ≠ some k) : w'.ownsRow base e size v n xs := by
  refine ⟨h.1, ?_⟩
  rcases h.2 with h | ⟨g, cap, cur, hv, hbg, hg2, h1, h2, h3, h4⟩
  · exact .inl h
  · have hlt : g < w.heap.size := by
      rcases Nat.lt_or_ge g w.heap.size with h | h
      · exact h
      · rw [Array.getElem?_eq_none h] at hg2; cases hg2
    refine .inr ⟨g, cap, cur, hv, hbg, (hg.block g hlt (fun e => hne g e.symm (by rw [hv]; rfl))).trans hg2, h1, h2, h3, h4⟩
theorem own_blkI {w : World} {base : Nat} {e : TypeId} {size n : Nat} {v : Value} {xs : List Value} (h : w.ownsRow base e size v n xs) : ∀ k, k ∈ blk v ↔ v.ownBlock = some k := by
  intro k
  rcases h.2 with ⟨rfl, _⟩ | ⟨g, cap, cur, rfl, _⟩
  · simp [blk, blkOf, Value.ownBlock]
  · simp [blk, blkOf, Value.ownBlock, eq_comm]
theorem own_shapeI {w : World} {base : Nat} {e : TypeId} {size n : Nat} {v : Value} {xs : List Value} (h : w.ownsRow base e size v n xs) : ∃ ad cap, v = .slice ad n cap := by
  rcases h.2 with ⟨rfl, rfl⟩ | ⟨g, cap, cur, rfl, _⟩
  · exact ⟨none, 0, rfl⟩
  · exact ⟨_, _, rfl⟩
def isItem (W : World) (x : Value) : Item W := ⟨fun u _ => u = x, false, fun _ _ _ _ h _ _ _ => h⟩
def rowItem (W : World) (n : Nat) (xs : List Value) : Item W := ⟨fun u w => w.ownsRow W.heap.size 46 3 u n xs, true, fun _ _ _ _ h hg hne _ => own_grownI h hg (fun k hk e => hne k hk rfl ((own_blkI h k).2 e))⟩
def boxItem (W : World) : Item W := ⟨fun u w => ∃ g, u = .pointer (some ⟨g, 0, none⟩) ∧ W.heap.size ≤ g ∧ GBox w g (.slice none 0 0) (.slice none 0 0) 0 false, true, by
  rintro _ w w' row ⟨g, rfl, hW, h⟩ hg hne _
  exact ⟨g, rfl, hW, h.same (hg.block g h.lt (fun e => hne g e.symm rfl (by simp [blk, blkOf]))) hg.size⟩⟩
theorem stepOut_of {W : World} {its : List (Item W)} {used : List (Option Nat)} {last i : Nat} {v : Nat → Value} {w w' : World} {u : Value} {it : Item W} (h : its[i]? = some it) (hf : it.fact u w')
    (hg : ∃ row, w.grownBy w' row ∧ ∀ k, row = some k → Took (planOf its used) last i v k) (ho : it.owns = true → ∀ b ∈ blk u, (w.heap.size ≤ b ∧ b < w'.heap.size) ∨ Took (planOf its used) last i v b) : StepOut (planOf its used) last i v w u w' := by
  refine ⟨?_, hg, ?_⟩
  · unfold planOf
    dsimp only
    rw [h]
    exact hf
  · unfold planOf
    dsimp only
    rw [h]
    exact ho
theorem grownI_refl (w : World) (row : Option Nat) : w.grownBy w row := ⟨rfl, rfl, rfl, Nat.le_refl _, fun _ _ _ => rfl⟩
theorem grownI_alloc (w : World) (o : Obj) : w.grownBy (w.alloc o) none := ⟨rfl, rfl, rfl, by simp, fun k hk _ => Below.heap_alloc _ _ _ hk⟩
theorem itemI {W : World} {its : List (Item W)} {used : List (Option Nat)} {l : List Oper} {last : Nat} {a0 : Act} {i : Nat} {o : Oper} {a : Act} {w : World} {v : Nat → Value} (h : StepIn (planOf its used) l last W a0 i o a w v) {j : Nat} {it : Item W} (hj : j < last) (hit : its[j]? = some it)
    (he : edgeOn o j = true) (hu : used.getD j none = none ∨ used.getD j none = some i) : it.fact (v j) w := by
  have := h.facts j hj he hu
  unfold planOf at this
  dsimp only at this
  rwa [hit] at this
theorem tookI {W : World} {its : List (Item W)} {used : List (Option Nat)} {last i j : Nat} {v : Nat → Value} {b : Nat} {it : Item W} (hj : j < last) (hjt : its[j]? = some it) (ho : it.owns = true) (hju : used.getD j none = some i) (hb : b ∈ blk (v j)) : Took (planOf its used) last i v b :=
  ⟨j, hj, hju, by unfold planOf; dsimp only; rw [hjt]; exact ho, hb⟩
section
variable {Q : Exit → Act → World → Prop} {W : World} {its : List (Item W)} {used : List (Option Nat)} {l : List Oper} {last : Nat} {a0 : Act} {i : Nat} {pos : String} {after : Array Edge} {ty : TypeId}
theorem st_nil {s : Nat} (hit : its[i]? = some (rowItem W 0 [])) : OpStep Try.prog Q (planOf its used) l last W a0 i { dst := some s, op := .buildSlice 22 0 #[], type := ty, pos := pos, after := after, guard := none } := by
  intro a w v K h hK
  have hb := Lib.hid h.below
  have hK := Lib.hid hK
  clear h
  go_simp
  refine hK.out _ _ (stepOut_of hit (own_empty (α := DefD) (enc := encD) (size := 3) w W.heap.size 46 hb.out.size) ⟨none, grownI_alloc _ _, fun k hk => by cases hk⟩ (fun _ b hb2 => .inl ?_))
  have : b = w.heap.size := by simpa [blk, blkOf] using hb2
  subst this
  simp
theorem st_field0 {s f b : Nat} (hit : its[i]? = some (isItem W (.pointer (some ⟨b, 0, none⟩)))) (hf : ∀ j, j < last → (l[j]?).bind (·.dst) ≠ some f) (hfv : a0.tmps[f]? = some (.pointer (some ⟨b, 0, none⟩))) :
    OpStep Try.prog Q (planOf its used) l last W a0 i { dst := some s, op := .fieldAddr 25 (.tmp f) 0, type := ty, pos := pos, after := after, guard := none } := by
  intro a w v K h hK
  have e := (h.rest f hf).trans hfv
  have hK := Lib.hid hK
  clear h
  go_simp
  exact hK.out _ _ (stepOut_of hit rfl ⟨none, grownI_refl _ _, fun k hk => by cases hk⟩ (fun h => by cases h))
theorem st_field2 {s f b : Nat} (hit : its[i]? = some (isItem W (.pointer (some ⟨b, 2, none⟩)))) (hf : ∀ j, j < last → (l[j]?).bind (·.dst) ≠ some f) (hfv : a0.tmps[f]? = some (.pointer (some ⟨b, 0, none⟩))) :
    OpStep Try.prog Q (planOf its used) l last W a0 i { dst := some s, op := .fieldAddr 25 (.tmp f) 2, type := ty, pos := pos, after := after, guard := none } := by
  intro a w v K h hK
  have e := (h.rest f hf).trans hfv
  have hK := Lib.hid hK
  clear h
  go_simp
  exact hK.out _ _ (stepOut_of hit rfl ⟨none, grownI_refl _ _, fun k hk => by cases hk⟩ (fun h => by cases h))
theorem st_load0 {s s1 j b : Nat} {ad : Option Addr} {len cap : Nat} (hit : its[i]? = some (isItem W (.slice ad len cap))) (hj : j < last) (hjt : its[j]? = some (isItem W (.pointer (some ⟨b, 0, none⟩)))) (hju : used.getD j none = none) (hs : (l[j]?).bind (·.dst) = some s1)
    (he : edgeOn { dst := some s, op := .load 22 (.tmp s1), type := ty, pos := pos, after := after, guard := none } j = true) (hb : b < W.heap.size) (hc : W.cell? ⟨b, 0, none⟩ = some (.slice ad len cap)) :
    OpStep Try.prog Q (planOf its used) l last W a0 i { dst := some s, op := .load 22 (.tmp s1), type := ty, pos := pos, after := after, guard := none } := by
  intro a w v K h hK
  have e := h.vals j hj he s1 hs
  have e2 : v j = _ := itemI h hj hjt he (.inl hju)
  rw [e2] at e
  have ec := (h.below.cell (p := ⟨b, 0, none⟩) hb).trans hc
  have hK := Lib.hid hK
  clear h e2
  go_simp
  exact hK.out _ _ (stepOut_of hit rfl ⟨none, grownI_refl _ _, fun k hk => by cases hk⟩ (fun h => by cases h))
theorem st_load2 {s s1 j b : Nat} {n : Int} (hit : its[i]? = some (isItem W (.int .i64 n))) (hj : j < last) (hjt : its[j]? = some (isItem W (.pointer (some ⟨b, 2, none⟩)))) (hju : used.getD j none = none) (hs : (l[j]?).bind (·.dst) = some s1)
    (he : edgeOn { dst := some s, op := .load 3 (.tmp s1), type := ty, pos := pos, after := after, guard := none } j = true) (hb : b < W.heap.size) (hc : W.cell? ⟨b, 2, none⟩ = some (.int .i64 n)) :
    OpStep Try.prog Q (planOf its used) l last W a0 i { dst := some s, op := .load 3 (.tmp s1), type := ty, pos := pos, after := after, guard := none } := by
  intro a w v K h hK
  have e := h.vals j hj he s1 hs
  have e2 : v j = _ := itemI h hj hjt he (.inl hju)
  rw [e2] at e
  have ec := (h.below.cell (p := ⟨b, 2, none⟩) hb).trans hc
  have hK := Lib.hid hK
  clear h e2
  go_simp
  exact hK.out _ _ (stepOut_of hit rfl ⟨none, grownI_refl _ _, fun k hk => by cases hk⟩ (fun h => by cases h))
theorem st_box {s : Nat} (hit : its[i]? = some (boxItem W)) : OpStep Try.prog Q (planOf its used) l last W a0 i { dst := some s, op := .alloc 25, type := ty, pos := pos, after := after, guard := none } := by
  intro a w v K h hK
  have hb := Lib.hid h.below
  have hK := Lib.hid hK
  clear h
  go_simp
  refine hK.out _ _ (stepOut_of hit ⟨_, rfl, hb.out.size, GBox.new w _ _ 0 false⟩ ⟨none, grownI_alloc _ _, fun k hk => by cases hk⟩ (fun _ b hb2 => .inl ?_))
  have : b = w.heap.size := by simpa [blk, blkOf] using hb2
  subst this
  simp
/-- An append of rows onto a row of the call's own. -/
theorem st_app {s s1 s2 j n m : Nat} {L M : List DefD} (hit : its[i]? = some (rowItem W (n + m) ((L ++ M).flatMap encD))) (hj : j < last) (hjt : its[j]? = some (rowItem W n (L.flatMap encD))) (hju : used.getD j none = some i) (hs : (l[j]?).bind (·.dst) = some s1)
    (he : edgeOn { dst := some s, op := .call { callee := .builtin .append, args := #[.tmp s1, .tmp s2], argTypes := #[22, 22] }, type := ty, pos := pos, after := after, guard := none } j = true)
    (hsrc : ∀ a w v, StepIn (planOf its used) l last W a0 i { dst := some s, op := .call { callee := .builtin .append, args := #[.tmp s1, .tmp s2], argTypes := #[22, 22] }, type := ty, pos := pos, after := after, guard := none } a w v → ∃ ad c, a.tmps[s2]? = some (.slice ad m c) ∧ SRow encD 3 w ad m c M ∧ (ad = none → c = 0)) (hnm : n + m ≤ 100000) :
    OpStep Try.prog Q (planOf its used) l last W a0 i { dst := some s, op := .call { callee := .builtin .append, args := #[.tmp s1, .tmp s2], argTypes := #[22, 22] }, type := ty, pos := pos, after := after, guard := none } := by
  intro a w v K h hK
  obtain ⟨i0, hi0, hq0, hq1, hq2⟩ := info_parts3 def_info
  have e := h.vals j hj he s1 hs
  have hrow : w.ownsRow W.heap.size 46 3 (v j) n (L.flatMap encD) := itemI h hj hjt he (.inr hju)
  obtain ⟨ad, c, f, hsr, hnil⟩ := hsrc a w v h
  have := step_append_rows (w := w) (ops := #[]) (P := Try.prog) (Q := Q) (K := K) (E := True) (a := a) (o := { dst := some s, op := .call { callee := .builtin .append, args := #[.tmp s1, .tmp s2], argTypes := #[22, 22] }, type := ty, pos := pos, after := after, guard := none }) rfl (.tmp s1) (.tmp s2) 22 rfl 46 i0 _ 3 40 Try.underlying22 hi0 hq0 hq1 hq2 rfl (by decide) W.heap.size (v j) n L M
    (by show a.tmps.getD s1 undef = _; rw [Array.getD_eq_getD_getElem?, e]; rfl) hrow ad m c (by show a.tmps.getD s2 undef = _; rw [Array.getD_eq_getD_getElem?, f]; rfl) hsr (fun x _ => encD_one x) (by unfold maxLen; omega) (by omega) h.below.size hnil
    (fun u w' h1 h2 h3 => hK u w' (stepOut_of hit h1 ⟨_, h2, fun k hk => tookI hj hjt rfl hju ((own_blkI hrow k).2 hk)⟩ (fun _ b hb => ?_)))
  · rwa [if_pos (by simp [Region.wanted])] at this
  · have hb2 := (own_blkI h1 b).1 hb
    rcases h3 with h3 | h3
    · rw [h3] at hb2
      exact .inr (tookI hj hjt rfl hju ((own_blkI hrow b).2 hb2))
    · rw [h3] at hb2
      injection hb2 with hb2
      subst hb2
      exact .inl ⟨Nat.le_refl _, (h1.lt _ h3).2⟩
/-- The row appended lay there before. -/
theorem src_old {s2 k m c : Nat} {ad : Option Addr} {M : List DefD} {o : Oper} (hk : k < last) (hkt : its[k]? = some (isItem W (.slice ad m c))) (hku : used.getD k none = none) (hs2 : (l[k]?).bind (·.dst) = some s2) (he : edgeOn o k = true) (hr : SRow encD 3 W ad m c M) (hn : ad = none → c = 0) :
    ∀ a w v, StepIn (planOf its used) l last W a0 i o a w v → ∃ ad c, a.tmps[s2]? = some (.slice ad m c) ∧ SRow encD 3 w ad m c M ∧ (ad = none → c = 0) := by
  intro a w v h
  have f := h.vals k hk he s2 hs2
  have f2 : v k = _ := itemI h hk hkt he (.inl hku)
  exact ⟨ad, c, by rw [f, f2], hr.below h.below, hn⟩
theorem st_loadX {s f b : Nat} {n l9 : ByteArray} {c : Int} (hit : its[i]? = some (isItem W (.agg #[.string n, .string l9, .int .i64 c]))) (hf : ∀ j, j < last → (l[j]?).bind (·.dst) ≠ some f) (hfv : a0.tmps[f]? = some (.pointer (some ⟨b, 0, none⟩))) (hc : XBox W b n l9 c) :
    OpStep Try.prog Q (planOf its used) l last W a0 i { dst := some s, op := .load 46 (.tmp f), type := ty, pos := pos, after := after, guard := none } := by
  intro a w v K h hK
  have e := (h.rest f hf).trans hfv
  obtain ⟨-, x0, x1, x2⟩ := hc.keep h.below
  have hK := Lib.hid hK
  clear h
  go_simp
  exact hK.out _ _ (stepOut_of hit rfl ⟨none, grownI_refl _ _, fun k hk => by cases hk⟩ (fun h => by cases h))
def litItem (W : World) (y : DefD) : Item W := ⟨fun u w => ∃ g, u = .slice (some ⟨g, 0, none⟩) 1 1 ∧ SRow encD 3 w (some ⟨g, 0, none⟩) 1 1 [y] ∧ g < w.heap.size, true, by
  rintro _ w w' row ⟨g, rfl, h, hlt⟩ hg hne _
  refine ⟨g, rfl, ⟨h.hlen, h.hcap, h.hmax, h.henc, ?_⟩, Nat.lt_of_lt_of_le hlt hg.size⟩
  rcases h.cells with h0 | ⟨b, off, ha, hb, hc⟩
  · exact .inl h0
  · refine .inr ⟨b, off, ha, Nat.lt_of_lt_of_le hb hg.size, fun i x j v hx hv => ?_⟩
    injection ha with ha
    injection ha with ha _
    rw [World.cell?_of_block (w := w) (hg.block b hb (fun e => hne b e.symm rfl (by rw [← ha]; simp [blk, blkOf])))]
    exact hc i x j v hx hv⟩
theorem st_lit {s s1 j : Nat} {n l9 : ByteArray} {c : Int} (hit : its[i]? = some (litItem W ⟨n, l9, c⟩)) (hj : j < last) (hjt : its[j]? = some (isItem W (.agg #[.string n, .string l9, .int .i64 c]))) (hju : used.getD j none = none) (hs : (l[j]?).bind (·.dst) = some s1)
    (he : edgeOn { dst := some s, op := .buildSlice 22 1 #[(0, .tmp s1)], type := ty, pos := pos, after := after, guard := none } j = true) :
    OpStep Try.prog Q (planOf its used) l last W a0 i { dst := some s, op := .buildSlice 22 1 #[(0, .tmp s1)], type := ty, pos := pos, after := after, guard := none } := by
  intro a w v K h hK
  have e := h.vals j hj he s1 hs
  have e2 : v j = _ := itemI h hj hjt he (.inl hju)
  rw [e2] at e
  have hb := Lib.hid h.below
  have hK := Lib.hid hK
  clear h e2
  go_simp
  refine hK.out _ _ (stepOut_of hit ⟨_, rfl, own_one (α := DefD) (enc := encD) (size := 3) w 46 ⟨n, l9, c⟩ _ rfl rfl, by simp⟩ ⟨none, grownI_alloc _ _, fun k hk => by cases hk⟩ (fun _ b hb2 => .inl ?_))
  have : b = w.heap.size := by simpa [blk, blkOf] using hb2
  subst this
  simp
theorem src_lit {s2 k : Nat} {y : DefD} {o : Oper} (hk : k < last) (hkt : its[k]? = some (litItem W y)) (hku : used.getD k none = some i) (hs2 : (l[k]?).bind (·.dst) = some s2) (he : edgeOn o k = true) :
    ∀ a w v, StepIn (planOf its used) l last W a0 i o a w v → ∃ ad c, a.tmps[s2]? = some (.slice ad 1 c) ∧ SRow encD 3 w ad 1 c [y] ∧ (ad = none → c = 0) := by
  intro a w v h
  have f := h.vals k hk he s2 hs2
  obtain ⟨g, f2, hr, -⟩ := itemI h hk hkt he (.inr hku)
  exact ⟨_, _, by rw [f, f2], hr, fun e => by cases e⟩
def aggItem (W : World) (n : Nat) (xs : List Value) (nx : Int) : Item W := ⟨fun u w => ∃ x, u = .agg #[x, .slice none 0 0, .int .i64 nx, .bool false] ∧ w.ownsRow W.heap.size 46 3 x n xs, true, by
  rintro _ w w' row ⟨v, rfl, h⟩ hg hne _
  refine ⟨v, rfl, own_grownI h hg (fun k hk e => hne k hk rfl ?_)⟩
  have := (own_blkI h k).2 e
  obtain ⟨ad, cap, rfl⟩ := own_shapeI h
  exact this⟩
set_option maxRecDepth 100000 in
set_option maxHeartbeats 4000000 in
theorem st_agg {s s0 s2 j0 j2 n : Nat} {xs : List Value} {nx : Int} (hit : its[i]? = some (aggItem W n xs nx))
    (h1 : j0 < last) (h1t : its[j0]? = some (rowItem W n xs)) (h1u : used.getD j0 none = some i) (hs1 : (l[j0]?).bind (·.dst) = some s0)
    (h2 : j2 < last) (h2t : its[j2]? = some (isItem W (.int .i64 nx))) (h2u : used.getD j2 none = none) (hs2 : (l[j2]?).bind (·.dst) = some s2)
    (he1 : edgeOn { dst := some s, op := .build 25 #[(0, .tmp s0), (2, .tmp s2)], type := ty, pos := pos, after := after, guard := none } j0 = true)
    (he2 : edgeOn { dst := some s, op := .build 25 #[(0, .tmp s0), (2, .tmp s2)], type := ty, pos := pos, after := after, guard := none } j2 = true) :
    OpStep Try.prog Q (planOf its used) l last W a0 i { dst := some s, op := .build 25 #[(0, .tmp s0), (2, .tmp s2)], type := ty, pos := pos, after := after, guard := none } := by
  intro a w v K h hK
  have e1 := h.vals j0 h1 he1 s0 hs1
  have hrow : w.ownsRow W.heap.size 46 3 (v j0) n xs := itemI h h1 h1t he1 (.inr h1u)
  have e2 := h.vals j2 h2 he2 s2 hs2
  have f2 : v j2 = _ := itemI h h2 h2t he2 (.inl h2u)
  rw [f2] at e2
  obtain ⟨ua, uc, hu⟩ := own_shapeI hrow
  have HU := Lib.hid hu
  have HR := Lib.hid hrow
  rw [hu] at e1
  have hK := Lib.hid hK
  clear h f2 hu hrow
  go_simp
  refine hK.out _ _ (stepOut_of hit ⟨_, rfl, HU.out ▸ HR.out⟩ ⟨none, grownI_refl _ _, fun k hk => by cases hk⟩ (fun _ b hb => .inr (tookI h1 h1t rfl h1u ?_)))
  rw [HU.out]
  exact hb
set_option maxHeartbeats 4000000 in
set_option maxRecDepth 100000 in
theorem st_store {s1 s2 j k n : Nat} {xs : List Value} {nx : Int} {a : Act} {w : World} {v : Nat → Value}
    (h : StepIn (planOf its used) l last W a0 last { dst := none, op := .store 25 (.tmp s1) (.tmp s2), type := ty, pos := pos, after := after, guard := none } a w v)
    (hj : j < last) (hjt : its[j]? = some (boxItem W)) (hju : used.getD j none = some last) (hs : (l[j]?).bind (·.dst) = some s1) (he : edgeOn { dst := none, op := .store 25 (.tmp s1) (.tmp s2), type := ty, pos := pos, after := after, guard := none } j = true)
    (hk : k < last) (hkt : its[k]? = some (aggItem W n xs nx)) (hku : used.getD k none = some last) (hs2 : (l[k]?).bind (·.dst) = some s2) (he2 : edgeOn { dst := none, op := .store 25 (.tmp s1) (.tmp s2), type := ty, pos := pos, after := after, guard := none } k = true) (hjk : j ≠ k)
    (hQ : ∀ g x, v j = .pointer (some ⟨g, 0, none⟩) → v k = .agg #[x, .slice none 0 0, .int .i64 nx, .bool false] → W.heap.size ≤ g → GBox w g (.slice none 0 0) (.slice none 0 0) 0 false → w.ownsRow W.heap.size 46 3 x n xs → (∀ b, x.ownBlock = some b → b ≠ g) → Below W.heap.size W w → Q .normal a (put4 w g x (.slice none 0 0) (.int .i64 nx) (.bool false))) :
    Oper.wp Try.prog { dst := none, op := .store 25 (.tmp s1) (.tmp s2), type := ty, pos := pos, after := after, guard := none } a w (Q .normal) Q := by
  have e := h.vals j hj he s1 hs
  obtain ⟨g, e2, hg, hbox⟩ := itemI h hj hjt he (.inr hju)
  have f := h.vals k hk he2 s2 hs2
  obtain ⟨x, f2, hrow⟩ := itemI h hk hkt he2 (.inr hku)
  obtain ⟨xa, xc, hxs⟩ := own_shapeI hrow
  have hne : ∀ b, x.ownBlock = some b → b ≠ g := by
    intro b hb e3
    refine h.apart j k hj hk hju hku hjk ?_ ?_ g ?_ ?_
    · unfold planOf; dsimp only; rw [hjt]; rfl
    · unfold planOf; dsimp only; rw [hkt]; rfl
    · rw [e2]; simp [blk, blkOf]
    · have h2 := (own_blkI hrow b).2 hb
      rw [e3] at h2
      rw [f2]
      rw [hxs] at h2 ⊢
      exact h2
  have HQ := Lib.hid (hQ g x e2 f2 hg hbox hrow hne h.below)
  rw [e2] at e
  rw [f2, hxs] at f
  rw [hxs] at HQ
  obtain ⟨hlt, hc0, hc1, hc2, hc3, hf⟩ := hbox
  have hf0 := hf 0
  have hf1 := hf 1
  have hf2 := hf 2
  have hf3 := hf 3
  clear h hQ hju hku hjt hkt he he2 hs hs2 hrow e2 f2 hg hne hf
  unfold put4 at HQ
  go_simp
  exact HQ.out
end
end Go.Proofs.Ytioeagadhnnajaa.Iv0
