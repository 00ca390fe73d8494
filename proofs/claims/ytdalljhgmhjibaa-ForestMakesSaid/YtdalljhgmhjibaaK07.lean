/- Texts joined in build order: OrderKit ForestOrderMath ForestOrderFn ForestAheadFn. -/
import Derived.Test.YtdalljhgmhjibaaK06
import Derived.Test.YtdalljhgmhjibaaK02
/- What a plain loop owes whose body holds a range over a function: marks; the two slices in hand. -/
namespace Go.Proofs.Ytdalljhgmhjibaa
open Go.RowKit Go.Shelf
/-- Within a fence: append, the old slice reading as before. -/
theorem wpListIn_append_keep {F : Fence} {n : Nat} {P : Program} (w : World) {ops : Array Oper} {rest : List Oper} {o : Oper} {a : Act} {Q : Exit → Act → World → Prop}
    (hg : o.guard = none) (s x : Operand) (t : TypeId) (hop : o.op = Op.call { callee := Callee.builtin Builtin.append, args := #[s, x], argTypes := #[t, t] })
    (base : Nat) (e : TypeId) (i : TypeInfo) (z : Value) (size bytes : Nat) (h1 : P.underlying t = some (.slice e)) (h2 : P.info? e = some i) (h3 : i.zero = some z) (h4 : i.size = size) (h5 : i.bytes = bytes) (h6 : z.cells.size = size) (h7 : 0 < size)
    (v : Value) (k : Nat) (xs : List Value) (hs : a.eval s = v) (hown : w.ownsRow base e size v k xs) (ad : Addr) (m c : Nat) (news : List Value) (hx : a.eval x = .slice (some ad) m c) (hn : news.length = m * size)
    (hc : ∀ j u, news[j]? = some u → w.cell? (ad.add j) = some u) (h1c : ∀ u ∈ news, u.oneCell' = true) (hm : 0 < m) (b1 : k + m ≤ maxLen) (b2 : (k + m) * bytes ≤ 140737488355328) (b3 : base ≤ w.heap.size)
    (hK : ∀ g cap w', w'.ownsRow base e size (.slice (some ⟨g, 0, none⟩) (k + m) cap) (k + m) (xs ++ news) → w'.ownsRow base e size v k xs → w.grownBy w' v.ownBlock → (v.ownBlock = some g ∨ g = w.heap.size) → g < w'.heap.size → wpListIn F n P ops Q rest (a.put o.dst (.slice (some ⟨g, 0, none⟩) (k + m) cap)) w') :
    wpListIn F n P ops Q (o :: rest) a w := by
  refine wpListIn_plain hg fun K hK' => ?_
  obtain ⟨g, cap, w', hrun, r1, r2, r3, r4, r5⟩ := run_append_keep (P := P) w t o.type base e i z size bytes h1 h2 h3 h4 h5 h6 h7 v k xs hown ad m c news hn hc h1c hm b1 b2 b3
  unfold Oper.wpIn
  refine ⟨?_, ?_⟩
  · simp [Oper.about, hop, resolve, Target.leads, Sem.run_pure]
  · rw [Oper.semAt_plain F _ _ (by rw [hop]; intro c hc'; cases hc')]
    simp [execOp, hop, resolve, invoke, builtin, hs, hx, hrun, Result.andThen]
    exact hK' _ _ (hK g cap w' r1 r2 r3 r4 r5)
abbrev markD (D : Nat) : Deferred := { target := .collected D, args := #[] }
/-- The marks of the loops that are over. -/
structure Marks (B : Nat) (ds : List Nat) (W : World) : Prop where
  nd : ds.Nodup
  at_ : ∀ D ∈ ds, B ≤ D ∧ W.heap[D]? = some (.deferred (some []))
theorem Marks.kept {B : Nat} {ds : List Nat} {W W2 : World} {row : Option Nat} (h : Marks B ds W) (hg : W.grownBy W2 row) (hne : ∀ r, row = some r → (∃ c e f, W.heap[r]? = some (.cells c e f)) ∨ r ∉ ds) : Marks B ds W2 := by
  refine ⟨h.nd, fun D hD => ⟨(h.at_ D hD).1, (hg.block D (Array.getElem?_eq_some_iff.1 (h.at_ D hD).2).1 (fun e => ?_)).trans (h.at_ D hD).2⟩⟩
  rcases hne D e.symm with ⟨c, t, f, hc⟩ | hn
  · rw [(h.at_ D hD).2] at hc
    cases hc
  · exact hn hD
theorem leaves_marks {F : Fence} {n : Nat} {P : Program} {fn : Func} {tmps : Array Value} {R : Ending → World → Prop} (B : Nat) (Φ : World → Prop)
    (stab : ∀ W D, Φ W → B ≤ D → W.heap[D]? = some (.deferred (some [])) → Φ (W.putObj D (.deferred none))) (fin : ∀ W, Φ W → LeavesIn F n P fn tmps R [] .returning W) :
    ∀ (ds : List Nat) (W : World), Marks B ds W → Φ W → LeavesInM F n P fn tmps R (ds.map markD) .returning W
  | [], W, _, h => fin W h
  | D :: ds, W, hm, h => by
    have hD := hm.at_ D (by simp)
    have hnd := List.nodup_cons.1 hm.nd
    refine ⟨by simp, .inl ⟨D, _, rfl, run_takeDeferred hD.2, ?_⟩⟩
    refine leaves_marks B Φ stab fin ds _ ⟨hnd.2, fun E hE => ⟨(hm.at_ E (by simp [hE])).1, ?_⟩⟩ (stab W D h hD.1 hD.2)
    have hne : E ≠ D := fun e => hnd.1 (by rw [← e]; exact hE)
    rw [World.putObj_heap_other hne]
    exact (hm.at_ E (by simp [hE])).2
/-- Shorter by the last element. -/
theorem own_prefix {w : World} {base : Nat} {e : TypeId} {size g k cap : Nat} {xs ys : List Value} (h : w.ownsRow base e size (.slice (some ⟨g, 0, none⟩) (k + 1) cap) (k + 1) (xs ++ ys)) (hl : xs.length = k * size) : w.ownsRow base e size (.slice (some ⟨g, 0, none⟩) k cap) k xs := by
  refine ⟨hl, ?_⟩
  rcases h.2 with ⟨hv, _⟩ | ⟨g', cap', cur, hv, hb, hg, h1, h2, h3, h4⟩
  · cases hv
  · injection hv with e1 e2 e3
    subst e3
    refine .inr ⟨g', cap, cur, by rw [e1], hb, hg, by omega, h2, h3, ?_⟩
    have := congrArg (List.take (k * size)) h4
    rw [List.take_take, Nat.min_eq_left (Nat.mul_le_mul_right _ (by omega)), ← hl, List.take_left] at this
    rw [← hl]
    exact this
/-- What the loop has in hand, beside the marks: the order so far, and the pile. -/
structure Hand (w1 W : World) (B Bp g cp : Nat) (vo : Value) (out P : List Int) : Prop where
  below : Below B w1 W
  pile : Boxed W Bp 26 (.slice (some ⟨g, 0, none⟩) P.length cp)
  low : B ≤ Bp
  prow : W.ownsRow B 3 1 (.slice (some ⟨g, 0, none⟩) P.length cp) P.length (P.map encI)
  orow : W.ownsRow B 3 1 vo out.length (out.map encI)
  apart : vo.ownBlock ≠ some g
/-- A turn of a block that is none of these. -/
theorem Hand.kept {w1 W W2 : World} {B Bp g cp : Nat} {vo : Value} {out P : List Int} {row : Option Nat} (h : Hand w1 W B Bp g cp vo out P) (hg : W.grownBy W2 row) (hB : ∀ r, row = some r → B ≤ r) (h1 : some Bp ≠ row) (h2 : some g ≠ row) (h3 : vo.ownBlock = none ∨ vo.ownBlock ≠ row) (hsz : B ≤ W.heap.size) : Hand w1 W2 B Bp g cp vo out P :=
  ⟨h.below.grown hg hsz (fun k e => hB k e), h.pile.kept hg h1, h.low, h.prow.kept hg (.inr h2), h.orow.kept hg h3, h.apart⟩
theorem Hand.size {w1 W : World} {B Bp g cp : Nat} {vo : Value} {out P : List Int} (h : Hand w1 W B Bp g cp vo out P) : B ≤ W.heap.size := by
  have h1 := h.low
  have h2 := h.pile.lt
  omega
theorem own_cells {w : World} {base : Nat} {e : TypeId} {size n : Nat} {v : Value} {xs : List Value} (h : w.ownsRow base e size v n xs) : ∀ r, v.ownBlock = some r → ∃ c t f, w.heap[r]? = some (.cells c t f) := fun r hr => by
  rcases h.2 with ⟨rfl, _⟩ | ⟨g, cap, cur, rfl, _, hg, _⟩
  · cases hr
  · injection hr with hr
    have e : g = r := hr
    subst e
    exact ⟨_, _, _, hg⟩
theorem Hand.alloc {w1 W : World} {B Bp g cp : Nat} {vo : Value} {out P : List Int} (h : Hand w1 W B Bp g cp vo out P) (o : Obj) : Hand w1 (W.alloc o) B Bp g cp vo out P :=
  h.kept (World.grownBy_alloc W o none) (fun r e => by cases e) (by simp) (by simp) (by
    cases hv : vo.ownBlock with
    | none => exact .inl rfl
    | some k => exact .inr (by simp)) h.size
/-- A turn of a block that is no cells. -/
theorem Hand.other {w1 W W2 : World} {B Bp g cp : Nat} {vo : Value} {out P : List Int} {row : Option Nat} (h : Hand w1 W B Bp g cp vo out P) (hg : W.grownBy W2 row) (hr : ∀ r, row = some r → B ≤ r ∧ ∃ o : Obj, W.heap[r]? = some o ∧ o.isCells = false) : Hand w1 W2 B Bp g cp vo out P := by
  have no : ∀ k, (∃ c t f, W.heap[k]? = some (.cells c t f)) → some k ≠ row := fun k ⟨c, t, f, hc⟩ e => by
    obtain ⟨_, o, ho, hoc⟩ := hr k e.symm
    rw [hc] at ho
    injection ho with ho
    rw [← ho] at hoc
    cases hoc
  refine h.kept hg (fun r e => (hr r e).1) (no Bp ⟨_, _, _, h.pile⟩) (no g (own_cells h.prow g rfl)) ?_ h.size
  cases hv : vo.ownBlock with
  | none => exact .inl rfl
  | some k => exact .inr (no k (own_cells h.orow k hv))
/-- The last one is taken off the pile. -/
theorem Hand.pop {w1 W : World} {B Bp g cp : Nat} {vo : Value} {out Q : List Int} {z : Int} (h : Hand w1 W B Bp g cp vo out (Q ++ [z])) : Hand w1 (W.setCell ⟨Bp, 0, none⟩ (.slice (some ⟨g, 0, none⟩) Q.length cp)) B Bp g cp vo out Q := by
  have hp := h.prow
  rw [List.length_append, List.map_append] at hp
  have hp2 := own_prefix hp (by simp)
  have hne : some Bp ≠ some g := h.pile.not_row (by decide) h.prow
  have hno := h.pile.not_row (by decide) h.orow
  refine ⟨h.below.setCell (p := ⟨Bp, 0, none⟩) h.low _, h.pile.set _, h.low, hp2.kept (grownBy_setCell' W Bp _) (.inr (fun e => hne e.symm)), h.orow.kept (grownBy_setCell' W Bp _) (.inr (fun e => hno e.symm)), h.apart⟩
/-- Behind an append to the order. -/
theorem Hand.more {w1 W W2 : World} {B Bp g cp g2 cap : Nat} {vo : Value} {out P : List Int} {z : Int} {tmp : Obj} (h : Hand w1 W B Bp g cp vo out P)
    (ho : W2.ownsRow B 3 1 (.slice (some ⟨g2, 0, none⟩) (out.length + 1) cap) (out.length + 1) (out.map encI ++ [encI z])) (hg : (W.alloc tmp).grownBy W2 vo.ownBlock) (hat : vo.ownBlock = some g2 ∨ g2 = (W.alloc tmp).heap.size) : Hand w1 W2 B Bp g cp (.slice (some ⟨g2, 0, none⟩) (out.length + 1) cap) (out ++ [z]) P := by
  have h1 := h.alloc tmp
  have hno := h1.pile.not_row (by decide) h1.orow
  refine ⟨h1.below.grown hg h1.size (fun k e => (h1.orow.lt k e).1), h1.pile.kept hg hno, h1.low, h1.prow.kept hg (.inr (fun e => h1.apart e.symm)), by simpa using ho, fun e => ?_⟩
  have e2 : g2 = g := by injection e
  rcases hat with hat | hat
  · exact h.apart (by rw [hat, e2])
  · have := (h1.prow.lt g rfl).2
    omega
/-- Behind an append to the pile, and its store. -/
theorem Hand.push {w1 W W2 : World} {B Bp g cp g2 cap : Nat} {vo : Value} {out P : List Int} {z : Int} {tmp : Obj} (h : Hand w1 W B Bp g cp vo out P)
    (ho : W2.ownsRow B 3 1 (.slice (some ⟨g2, 0, none⟩) (P.length + 1) cap) (P.length + 1) (P.map encI ++ [encI z])) (hg : (W.alloc tmp).grownBy W2 (Value.ownBlock (.slice (some ⟨g, 0, none⟩) P.length cp))) (hat : Value.ownBlock (.slice (some ⟨g, 0, none⟩) P.length cp) = some g2 ∨ g2 = (W.alloc tmp).heap.size) :
    Boxed W2 Bp 26 (.slice (some ⟨g, 0, none⟩) P.length cp) ∧ Hand w1 (W2.setCell ⟨Bp, 0, none⟩ (.slice (some ⟨g2, 0, none⟩) (P.length + 1) cap)) B Bp g2 cap vo out (P ++ [z]) := by
  have h1 := h.alloc tmp
  have hno := h1.pile.not_row (by decide) h1.prow
  have hb := h1.pile.kept hg hno
  have hb2 := hb.not_row (by decide) ho
  have hor := h1.orow.kept hg (.inr h1.apart)
  have hno2 := hb.not_row (by decide) hor
  have e1 : (P ++ [z]).length = P.length + 1 := by simp
  refine ⟨hb, (h1.below.grown hg h1.size (fun k e => (h1.prow.lt k e).1)).setCell (p := ⟨Bp, 0, none⟩) h.low _, by rw [e1]; exact hb.set _, h.low, ?_, hor.kept (grownBy_setCell' W2 Bp _) (.inr (fun e => hno2 e.symm)), fun e => ?_⟩
  · rw [e1, List.map_append]
    exact ho.kept (grownBy_setCell' W2 Bp _) (.inr (fun e => hb2 e.symm))
  · rcases hat with hat | hat
    · have e2 : g = g2 := by injection hat
      exact h.apart (by rw [e, e2])
    · have := (h1.orow.lt g2 e).2
      omega
/-- The next round's own variable. -/
theorem Hand.next {w1 W : World} {B Bp g cp : Nat} {vo : Value} {out P : List Int} (h : Hand w1 W B Bp g cp vo out P) : Hand w1 (W.alloc (.cells #[.slice (some ⟨g, 0, none⟩) P.length cp] 26)) B W.heap.size g cp vo out P := by
  have h1 := h.alloc (.cells #[.slice (some ⟨g, 0, none⟩) P.length cp] 26)
  exact ⟨h1.below, Boxed.new _ _ _, h.size, h1.prow, h1.orow, h1.apart⟩
end Go.Proofs.Ytdalljhgmhjibaa
/- What the law ForestOrder asks, over data: facts of forests that are right. Plain mathematics, no program. -/
namespace Go.Proofs.Ytdalljhgmhjibaa
open Go.RowKit
theorem hasZ_nodup : ∀ {L : List Int} {n : Int}, L.Nodup → hasZ L n = if n ∈ L then 1 else 0
  | [], n, _ => rfl
  | z :: l, n, h => by
    have h2 := List.nodup_cons.1 h
    have ih := hasZ_nodup (n := n) h2.2
    unfold hasZ at ih ⊢
    rw [List.countP_cons, ih]
    by_cases e : z = n
    · subst e
      rw [if_neg h2.1, if_pos (by simp), if_pos (List.mem_cons_self ..)]
    · rw [if_neg (show ¬ ((z == n) = true) from fun g => e (beq_iff_eq.1 g))]
      by_cases hm : n ∈ l
      · rw [if_pos hm, if_pos (List.mem_cons_of_mem _ hm)]
      · rw [if_neg hm, if_neg (fun g => by rcases List.mem_cons.1 g with g | g; exact e g.symm; exact hm g)]
theorem findZ_at {L : List Int} {n : Int} {j : Nat} (h : L.Nodup) (hj : L[j]? = some n) : findZ L n = (j : Int) := by
  obtain ⟨k, hk, hg⟩ := find_at (List.mem_of_getElem? hj)
  obtain ⟨h1, e1⟩ := List.getElem?_eq_some_iff.1 hg
  obtain ⟨h2, e2⟩ := List.getElem?_eq_some_iff.1 hj
  have := (List.getElem_inj h).1 (e1.trans e2.symm)
  rw [hk, this]
/-- What is asked of an order, and of two nodes. -/
structure OrderFacts (m : Int) (F : List Core) (x y : Nat) (l : List Int) : Prop where
  pos : l[0]? = some (x : Int)
  len : l.length ≤ F.length
  num : ∀ (i : Nat) z, l[i]? = some z → ∃ n : Nat, z = (n : Int) ∧ n < F.length
  many : ∀ n : Nat, n < F.length → hasZ l (n : Int) = if holdsZ m F x n then 1 else 0
  step : ∀ (i : Nat) (n : Nat) c, 1 ≤ i → l[i]? = some (n : Int) → F[n]? = some c → ∃ (j p : Nat), j < i ∧ p < F.length ∧ c.parent = (p : Int) ∧ findZ l p = (j : Int) ∧ ∀ (k q : Nat), j < k → k < i → l[k]? = some (q : Int) → holdsZ m F p q = true ∧ holdsZ m F n q = false
  one : rootZ m F x = rootZ m F y → x ≠ y → aheadZ m F x y = !aheadZ m F y x
  apart : rootZ m F x ≠ rootZ m F y → aheadZ m F x y = false ∧ aheadZ m F y x = false
  self : x = y → aheadZ m F x y = false ∧ aheadZ m F y x = false
  held : holdsZ m F x y = true → x ≠ y → aheadZ m F x y = true
theorem ordZ_eq {m : Int} {F : List Core} (h : rightF m F = true) {a : Nat} (ha : a < F.length) : ordZ m F (a : Int) = (ordF F a).map Int.ofNat := by
  unfold ordZ
  rw [thereF_of h ha]
  rfl
theorem aheadZ_eq {m : Int} {F : List Core} (h : rightF m F = true) {a b : Nat} (ha : a < F.length) (hb : b < F.length) : aheadZ m F (a : Int) (b : Int) = aheadF F a b := by
  unfold aheadZ
  rw [thereF_of h ha, thereF_of h hb]
  rfl
theorem nodup_sub : ∀ (n : Nat) (l : List Nat), l.Nodup → (∀ x ∈ l, x < n) → l.length ≤ n
  | 0, l, _, hs => by
    cases l with
    | nil => exact Nat.le_refl _
    | cons a r => exact absurd (hs a (List.mem_cons_self ..)) (by omega)
  | n + 1, l, h, hs => by
    have ih := nodup_sub n (l.erase n) (h.erase n) (fun x hx => by
      have := (List.Nodup.mem_erase_iff h).1 hx
      have := hs x this.2
      omega)
    by_cases hm : n ∈ l
    · rw [List.length_erase_of_mem hm] at ih
      omega
    · rw [List.erase_of_not_mem hm] at ih
      omega
theorem order_facts {m : Int} {F : List Core} (h : rightF m F = true) {x y : Nat} (hx : x < F.length) (hy : y < F.length) : OrderFacts m F x y (ordZ m F x) := by
  have T := tree_of_right h
  have hN : (ordF F x).Nodup := T.ord_nodup _ _ hx (by omega)
  have hlt : ∀ z ∈ ordF F x, z < F.length := T.ord_lt _ _ hx
  have inj : ∀ {a b : Nat}, Int.ofNat a = Int.ofNat b → a = b := fun e => Int.ofNat.inj e
  have hNZ : ((ordF F x).map Int.ofNat).Nodup := List.Pairwise.map Int.ofNat (fun a b hab e => hab (Int.ofNat.inj e)) hN
  have get : ∀ {i : Nat} {z : Int}, ((ordF F x).map Int.ofNat)[i]? = some z → ∃ n : Nat, z = (n : Int) ∧ (ordF F x)[i]? = some n := fun {i z} e => by
    rw [List.getElem?_map] at e
    cases hg : (ordF F x)[i]? with
    | none => rw [hg] at e; cases e
    | some n => rw [hg] at e; exact ⟨n, (Option.some.inj e).symm, rfl⟩
  rw [ordZ_eq h hx]
  refine ⟨?_, ?_, fun i z e => ?_, fun n hn => ?_, fun i n c hi e hc => ?_, fun hr hne => ?_, fun hr => ?_, fun e => ?_, fun h1 hne => ?_⟩
  · obtain ⟨r, hr⟩ := ordN_head (kids := kidsF F) (F.length + 1) x
    unfold ordF
    rw [hr]
    rfl
  · rw [List.length_map]
    exact nodup_sub _ _ hN hlt
  · obtain ⟨n, rfl, hg⟩ := get e
    exact ⟨n, rfl, hlt n (List.mem_of_getElem? hg)⟩
  · rw [hasZ_nodup hNZ]
    have e1 : ((n : Int) ∈ (ordF F x).map Int.ofNat) ↔ n ∈ ordF F x := by
      constructor
      · intro hm
        obtain ⟨k, hk, e⟩ := List.mem_map.1 hm
        rwa [Int.ofNat.inj e] at hk
      · intro hm
        exact List.mem_map.2 ⟨n, hm, rfl⟩
    have e2 : holdsZ m F x n = decide (n ∈ ordF F x) := by
      unfold holdsZ
      rw [thereF_of h hx, thereF_of h hn]
      rfl
    rw [e2]
    by_cases hm : n ∈ ordF F x
    · rw [if_pos (e1.2 hm), decide_eq_true hm, if_pos rfl]
    · rw [if_neg (fun g => hm (e1.1 g)), decide_eq_false hm, if_neg (by decide)]
  · obtain ⟨n', e', hg⟩ := get e
    obtain rfl : n = n' := Int.ofNat.inj e'
    obtain ⟨j, p, hj, hp, hjp, hk⟩ := T.ord_between _ x hx (show F.length + 1 ≤ rankF F x + (F.length + 1) by omega) i n hi hg
    have hn : n < F.length := hlt n (List.mem_of_getElem? hg)
    have hpl : p < F.length := hlt p (List.mem_of_getElem? hjp)
    have hpar : c.parent = (p : Int) := by
      have hp' := hp
      unfold parF at hp'
      rw [hc] at hp'
      dsimp only at hp'
      by_cases he : c.parent = -1
      · rw [if_pos he] at hp'; cases hp'
      · obtain ⟨p2, pc, k2, hp2, _⟩ := (holds_facts (y := n) (z := n) h hn hn hn hc).child he
        rw [if_neg he, hp2] at hp'
        injection hp' with hp'
        have e3 : p2 = p := by simpa using hp'
        rw [hp2, e3]
    refine ⟨j, p, hj, hpl, hpar, findZ_at hNZ (by rw [List.getElem?_map]; rw [show (ordF F x)[j]? = some p from hjp]; rfl), fun k q hjk hki hq => ?_⟩
    obtain ⟨q', e', hgq⟩ := get hq
    obtain rfl : q = q' := Int.ofNat.inj e'
    have hql : q < F.length := hlt q (List.mem_of_getElem? hgq)
    obtain ⟨g1, g2⟩ := hk k q hjk hki hgq
    refine ⟨(holdsZ_iff h hpl hql).2 g1, ?_⟩
    cases hh : holdsZ m F n q with
    | false => rfl
    | true => exact absurd ((holdsZ_iff h hn hql).1 hh) g2
  · rw [rootZ_eq h hx, rootZ_eq h hy] at hr
    have hr : rootF F x = rootF F y := Int.ofNat.inj hr
    rw [aheadZ_eq h hx hy, aheadZ_eq h hy hx]
    have := T.ahead_one (f := F.length + 1) (g := F.length + 1) hx hy (Nat.le_refl _) hr hne
    unfold aheadF
    rw [← hr, decide_eq_true rfl, Bool.true_and, Bool.true_and]
    have key : ∀ a b : Nat, a ≠ b → decide (a < b) = !decide (b < a) := fun a b hab => by
      by_cases h1 : a < b
      · rw [decide_eq_true h1, decide_eq_false (by omega)]; rfl
      · rw [decide_eq_false h1, decide_eq_true (by omega)]; rfl
    exact key _ _ this
  · rw [rootZ_eq h hx, rootZ_eq h hy] at hr
    have hr : rootF F x ≠ rootF F y := fun e => hr (by rw [e])
    rw [aheadZ_eq h hx hy, aheadZ_eq h hy hx]
    unfold aheadF
    rw [decide_eq_false hr, decide_eq_false (show ¬ rootF F y = rootF F x from fun e => hr e.symm)]
    exact ⟨rfl, rfl⟩
  · subst e
    rw [aheadZ_eq h hx hx]
    unfold aheadF
    rw [decide_eq_false (Nat.lt_irrefl _), Bool.and_false]
    exact ⟨rfl, rfl⟩
  · have g := (holdsZ_iff h hx hy).1 h1
    rw [aheadZ_eq h hx hy]
    unfold aheadF rootF ordF
    rw [decide_eq_true (T.root_held hy (Nat.le_refl _) g), decide_eq_true (T.held_ahead hy (Nat.le_refl _) (Nat.le_refl _) g hne)]
    rfl
end Go.Proofs.Ytdalljhgmhjibaa
/- Package forest's Order. -/
namespace Go.Proofs.Ytdalljhgmhjibaa
open Go.RowKit Go.Shelf
attribute [local go_sem] Oper.semAt_some
set_option maxHeartbeats 8000000 in
set_option maxRecDepth 100000 in
theorem orderNot_any (a : Option Addr) (len cap : Nat) (m : Int) (L : List NodeD) (n : Int) (w : World) (h : NodeRow w a len cap L) (hm : In64 m) (hn : In64 n) (hs : smallF L) (hq : thereF m (coreL L) n = false) :
    Calls Try.prog 20 #[forV a len cap m, .int .i64 n] w (OrdPost w (ordZ m (coreL L) n)) := by
  have BX := Lib.hid ((Box.start (m := m) h).keep (below_box _ (.cells #[.int .i64 n] 3)))
  have NB := Lib.hid (lit_one (w.alloc (forB a len cap m)) 3 n hn)
  have CK : Hid (∀ W b, NodeRow W a len cap L → IntRow W b 1 1 [n] → Calls Try.prog 55 #[forV a len cap m, .slice b 1 1] W fun e w' => e = .returned (.bool false) ∧ Below W.heap.size W w') := Lib.hid (fun W b h1 h2 => by
    rw [← hq, ← knowsB_one]
    exact knows_any a len cap m L b 1 1 [n] W h1 hm hs h2)
  simp only [World.size_alloc] at NB
  have z0 := BX.out.c0
  have z1 := BX.out.c1
  have HR : Hid (ordZ m (coreL L) n = []) := Lib.hid (by unfold ordZ; rw [hq]; rfl)
  clear h hm hs hn hq
  go_enter Try.func20, Try.ntmps20
  go_wp2_with (first
                  | (go_at_call 55; ((with_reducible refine (CK.out _ _ BX.out.row NB.out).mono ?_); rintro e w1 ⟨rfl, hb⟩; have BX := Lib.hid (BX.out.keep hb); have z0 := BX.out.c0; have z1 := BX.out.c1; clear hb))
                  | (go_at_call 56; ((with_reducible refine (CU.out _ BX.out.row).mono ?_); rintro e w1 ⟨rfl, rfl⟩)))
  go_ret
  exact ⟨none, 0, 0, rfl, by rw [HR.out]; exact ⟨SRow.nil, (fun z hz => by cases hz), fun _ => rfl⟩, BX.out.below⟩
/-- Tree order, as numbers. -/
def ordI (F : List Core) (z : Int) : List Int := (ordF F z.toNat).map Int.ofNat
/-- What is in order, and what is still to come. -/
structure Going (F : List Core) (n : Nat) (out P : List Int) : Prop where
  eq : out ++ P.reverse.flatMap (ordI F) = ordI F (n : Int)
  inF : ∀ z ∈ P, 0 ≤ z ∧ z < (F.length : Int)
theorem Going.start {F : List Core} {n : Nat} (h : n < F.length) : Going F n [] [(n : Int)] := ⟨by simp, fun z hz => by
  obtain rfl : z = (n : Int) := by simpa using hz
  omega⟩
theorem Going.step {m : Int} {F : List Core} (hr : rightF m F = true) {n : Nat} {out Q : List Int} {z : Int} {x : Core} (h : Going F n out (Q ++ [z])) (hx : F[z.toNat]? = some x) : Going F n (out ++ [z]) (Q ++ x.kids.reverse) := by
  have T := tree_of_right hr
  obtain ⟨hz0, hz1⟩ := h.inF z (by simp)
  have hzl : z.toNat < F.length := by omega
  have hk : kidsF F z.toNat = x.kids.map Int.toNat := by unfold kidsF; rw [hx]
  have kin : ∀ k ∈ x.kids, 0 ≤ k ∧ k < (F.length : Int) := fun k hkk => by
    have hm : k.toNat ∈ kidsF F z.toNat := by rw [hk]; exact List.mem_map.2 ⟨k, hkk, rfl⟩
    have h1 := T.kid_lt _ _ hm
    have h2 := (nodeOk_iff.1 (((rightF_iff m F).1 hr).2.1 _ x hx)).2.2.1 k hkk
    obtain ⟨c, hc, _⟩ := kidB_iff.1 (kidOk_iff.1 h2).2
    obtain ⟨e1, _, _⟩ := getC_some hc
    omega
  have hord : ordI F z = z :: x.kids.flatMap (ordI F) := by
    unfold ordI ordF
    have h1 := T.ord_more (F.length + 1) z.toNat hzl (by omega)
    have h2 : ordN (kidsF F) (F.length + 1 + 1) z.toNat = z.toNat :: (kidsF F z.toNat).flatMap (ordN (kidsF F) (F.length + 1)) := rfl
    rw [← h1, h2, hk, List.map_cons, List.flatMap_map, List.map_flatMap]
    have e0 : Int.ofNat z.toNat = z := by show ((z.toNat : Nat) : Int) = z; omega
    rw [e0]
  refine ⟨?_, fun y hy => ?_⟩
  · rw [← h.eq, List.reverse_append, List.reverse_append, List.reverse_reverse, List.flatMap_append, List.reverse_singleton, List.singleton_append, List.flatMap_cons, hord]
    simp
  · rcases List.mem_append.1 hy with hy | hy
    · exact h.inF y (by simp [hy])
    · exact kin y (by simpa using hy)
theorem Going.len {F : List Core} {n : Nat} {out P : List Int} (h : Going F n out P) : out.length + P.length ≤ (ordI F (n : Int)).length := by
  have h1 := congrArg List.length h.eq
  rw [List.length_append] at h1
  have h2 : ∀ l : List Int, l.length ≤ (l.flatMap (ordI F)).length := fun l => by
    induction l with
    | nil => simp
    | cons a r ih =>
      have : 0 < (ordI F a).length := by
        unfold ordI ordF
        obtain ⟨t, ht⟩ := ordN_head (kids := kidsF F) (F.length + 1) a.toNat
        rw [ht]
        simp
      rw [List.flatMap_cons, List.length_append, List.length_cons]
      omega
  have h3 := h2 P.reverse
  rw [List.length_reverse] at h3
  omega
theorem ordI_len {m : Int} {F : List Core} (hr : rightF m F = true) {n : Nat} (hn : n < F.length) : (ordI F (n : Int)).length ≤ F.length := by
  have T := tree_of_right hr
  unfold ordI
  rw [List.length_map, Int.toNat_natCast]
  exact nodup_lt F.length _ (T.ord_nodup _ n hn (by omega)) (fun x hx => T.ord_lt _ n hn x hx)
theorem map_encI : ∀ l : List Int, l.map encI = l.flatMap encZ
  | [] => rfl
  | c :: r => by rw [List.map_cons, List.flatMap_cons, map_encI r]; rfl
def sliceN : Value → Nat
  | .slice _ l _ => l
  | _ => 0
theorem sliceN_own {w : World} {base : Nat} {e : TypeId} {size n : Nat} {v : Value} {xs : List Value} (h : w.ownsRow base e size v n xs) : sliceN v = n := by
  rcases h.2 with ⟨rfl, h0⟩ | ⟨g, cap, cur, rfl, _⟩
  · exact h0.symm
  · rfl
theorem backTo_snd (K : List Int) : (backTo K K.length).map Prod.snd = K.reverse := by
  apply List.ext_getElem
  · simp [backTo]
  · intro i h1 h2
    have hi : i < K.length := by simpa using h2
    simp [backTo, backF]
    rw [List.getElem?_eq_getElem (by omega)]
    rfl
set_option maxHeartbeats 8000000 in
set_option maxRecDepth 100000 in
theorem orderIs_any (a : Option Addr) (len cap : Nat) (m : Int) (L : List NodeD) (n : Nat) (w : World) (h : NodeRow w a len cap L) (hm : In64 m) (hs : smallF L) (hq : thereF m (coreL L) n = true) :
    Calls Try.prog 20 #[forV a len cap m, .int .i64 n] w (OrdPost w (ordZ m (coreL L) n)) := by
  have hn : In64 (n : Int) := ⟨by omega, by have h1 := (there_nat hq).2; obtain ⟨k, h2, h3⟩ := h1; rw [coreL_len, h.hlen] at h3; have := h.len64; omega⟩
  have BX := Lib.hid ((Box.start (m := m) h).keep (below_box _ (.cells #[.int .i64 n] 3)))
  have NB := Lib.hid (lit_one (w.alloc (forB a len cap m)) 3 n hn)
  have CK : Hid (∀ W b, NodeRow W a len cap L → IntRow W b 1 1 [(n : Int)] → Calls Try.prog 55 #[forV a len cap m, .slice b 1 1] W fun e w' => e = .returned (.bool true) ∧ Below W.heap.size W w') := Lib.hid (fun W b h1 h2 => by
    rw [← hq, ← knowsB_one]
    exact knows_any a len cap m L b 1 1 [(n : Int)] W h1 hm hs h2)
  simp only [World.size_alloc] at NB
  have z0 := BX.out.c0
  have z1 := BX.out.c1
  obtain ⟨hr, k, hkn, hk⟩ := there_nat hq
  obtain rfl : n = k := Int.ofNat.inj hkn
  have HRT := Lib.hid hr
  have HL := Lib.hid h.hlen
  have HS := Lib.hid hs
  clear h hm hs hn hq hr hkn
  refine callsIn_wide (n := 8) |>.1 ?_
  refine callsIn_of_wp_marks Try.func20 rfl trivial ?_ rfl
  simp only [Try.ntmps20, List.size_toArray, List.length_cons, List.length_nil, Nat.reduceAdd, Nat.reduceSub, Array.replicate_succ, Array.replicate_zero, List.push_toArray, List.append_toArray, List.nil_append, List.cons_append]
  gi_wp2_with (refine ⟨trivial, ?_⟩; gi_at_call 55; refine (callsIn_wide.2 (CK.out _ _ BX.out.row NB.out)).mono ?_; rintro e w1 ⟨rfl, hb⟩; have BX := Lib.hid (BX.out.keep hb); have z0 := BX.out.c0; have z1 := BX.out.c1; clear hb)
  obtain ⟨b, off, x0, rfl, hb1, -, -, -⟩ := BX.out.row.get (k := n) (by rw [coreL_len, HL.out] at hk; exact hk)
  obtain ⟨i0, hi0, hz0, hz1, hz2⟩ := info_parts int_info
  have HN : Hid ((ordI (coreL L) (n : Int)).length ≤ 1000) := Lib.hid (Nat.le_trans (ordI_len HRT.out hk) (by rw [coreL_len]; exact HS.out.1))
  have GO0 := Lib.hid (Going.start hk)
  have HOZ : Hid (ordZ m (coreL L) n = ordI (coreL L) (n : Int)) := Lib.hid (by rw [ordZ_eq HRT.out hk]; unfold ordI; rw [Int.toNat_natCast])
  have HA0 : Hid (Hand w1 ((w1.alloc (.cells #[.int .i64 n] 3)).alloc (.cells #[.slice (some ⟨w1.heap.size, 0, none⟩) 1 1] 26)) w1.heap.size (w1.heap.size + 1) w1.heap.size 1 (.slice none 0 0) [] [(n : Int)]) := Lib.hid (by
    have h1 : (w1.alloc (.cells #[.int .i64 n] 3)).heap.size = w1.heap.size + 1 := by simp
    have h2 := World.ownsRow_lit (base := w1.heap.size) (e := 3) (size := 1) w1 #[.int .i64 n] 1 (Nat.le_refl _) (by unfold maxLen; omega) (by simp)
    refine ⟨(below_box w1 _).alloc (by simp) _, ?_, by omega, h2.alloc _, World.ownsRow_nil _ _ _ _, by simp [Value.ownBlock]⟩
    have := Boxed.new (w1.alloc (.cells #[.int .i64 n] 3)) 26 (.slice (some ⟨w1.heap.size, 0, none⟩) 1 1)
    rwa [h1] at this)
  have HKN0 := Lib.hid hk
  clear z0 z1 hk NB CK
  refine wpIn_loop (fun a' W => ∃ (ds : List Nat) (out P : List Int) (vo : Value) (Bp g cp : Nat) (u7 u8 u9 u10 u18 u19 u20 u21 u22 u23 u24 u25 u26 u27 u28 u29 u30 u31 u32 u33 u34 u35 u36 u37 u38 u39 u40 u41 u42 u43 u44 u45 u46 u47 u48 u49 : Value), Hid (Hand w1 W w1.heap.size Bp g cp vo out P) ∧ Hid (Going (coreL L) n out P) ∧ Hid (Marks w1.heap.size ds W) ∧ a' = { tmps := #[forV (some ⟨b, off, none⟩) len cap m, .int .i64 n, .pointer (some ⟨w.heap.size, 0, none⟩), undef, .slice none 0 0, vo, .pointer (some ⟨Bp, 0, none⟩), u7, u8, u9, u10, .agg #[.slice (some ⟨b, off, none⟩) len cap, .int .i64 m], .int .i64 n, .slice (some ⟨w.heap.size + 1, 0, none⟩) 1 1, .bool true, .bool false, .int .i64 n, .slice (some ⟨w1.heap.size, 0, none⟩) 1 1, u18, u19, u20, u21, u22, u23, u24, u25, u26, u27, u28, u29, u30, u31, u32, u33, u34, u35, u36, u37, u38, u39, u40, u41, u42, u43, u44, u45, u46, u47, u48, u49], defers := ds.map markD })
    (fun a' _ => (ordI (coreL L) (n : Int)).length - sliceN (a'.tmps.getD 5 undef)) ?_ ?_
  · exact ⟨[], [], [(n : Int)], _, _, _, _, _, _, _, _, _, _, _, _, _, _, _, _, _, _, _, _, _, _, _, _, _, _, _, _, _, _, _, _, _, _, _, _, _, _, _, _, HA0, GO0, Lib.hid ⟨List.nodup_nil, fun D hD => by cases hD⟩, rfl⟩
  · clear GO0 HA0
    rintro a' W ⟨ds, out, P, vo, Bp, g, cp, u7, u8, u9, u10, u18, u19, u20, u21, u22, u23, u24, u25, u26, u27, u28, u29, u30, u31, u32, u33, u34, u35, u36, u37, u38, u39, u40, u41, u42, u43, u44, u45, u46, u47, u48, u49, HA, GO, MK, rfl⟩
    rcases List.eq_nil_or_concat P with rfl | ⟨Q, z, hP⟩
    · have pc : W.cell? ⟨Bp, 0, none⟩ = some (.slice (some ⟨g, 0, none⟩) 0 cp) := HA.out.pile.cell
      gi_wp2
      refine leaves_marks w1.heap.size (fun W => W.ownsRow w1.heap.size 3 1 vo out.length (out.map encI) ∧ Below w.heap.size w W) ?_ ?_ ds W MK.out ⟨HA.out.orow, BX.out.below.trans (HA.out.below.mono BX.out.below.size)⟩
      · rintro W5 D ⟨h1, h2⟩ hD hK
        have hlt := (Array.getElem?_eq_some_iff.1 hK).1
        have hwb := BX.out.below.size
        refine ⟨h1.kept (grownBy_putObj' W5 D _) ?_, (h2.grown (grownBy_putObj' W5 D _) (by omega) (fun k e => by injection e with e; omega))⟩
        cases hv : vo.ownBlock with
        | none => exact .inl rfl
        | some k =>
          refine .inr (fun e => ?_)
          injection e with e
          obtain ⟨c, t, f, hc⟩ := own_cells h1 k hv
          rw [e, hK] at hc
          cases hc
      · rintro W5 ⟨h1, h2⟩
        rw [map_encI] at h1
        have hout : out = ordI (coreL L) (n : Int) := by
          have := GO.out.eq
          simpa using this
        have hin : ∀ z ∈ out, In64 z := fun z hz => by
          rw [hout] at hz
          unfold ordI at hz
          obtain ⟨k, hk, rfl⟩ := List.mem_map.1 hz
          have hkl := (tree_of_right HRT.out).ord_lt _ _ HKN0.out k (by rw [Int.toNat_natCast] at hk; exact hk)
          have := HS.out.1
          rw [coreL_len] at hkl
          exact ⟨by show (_ : Int) ≤ ((k : Nat) : Int); omega, by show ((k : Nat) : Int) ≤ _; omega⟩
        obtain ⟨a9, cap9, hv9, hr9, -⟩ := IntRow.of_own_new (M := out) (n := out.length) rfl h1 hin
        refine ⟨vo, by simp [results, Try.results20], a9, out.length, cap9, by rw [hv9], ?_, h2⟩
        rw [HOZ.out, ← hout]
        exact hr9
    · rw [List.concat_eq_append] at hP
      subst hP
      have pc : W.cell? ⟨Bp, 0, none⟩ = some (.slice (some ⟨g, 0, none⟩) (Q.length + 1) cp) := by simpa using HA.out.pile.cell
      have pf := HA.out.pile.frozen
      have zc : W.cell? ⟨g, Q.length, none⟩ = some (.int .i64 z) := by
        have := HA.out.prow.cells (g := g) rfl Q.length (.int .i64 z) (by simp)
        rwa [Go.WideShapes.add_plain, Nat.zero_add] at this
      obtain ⟨hz0, hz1'⟩ := GO.out.inF z (by simp)
      obtain ⟨zi, rfl⟩ : ∃ zi : Nat, z = zi := ⟨z.toNat, by omega⟩
      have hzl : zi < len := by rw [coreL_len, HL.out] at hz1'; omega
      have hcp : (Q.length : Int) ≤ (cp : Int) := by
        rcases HA.out.prow.2 with ⟨hv, _⟩ | ⟨_, _, _, hv, _, _, h1, _⟩
        · cases hv
        · injection hv with _ _ h3
          subst h3
          simp at h1
          omega
      have HA1 := Lib.hid HA.out.pop
      have hsz := HA.out.size
      have hlen := GO.out.len
      have hln := HN.out
      have hq64 : Q.length ≤ 1000 := by simp at hlen; omega
      have ho64 : out.length ≤ 1000 := by omega
      clear hz0 hz1' hlen hln
      gi_wp2_with (first
        | (gi_at_builtin
           refine wpListIn_append_keep _ rfl _ _ 26 rfl w1.heap.size 3 i0 _ 1 8 Try.underlying26 hi0 hz0 hz1 hz2 rfl (by decide) vo out.length (out.map encI) rfl (HA1.out.orow.alloc _) ⟨W.heap.size, 0, none⟩ 1 1 [encI (zi : Int)] rfl rfl (by simpa using cell_one_new (W.setCell ⟨Bp, 0, none⟩ (.slice (some ⟨g, 0, none⟩) Q.length cp)) (encI (zi : Int)) 3) (by simp [Value.oneCell']) (by decide) (by unfold maxLen; omega) (by omega) (by simp; omega) ?_
           intro g2 cap2 w2 hown2 hold2 hg2 hat2 hlt2
           have HA2 := Lib.hid (HA1.out.more hown2 hg2 hat2)
           have BX2 := Lib.hid (BX.out.keep HA2.out.below)
           have z0 := BX2.out.c0
           obtain ⟨b', off', y, hab, hb2, hx, hat, hok⟩ := BX2.out.row.get hzl
           injection hab with hab
           injection hab with e1 e2
           subst e1 e2
           have c6 := hat.c6
           have HX := Lib.hid hx
           have HKR := Lib.hid (hok.kids)
           have HKN : Hid (y.kN ≤ 1000) := Lib.hid (by rw [← hok.kids.hlen]; exact (HS.out.2 y (List.mem_of_getElem? hx)).1)
           have HLOW : Hid (∀ b' off', y.kA = some ⟨b', off', none⟩ → 0 < y.kN → b' < w1.heap.size) := Lib.hid (fun b' off' ha hp => by
             obtain ⟨_, _, y2, e1, _, hy, _, hoky⟩ := BX.out.row.get hzl
             obtain rfl : y = y2 := Option.some.inj (hx.symm.trans hy)
             rcases hoky.kids.row.cells with h0 | ⟨b2, o2, ha2, hlt, _⟩
             · omega
             · rw [ha] at ha2
               injection ha2 with ha2
               injection ha2 with e3
               omega)
           have MK2 := Lib.hid (((MK.out.kept (grownBy_setCell' W Bp _) (fun r e => .inl (by cases e; exact ⟨_, _, _, HA.out.pile⟩))).kept (World.grownBy_alloc _ (.cells #[.int .i64 (zi : Int)] 3) none) (fun r e => by cases e)).kept hg2 (fun r e => .inl (own_cells (HA1.out.orow.alloc _) r e)))
           clear hat hx hok hold2 hown2 hg2 hat2)
        | (refine ⟨trivial, ?_⟩; gi_at_call 57; refine (callsIn_wide.2 (backward_any _ _ _ _)).mono ?_; rintro e w3 ⟨rfl, rfl⟩))
      have hbs := Boxed.new w2 26 (.slice y.kA y.kN y.kC)
      have hsz2 := HA2.out.size
      refine wpIn_rangeFunc_ownG (F := Fence.wide) (n := 8) rfl (by decide) (gf := 76) (lb := #[.pointer (some ⟨w2.heap.size, 0, none⟩)]) rfl trivial (enters_of Try.func76 (by kernel_rfl) rfl)
        (back_stops Fence.wide 7 trivial rfl (by decide) w2.heap.size w1.heap.size y.kA y.kN y.kC y.core.kids (w2.alloc (.cells #[.slice y.kA y.kN y.kC] 26)) (by simp) hbs.cell (HKR.out.below (below_box _ _)) HLOW.out)
        (fun h k => ⟨k.1.trans h.1, h.2.trans k.2⟩) (fun W l o o' hl h hc hw => ⟨World.putObj_heap_other (by simp at hl; omega), belowK_b (w := w2.alloc (.cells #[.slice y.kA y.kN y.kC] 26)) (by simp; omega) W l o o' hl h hc hw⟩) (Below.refl _ _) (fun _ => rfl)
        (fun pre W' => ∃ g cp, Hand w1 W' w1.heap.size Bp g cp (.slice (some ⟨g2, 0, none⟩) (out.length + 1) cap2) (out ++ [(zi : Int)]) (Q ++ pre.map Prod.snd) ∧ Boxed W' w2.heap.size 26 (.slice y.kA y.kN y.kC) ∧ Marks w1.heap.size ds W')
        (fun _ _ _ => False)
        (fun pre X Y row h hg hr => by
          obtain ⟨g, cp, hh, hb, hm⟩ := h
          refine ⟨g, cp, hh.other hg (fun r e => ⟨by have := (hr r e).1; simp at this; omega, (hr r e).2⟩), hb.kept hg (fun e => ?_), hm.kept hg (fun r e => .inr (fun hd => ?_))⟩
          · have := (hr _ e.symm).1
            simp at this
            omega
          · have h1 := (hr r e).1
            have h2 := (Array.getElem?_eq_some_iff.1 (MK2.out.at_ r hd).2).1
            simp at h1
            omega)
        (fun _ _ _ _ _ hs _ _ => hs)
        ⟨g, cp, by simpa using HA2.out.alloc _, hbs, MK2.out.kept (World.grownBy_alloc _ _ none) (fun r e => by cases e)⟩
        (fun x => { tmps := #[forV (some ⟨b, off, none⟩) len cap m, .int .i64 n, .pointer (some ⟨w.heap.size, 0, none⟩), undef, .slice none 0 0, .slice (some ⟨g2, 0, none⟩) (out.length + 1) cap2, .pointer (some ⟨Bp, 0, none⟩), .int .i64 (Q.length : Int), .int .i64 (zi : Int), u9, .int .i64 x.2, .agg #[.slice (some ⟨b, off, none⟩) len cap, .int .i64 m], .int .i64 n, .slice (some ⟨w.heap.size + 1, 0, none⟩) 1 1, .bool true, .bool false, .int .i64 n, .slice (some ⟨w1.heap.size, 0, none⟩) 1 1, .slice (some ⟨g, 0, none⟩) (Q.length + 1) cp, .int .i64 ((Q.length : Int) + 1), .bool true, .slice (some ⟨g, 0, none⟩) (Q.length + 1) cp, .int .i64 ((Q.length : Int) + 1), .int .i64 (Q.length : Int), .slice (some ⟨g, 0, none⟩) (Q.length + 1) cp, .int .i64 (Q.length : Int), .pointer (some ⟨g, Q.length, none⟩), .int .i64 (zi : Int), .slice (some ⟨g, 0, none⟩) (Q.length + 1) cp, .int .i64 (Q.length : Int), .slice (some ⟨g, 0, none⟩) Q.length cp, vo, .int .i64 (zi : Int), .slice (some ⟨W.heap.size, 0, none⟩) 1 1, .slice (some ⟨g2, 0, none⟩) (out.length + 1) cap2, .pointer (some ⟨w.heap.size, 0, none⟩), .slice (some ⟨b, off, none⟩) len cap, .int .i64 (zi : Int), .pointer (some ⟨b, off + zi * 10, none⟩), .pointer (some ⟨b, off + zi * 10 + 6, none⟩), .slice y.kA y.kN y.kC, .func (.func 76) #[] #[.pointer (some ⟨w2.heap.size, 0, none⟩)], .int .i64 x.1, .int .i64 x.2, u44, u45, u46, u47, u48, u49], defers := [] }) ?assign ?body ?done ?stop
      case assign =>
        intro l x W K hK
        gi_wp2
        exact hK
      case body =>
        rintro l pre x W5 ⟨g5, cp5, HH, hbx, hm⟩ hlt
        have pc5 := HH.pile.cell
        have hsz5 := HH.size
        have hkn := HKN.out
        have hpl : (Q ++ pre.map Prod.snd).length ≤ 2000 := by simp; omega
        obtain ⟨k5, hk5⟩ : ∃ k5, (Q ++ pre.map Prod.snd).length = k5 := ⟨_, rfl⟩
        have HK5 := Lib.hid hk5
        have HP := Lib.hid HH
        rw [hk5] at pc5 hpl
        have hrow := HH.prow
        rw [hk5] at hrow
        have HROW := Lib.hid hrow
        clear hrow hk5 HH
        gi_wp2_with (gi_at_builtin
                     refine wpListIn_append_keep _ rfl _ _ 26 rfl w1.heap.size 3 i0 _ 1 8 Try.underlying26 hi0 hz0 hz1 hz2 rfl (by decide) (.slice (some ⟨g5, 0, none⟩) k5 cp5) k5 ((Q ++ pre.map Prod.snd).map encI) rfl (HROW.out.alloc _) ⟨W5.heap.size, 0, none⟩ 1 1 [encI x.2] rfl rfl (cell_one_new W5 (encI x.2) 3) (by simp [Value.oneCell']) (by decide) (by unfold maxLen; omega) (by omega) (by simp; omega) ?_
                     intro g6 cap6 w6 hown6 hold6 hg6 hat6 hlt6
                     obtain ⟨hb6, hh6⟩ := HP.out.push (by rw [HK5.out]; exact hown6) (by rw [HK5.out]; exact hg6) (by rw [HK5.out]; exact hat6)
                     obtain ⟨-, -, -, hk6, hbl6⟩ := HP.out.pile.appended (by decide) HP.out.prow HP.out.size HP.out.low (by rw [← HK5.out] at hown6; exact hown6) (by rw [HK5.out]; exact hg6)
                     have c6 := hb6.cell
                     have f6 := hb6.frozen
                     rw [HK5.out] at c6 hh6 hk6 hbl6)
        have hne6 : w2.heap.size ≠ Bp := Nat.ne_of_gt HA2.out.pile.lt
        have hbx6 := (hbx.alloc (.cells #[encI x.2] 3)).kept hg6 ((hbx.alloc (.cells #[encI x.2] 3)).not_row (by decide) (HROW.out.alloc _))
        have hbx7 := hbx6.kept (grownBy_setCell' w6 Bp (.slice (some ⟨g6, 0, none⟩) (k5 + 1) cap6)) (fun e => hne6 (by injection e))
        have hm6 := ((hm.kept (World.grownBy_alloc _ (.cells #[encI x.2] 3) none) (fun r e => by cases e)).kept hg6 (fun r e => .inl (own_cells (HROW.out.alloc _) r e))).kept (grownBy_setCell' w6 Bp (.slice (some ⟨g6, 0, none⟩) (k5 + 1) cap6)) (fun r e => .inl (by cases e; exact ⟨_, _, _, hb6⟩))
        exact ⟨hk6.from _, ⟨hbx7.trans hbx.symm, hbl6⟩, g6, cap6, by simpa using hh6, hbx7, hm6⟩
      case done =>
        rintro D ys W4 hD rfl ⟨g4, cp4, HH, hbx, hm⟩ hK
        have hkl := HKR.out.hlen
        rw [← hkl, backTo_snd] at HH
        have pc4 := HH.pile.cell
        have hsz4 := HH.size
        have HP := Lib.hid HH
        have HM := Lib.hid hm
        have GO2 := Lib.hid (GO.out.step HRT.out (z := (zi : Int)) (x := y.core) (by rw [Int.toNat_natCast]; exact coreL_get HX.out))
        have SN1 := Lib.hid (sliceN_own HA.out.orow)
        have HNX := Lib.hid HP.out.next
        rw [show (Q ++ y.core.kids.reverse).length = Q.length + y.kN by rw [List.length_append, List.length_reverse, hkl]] at HNX
        have MD : Hid (Marks w1.heap.size (D :: ds) W4) := Lib.hid ⟨List.nodup_cons.2 ⟨fun hd => by
          have h2 := (Array.getElem?_eq_some_iff.1 (MK2.out.at_ D hd).2).1
          simp at hD
          omega, hm.nd⟩, fun E hE => by
          rcases List.mem_cons.1 hE with rfl | hE
          · exact ⟨by simp at hD; omega, hK⟩
          · exact hm.at_ E hE⟩
        clear HH
        gi_wp2
        refine ⟨⟨D :: ds, out ++ [(zi : Int)], Q ++ y.core.kids.reverse, _, W4.heap.size, g4, cp4, _, _, _, _, _, _, _, _, _, _, _, _, _, _, _, _, _, _, _, _, _, _, _, _, _, _, _, _, _, _, _, _, _, _, _, _, HNX, GO2, Lib.hid (MD.out.kept (World.grownBy_alloc _ _ none) (fun r e => by cases e)), rfl⟩, ?_⟩
        · show (ordI (coreL L) (n : Int)).length - sliceN (.slice (some ⟨g2, 0, none⟩) (out.length + 1) cap2) < (ordI (coreL L) (n : Int)).length - sliceN vo
          rw [SN1.out]
          have h1 := GO.out.len
          rw [List.length_append] at h1
          show _ - (out.length + 1) < _
          simp at h1
          omega
      case stop =>
        rintro D c pre W _ _ h _
        exact h.elim
end Go.Proofs.Ytdalljhgmhjibaa
/- Package forest's Ahead; all of its functions' contracts. -/
namespace Go.Proofs.Ytdalljhgmhjibaa
open Go.RowKit
theorem orderFn_any (a : Option Addr) (len cap : Nat) (m : Int) (L : List NodeD) (n : Int) (w : World) (h : NodeRow w a len cap L) (hm : In64 m) (hn : In64 n) (hs : smallF L) :
    Calls Try.prog 20 #[forV a len cap m, .int .i64 n] w (OrdPost w (ordZ m (coreL L) n)) := by
  cases hq : thereF m (coreL L) n with
  | false => exact orderNot_any a len cap m L n w h hm hn hs hq
  | true =>
    obtain ⟨_, k, rfl, _⟩ := there_nat hq
    exact orderIs_any a len cap m L k w h hm hs hq
theorem ahead_find {m : Int} {F : List Core} (hr : rightF m F = true) {x y : Nat} (hx : x < F.length) (hy : y < F.length) : aheadZ m F (x : Int) (y : Int) = decide (findZ (ordZ m F (rootF F x : Nat)) (x : Int) < findZ (ordZ m F (rootF F x : Nat)) (y : Int)) := by
  have T := tree_of_right hr
  have hrl := rootF_lt hr hx
  rw [aheadZ_eq hr hx hy, ordZ_eq hr hrl]
  have hf : ∀ (l : List Nat) (z : Nat), findZ (l.map Int.ofNat) (z : Int) = if posN l z < l.length then (posN l z : Int) else -1 := fun l z => by
    have h1 : findN (l.map Int.ofNat) (z : Int) = posN l z := by
      unfold findN posN
      rw [List.findIdx_map]
      congr 1
      funext q
      show (Int.ofNat q == (z : Int)) = (q == z)
      rw [Bool.eq_iff_iff]
      simp
      omega
    unfold findZ
    rw [h1, List.length_map]
  rw [hf, hf]
  have hxin : x ∈ ordF F (rootF F x) := T.in_root (f := F.length + 1) hx (by omega)
  have hpx := posN_mem hxin
  rw [if_pos hpx]
  unfold aheadF
  by_cases he : rootF F x = rootF F y
  · rw [decide_eq_true he, Bool.true_and]
    have hyin : y ∈ ordF F (rootF F x) := by
      rw [he]
      exact T.in_root (f := F.length + 1) hy (by omega)
    rw [if_pos (posN_mem hyin)]
    exact decide_eq_decide.2 (by omega)
  · rw [decide_eq_false he, Bool.false_and]
    have hyn : y ∉ ordF F (rootF F x) := fun hm => by
      have hh := (T.mem_ord _ _ hrl (by omega) y hy).1 hm
      have h2 : parF F (rootF F x) = none := T.root_top _ x hx (by have := T.rank_le x hx; omega)
      exact he (T.root_of (f := F.length + 1) hy (by have := T.rank_le y hy; omega) hh h2).symm
    have hpy : ¬ posN (ordF F (rootF F x)) y < (ordF F (rootF F x)).length := fun h => by
      have h2 : ((ordF F (rootF F x))[posN (ordF F (rootF F x)) y] == y) = true := List.findIdx_getElem (w := h)
      have h3 : (ordF F (rootF F x))[posN (ordF F (rootF F x)) y] = y := by simpa using h2
      exact hyn (h3 ▸ List.getElem_mem h)
    rw [if_neg hpy]
    exact (decide_eq_false (by omega)).symm
set_option maxHeartbeats 4000000 in
set_option maxRecDepth 100000 in
theorem aheadFn_any (a : Option Addr) (len cap : Nat) (m : Int) (L : List NodeD) (x y : Int) (w : World) (h : NodeRow w a len cap L) (hm : In64 m) (hx : In64 x) (hy : In64 y) (hs : smallF L) :
    Calls Try.prog 23 #[forV a len cap m, .int .i64 x, .int .i64 y] w fun e w' => e = .returned (.bool (aheadZ m (coreL L) x y)) ∧ Below w.heap.size w w' := by
  have HCL : Hid ((coreL L).length = len) := Lib.hid (by rw [coreL_len, h.hlen])
  have hlen := h.len64
  have BX := Lib.hid ((Box.start (m := m) h).keep (below_box _ (.cells #[.int .i64 x, .int .i64 y] 3)))
  have NB := Lib.hid (lit_two (w.alloc (forB a len cap m)) 3 x y hx hy)
  have CK : Hid (∀ W b, NodeRow W a len cap L → IntRow W b 2 2 [x, y] → Calls Try.prog 55 #[forV a len cap m, .slice b 2 2] W fun e w' => e = .returned (.bool (thereF m (coreL L) x && thereF m (coreL L) y)) ∧ Below W.heap.size W w') := Lib.hid (fun W b h1 h2 => by
    rw [← knowsB_two]
    exact knows_any a len cap m L b 2 2 [x, y] W h1 hm hs h2)
  simp only [World.size_alloc] at NB
  have z0 := BX.out.c0
  have z1 := BX.out.c1
  cases q : (thereF m (coreL L) x && thereF m (coreL L) y) with
  | false =>
    rw [q] at CK
    have HR : Hid (aheadZ m (coreL L) x y = false) := Lib.hid (by unfold aheadZ; rw [q]; rfl)
    clear q h hm hs hx hy
    go_enter Try.func23, Try.ntmps23
    go_wp2_with (first
                    | (go_at_call 55; ((with_reducible refine (CK.out _ _ BX.out.row NB.out).mono ?_); rintro e w1 ⟨rfl, hb⟩; have BX := Lib.hid (BX.out.keep hb); have z0 := BX.out.c0; have z1 := BX.out.c1; clear hb))
                    | (go_at_call 56; ((with_reducible refine (CU.out _ BX.out.row).mono ?_); rintro e w1 ⟨rfl, rfl⟩)))
    go_ret
    exact ⟨ret_bool HR.out.symm, BX.out.below⟩
  | true =>
    rw [q] at CK
    rw [Bool.and_eq_true] at q
    obtain ⟨hr, X, rfl, hX⟩ := there_nat q.1
    obtain ⟨-, Y, rfl, hY⟩ := there_nat q.2
    have HA := Lib.hid (ahead_find hr hX hY)
    have hRl := rootF_lt hr hX
    have CU : Hid (∀ W, NodeRow W a len cap L → Calls Try.prog 56 #[.slice a len cap, .int .i64 X] W fun e w' => e = .returned (.int .i64 (rootF (coreL L) X : Nat)) ∧ W = w') := Lib.hid (fun W h => rootUp_any a len cap m L X W h hr (by rw [← HCL.out]; exact hX))
    obtain ⟨R, hR⟩ : ∃ R, rootF (coreL L) X = R := ⟨_, rfl⟩
    rw [hR] at HA CU hRl
    have CO : Hid (∀ W, NodeRow W a len cap L → Calls Try.prog 20 #[forV a len cap m, .int .i64 R] W (OrdPost W (ordZ m (coreL L) R))) := Lib.hid (fun W h => orderFn_any a len cap m L R W h hm ⟨by omega, by rw [HCL.out] at hRl; omega⟩ hs)
    clear q h hm hs hx hy hR hr
    go_enter Try.func23, Try.ntmps23
    go_wp2_with (first
                    | (go_at_call 55; ((with_reducible refine (CK.out _ _ BX.out.row NB.out).mono ?_); rintro e w1 ⟨rfl, hb⟩; have BX := Lib.hid (BX.out.keep hb); have z0 := BX.out.c0; have z1 := BX.out.c1; clear hb))
                    | (go_at_call 56; ((with_reducible refine (CU.out _ BX.out.row).mono ?_); rintro e w1 ⟨rfl, rfl⟩)))
    go_region_held3 (fun w' => w'.cell? ⟨w.heap.size, 0, none⟩ = some (.slice a len cap) ∧ w'.cell? ⟨w.heap.size, 1, none⟩ = some (.int .i64 m)) (go_keep)
      (first
        | (go_at_call 56; refine (CU.out _ (by first | exact BX.out.row | exact BX.out.row.drew)).mono ?_; rintro e w2 ⟨rfl, rfl⟩)
        | (go_at_call 20; refine (CO.out _ (by first | exact BX.out.row | exact BX.out.row.drew)).mono ?_; intro e w2 hp; obtain ⟨a2, n2, c2, rfl, hrow, hb⟩ := hp; have IR := Lib.hid hrow; have BX := Lib.hid (BX.out.keep ((Below.refl _ _).drew.trans hb)); have z0 := BX.out.c0; have z1 := BX.out.c1; clear hrow hb))
    go_wp2_with (go_at_call 58; refine (index_any _ _ _ _ _ _ IR.out).mono ?_; rintro e w3 ⟨rfl, rfl⟩)
    go_ret
    exact ⟨ret_bool HA.out.symm, BX.out.below⟩
theorem forestFns : ForestFns where
  right := fun a len cap m L w h hm hs => rightF_any a len cap m L w h hm hs
  new := fun most w hm => newFn_any most w hm
  make := fun a len cap m L x w h hx hm hs hsx => makeFn_any a len cap m L x w h hx hm hs hsx
  root := fun a len cap m L n w h hm hn hs => rootFn_any a len cap m L n w h hm hn hs
  order := fun a len cap m L n w h hm hn hs => orderFn_any a len cap m L n w h hm hn hs
  holds := fun a len cap m L x y w h hm hx hy hs => holdsFn_any a len cap m L x y w h hm hx hy hs
  place := fun a len cap m L n w h hm hn hs => placeFn_any a len cap m L n w h hm hn hs
  ahead := fun a len cap m L x y w h hm hx hy hs => aheadFn_any a len cap m L x y w h hm hx hy hs
end Go.Proofs.Ytdalljhgmhjibaa
