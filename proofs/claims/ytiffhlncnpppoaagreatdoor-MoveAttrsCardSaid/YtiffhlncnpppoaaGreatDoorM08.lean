/- Texts joined in build order: ForestIter OrderKit MoveInts MoveIns MoveWk. -/
import Derived.Test.YtiffhlncnpppoaaGreatDoorM06
import Derived.RangeFuncNested
import Derived.RangeFuncBound
import Derived.RangeFuncCalls
import Derived.RangeFuncLeaves
import Derived.RangeFuncBox
import Derived.Shelf.Abstract
import Derived.Shelf.RegionOpen
import Derived.WalkKit
import Derived.OwnWalkIn
import Derived.TacticsInMore
import Derived.LoopNIn
import Derived.LoopIn
import Derived.Test.YtiffhlncnpppoaaGreatDoorM04
import Derived.Test.YtiffhlncnpppoaaGreatDoorM05
import Derived.Shelf.Spec.SlicesInsertGrow
namespace Go.Proofs.YtiffhlncnpppoaaGreatDoor
open Go.RowKit Go.Shelf
attribute [local go_sem] Oper.semAt_some
set_option maxHeartbeats 2000000 in
theorem backward_any (a : Option Addr) (len cap : Nat) (w : World) :
    Calls Tryz.prog 165 #[.slice a len cap] w fun e w' => e = .returned (.func (.func 177) #[] #[.pointer (some ⟨w.heap.size, 0, none⟩)]) ∧ w' = w.alloc (.cells #[.slice a len cap] 51) := by
  go_enter Tryz.func165, Tryz.ntmps165
  go_wp2
  go_ret
  exact ⟨rfl, rfl⟩
def backF (K : List Int) (j : Nat) : Int × Int := ((K.length : Int) - 1 - j, K[K.length - 1 - j]?.getD 0)
def backTo (K : List Int) (k : Nat) : List (Int × Int) := (List.range k).map (backF K)
theorem backTo_succ (K : List Int) (k : Nat) : backTo K (k + 1) = backTo K k ++ [backF K k] := by simp [backTo, List.range_succ]
theorem backTo_length (K : List Int) (k : Nat) : (backTo K k).length = k := by simp [backTo]
def KpB (Bs n₀ : Nat) (W W' : World) : Prop := W'.heap[Bs]? = W.heap[Bs]? ∧ Below n₀ W W'
abbrev encP (x : Int × Int) : Array Value := #[.int .i64 x.1, .int .i64 x.2]
set_option maxRecDepth 100000 in
set_option maxHeartbeats 4000000 in
theorem back1_in (F : Fence) (n : Nat) (hf : F.fn 177) (hro : F.round = none) (hn : 1 ≤ n) (l Bs n₀ : Nat) (a : Option Addr) (len cap : Nat) (K : List Int) (J Jx : List (Int × Int) → World → Prop)
    (hY : ∀ pre x W, J pre W → pre.length < len → YieldAt F (n - 1) Tryz.prog l (encP x) W fun e W' =>
      (e = .returned (.bool true) ∧ J (pre ++ [x]) W' ∧ KpB Bs n₀ W W') ∨ (e = .returned (.bool false) ∧ Jx (pre ++ [x]) W'))
    (W : World) (hBs : W.cell? ⟨Bs, 0, none⟩ = some (.slice a len cap)) (hK : IntRow W a len cap K) (hlow : ∀ b off, a = some ⟨b, off, none⟩ → 0 < len → b < n₀) (h0 : J [] W) :
    CallsIn F n Tryz.prog 177 #[.func (.yield l) #[] #[], .pointer (some ⟨Bs, 0, none⟩)] W fun e W' => (∃ v, e = .returned v) ∧
      ((∃ ys, ys = backTo K len ∧ J ys W') ∨ (∃ pre, pre.length ≤ len ∧ Jx pre W')) := by
  have hl := hK.len64
  have HL := Lib.hid hK.hlen
  have HK := Lib.hid hK
  clear hK
  refine callsIn_of_wp Tryz.func177 rfl hf ?_ hro
  simp only [Tryz.ntmps177, List.size_toArray, List.length_cons, List.length_nil, Nat.reduceAdd, Nat.reduceSub, Array.replicate_succ, Array.replicate_zero, List.push_toArray, List.append_toArray, List.nil_append, List.cons_append]
  gi_wp2
  gi_loopw [3] (fun i wr => ∃ k : Nat, k ≤ len ∧ i = .int .i64 ((len : Int) - 1 - k) ∧ J (backTo K k) wr ∧ KpB Bs n₀ W wr) (fun i _ => (intOf i + 1).toNat)
  case atStart => exact ⟨0, Nat.zero_le _, by simp, h0, rfl, Below.refl _ _⟩
  case round =>
    obtain ⟨k, hk, rfl, hJs, hkp⟩ := hrel
    have hB2 : wr.cell? ⟨Bs, 0, none⟩ = some (.slice a len cap) := (World.cell?_of_block (a := ⟨Bs, 0, none⟩) hkp.1).trans hBs
    by_cases hlt : k < len
    · obtain ⟨j, hj⟩ : ∃ j : Nat, (len : Int) - 1 - k = j := ⟨len - 1 - k, by omega⟩
      obtain ⟨b, off, z, rfl, hb, hz, hcz, hin⟩ := HK.out.get (k := j) (by omega)
      have hcz2 : wr.cell? ⟨b, off + j, none⟩ = some (.int .i64 z) := (hkp.2.cell (p := ⟨b, off + j, none⟩) (hlow b off rfl (by omega))).trans hcz
      have hfk : backF K k = ((j : Int), z) := by
        unfold backF
        rw [HL.out, hj, show len - 1 - k = j by omega, hz]
        rfl
      obtain ⟨fn, tmps, assign, body, hy, hR⟩ := hY _ ((j : Int), z) wr hJs (by rw [backTo_length]; exact hlt)
      try dsimp only at hy
      rw [hj]
      have hj64 : j ≤ 9223372036854775807 := by omega
      clear hz hcz hin
      gi_wp2
      refine hR.mono ?_
      rintro e W3 (⟨rfl, hJ3, hk3⟩ | ⟨rfl, hJx3⟩)
      · gi_wp2
        go_roundw
        case rel => exact ⟨k + 1, by omega, by congr 1; omega, by rw [backTo_succ, hfk]; exact hJ3, hk3.1.trans hkp.1, hkp.2.trans hk3.2⟩
        case measure => simp [intOf]
      · gi_wp2
        refine bodyPost_ret (results_none rfl _ _ _) rfl ?_
        exact ⟨⟨_, rfl⟩, .inr ⟨_, by rw [List.length_append, backTo_length]; simp; omega, hJx3⟩⟩
    · have hkk : k = len := by omega
      subst hkk
      have e1 : (k : Int) - 1 - k = -1 := by omega
      rw [e1]
      gi_wp2
      go_end0
      exact ⟨⟨_, rfl⟩, .inl ⟨_, rfl, hJs⟩⟩
theorem back_stops (F : Fence) (n : Nat) (hf : F.fn 177) (hro : F.round = none) (hn : 1 ≤ n) (Bs n₀ : Nat) (a : Option Addr) (len cap : Nat) (K : List Int) (w : World) (hBs : Bs < w.heap.size) 
    (hc : w.cell? ⟨Bs, 0, none⟩ = some (.slice a len cap)) (hK : IntRow w a len cap K) (hlow : ∀ b off, a = some ⟨b, off, none⟩ → 0 < len → b < n₀) :
    SeqStopsK F n Tryz.prog 177 #[.pointer (some ⟨Bs, 0, none⟩)] encP (KpB Bs n₀) (fun ys => ys = backTo K len) (fun pre => pre.length ≤ len) len w := fun l J Jx W hW _ _ hY h0 =>
  back1_in F n hf hro hn l Bs n₀ a len cap K J Jx hY W ((hW.cell (p := ⟨Bs, 0, none⟩) hBs).trans hc) (hK.below hW) hlow h0
end Go.Proofs.YtiffhlncnpppoaaGreatDoor
namespace Go.Proofs.YtiffhlncnpppoaaGreatDoor
open Go.RowKit Go.Shelf
theorem wpListIn_append_keep {F : Fence} {n : Nat} {P : Program} (w : World) {ops : Array Oper} {rest : List Oper} {o : Oper} {a : Act} {Q : Exit → Act → World → Prop}
    (hg : o.guard = none) (s x : Operand) (t : TypeId) (hop : o.op = Op.call { callee := Callee.builtin Builtin.append, args := #[s, x], argTypes := #[t, t] })
    (base : Nat) (e : TypeId) (i : TypeInfo) (z : Value) (size bytes : Nat) (h1 : P.underlying t = some (.slice e)) (h2 : P.info? e = some i) (h3 : i.zero = some z) (h4 : i.size = size) (h5 : i.bytes = bytes) (h6 : z.cells.size = size) (h7 : 0 < size)
    (v : Value) (k : Nat) (xs : List Value) (hs : a.eval s = v) (hown : w.ownsRow base e size v k xs) (ad : Addr) (m c : Nat) (news : List Value) (hx : a.eval x = .slice (some ad) m c) (hn : news.length = m * size)
    (hc : ∀ j u, news[j]? = some u → w.cell? (ad.add j) = some u) (h1c : ∀ u ∈ news, u.oneCell' = true) (hm : 0 < m) (b1 : k + m ≤ maxLen) (b2 : (k + m) * bytes ≤ 140737488355328) (b3 : base ≤ w.heap.size)
    (hK : ∀ g cap w', w'.ownsRow base e size (.slice (some ⟨g, 0, none⟩) (k + m) cap) (k + m) (xs ++ news) → w'.ownsRow base e size v k xs → w.grownBy w' v.ownBlock → (v.ownBlock = some g ∨ g = w.heap.size) → g < w'.heap.size → wpListIn F n P ops Q rest (a.put o.dst (.slice (some ⟨g, 0, none⟩) (k + m) cap)) w') :
    wpListIn F n P ops Q (o :: rest) a w := by
  refine wpListIn_plain hg fun K hK' => ?_
  obtain ⟨g, cap, w', hrun, r1, r2, r3, r4, r5⟩ := run_append_keep (P := P) w t o.type base e i z size bytes h1 h2 h3 h4 h5 h6 h7 v k xs hown ad m c news hn hc h1c hm b1 b2 b3
  unfold Oper.wpIn
  refine ⟨?_, ?_⟩
  · simp [Oper.about, hop, resolve, Target.leads, Sem.run_pure]
  · rw [Oper.semAt_plain F _ _ (by rw [hop]; intro c hc'; cases hc')]
    simp [execOp, hop, resolve, invoke, builtin, hs, hx, hrun, Result.andThen]
    exact hK' _ _ (hK g cap w' r1 r2 r3 r4 r5)
abbrev markD (D : Nat) : Deferred := { target := .collected D, args := #[] }
structure Marks (B : Nat) (ds : List Nat) (W : World) : Prop where
  nd : ds.Nodup
  at_ : ∀ D ∈ ds, B ≤ D ∧ W.heap[D]? = some (.deferred (some []))
theorem Marks.kept {B : Nat} {ds : List Nat} {W W2 : World} {row : Option Nat} (h : Marks B ds W) (hg : W.grownBy W2 row) (hne : ∀ r, row = some r → (∃ c e f, W.heap[r]? = some (.cells c e f)) ∨ r ∉ ds) : Marks B ds W2 := by
  refine ⟨h.nd, fun D hD => ⟨(h.at_ D hD).1, (hg.block D (Array.getElem?_eq_some_iff.1 (h.at_ D hD).2).1 (fun e => ?_)).trans (h.at_ D hD).2⟩⟩
  rcases hne D e.symm with ⟨c, t, f, hc⟩ | hn
  · rw [(h.at_ D hD).2] at hc
    cases hc
  · exact hn hD
theorem leaves_marks {F : Fence} {n : Nat} {P : Program} {fn : Func} {tmps : Array Value} {R : Ending → World → Prop} (B : Nat) (Φ : World → Prop)
    (stab : ∀ W D, Φ W → B ≤ D → W.heap[D]? = some (.deferred (some [])) → Φ (W.putObj D (.deferred none))) (fin : ∀ W, Φ W → LeavesIn F n P fn tmps R [] .returning W) :
    ∀ (ds : List Nat) (W : World), Marks B ds W → Φ W → LeavesInM F n P fn tmps R (ds.map markD) .returning W
  | [], W, _, h => fin W h
  | D :: ds, W, hm, h => by
    have hD := hm.at_ D (by simp)
    have hnd := List.nodup_cons.1 hm.nd
    refine ⟨by simp, .inl ⟨D, _, rfl, run_takeDeferred hD.2, ?_⟩⟩
    refine leaves_marks B Φ stab fin ds _ ⟨hnd.2, fun E hE => ⟨(hm.at_ E (by simp [hE])).1, ?_⟩⟩ (stab W D h hD.1 hD.2)
    have hne : E ≠ D := fun e => hnd.1 (by rw [← e]; exact hE)
    rw [World.putObj_heap_other hne]
    exact (hm.at_ E (by simp [hE])).2
theorem own_prefix {w : World} {base : Nat} {e : TypeId} {size g k cap : Nat} {xs ys : List Value} (h : w.ownsRow base e size (.slice (some ⟨g, 0, none⟩) (k + 1) cap) (k + 1) (xs ++ ys)) (hl : xs.length = k * size) : w.ownsRow base e size (.slice (some ⟨g, 0, none⟩) k cap) k xs := by
  refine ⟨hl, ?_⟩
  rcases h.2 with ⟨hv, _⟩ | ⟨g', cap', cur, hv, hb, hg, h1, h2, h3, h4⟩
  · cases hv
  · injection hv with e1 e2 e3
    subst e3
    refine .inr ⟨g', cap, cur, by rw [e1], hb, hg, by omega, h2, h3, ?_⟩
    have := congrArg (List.take (k * size)) h4
    rw [List.take_take, Nat.min_eq_left (Nat.mul_le_mul_right _ (by omega)), ← hl, List.take_left] at this
    rw [← hl]
    exact this
structure Hand (w1 W : World) (B Bp g cp : Nat) (vo : Value) (out P : List Int) : Prop where
  below : Below B w1 W
  pile : Boxed W Bp 51 (.slice (some ⟨g, 0, none⟩) P.length cp)
  low : B ≤ Bp
  prow : W.ownsRow B 3 1 (.slice (some ⟨g, 0, none⟩) P.length cp) P.length (P.map encI)
  orow : W.ownsRow B 3 1 vo out.length (out.map encI)
  apart : vo.ownBlock ≠ some g
theorem Hand.kept {w1 W W2 : World} {B Bp g cp : Nat} {vo : Value} {out P : List Int} {row : Option Nat} (h : Hand w1 W B Bp g cp vo out P) (hg : W.grownBy W2 row) (hB : ∀ r, row = some r → B ≤ r) (h1 : some Bp ≠ row) (h2 : some g ≠ row) (h3 : vo.ownBlock = none ∨ vo.ownBlock ≠ row) (hsz : B ≤ W.heap.size) : Hand w1 W2 B Bp g cp vo out P :=
  ⟨h.below.grown hg hsz (fun k e => hB k e), h.pile.kept hg h1, h.low, h.prow.kept hg (.inr h2), h.orow.kept hg h3, h.apart⟩
theorem Hand.size {w1 W : World} {B Bp g cp : Nat} {vo : Value} {out P : List Int} (h : Hand w1 W B Bp g cp vo out P) : B ≤ W.heap.size := by
  have h1 := h.low
  have h2 := h.pile.lt
  omega
theorem own_cells {w : World} {base : Nat} {e : TypeId} {size n : Nat} {v : Value} {xs : List Value} (h : w.ownsRow base e size v n xs) : ∀ r, v.ownBlock = some r → ∃ c t f, w.heap[r]? = some (.cells c t f) := fun r hr => by
  rcases h.2 with ⟨rfl, _⟩ | ⟨g, cap, cur, rfl, _, hg, _⟩
  · cases hr
  · injection hr with hr
    have e : g = r := hr
    subst e
    exact ⟨_, _, _, hg⟩
theorem Hand.alloc {w1 W : World} {B Bp g cp : Nat} {vo : Value} {out P : List Int} (h : Hand w1 W B Bp g cp vo out P) (o : Obj) : Hand w1 (W.alloc o) B Bp g cp vo out P :=
  h.kept (World.grownBy_alloc W o none) (fun r e => by cases e) (by simp) (by simp) (by
    cases hv : vo.ownBlock with
    | none => exact .inl rfl
    | some k => exact .inr (by simp)) h.size
theorem Hand.other {w1 W W2 : World} {B Bp g cp : Nat} {vo : Value} {out P : List Int} {row : Option Nat} (h : Hand w1 W B Bp g cp vo out P) (hg : W.grownBy W2 row) (hr : ∀ r, row = some r → B ≤ r ∧ ∃ o : Obj, W.heap[r]? = some o ∧ o.isCells = false) : Hand w1 W2 B Bp g cp vo out P := by
  have no : ∀ k, (∃ c t f, W.heap[k]? = some (.cells c t f)) → some k ≠ row := fun k ⟨c, t, f, hc⟩ e => by
    obtain ⟨_, o, ho, hoc⟩ := hr k e.symm
    rw [hc] at ho
    injection ho with ho
    rw [← ho] at hoc
    cases hoc
  refine h.kept hg (fun r e => (hr r e).1) (no Bp ⟨_, _, _, h.pile⟩) (no g (own_cells h.prow g rfl)) ?_ h.size
  cases hv : vo.ownBlock with
  | none => exact .inl rfl
  | some k => exact .inr (no k (own_cells h.orow k hv))
theorem Hand.pop {w1 W : World} {B Bp g cp : Nat} {vo : Value} {out Q : List Int} {z : Int} (h : Hand w1 W B Bp g cp vo out (Q ++ [z])) : Hand w1 (W.setCell ⟨Bp, 0, none⟩ (.slice (some ⟨g, 0, none⟩) Q.length cp)) B Bp g cp vo out Q := by
  have hp := h.prow
  rw [List.length_append, List.map_append] at hp
  have hp2 := own_prefix hp (by simp)
  have hne : some Bp ≠ some g := h.pile.not_row (by decide) h.prow
  have hno := h.pile.not_row (by decide) h.orow
  refine ⟨h.below.setCell (p := ⟨Bp, 0, none⟩) h.low _, h.pile.set _, h.low, hp2.kept (grownBy_setCell' W Bp _) (.inr (fun e => hne e.symm)), h.orow.kept (grownBy_setCell' W Bp _) (.inr (fun e => hno e.symm)), h.apart⟩
theorem Hand.more {w1 W W2 : World} {B Bp g cp g2 cap : Nat} {vo : Value} {out P : List Int} {z : Int} {tmp : Obj} (h : Hand w1 W B Bp g cp vo out P)
    (ho : W2.ownsRow B 3 1 (.slice (some ⟨g2, 0, none⟩) (out.length + 1) cap) (out.length + 1) (out.map encI ++ [encI z])) (hg : (W.alloc tmp).grownBy W2 vo.ownBlock) (hat : vo.ownBlock = some g2 ∨ g2 = (W.alloc tmp).heap.size) : Hand w1 W2 B Bp g cp (.slice (some ⟨g2, 0, none⟩) (out.length + 1) cap) (out ++ [z]) P := by
  have h1 := h.alloc tmp
  have hno := h1.pile.not_row (by decide) h1.orow
  refine ⟨h1.below.grown hg h1.size (fun k e => (h1.orow.lt k e).1), h1.pile.kept hg hno, h1.low, h1.prow.kept hg (.inr (fun e => h1.apart e.symm)), by simpa using ho, fun e => ?_⟩
  have e2 : g2 = g := by injection e
  rcases hat with hat | hat
  · exact h.apart (by rw [hat, e2])
  · have := (h1.prow.lt g rfl).2
    omega
theorem Hand.push {w1 W W2 : World} {B Bp g cp g2 cap : Nat} {vo : Value} {out P : List Int} {z : Int} {tmp : Obj} (h : Hand w1 W B Bp g cp vo out P)
    (ho : W2.ownsRow B 3 1 (.slice (some ⟨g2, 0, none⟩) (P.length + 1) cap) (P.length + 1) (P.map encI ++ [encI z])) (hg : (W.alloc tmp).grownBy W2 (Value.ownBlock (.slice (some ⟨g, 0, none⟩) P.length cp))) (hat : Value.ownBlock (.slice (some ⟨g, 0, none⟩) P.length cp) = some g2 ∨ g2 = (W.alloc tmp).heap.size) :
    Boxed W2 Bp 51 (.slice (some ⟨g, 0, none⟩) P.length cp) ∧ Hand w1 (W2.setCell ⟨Bp, 0, none⟩ (.slice (some ⟨g2, 0, none⟩) (P.length + 1) cap)) B Bp g2 cap vo out (P ++ [z]) := by
  have h1 := h.alloc tmp
  have hno := h1.pile.not_row (by decide) h1.prow
  have hb := h1.pile.kept hg hno
  have hb2 := hb.not_row (by decide) ho
  have hor := h1.orow.kept hg (.inr h1.apart)
  have hno2 := hb.not_row (by decide) hor
  have e1 : (P ++ [z]).length = P.length + 1 := by simp
  refine ⟨hb, (h1.below.grown hg h1.size (fun k e => (h1.prow.lt k e).1)).setCell (p := ⟨Bp, 0, none⟩) h.low _, by rw [e1]; exact hb.set _, h.low, ?_, hor.kept (grownBy_setCell' W2 Bp _) (.inr (fun e => hno2 e.symm)), fun e => ?_⟩
  · rw [e1, List.map_append]
    exact ho.kept (grownBy_setCell' W2 Bp _) (.inr (fun e => hb2 e.symm))
  · rcases hat with hat | hat
    · have e2 : g = g2 := by injection hat
      exact h.apart (by rw [e, e2])
    · have := (h1.orow.lt g2 e).2
      omega
theorem Hand.next {w1 W : World} {B Bp g cp : Nat} {vo : Value} {out P : List Int} (h : Hand w1 W B Bp g cp vo out P) : Hand w1 (W.alloc (.cells #[.slice (some ⟨g, 0, none⟩) P.length cp] 51)) B W.heap.size g cp vo out P := by
  have h1 := h.alloc (.cells #[.slice (some ⟨g, 0, none⟩) P.length cp] 51)
  exact ⟨h1.below, Boxed.new _ _ _, h.size, h1.prow, h1.orow, h1.apart⟩
end Go.Proofs.YtiffhlncnpppoaaGreatDoor
namespace Go.Proofs.YtiffhlncnpppoaaGreatDoor
open Go.RowKit Go.Lib
def layL (xs : List Value) (o : Nat) (vs : List Value) : List Value := xs.take o ++ vs ++ xs.drop (o + vs.length)
theorem layL_nil (xs : List Value) (o : Nat) : layL xs o [] = xs := by simp [layL]
theorem layL_cons {xs : List Value} {o : Nat} {v : Value} {vs : List Value} (h : o < xs.length) : layL (xs.set o v) (o + 1) vs = layL xs o (v :: vs) := by
  have e : xs.take o ++ v :: xs.drop (o + 1) = xs.set o v := by
    rw [List.set_eq_take_append_cons_drop, if_pos h]
  unfold layL
  rw [← e]
  have hl : (xs.take o).length = o := by rw [List.length_take]; omega
  rw [List.take_append, List.drop_append, hl, List.take_of_length_le (by omega : (xs.take o).length ≤ o + 1), List.drop_eq_nil_of_le (by omega : (xs.take o).length ≤ o + 1 + vs.length)]
  simp only [Nat.add_sub_cancel_left, List.nil_append, List.append_assoc, List.length_cons]
  rw [show o + 1 + vs.length - o = vs.length + 1 by omega]
  simp only [List.take_succ_cons, List.take_zero, List.drop_succ_cons, List.drop_drop]
  rw [show o + (vs.length + 1) = o + 1 + vs.length by omega]
  simp
theorem own_setCells {base : Nat} {e : TypeId} {g n cap : Nat} : ∀ (vs : List Value) (o : Nat) {w : World} {xs : List Value}, w.ownsRow base e 1 (.slice (some ⟨g, 0, none⟩) n cap) n xs → o + vs.length ≤ n → (w.setCells g o vs).ownsRow base e 1 (.slice (some ⟨g, 0, none⟩) n cap) n (layL xs o vs)
  | [], o, w, xs, h, _ => by rw [layL_nil]; exact h
  | v :: r, o, w, xs, h, hl => by
    have hx : xs.length = n := by have := h.1; omega
    rw [List.length_cons] at hl
    have h1 := own_setCell h (j := o) (by omega) v
    have h2 := own_setCells r (o + 1) h1 (by omega)
    rw [layL_cons (by omega)] at h2
    exact h2
theorem own_extend {w : World} {base : Nat} {e : TypeId} {g n cap : Nat} {xs : List Value} (h : w.ownsRow base e 1 (.slice (some ⟨g, 0, none⟩) n cap) n xs) (hc : n < cap) : ∃ u, w.ownsRow base e 1 (.slice (some ⟨g, 0, none⟩) (n + 1) cap) (n + 1) (xs ++ [u]) := by
  rcases h.2 with ⟨hv, _⟩ | ⟨g', cap', cur, hv, hb, hg, h1, h2, h3, h4⟩
  · cases hv
  · injection hv with hv1 hv2 hv3
    injection hv1 with hv1
    injection hv1 with hv1
    subst hv1; subst hv3
    have hlt : n < cur.toList.length := by rw [Array.length_toList]; omega
    have hx := h.1
    refine ⟨cur.toList[n], by rw [List.length_append, hx]; simp, .inr ⟨g, cap, cur, rfl, hb, hg, by omega, h2, h3, ?_⟩⟩
    rw [Nat.mul_one] at h4 ⊢
    rw [List.take_add_one, h4, List.getElem?_eq_getElem hlt]
    rfl
theorem own_shape {w : World} {base : Nat} {e : TypeId} {g n cap : Nat} {xs : List Value} (h : w.ownsRow base e 1 (.slice (some ⟨g, 0, none⟩) n cap) n xs) : w.shape? g = some (e, cap) ∧ n ≤ cap ∧ cap ≤ maxLen ∧ (∀ k, w.frozen? ⟨g, k, none⟩ = false) ∧ (∀ k, k < cap → (w.cell? ⟨g, k, none⟩).isSome = true) ∧ g < w.heap.size ∧ base ≤ g := by
  rcases h.2 with ⟨hv, _⟩ | ⟨g', cap', cur, hv, hb, hg, h1, h2, h3, h4⟩
  · cases hv
  · injection hv with hv1 hv2 hv3
    injection hv1 with hv1
    injection hv1 with hv1
    subst hv1; subst hv3
    refine ⟨by unfold World.shape?; rw [hg]; simp [h3], h1, h2, fun k => by simp [World.frozen?, hg], fun k hk => ?_, (Array.getElem?_eq_some_iff.1 hg).1, hb⟩
    rw [cell_of_row w g k cur e (0, 0) hg, Array.getElem?_eq_getElem (by omega)]
    rfl
theorem grown_setCells {w : World} {g : Nat} : ∀ (vs : List Value) (o : Nat) {W : World}, w.grownBy W (some g) → w.grownBy (W.setCells g o vs) (some g)
  | [], _, _, h => h
  | v :: r, o, W, h => grown_setCells r (o + 1) (W := W.setCell ⟨g, o, none⟩ v) ⟨h.os, h.tape, h.output, by simpa [World.setCell] using h.size, fun k hk hne => (Below.heap_setCell _ _ _ k (fun e => hne (by rw [e]))).trans (h.block k hk hne)⟩
theorem own_drew {w : World} {base : Nat} {e : TypeId} {size n : Nat} {v : Value} {xs : List Value} (h : w.ownsRow base e size v n xs) : w.drew.ownsRow base e size v n xs := h
theorem flat_encI (l : List Int) : l.flatMap encZ = l.map (fun z => Value.int .i64 z) := by
  induction l with
  | nil => rfl
  | cons a r ih => rw [List.flatMap_cons, List.map_cons, ih]; rfl
theorem run_clear_int (w : World) (ty : TypeId) (b o c : Nat) (hc : (w.cell? ⟨b, o, none⟩).isSome = true) (hf : w.frozen? ⟨b, o, none⟩ = false) :
    (Builtin.clear_ #[51] ty #[.slice (some ⟨b, o, none⟩) 1 c]).run Tryz.prog w = .ok (.tuple #[]) (w.setCells b o [.int .i64 0]) := by
  have hst := run_storeCells_cells (P := Tryz.prog) b o [.int .i64 0] 0 w (by simpa using hc) (by simpa using hf) (by intro v hv'; simp at hv'; rw [hv']; rfl)
  simp only [Nat.add_zero] at hst
  have hz2 : (Value.int .i64 0).cells = #[Value.int .i64 0] := by simp [Value.cells]
  simp [Builtin.clear_, run_underlying Tryz.underlying51, hz2, Builtin.zeroCells, hst]
set_option maxHeartbeats 8000000 in
set_option maxRecDepth 100000 in
theorem deleteI_any (w : World) (base g n cap : Nat) (L : List Int) (i : Nat) (hown : w.ownsRow base 3 1 (.slice (some ⟨g, 0, none⟩) n cap) n (L.flatMap encZ)) (hi : i < n) :
    Calls Tryz.prog 120 #[.slice (some ⟨g, 0, none⟩) n cap, .int .i64 i, .int .i64 ((i : Int) + 1)] w fun e w' => e = .returned (.slice (some ⟨g, 0, none⟩) (n - 1) cap) ∧ w'.ownsRow base 3 1 (.slice (some ⟨g, 0, none⟩) (n - 1) cap) (n - 1) ((L.eraseIdx i).flatMap encZ) ∧ w.grownBy w' (some g) := by
  obtain ⟨i0, hi0, hz0, hz1, hz2⟩ := info_parts int_info
  obtain ⟨-, hcap, hmax, hfro, hsome, hglt, hbase⟩ := own_shape hown
  have hL : L.length = n := by have := hown.1; rw [flat_len (fun x _ => encZ_len x)] at this; omega
  have hcells : ∀ k u, (L.flatMap encZ)[k]? = some u → w.cell? ⟨g, k, none⟩ = some u := fun k u hu => by
    have := hown.cells (g := g) rfl k u hu
    rwa [Go.WideShapes.add_plain, Nat.zero_add] at this
  have hfl : (L.flatMap encZ).length = n := by rw [flat_len (fun x _ => encZ_len x), hL]; omega
  obtain ⟨news, hnews⟩ : ∃ news, news = (L.flatMap encZ).drop (i + 1) := ⟨_, rfl⟩
  have hnl : news.length = n - (i + 1) := by rw [hnews, List.length_drop, hfl]
  have hone : ∀ u ∈ news, u.oneCell' = true := fun u hu => by
    rw [hnews] at hu
    obtain ⟨x, _, hxu⟩ := List.mem_flatMap.1 (List.mem_of_mem_drop hu)
    exact encZ_one x u hxu
  obtain ⟨A, hA, hsrc⟩ : ∃ A : Addr, (if cap = i + 1 then some (⟨g, 0, none⟩ : Addr) else some ⟨g, i + 1, none⟩) = some A ∧ Hid (∀ t u, news[t]? = some u → w.drew.cell? (A.add t) = some u) := by
    by_cases h : cap = i + 1
    · refine ⟨⟨g, 0, none⟩, by simp [h], Lib.hid fun t u hu => ?_⟩
      have h0 : news.length = 0 := by rw [hnl]; omega
      rw [List.length_eq_zero_iff.1 h0] at hu
      simp at hu
    · refine ⟨⟨g, i + 1, none⟩, by simp [h], Lib.hid fun t u hu => ?_⟩
      rw [Go.WideShapes.add_plain]
      rw [hnews, List.getElem?_drop] at hu
      exact hcells _ _ hu
  have S1 := Lib.hid (show news.length = (n - (i + 1)) * 1 by omega)
  have S2 := Lib.hid hone
  have S3 : Hid (∀ t, t < news.length → (w.drew.cell? ⟨g, 0 + i * 1 + t, none⟩).isSome = true ∧ w.drew.frozen? ⟨g, 0 + i * 1 + t, none⟩ = false) := Lib.hid (fun t ht => ⟨hsome _ (by omega), hfro _⟩)
  obtain ⟨W1, hW1⟩ : ∃ W1, W1 = w.drew.setCells g (0 + i * 1) news := ⟨_, rfl⟩
  have hO1 : W1.ownsRow base 3 1 (.slice (some ⟨g, 0, none⟩) n cap) n (layL (L.flatMap encZ) i news) := by
    rw [hW1, show 0 + i * 1 = i by omega]
    exact own_setCells news i (own_drew hown) (by omega)
  obtain ⟨-, -, -, hfro1, hsome1, -, -⟩ := own_shape hO1
  have HCL : Hid (∀ ty c, (Builtin.clear_ #[51] ty #[.slice (some ⟨g, n - 1, none⟩) 1 c]).run Tryz.prog W1 = .ok (.tuple #[]) (W1.setCells g (n - 1) [.int .i64 0])) := Lib.hid (fun ty c => run_clear_int W1 ty g (n - 1) c (hsome1 _ (by omega)) (hfro1 _))
  have HEND : Hid ((W1.setCells g (n - 1) [.int .i64 0]).ownsRow base 3 1 (.slice (some ⟨g, 0, none⟩) (n - 1) cap) (n - 1) ((L.eraseIdx i).flatMap encZ) ∧ w.grownBy (W1.setCells g (n - 1) [.int .i64 0]) (some g)) := Lib.hid (by
    have h2 := own_setCells [.int .i64 0] (n - 1) hO1 (by simp; omega)
    obtain ⟨m, hm⟩ : ∃ m, n = m + 1 := ⟨n - 1, by omega⟩
    subst hm
    rw [Nat.add_sub_cancel] at h2 ⊢
    refine ⟨?_, grown_setCells _ _ (by rw [hW1]; exact grown_setCells _ _ ⟨rfl, rfl, rfl, Nat.le_refl _, fun _ _ _ => rfl⟩)⟩
    have e1 : layL (layL (L.flatMap encZ) i news) m [.int .i64 0] = (L.eraseIdx i).flatMap encZ ++ [.int .i64 0] := by
      have e2 : (L.eraseIdx i).flatMap encZ = (L.flatMap encZ).take i ++ news := by
        rw [hnews, flat_encI, flat_encI, List.eraseIdx_eq_take_drop_succ, List.map_append, List.map_take, List.map_drop]
      have hle : ((L.eraseIdx i).flatMap encZ).length = m := by rw [flat_encI, List.length_map, List.length_eraseIdx, hL, if_pos hi]; omega
      unfold layL
      rw [show i + news.length = m by omega, ← e2, List.take_append_of_le_length (by omega), List.take_of_length_le (by omega)]
      rw [List.drop_eq_nil_of_le (by rw [List.length_append, List.length_drop, hle, hfl]; simp)]
      simp
    rw [e1] at h2
    exact own_prefix h2 (by rw [flat_len (fun x _ => encZ_len x), List.length_eraseIdx, hL, if_pos hi]; omega))
  have HW := Lib.hid hW1
  have hic : i ≤ cap := by omega
  have hjc : i + 1 ≤ cap := by omega
  have hij : i + 1 ≤ n := by omega
  have hcap64 : cap ≤ 9223372036854775807 := by unfold maxLen at hmax; omega
  clear hown hcells hfl hsome hfro hnews hnl hone hW1 hsome1 hfro1 hmax hO1
  go_enter Tryz.func120, Tryz.ntmps120
  go_wp2_with fail
  have q1 : (0 : Int) ≤ (i : Int) + 1 := by omega
  have q2 : (i : Int) + 1 ≤ (n : Int) := by omega
  go_region_law (refine step_append_room rfl (.tmp 22) (.tmp 25) 51 rfl 3 i0 1 Tryz.underlying51 hi0 hz1 g 0 i cap (by simp [Act.eval, Act.put]) A (n - (i + 1)) (cap - (i + 1)) news (by simp [Act.eval, Act.put]) S1.out hsrc.out S2.out (by omega) S3.out ?_; rw [← HW.out])
  have e : i + (n - (i + 1)) = n - 1 := by omega
  rw [e]
  obtain ⟨m, hm⟩ : ∃ m, n = m + 1 := ⟨n - 1, by omega⟩
  subst hm
  clear e q1 q2 hA
  have hcm : m < cap := by omega
  rw [Nat.add_sub_cancel] at HCL HEND ⊢
  obtain ⟨W2, hW2⟩ : ∃ W2, W2 = W1.setCells g m [.int .i64 0] := ⟨_, rfl⟩
  have hcl := HCL.out 0 (cap - m)
  rw [← hW2] at hcl HEND
  clear hW2
  go_wp2_with fail
  go_ret
  exact ⟨by rw [Nat.add_sub_cancel]; rfl, HEND.out.1, HEND.out.2⟩
def InsPost (base : Nat) (v : Value) (n : Nat) (l : List Int) (w : World) (e : Ending) (w' : World) : Prop := ∃ v', e = .returned v' ∧ w'.ownsRow base 3 1 v' (n + 1) (l.flatMap encZ) ∧ w.grownBy w' v.ownBlock ∧ ∀ b, v'.ownBlock = some b → v.ownBlock = some b ∨ w.heap.size ≤ b
theorem insert_end {L : List Int} {z : Int} {n : Nat} (hL : L.length = n) : L ++ [z] = L.take n ++ z :: L.drop n := by
  rw [List.take_of_length_le (by omega), List.drop_eq_nil_of_le (by omega)]
set_option maxHeartbeats 8000000 in
set_option maxRecDepth 100000 in
theorem insEnd_any (w : World) (base n : Nat) (v : Value) (L : List Int) (z : Int) (vb : Nat) (hb : base ≤ w.heap.size) (hown : w.ownsRow base 3 1 v n (L.flatMap encZ)) (hL : L.length = n) (hn : n ≤ 100000) (hv : ∀ j u, (encZ z)[j]? = some u → w.cell? ⟨vb, j, none⟩ = some u) (hvb : vb < w.heap.size) :
    Calls Tryz.prog 166 #[v, .int .i64 n, .slice (some ⟨vb, 0, none⟩) 1 1] w (InsPost base v n (L.take n ++ z :: L.drop n) w) := by
  obtain ⟨i0, hi0, hz0, hz1, hz2⟩ := info_parts int_info
  have HO := Lib.hid hown
  have HV : Hid (SRow encZ 1 w (some ⟨vb, 0, none⟩) 1 1 [z]) := Lib.hid ⟨rfl, Nat.le_refl _, by unfold maxLen; omega, fun x _ => encZ_len x, .inr ⟨vb, 0, rfl, hvb, fun i x j u hx hu => by
    obtain ⟨hl, hg⟩ := List.getElem?_eq_some_iff.1 hx
    have hi : i = 0 := by simpa using hl
    subst hi
    simp at hg
    subst hg
    simpa using hv j u hu⟩⟩
  have HE : Hid ((L ++ [z]) = L.take n ++ z :: L.drop n) := Lib.hid (insert_end hL)
  obtain ⟨a, cap, rfl⟩ : ∃ a cap, v = .slice a n cap := by
    rcases hown.2 with ⟨rfl, rfl⟩ | ⟨g, cap, cur, rfl, _⟩
    · exact ⟨_, _, rfl⟩
    · exact ⟨_, _, rfl⟩
  have hnc : n ≤ cap := by
    rcases hown.2 with ⟨hq, h0⟩ | ⟨g, cap', cur, hq, _, _, h1, _⟩
    · omega
    · injection hq with h1' h2' h3'
      omega
  have E9 : Hid (∀ c, (Value.slice a n c).ownBlock = (Value.slice a n cap).ownBlock) := Lib.hid (fun c => by cases a <;> rfl)
  have hc64 : (cap : Int) ≤ 9223372036854775807 := by
    rcases hown.2 with ⟨hq, h0⟩ | ⟨g, cap', cur, hq, _, _, _, h2, _⟩
    · injection hq with h1' h2' h3'
      omega
    · injection hq with h1' h2' h3'
      unfold maxLen at h2
      omega
  clear hown hv
  go_enter Tryz.func166, Tryz.ntmps166
  go_wp2_with (at_builtin
               refine wpList_append_rows rfl (.tmp 23) (.tmp 24) 51 rfl 3 i0 _ 1 8 Tryz.underlying51 hi0 hz0 hz1 hz2 rfl (by decide) base (.slice a n cap) n L [z] rfl HO.out _ 1 1 rfl HV.out (fun x _ => encZ_one x) (by unfold maxLen; omega) (by omega) hb (fun h => by cases h) ?_
               intro v3 w3 hown3 hg3 hat3
               have HO3 := Lib.hid hown3
               have HG3 := Lib.hid hg3
               have HA3 := Lib.hid hat3
               clear hown3 hg3 hat3)
  all_goals
    go_ret
    refine ⟨v3, rfl, by rw [← HE.out]; exact HO3.out, by rw [E9.out]; exact HG3.out, fun b hb2 => ?_⟩
    rw [E9.out]
    rcases HA3.out with h | h
    · exact .inl (h.symm.trans hb2)
    · rw [h] at hb2
      injection hb2 with hb2
      exact .inr (by omega)
theorem lay_insert {cs : List Value} {u z : Value} {n i : Nat} (hc : cs.length = n) (hi : i < n) : layL (layL (cs ++ [u]) (i + 1) (cs.drop i)) i [z] = cs.take i ++ z :: cs.drop i := by
  have hd : (cs ++ [u]).drop (i + 1 + (cs.drop i).length) = [] := List.drop_eq_nil_of_le (by rw [List.length_append, List.length_drop, hc]; simp; omega)
  have ht : (cs ++ [u]).take (i + 1) = cs.take (i + 1) := List.take_append_of_le_length (by omega)
  have h1 : layL (cs ++ [u]) (i + 1) (cs.drop i) = cs.take (i + 1) ++ cs.drop i := by
    unfold layL
    rw [hd, ht, List.append_nil]
  rw [h1]
  unfold layL
  have ht2 : (cs.take (i + 1) ++ cs.drop i).take i = cs.take i := by
    rw [List.take_append_of_le_length (by rw [List.length_take]; omega), List.take_take, Nat.min_eq_left (by omega)]
  have hl : (cs.take (i + 1)).length = i + 1 := by rw [List.length_take]; omega
  have hd2 : (cs.take (i + 1) ++ cs.drop i).drop (i + [z].length) = cs.drop i := by
    rw [List.drop_append, hl, List.drop_eq_nil_of_le (by rw [hl]; simp)]
    simp
  rw [ht2, hd2]
  simp
set_option maxHeartbeats 8000000 in
set_option maxRecDepth 100000 in
theorem insRoom_any (w : World) (base g n cap i : Nat) (L : List Int) (z : Int) (vb : Nat) (hown : w.ownsRow base 3 1 (.slice (some ⟨g, 0, none⟩) n cap) n (L.flatMap encZ)) (hi : i < n) (hroom : n + 1 ≤ cap) (hv : w.heap[vb]? = some (.cells #[.int .i64 z] 3 (0, 0))) (hvg : vb ≠ g) :
    Calls Tryz.prog 166 #[.slice (some ⟨g, 0, none⟩) n cap, .int .i64 i, .slice (some ⟨vb, 0, none⟩) 1 1] w (InsPost base (.slice (some ⟨g, 0, none⟩) n cap) n (L.take i ++ z :: L.drop i) w) := by
  obtain ⟨hsh, hcap, hmax, hfz, hsome, hglt, hbase⟩ := own_shape hown
  obtain ⟨cs, hcs⟩ : ∃ cs, L.flatMap encZ = cs := ⟨_, rfl⟩
  have hcl : cs.length = n := by rw [← hcs]; have := hown.1; omega
  have hc63 : cap ≤ 9223372036854775807 := by unfold maxLen at hmax; omega
  have hcells : ∀ k u, cs[k]? = some u → w.cell? ⟨g, k, none⟩ = some u := fun k u hu => by
    rw [← hcs] at hu
    have := hown.cells (g := g) rfl k u hu
    rwa [Go.WideShapes.add_plain, Nat.zero_add] at this
  have h1c : ∀ u ∈ cs, u.oneCell' = true := fun u hu => by
    rw [← hcs] at hu
    obtain ⟨x, _, hxu⟩ := List.mem_flatMap.1 hu
    exact encZ_one x u hxu
  have hvc : w.cell? ⟨vb, 0, none⟩ = some (.int .i64 z) := by
    rw [cell_of_row w vb 0 _ _ (0, 0) hv]
    rfl
  have hsa : w.shape? vb = some (3, 1) := by unfold World.shape?; rw [hv]; rfl
  have hfa : ∀ j, w.frozen? ⟨vb, j, none⟩ = false := fun j => by simp [World.frozen?, hv]
  have u0 := run_underlying (P := Tryz.prog) Tryz.underlying51
  have hz2 : ¬ ((i : Int) = (n : Int)) := by omega
  have hsz : (Tryz.prog.info? 3).map (·.size) = some 1 := by
    obtain ⟨i0, hi0, h0, h1, h2⟩ := info_parts int_info
    rw [hi0]
    simp [h1]
  have hso : ∀ w, (Go.sizeOf 3).run Tryz.prog w = .ok 1 w := fun w => by kernel_rfl
  have hov : ∀ lb cb, (callFunc 178 #[.slice (some ⟨vb, 0, none⟩) 1 1, .slice (some ⟨g, i + 1, none⟩) lb cb]).run Tryz.prog w = .ok (.value (.bool false)) w := fun lb cb => by
    rw [run_callFunc_extern Tryz.func178 (by kernel_rfl) (by kernel_rfl) (by kernel_rfl) (e := Extern.SlicesOverlaps.overlaps #[51, 51] #[4]) (by kernel_rfl),
      Lib.run_overlaps_apart w 51 4 3 Tryz.underlying51 1 hso ⟨vb, 0, none⟩ ⟨g, i + 1, none⟩ 1 1 lb cb hvg 3 3 1 cap hsa hsh (by omega) (hfa 0) (hfa 1)]
    rfl
  have hdl : (cs.drop i).length = n - i := by rw [List.length_drop, hcl]
  have hw1 : IntKind.i64.wrap ((i : Int) + 1) = (i : Int) + 1 := by rw [IntKind.wrap_i64]; omega
  have hb1 : (0 : Int) ≤ (i : Int) + 1 := by omega
  have hin : i ≤ n := by omega
  have htn : ((i : Int) + 1).toNat = i + 1 := by omega
  have hb2 : ¬ (cap = i + 1) := by omega
  have hb3 : (i : Int) ≤ (n : Int) + 1 := by omega
  have hb4 : ¬ (cap = i) := by omega
  have hcp1 : ∀ ty dc sc, (Builtin.copy_ #[51, 51] ty #[.slice (some ⟨g, i + 1, none⟩) (n - i) dc, .slice (some ⟨g, i, none⟩) (n + 1 - i) sc]).run Tryz.prog w.drew = .ok (goInt (cs.drop i).length) (w.drew.setCells g (i + 1) (cs.drop i)) := fun ty dc sc =>
    run_copy_cells w.drew _ _ ty 3 g (i + 1) (n - i) dc ⟨g, i, none⟩ (n + 1 - i) sc (cs.drop i) Tryz.underlying51 hsz (by rw [hdl]; simp only [Nat.min_def]; split <;> omega)
      (fun j v hj => by rw [Addr.add_lit]; exact hcells (i + j) v (by rwa [List.getElem?_drop] at hj))
      (fun j hj => hsome _ (by omega)) (fun j hj => hfz _) (fun v hv => h1c v (List.mem_of_mem_drop hv))
  obtain ⟨W1, hW1⟩ : ∃ W1, W1 = w.drew.setCells g (i + 1) (cs.drop i) := ⟨_, rfl⟩
  obtain ⟨u, hu⟩ := own_extend hown (by omega)
  rw [hcs] at hu
  have hO1 : W1.ownsRow base 3 1 (.slice (some ⟨g, 0, none⟩) (n + 1) cap) (n + 1) (layL (cs ++ [u]) (i + 1) (cs.drop i)) := by
    rw [hW1]
    exact own_setCells _ _ (own_drew hu) (by omega)
  obtain ⟨-, -, -, hfz1, hsome1, -, -⟩ := own_shape hO1
  have hv1 : W1.cell? ⟨vb, 0, none⟩ = some (.int .i64 z) := by
    rw [hW1, World.cell?_setCells_out g _ _ _ _ (fun h _ => absurd h hvg)]
    exact hvc
  have hcp2 : ∀ ty dc, (Builtin.copy_ #[51, 51] ty #[.slice (some ⟨g, i, none⟩) (n + 1 - i) dc, .slice (some ⟨vb, 0, none⟩) 1 1]).run Tryz.prog W1 = .ok (goInt 1) (W1.setCells g i [.int .i64 z]) := fun ty dc =>
    run_copy_cells W1 _ _ ty 3 g i (n + 1 - i) dc ⟨vb, 0, none⟩ 1 1 [.int .i64 z] Tryz.underlying51 hsz (by simp only [Nat.min_def, List.length_singleton]; split <;> omega)
      (fun j v hj => by
        obtain ⟨hl, hg⟩ := List.getElem?_eq_some_iff.1 hj
        have hj0 : j = 0 := by simpa using hl
        subst hj0
        simp at hg
        subst hg
        simpa [Addr.add_lit] using hv1)
      (fun j hj => hsome1 _ (by simp at hj; omega)) (fun j hj => hfz1 _) (fun v hv => by simp at hv; rw [hv]; rfl)
  have HEND : Hid ((W1.setCells g i [.int .i64 z]).ownsRow base 3 1 (.slice (some ⟨g, 0, none⟩) (n + 1) cap) (n + 1) ((L.take i ++ z :: L.drop i).flatMap encZ) ∧ w.grownBy (W1.setCells g i [.int .i64 z]) (some g)) := Lib.hid (by
    have h2 := own_setCells [.int .i64 z] i hO1 (by simp; omega)
    rw [lay_insert hcl hi] at h2
    refine ⟨?_, grown_setCells _ _ (by rw [hW1]; exact grown_setCells _ _ ⟨rfl, rfl, rfl, Nat.le_refl _, fun _ _ _ => rfl⟩)⟩
    have e : (L.take i ++ z :: L.drop i).flatMap encZ = cs.take i ++ Value.int .i64 z :: cs.drop i := by
      rw [← hcs, flat_encI, flat_encI, List.map_append, List.map_cons, List.map_take, List.map_drop]
    rw [e]
    exact h2)
  have HW := Lib.hid hW1
  rw [← hW1] at hcp1
  obtain ⟨W2, hW2⟩ : ∃ W2, W2 = W1.setCells g i [.int .i64 z] := ⟨_, rfl⟩
  rw [← hW2] at hcp2 HEND
  clear hown hcells h1c hv hvc hsh hmax hfz hsome hu hO1 hfz1 hsome1 hv1 hW1 hW2 hso hsz hsa hfa
  go_enter Tryz.func166, Tryz.ntmps166
  go_wp2_with (simp only [hov])
  go_region_law (refine Go.Proofs.step_copy_runI rfl _ _ 51 51 rfl _ _ (by simp [Act.eval, Act.put]) (by simp [Act.eval, Act.put]) (hcp1 _ _ _) ?_)
  go_wp2_with (at_builtin; refine Go.Proofs.wpList_copy_runI _ rfl _ _ 51 51 rfl _ _ rfl rfl (hcp2 _ _) ?_)
  go_ret
  exact ⟨_, rfl, HEND.out.1, HEND.out.2, fun b h => .inl h⟩
end Go.Proofs.YtiffhlncnpppoaaGreatDoor
namespace Go.Proofs.YtiffhlncnpppoaaGreatDoor
open Go.RowKit Go.Lib
theorem lay_grow {cs : List Value} {z : Value} {zs : List Value} {n i : Nat} (hc : cs.length = n) (hi : i < n) (hz : zs.length = n + 1 - i) : layL (layL (cs.take i ++ zs) i [z]) (i + 1) (cs.drop i) = cs.take i ++ z :: cs.drop i := by
  have hl : (cs.take i).length = i := by rw [List.length_take]; omega
  have ht : (cs.take i ++ zs).take i = cs.take i := by
    rw [List.take_append_of_le_length (by omega), List.take_of_length_le (by omega)]
  have h1 : layL (cs.take i ++ zs) i [z] = (cs.take i ++ [z]) ++ (cs.take i ++ zs).drop (i + 1) := by
    unfold layL
    rw [ht]
    rfl
  rw [h1]
  have hl2 : (cs.take i ++ [z]).length = i + 1 := by rw [List.length_append, hl]; rfl
  have hd : ((cs.take i ++ [z]) ++ (cs.take i ++ zs).drop (i + 1)).drop (i + 1 + (cs.drop i).length) = [] := List.drop_eq_nil_of_le (by
    rw [List.length_append, hl2, List.length_drop, List.length_append, hl, hz, List.length_drop, hc]
    omega)
  have ht2 : ((cs.take i ++ [z]) ++ (cs.take i ++ zs).drop (i + 1)).take (i + 1) = cs.take i ++ [z] := by
    rw [List.take_append_of_le_length (by omega), List.take_of_length_le (by omega)]
  unfold layL
  rw [hd, ht2]
  simp
set_option maxHeartbeats 8000000 in
set_option maxRecDepth 100000 in
theorem insGrow_any (w : World) (base g n cap i : Nat) (L : List Int) (z : Int) (vb : Nat) (hb : base ≤ w.heap.size) (hown : w.ownsRow base 3 1 (.slice (some ⟨g, 0, none⟩) n cap) n (L.flatMap encZ)) (hi : i < n) (hroom : cap < n + 1) (hn : n ≤ 100000) (hv : w.heap[vb]? = some (.cells #[.int .i64 z] 3 (0, 0))) :
    Calls Tryz.prog 166 #[.slice (some ⟨g, 0, none⟩) n cap, .int .i64 i, .slice (some ⟨vb, 0, none⟩) 1 1] w (InsPost base (.slice (some ⟨g, 0, none⟩) n cap) n (L.take i ++ z :: L.drop i) w) := by
  obtain ⟨i0, hi0, hz0, hzs, hzb⟩ := info_parts int_info
  obtain ⟨hsh, hcap, hmax, hfz, hsome, hglt, hbase⟩ := own_shape hown
  obtain ⟨cs, hcs⟩ : ∃ cs, L.flatMap encZ = cs := ⟨_, rfl⟩
  have hcl : cs.length = n := by rw [← hcs]; have := hown.1; omega
  have hcells : ∀ k u, cs[k]? = some u → w.cell? ⟨g, k, none⟩ = some u := fun k u hu => by
    rw [← hcs] at hu
    have := hown.cells (g := g) rfl k u hu
    rwa [Go.WideShapes.add_plain, Nat.zero_add] at this
  have h1c : ∀ u ∈ cs, u.oneCell' = true := fun u hu => by
    rw [← hcs] at hu
    obtain ⟨x, _, hxu⟩ := List.mem_flatMap.1 hu
    exact encZ_one x u hxu
  have hvc : w.cell? ⟨vb, 0, none⟩ = some (.int .i64 z) := by
    rw [cell_of_row w vb 0 _ _ (0, 0) hv]
    rfl
  have hvw : vb < w.heap.size := (Array.getElem?_eq_some_iff.1 hv).1
  have u0 := run_underlying (P := Tryz.prog) Tryz.underlying51
  have hz2 : ¬ ((i : Int) = (n : Int)) := by omega
  have hz3 : (cap : Int) < (n : Int) + 1 := by omega
  have hsz : (Tryz.prog.info? 3).map (·.size) = some 1 := by rw [hi0]; simp [hzs]
  have hkk : (n : Int) + 1 - (i : Int) = ((n + 1 - i : Nat) : Int) := by omega
  have hik : i + (n + 1 - i) = n + 1 := by omega
  have hold : (Builtin.firstCells i0.size i (.slice (some ⟨g, 0, none⟩) i cap)).run Tryz.prog w.drew = .ok (cs.take i).toArray w.drew := by
    rw [hzs]
    exact run_firstCells_some w.drew 1 i ⟨g, 0, none⟩ i cap (cs.take i) (by rw [List.length_take]; omega) (fun j v hj => by
      rw [Addr.add_lit, Nat.zero_add]
      rw [List.getElem?_take] at hj
      split at hj
      · exact hcells j v hj
      · cases hj)
  have hrz : ∀ ty, (Builtin.append_ #[51, 3] ty #[.slice (some ⟨g, 0, none⟩) i cap, .int .i64 ((n : Int) + 1 - (i : Int))]).run Tryz.prog w =
      .ok (.slice (some ⟨w.heap.size, 0, none⟩) (n + 1) (grownCap w (n + 1) cap 3)) (w.drew.alloc (.cells ((cs.take i).toArray ++ Builtin.zeroCells (Value.int .i64 0).cells (n + 1 - i) ++ Builtin.zeroCells (Value.int .i64 0).cells (grownCap w (n + 1) cap 3 - (n + 1))) 3)) := fun ty => by
    have h := Lib.run_append_grow_zeros w 51 3 ty 3 i0 _ .i64 .i64 Tryz.underlying51 Tryz.underlying3 hi0 hz0 (some ⟨g, 0, none⟩) i cap (cs.take i) hold (n + 1 - i) (by omega) (by omega) (by omega) (by omega) (by rw [hzb]; omega) (by rw [hzb, hik]; exact growslice_fits hroom (by omega))
    rw [hik] at h
    rw [hkk]
    exact h
  obtain ⟨G, hG⟩ : ∃ G, G = grownCap w (n + 1) cap 3 := ⟨_, rfl⟩
  have hGn : n + 1 ≤ G := by rw [hG]; exact grownCap_ge w _ _ _
  have hGmax : G ≤ maxLen := by rw [hG]; exact grownCap_le_maxLen w (n + 1) cap 3 (by unfold maxLen; omega)
  obtain ⟨ROW, hROW⟩ : ∃ ROW : Array Value, ROW = (cs.take i).toArray ++ Builtin.zeroCells (Value.int .i64 0).cells (n + 1 - i) ++ Builtin.zeroCells (Value.int .i64 0).cells (G - (n + 1)) := ⟨_, rfl⟩
  rw [← hG] at hrz
  rw [← hROW] at hrz
  have hzl : ∀ k, (Builtin.zeroCells (Value.int .i64 0).cells k).toList.length = k := fun k => by simp [Builtin.zeroCells, Value.cells]
  have hROWl : ROW.size = G := by
    have h1 := hzl (n + 1 - i)
    have h2 := hzl (G - (n + 1))
    rw [Array.length_toList] at h1 h2
    rw [hROW]
    simp only [Array.size_append, h1, h2, List.size_toArray, List.length_take]
    omega
  obtain ⟨W1, hW1⟩ : ∃ W1, W1 = w.drew.alloc (.cells ROW 3) := ⟨_, rfl⟩
  rw [← hW1] at hrz
  have hO0 : W1.ownsRow base 3 1 (.slice (some ⟨w.heap.size, 0, none⟩) (n + 1) G) (n + 1) (cs.take i ++ (Builtin.zeroCells (Value.int .i64 0).cells (n + 1 - i)).toList) := by
    have htl : (cs.take i ++ (Builtin.zeroCells (Value.int .i64 0).cells (n + 1 - i)).toList).length = n + 1 := by
      rw [List.length_append, hzl, List.length_take]
      omega
    refine ⟨by omega, .inr ⟨w.heap.size, G, ROW, rfl, hb, by rw [hW1]; exact heap_alloc_new w.drew _, hGn, hGmax, by omega, ?_⟩⟩
    rw [hROW, Array.toList_append, Array.toList_append, Nat.mul_one]
    rw [List.take_append_of_le_length (Nat.le_of_eq htl.symm)]
    exact List.take_of_length_le (Nat.le_of_eq htl)
  have hO1 := own_setCells [.int .i64 z] i hO0 (by simp; omega)
  have hO2 := own_setCells (cs.drop i) (i + 1) (own_drew hO1) (by rw [List.length_drop]; omega)
  rw [lay_grow hcl hi (by rw [hzl])] at hO2
  obtain ⟨-, -, -, hf1, hs1, -, -⟩ := own_shape hO0
  obtain ⟨-, -, -, hf2, hs2, -, -⟩ := own_shape hO1
  have hbel : Below w.heap.size w W1 := by rw [hW1]; exact ((Below.refl _ _).drew).alloc (Nat.le_refl _) _
  obtain ⟨W2, hW2⟩ : ∃ W2, W2 = W1.setCells w.heap.size i [.int .i64 z] := ⟨_, rfl⟩
  rw [← hW2] at hO2 hf2 hs2
  have hbel2 : Below w.heap.size w W2 := by rw [hW2]; exact below_setCells (Nat.le_refl _) _ _ _ hbel
  have hcpA : ∀ ty dc, (Builtin.copy_ #[51, 51] ty #[.slice (some ⟨w.heap.size, i, none⟩) (n + 1 - i) dc, .slice (some ⟨vb, 0, none⟩) 1 1]).run Tryz.prog W1 = .ok (goInt 1) W2 := fun ty dc => by
    rw [hW2]
    exact run_copy_cells W1 _ _ ty 3 w.heap.size i (n + 1 - i) dc ⟨vb, 0, none⟩ 1 1 [.int .i64 z] Tryz.underlying51 hsz (by simp only [Nat.min_def, List.length_singleton]; split <;> omega)
      (fun j v hj => by
        obtain ⟨hl, hg⟩ := List.getElem?_eq_some_iff.1 hj
        have hj0 : j = 0 := by simpa using hl
        subst hj0
        simp at hg
        subst hg
        simpa [Addr.add_lit] using (hbel.cell (p := ⟨vb, 0, none⟩) hvw).trans hvc)
      (fun j hj => hs1 _ (by simp at hj; omega)) (fun j hj => hf1 _) (fun v hv => by simp at hv; rw [hv]; rfl)
  obtain ⟨W3, hW3⟩ : ∃ W3, W3 = W2.drew.setCells w.heap.size (i + 1) (cs.drop i) := ⟨_, rfl⟩
  have hcpB : ∀ ty dc sc, (Builtin.copy_ #[51, 51] ty #[.slice (some ⟨w.heap.size, i + 1, none⟩) (n - i) dc, .slice (some ⟨g, i, none⟩) (n - i) sc]).run Tryz.prog W2.drew = .ok (goInt (cs.drop i).length) W3 := fun ty dc sc => by
    rw [hW3]
    exact run_copy_cells W2.drew _ _ ty 3 w.heap.size (i + 1) (n - i) dc ⟨g, i, none⟩ (n - i) sc (cs.drop i) Tryz.underlying51 hsz (by rw [List.length_drop, hcl]; simp only [Nat.min_def]; split <;> omega)
      (fun j v hj => by
        rw [Addr.add_lit]
        rw [List.getElem?_drop] at hj
        exact (hbel2.cell (p := ⟨g, i + j, none⟩) hglt).trans (hcells (i + j) v hj))
      (fun j hj => hs2 _ (by rw [List.length_drop] at hj; omega)) (fun j hj => hf2 _) (fun v hv => h1c v (List.mem_of_mem_drop hv))
  have HEND : Hid (W3.ownsRow base 3 1 (.slice (some ⟨w.heap.size, 0, none⟩) (n + 1) G) (n + 1) ((L.take i ++ z :: L.drop i).flatMap encZ) ∧ w.grownBy W3 (some g)) := Lib.hid (by
    have e : (L.take i ++ z :: L.drop i).flatMap encZ = cs.take i ++ Value.int .i64 z :: cs.drop i := by
      rw [← hcs, flat_encI, flat_encI, List.map_append, List.map_cons, List.map_take, List.map_drop]
    rw [e]
    refine ⟨by rw [hW3]; exact hO2, ?_⟩
    have hb3 : Below w.heap.size w W3 := by rw [hW3]; exact below_setCells (Nat.le_refl _) _ _ _ hbel2.drew
    exact ⟨hb3.os, hb3.tape, hb3.output, hb3.size, fun k hk _ => hb3.block k hk⟩)
  have hG63 : G ≤ 9223372036854775807 := by unfold maxLen at hGmax; omega
  have hGi : ¬ (G = i) := by omega
  have hGim : ¬ (G = i + 1) := by omega
  have hci : ¬ (cap = i) := by omega
  have hw1 : IntKind.i64.wrap ((i : Int) + 1) = (i : Int) + 1 := by rw [IntKind.wrap_i64]; omega
  have hb1 : (0 : Int) ≤ (i : Int) + 1 := by omega
  have hin : i ≤ n := by omega
  have htn : ((i : Int) + 1).toNat = i + 1 := by omega
  have hb3 : (i : Int) ≤ (n : Int) := by omega
  have hc63 : cap ≤ 9223372036854775807 := by unfold maxLen at hmax; omega
  clear hkk hik hold hROW hROWl hG hown hcells h1c hv hvc hsh hmax hfz hsome hO0 hO1 hO2 hf1 hs1 hf2 hs2 hbel hbel2 hW1 hW2 hW3 hsz hzl hGmax
  go_enter Tryz.func166, Tryz.ntmps166
  go_wp2_with (first
    | (at_builtin; refine Lib.wpList_append_run _ rfl _ _ _ _ rfl _ _ rfl rfl _ _ (hrz _) ?_)
    | (at_builtin; refine Go.Proofs.wpList_copy_runI _ rfl _ _ 51 51 rfl _ _ rfl rfl (hcpA _ _) ?_))
  go_region_law (refine Go.Proofs.step_copy_runI rfl _ _ 51 51 rfl _ _ (by simp [Act.eval, Act.put]) (by simp [Act.eval, Act.put]) (hcpB _ _ _) ?_)
  go_wp2
  go_ret
  exact ⟨_, rfl, HEND.out.1, HEND.out.2, fun b h => .inr (by
    have h2 : w.heap.size = b := by injection h
    omega)⟩
theorem insertI_any (w : World) (base n i : Nat) (v : Value) (L : List Int) (z : Int) (vb : Nat) (hb : base ≤ w.heap.size) (hown : w.ownsRow base 3 1 v n (L.flatMap encZ)) (hi : i ≤ n) (hn : n ≤ 100000) (hv : w.heap[vb]? = some (.cells #[.int .i64 z] 3 (0, 0))) (hvv : v.ownBlock ≠ some vb) :
    Calls Tryz.prog 166 #[v, .int .i64 i, .slice (some ⟨vb, 0, none⟩) 1 1] w (InsPost base v n (L.take i ++ z :: L.drop i) w) := by
  have hL : L.length = n := by have := hown.1; rw [flat_len (fun x _ => encZ_len x)] at this; omega
  by_cases he : i = n
  · subst he
    exact insEnd_any w base i v L z vb hb hown hL hn (fun j u hu => by
      rw [cell_of_row w vb j _ _ (0, 0) hv]
      simpa [encZ] using hu) (Array.getElem?_eq_some_iff.1 hv).1
  · obtain ⟨g, cap, rfl⟩ : ∃ g cap, v = .slice (some ⟨g, 0, none⟩) n cap := by
      rcases hown.2 with ⟨rfl, h0⟩ | ⟨g, cap, cur, rfl, _⟩
      · omega
      · exact ⟨_, _, rfl⟩
    by_cases hr : n + 1 ≤ cap
    · exact insRoom_any w base g n cap i L z vb hown (by omega) hr hv (fun e => hvv (by rw [e]; rfl))
    · exact insGrow_any w base g n cap i L z vb hb hown (by omega) (by omega) hn hv
end Go.Proofs.YtiffhlncnpppoaaGreatDoor
namespace Go.Proofs.YtiffhlncnpppoaaGreatDoor
open Go.RowKit
structure NoteD where
  kind : Int
  node : Int
  src : Int
  dst : Int
  name : ByteArray
  had : Bool
  has : Bool
  old : ByteArray
  new : ByteArray
deriving DecidableEq
def encO (x : NoteD) : List Value := [.int .i64 x.kind, .int .i64 x.node, .int .i64 x.src, .int .i64 x.dst, .string x.name, .bool x.had, .bool x.has, .string x.old, .string x.new]
abbrev noteV (x : NoteD) : Value := .agg #[.int .i64 x.kind, .int .i64 x.node, .int .i64 x.src, .int .i64 x.dst, .string x.name, .bool x.had, .bool x.has, .string x.old, .string x.new]
theorem encO_len (x : NoteD) : (encO x).length = 9 := rfl
theorem encO_one (x : NoteD) : ∀ u ∈ encO x, u.oneCell' = true := by
  intro u hu
  simp [encO] at hu
  rcases hu with rfl | rfl | rfl | rfl | rfl | rfl | rfl | rfl | rfl <;> rfl
structure NoteOk (x : NoteD) : Prop where
  kind : In64 x.kind
  node : In64 x.node
  src : In64 x.src
  dst : In64 x.dst
  name : x.name.size ≤ maxLen
  old : x.old.size ≤ maxLen
  new : x.new.size ≤ maxLen
structure FldOk (x : NodeD) : Prop where
  name : x.core.name.size ≤ maxLen
  is : x.core.is.size ≤ maxLen
  data : x.core.data.size ≤ maxLen
  kind : In64 x.core.kind
  parent : In64 x.core.parent
  host : In64 x.core.host
  under : In64 x.core.under
  doc : In64 x.core.doc
  kids : ∀ z ∈ x.core.kids, In64 z
structure Turn (ρ : Nat → Nat) (W W2 : World) : Prop where
  os : W2.os = W.os
  tape : W2.tape = W.tape
  output : W2.output = W.output
  size : W.heap.size ≤ W2.heap.size
  block : ∀ k, k < W.heap.size → ρ k = 0 → W2.heap[k]? = W.heap[k]?
theorem Turn.refl (ρ : Nat → Nat) (W : World) : Turn ρ W W := ⟨rfl, rfl, rfl, Nat.le_refl _, fun _ _ _ => rfl⟩
theorem Turn.trans {ρ ρ1 : Nat → Nat} {a b c : World} (h : Turn ρ a b) (he : ∀ k, k < a.heap.size → ρ1 k = ρ k) (k : Turn ρ1 b c) : Turn ρ a c :=
  ⟨k.os.trans h.os, k.tape.trans h.tape, k.output.trans h.output, Nat.le_trans h.size k.size, fun i hi h0 => (k.block i (Nat.lt_of_lt_of_le hi h.size) (by rw [he i hi]; exact h0)).trans (h.block i hi h0)⟩
theorem Turn.below {ρ : Nat → Nat} {W W2 : World} {B : Nat} (h : Turn ρ W W2) (hB : B ≤ W.heap.size) (h0 : ∀ k, k < B → ρ k = 0) : Below B W W2 := ⟨h.os, h.tape, h.output, h.size, fun k hk => h.block k (by omega) (h0 k hk)⟩
theorem Turn.of_below {ρ : Nat → Nat} {W W2 : World} (h : Below W.heap.size W W2) : Turn ρ W W2 := ⟨h.os, h.tape, h.output, h.size, fun k hk _ => h.block k hk⟩
theorem Turn.setCell {ρ : Nat → Nat} {W W2 : World} (h : Turn ρ W W2) {b : Nat} (hb : W.heap.size ≤ b ∨ ρ b ≠ 0) (o : Nat) (u : Value) : Turn ρ W (W2.setCell ⟨b, o, none⟩ u) :=
  ⟨h.os, h.tape, h.output, by simpa [World.setCell] using h.size, fun k hk h0 => (Below.heap_setCell _ _ _ k (fun e => by
    have e : k = b := e
    rcases hb with hb | hb
    · omega
    · rw [← e] at hb; exact hb h0)).trans (h.block k hk h0)⟩
theorem Turn.keep {ρ : Nat → Nat} {a b c : World} (h : Turn ρ a b) (k : Below b.heap.size b c) : Turn ρ a c := h.trans (ρ1 := ρ) (fun _ _ => rfl) (Turn.of_below k)
theorem Turn.grown {ρ : Nat → Nat} {a b c : World} {row : Option Nat} (h : Turn ρ a b) (k : b.grownBy c row) (hr : ∀ k, row = some k → a.heap.size ≤ k ∨ ρ k ≠ 0) : Turn ρ a c :=
  ⟨k.os.trans h.os, k.tape.trans h.tape, k.output.trans h.output, Nat.le_trans h.size k.size, fun i hi h0 => (k.block i (Nat.lt_of_lt_of_le hi h.size) (fun e => by
    rcases hr i e.symm with h1 | h1
    · omega
    · exact h1 h0)).trans (h.block i hi h0)⟩
theorem Turn.cell {ρ : Nat → Nat} {W W2 : World} (h : Turn ρ W W2) {b o : Nat} (hb : b < W.heap.size) (h0 : ρ b = 0) : W2.cell? ⟨b, o, none⟩ = W.cell? ⟨b, o, none⟩ := World.cell?_of_block (w := W) (a := ⟨b, o, none⟩) (h.block b hb h0)
theorem Turn.frozen {ρ : Nat → Nat} {W W2 : World} (h : Turn ρ W W2) {b o : Nat} (hb : b < W.heap.size) (h0 : ρ b = 0) : W2.frozen? ⟨b, o, none⟩ = W.frozen? ⟨b, o, none⟩ := World.frozen?_of_block (w := W) (a := ⟨b, o, none⟩) (h.block b hb h0)
theorem Turn.srow {ρ : Nat → Nat} {W W2 : World} {α : Type} {enc : α → List Value} {size : Nat} {a : Option Addr} {len cap : Nat} {L : List α} (h : Turn ρ W W2) (hr : SRow enc size W a len cap L) (h0 : ∀ b off, a = some ⟨b, off, none⟩ → 0 < len → ρ b = 0) : SRow enc size W2 a len cap L := by
  refine ⟨hr.hlen, hr.hcap, hr.hmax, hr.henc, ?_⟩
  rcases Nat.eq_zero_or_pos len with e | e
  · exact .inl e
  · rcases hr.cells with e2 | ⟨b, off, ha, hlt, hc⟩
    · omega
    · refine .inr ⟨b, off, ha, Nat.lt_of_lt_of_le hlt h.size, fun i x j v hx hv => ?_⟩
      rw [h.cell hlt (h0 b off ha e)]
      exact hc i x j v hx hv
theorem Turn.introw {ρ : Nat → Nat} {W W2 : World} {a : Option Addr} {len cap : Nat} {L : List Int} (h : Turn ρ W W2) (hr : IntRow W a len cap L) (h0 : ∀ b off, a = some ⟨b, off, none⟩ → 0 < len → ρ b = 0) : IntRow W2 a len cap L := ⟨h.srow hr.row h0, hr.inb, hr.hnil⟩
def upd (ρ : Nat → Nat) (o : Option Nat) (r : Nat) : Nat → Nat := fun b => if o = some b then r else ρ b
theorem upd_old {ρ : Nat → Nat} {o : Option Nat} {r n : Nat} (h : ∀ b, o = some b → ρ b = r ∨ n ≤ b) : ∀ k, k < n → upd ρ o r k = ρ k := by
  intro k hk
  unfold upd
  by_cases e : o = some k
  · rw [if_pos e]
    rcases h k e with h | h
    · exact h.symm
    · omega
  · rw [if_neg e]
structure Wk (ρ : Nat → Nat) (W : World) (pw g cap len : Nat) (m : Int) (M : List NodeD) (v : Value) (N : List NoteD) : Prop where
  hlen : M.length = len
  hcap : len ≤ cap
  hmax : cap ≤ maxLen
  cells : ∀ (i : Nat) x j u, M[i]? = some x → (encN x)[j]? = some u → W.cell? ⟨g, i * 10 + j, none⟩ = some u
  gfree : ∀ o, W.frozen? ⟨g, o, none⟩ = false
  glt : g < W.heap.size
  kown : ∀ (i : Nat) x, M[i]? = some x → W.ownsRow 0 3 1 (.slice x.kA x.kN x.kC) x.kN (x.core.kids.flatMap encZ)
  krole : ∀ (i : Nat) x b, M[i]? = some x → Value.ownBlock (.slice x.kA x.kN x.kC) = some b → ρ b = i + 5
  aok : ∀ x ∈ M, AttrRow W x.aA x.aN x.aC x.core.attrs
  arole : ∀ x ∈ M, ∀ b off, x.aA = some ⟨b, off, none⟩ → 0 < x.aN → ρ b = 0 ∧ g < b
  fld : ∀ x ∈ M, FldOk x
  c0 : W.cell? ⟨pw, 0, none⟩ = some (.slice (some ⟨g, 0, none⟩) len cap)
  c1 : W.cell? ⟨pw, 1, none⟩ = some (.int .i64 m)
  c2 : W.cell? ⟨pw, 2, none⟩ = some v
  pfree : ∀ o, W.frozen? ⟨pw, o, none⟩ = false
  plt : pw < W.heap.size
  nown : W.ownsRow 0 58 9 v N.length (N.flatMap encO)
  nrole : ∀ b, v.ownBlock = some b → ρ b = 3
  nok : ∀ x ∈ N, NoteOk x
  prole : ρ pw = 1
  grole : ρ g = 2
  fresh : ∀ b, W.heap.size ≤ b → ρ b = 0
section
variable {ρ : Nat → Nat} {W W1 W2 : World} {pw g cap len : Nat} {m : Int} {M : List NodeD} {v : Value} {N : List NoteD}
theorem own_same {w w2 : World} {base : Nat} {e : TypeId} {size n : Nat} {u : Value} {xs : List Value} (h : w.ownsRow base e size u n xs) (hb : ∀ b, u.ownBlock = some b → w2.heap[b]? = w.heap[b]?) : w2.ownsRow base e size u n xs := by
  refine ⟨h.1, ?_⟩
  rcases h.2 with h0 | ⟨g, cap, cur, hv, hlo, hg, h3⟩
  · exact .inl h0
  · exact .inr ⟨g, cap, cur, hv, hlo, (hb g (by rw [hv]; rfl)).trans hg, h3⟩
theorem own_block_lt {w : World} {base : Nat} {e : TypeId} {size n : Nat} {u : Value} {xs : List Value} (h : w.ownsRow base e size u n xs) {b : Nat} (hb : u.ownBlock = some b) : b < w.heap.size := (h.lt b hb).2
theorem Wk.kidsRow (h : Wk ρ W pw g cap len m M v N) {i : Nat} {x : NodeD} (hx : M[i]? = some x) : IntRow W x.kA x.kN x.kC x.core.kids := by
  have ho := h.kown i x hx
  have hl : x.core.kids.length = x.kN := by have := ho.1; rw [flat_len (fun z _ => encZ_len z)] at this; omega
  obtain ⟨a, c, he, hr, _⟩ := IntRow.of_own_new hl ho (h.fld x (List.mem_of_getElem? hx)).kids
  injection he with e1 e2 e3
  rw [e1, e3]
  exact hr
theorem Wk.ok (h : Wk ρ W pw g cap len m M v N) {x : NodeD} (hx : x ∈ M) : NodeOk W x := by
  obtain ⟨i, hi⟩ := List.getElem?_of_mem hx
  have f := h.fld x hx
  exact ⟨h.aok x hx, h.kidsRow hi, f.name, f.is, f.data, f.kind, f.parent, f.host, f.under, f.doc⟩
theorem Wk.row (h : Wk ρ W pw g cap len m M v N) : NodeRow W (some ⟨g, 0, none⟩) len cap M :=
  ⟨⟨h.hlen, h.hcap, h.hmax, fun x _ => encN_len x, .inr ⟨g, 0, rfl, h.glt, fun i x j u hx hu => by rw [Nat.zero_add]; exact h.cells i x j u hx hu⟩⟩, fun x hx => h.ok hx, fun e => by cases e⟩
theorem Wk.at_ (h : Wk ρ W pw g cap len m M v N) {k : Nat} {x : NodeD} (hk : M[k]? = some x) : NodeAt W g (k * 10) x :=
  ⟨h.cells k x 0 _ hk rfl, h.cells k x 1 _ hk rfl, h.cells k x 2 _ hk rfl, h.cells k x 3 _ hk rfl, h.cells k x 4 _ hk rfl, h.cells k x 5 _ hk rfl, h.cells k x 6 _ hk rfl, h.cells k x 7 _ hk rfl, h.cells k x 8 _ hk rfl, h.cells k x 9 _ hk rfl⟩
theorem attr_block_lt {a : Option Addr} {n c : Nat} {l : AL} (hr : AttrRow W a n c l) {b off : Nat} (he : a = some ⟨b, off, none⟩) (hp : 0 < n) : b < W.heap.size := by
  rcases hr.row.cells with e0 | ⟨b2, off2, ha2, hlt, _⟩
  · omega
  · rw [he] at ha2
    injection ha2 with ha2
    injection ha2 with e1
    omega
theorem Wk.keep (h : Wk ρ W pw g cap len m M v N) (hb : Below W.heap.size W W2) : Wk ρ W2 pw g cap len m M v N where
  hlen := h.hlen
  hcap := h.hcap
  hmax := h.hmax
  cells i x j u hx hu := (hb.cell (p := ⟨g, i * 10 + j, none⟩) h.glt).trans (h.cells i x j u hx hu)
  gfree o := (hb.frozen (p := ⟨g, o, none⟩) h.glt).trans (h.gfree o)
  glt := Nat.lt_of_lt_of_le h.glt hb.size
  kown i x hx := own_below (h.kown i x hx) hb
  krole := h.krole
  aok x hx := (h.aok x hx).below hb
  arole := h.arole
  fld := h.fld
  c0 := (hb.cell (p := ⟨pw, 0, none⟩) h.plt).trans h.c0
  c1 := (hb.cell (p := ⟨pw, 1, none⟩) h.plt).trans h.c1
  c2 := (hb.cell (p := ⟨pw, 2, none⟩) h.plt).trans h.c2
  pfree o := (hb.frozen (p := ⟨pw, o, none⟩) h.plt).trans (h.pfree o)
  plt := Nat.lt_of_lt_of_le h.plt hb.size
  nown := own_below h.nown hb
  nrole := h.nrole
  nok := h.nok
  prole := h.prole
  grole := h.grole
  fresh b hb2 := h.fresh b (Nat.le_trans hb.size hb2)
theorem Wk.mark (h : Wk ρ W pw g cap len m M v N) {b : Nat} (hb : b < W.heap.size) (h0 : ρ b = 0) (ha : ∀ x ∈ M, ∀ b' off, x.aA = some ⟨b', off, none⟩ → 0 < x.aN → b' ≠ b) : Wk (upd ρ (some b) 4) W pw g cap len m M v N where
  hlen := h.hlen
  hcap := h.hcap
  hmax := h.hmax
  cells := h.cells
  gfree := h.gfree
  glt := h.glt
  kown := h.kown
  krole i x b' hx hb' := by
    unfold upd
    have := h.krole i x b' hx hb'
    rw [if_neg (fun e => by injection e with e; rw [e] at h0; omega)]
    exact this
  aok := h.aok
  arole x hx b' off e hp := by
    unfold upd
    rw [if_neg (fun e2 => by injection e2 with e2; exact ha x hx b' off e hp e2.symm)]
    exact h.arole x hx b' off e hp
  fld := h.fld
  c0 := h.c0
  c1 := h.c1
  c2 := h.c2
  pfree := h.pfree
  plt := h.plt
  nown := h.nown
  nrole b' hb' := by
    unfold upd
    have := h.nrole b' hb'
    rw [if_neg (fun e => by injection e with e; rw [e] at h0; omega)]
    exact this
  nok := h.nok
  prole := by
    unfold upd
    have := h.prole
    rw [if_neg (fun e => by injection e with e; rw [e] at h0; omega)]
    exact this
  grole := by
    unfold upd
    have := h.grole
    rw [if_neg (fun e => by injection e with e; rw [e] at h0; omega)]
    exact this
  fresh b' hb' := by
    unfold upd
    rw [if_neg (fun e => by injection e with e; omega)]
    exact h.fresh b' hb'
theorem Wk.other (h : Wk ρ W pw g cap len m M v N) {b : Nat} (h4 : ρ b = 4) (o : Nat) (u : Value) : Wk ρ (W.setCell ⟨b, o, none⟩ u) pw g cap len m M v N where
  hlen := h.hlen
  hcap := h.hcap
  hmax := h.hmax
  cells i x j u' hx hu := (World.cell?_setCell_other _ _ _ _ (fun e => by injection e with e _; have := h.grole; rw [← e] at this; omega)).trans (h.cells i x j u' hx hu)
  gfree o := by rw [World.frozen?_setCell]; exact h.gfree o
  glt := by simpa [World.setCell] using h.glt
  kown i x hx := own_same (h.kown i x hx) (fun b' hb' => Below.heap_setCell _ _ _ b' (fun e => by have e : b' = b := e; have := h.krole i x b' hx hb'; rw [e] at this; omega))
  krole := h.krole
  aok x hx := ⟨(h.aok x hx).row.keep (by simp [World.setCell]) (fun b' off he hp o' => World.cell?_setCell_other _ _ _ _ (fun e => by injection e with e _; have := (h.arole x hx b' off he hp).1; rw [← e] at this; omega)), (h.aok x hx).small, (h.aok x hx).hnil⟩
  arole := h.arole
  fld := h.fld
  c0 := (World.cell?_setCell_other _ _ _ _ (fun e => by injection e with e _; have := h.prole; rw [← e] at this; omega)).trans h.c0
  c1 := (World.cell?_setCell_other _ _ _ _ (fun e => by injection e with e _; have := h.prole; rw [← e] at this; omega)).trans h.c1
  c2 := (World.cell?_setCell_other _ _ _ _ (fun e => by injection e with e _; have := h.prole; rw [← e] at this; omega)).trans h.c2
  pfree o := by rw [World.frozen?_setCell]; exact h.pfree o
  plt := by simpa [World.setCell] using h.plt
  nown := own_same h.nown (fun b' hb' => Below.heap_setCell _ _ _ b' (fun e => by have e : b' = b := e; have := h.nrole b' hb'; rw [e] at this; omega))
  nrole := h.nrole
  nok := h.nok
  prole := h.prole
  grole := h.grole
  fresh b' hb' := h.fresh b' (by simpa [World.setCell] using hb')
theorem Wk.setG (h : Wk ρ W pw g cap len m M v N) {k j : Nat} {x y : NodeD} {u : Value} (hk : M[k]? = some x) (hj : j < 10) (he : encN y = (encN x).set j u) (hkid : y.kA = x.kA ∧ y.kN = x.kN ∧ y.kC = x.kC ∧ y.core.kids = x.core.kids)
    (ha : AttrRow W y.aA y.aN y.aC y.core.attrs) (har : ∀ b off, y.aA = some ⟨b, off, none⟩ → 0 < y.aN → ρ b = 0 ∧ g < b) (hf : FldOk y) : Wk ρ (W.setCell ⟨g, k * 10 + j, none⟩ u) pw g cap len m (M.set k y) v N := by
  obtain ⟨hkl, _⟩ := List.getElem?_eq_some_iff.1 hk
  have gne : ∀ b o, ρ b ≠ 2 → (W.setCell ⟨g, k * 10 + j, none⟩ u).cell? ⟨b, o, none⟩ = W.cell? ⟨b, o, none⟩ := fun b o hb => World.cell?_setCell_other _ _ _ _ (fun e => by injection e with e _; exact hb (by rw [← e]; exact h.grole))
  have bne : ∀ b, ρ b ≠ 2 → (W.setCell ⟨g, k * 10 + j, none⟩ u).heap[b]? = W.heap[b]? := fun b hb => Below.heap_setCell _ _ _ b (fun e => hb (by have e : b = g := e; rw [e]; exact h.grole))
  have arow : ∀ {a : Option Addr} {n c : Nat} {l : AL}, AttrRow W a n c l → (∀ b off, a = some ⟨b, off, none⟩ → 0 < n → ρ b = 0 ∧ g < b) → AttrRow (W.setCell ⟨g, k * 10 + j, none⟩ u) a n c l := fun hr h0 => ⟨hr.row.keep (by simp [World.setCell]) (fun b off he hp o' => gne b o' (by rw [(h0 b off he hp).1]; decide)), hr.small, hr.hnil⟩
  have getM : ∀ {i : Nat} {z : NodeD}, (M.set k y)[i]? = some z → (i = k ∧ z = y) ∨ (i ≠ k ∧ M[i]? = some z) := fun {i z} hz => by
    by_cases e : i = k
    · subst e
      rw [List.getElem?_set_self hkl] at hz
      exact .inl ⟨rfl, (Option.some.inj hz).symm⟩
    · rw [List.getElem?_set_ne (fun e2 => e e2.symm)] at hz
      exact .inr ⟨e, hz⟩
  refine ⟨by rw [List.length_set]; exact h.hlen, h.hcap, h.hmax, fun i z j' u' hz hu => ?_, fun o => by rw [World.frozen?_setCell]; exact h.gfree o, by simpa [World.setCell] using h.glt, fun i z hz => ?_, fun i z b hz hb => ?_, fun z hz => ?_, fun z hz => ?_, fun z hz => ?_,
    (gne _ _ (by rw [h.prole]; decide)).trans h.c0, (gne _ _ (by rw [h.prole]; decide)).trans h.c1, (gne _ _ (by rw [h.prole]; decide)).trans h.c2, fun o => by rw [World.frozen?_setCell]; exact h.pfree o, by simpa [World.setCell] using h.plt,
    own_same h.nown (fun b hb => bne b (by rw [h.nrole b hb]; decide)), h.nrole, h.nok, h.prole, h.grole, fun b hb => h.fresh b (by simpa [World.setCell] using hb)⟩
  · have hj' : j' < 10 := by have := (List.getElem?_eq_some_iff.1 hu).1; rwa [encN_len] at this
    rcases getM hz with ⟨rfl, rfl⟩ | ⟨hne, hz⟩
    · rw [he] at hu
      by_cases ej : j = j'
      · subst ej
        rw [List.getElem?_set_self (by rw [encN_len]; exact hj)] at hu
        rw [← Option.some.inj hu]
        obtain ⟨v0, hv0⟩ : ∃ v0, (encN x)[j]? = some v0 := ⟨_, List.getElem?_eq_getElem (by rw [encN_len]; exact hj)⟩
        exact World.cell?_setCell_same _ _ _ (h.cells _ x j v0 hk hv0)
      · rw [List.getElem?_set_ne ej] at hu
        rw [World.cell?_setCell_other _ _ _ _ (fun e' => by injection e' with _ e'; omega)]
        exact h.cells _ x j' u' hk hu
    · rw [World.cell?_setCell_other _ _ _ _ (fun e' => by injection e' with _ e'; omega)]
      exact h.cells i z j' u' hz hu
  · have key : ∀ (i : Nat) (z : NodeD), M[i]? = some z → (W.setCell ⟨g, k * 10 + j, none⟩ u).ownsRow 0 3 1 (.slice z.kA z.kN z.kC) z.kN (z.core.kids.flatMap encZ) := fun i z hz => own_same (h.kown i z hz) (fun b hb => bne b (by rw [h.krole i z b hz hb]; omega))
    rcases getM hz with ⟨rfl, rfl⟩ | ⟨_, hz⟩
    · rw [hkid.1, hkid.2.1, hkid.2.2.1, hkid.2.2.2]
      exact key _ x hk
    · exact key i z hz
  · rcases getM hz with ⟨rfl, rfl⟩ | ⟨_, hz⟩
    · rw [hkid.1, hkid.2.1, hkid.2.2.1] at hb
      exact h.krole _ x b hk hb
    · exact h.krole i z b hz hb
  · rcases List.mem_or_eq_of_mem_set hz with hz | rfl
    · exact arow (h.aok z hz) (h.arole z hz)
    · exact arow ha har
  · rcases List.mem_or_eq_of_mem_set hz with hz | rfl
    · exact h.arole z hz
    · exact har
  · rcases List.mem_or_eq_of_mem_set hz with hz | rfl
    · exact h.fld z hz
    · exact hf
theorem Wk.setP (h : Wk ρ W pw g cap len m M v N) {k : Nat} {x : NodeD} (hk : M[k]? = some x) {p : Int} (hp : In64 p) : Wk ρ (W.setCell ⟨g, k * 10 + 5, none⟩ (.int .i64 p)) pw g cap len m (M.set k (withP x p)) v N := by
  have hm := List.mem_of_getElem? hk
  have f := h.fld x hm
  exact h.setG hk (by omega) rfl ⟨rfl, rfl, rfl, rfl⟩ (h.aok x hm) (h.arole x hm) ⟨f.name, f.is, f.data, f.kind, hp, f.host, f.under, f.doc, f.kids⟩
theorem Wk.setD (h : Wk ρ W pw g cap len m M v N) {k : Nat} {x : NodeD} (hk : M[k]? = some x) {d : Int} (hd : In64 d) : Wk ρ (W.setCell ⟨g, k * 10 + 9, none⟩ (.int .i64 d)) pw g cap len m (M.set k (withD x d)) v N := by
  have hm := List.mem_of_getElem? hk
  have f := h.fld x hm
  exact h.setG hk (by omega) rfl ⟨rfl, rfl, rfl, rfl⟩ (h.aok x hm) (h.arole x hm) ⟨f.name, f.is, f.data, f.kind, f.parent, f.host, f.under, hd, f.kids⟩
def withA (x : NodeD) (a : Option Addr) (n c : Nat) (l : AL) : NodeD := ⟨⟨x.core.kind, x.core.name, x.core.is, x.core.data, l, x.core.parent, x.core.kids, x.core.host, x.core.under, x.core.doc⟩, a, n, c, x.kA, x.kN, x.kC⟩
theorem Wk.setA (h : Wk ρ W pw g cap len m M v N) {k : Nat} {x : NodeD} (hk : M[k]? = some x) {a : Option Addr} {n c : Nat} {l : AL} (ha : AttrRow W a n c l) (har : ∀ b off, a = some ⟨b, off, none⟩ → 0 < n → ρ b = 0 ∧ g < b) : Wk ρ (W.setCell ⟨g, k * 10 + 4, none⟩ (.slice a n c)) pw g cap len m (M.set k (withA x a n c l)) v N := by
  have hm := List.mem_of_getElem? hk
  have f := h.fld x hm
  exact h.setG hk (by omega) rfl ⟨rfl, rfl, rfl, rfl⟩ ha har ⟨f.name, f.is, f.data, f.kind, f.parent, f.host, f.under, f.doc, f.kids⟩
structure Mid (ρ : Nat → Nat) (W1 : World) (pw g cap len : Nat) (m : Int) (M : List NodeD) (v : Value) (N : List NoteD) : Prop where
  cells : ∀ (i : Nat) x j u, M[i]? = some x → (encN x)[j]? = some u → W1.cell? ⟨g, i * 10 + j, none⟩ = some u
  gfree : ∀ o, W1.frozen? ⟨g, o, none⟩ = false
  c0 : W1.cell? ⟨pw, 0, none⟩ = some (.slice (some ⟨g, 0, none⟩) len cap)
theorem Wk.mid (h : Wk ρ W pw g cap len m M v N) {row : Option Nat} (hg : W.grownBy W1 row) (hr : ∀ b, row = some b → 5 ≤ ρ b) : Mid ρ W1 pw g cap len m M v N := by
  have same : ∀ b, b < W.heap.size → ρ b < 5 → W1.heap[b]? = W.heap[b]? := fun b hb h5 => hg.block b hb (fun e => by have := hr b e.symm; omega)
  have sg := same g h.glt (by rw [h.grole]; decide)
  exact ⟨fun i x j u hx hu => (World.cell?_of_block (w := W) (a := ⟨g, i * 10 + j, none⟩) sg).trans (h.cells i x j u hx hu), fun o => (World.frozen?_of_block (w := W) (a := ⟨g, o, none⟩) sg).trans (h.gfree o), (World.cell?_of_block (w := W) (a := ⟨pw, 0, none⟩) (same pw h.plt (by rw [h.prole]; decide))).trans h.c0⟩
theorem Wk.setK (h : Wk ρ W pw g cap len m M v N) {k : Nat} {x : NodeD} (hk : M[k]? = some x) (hg : W.grownBy W1 (Value.ownBlock (.slice x.kA x.kN x.kC))) {a : Option Addr} {n c : Nat} {l : List Int} (ho : W1.ownsRow 0 3 1 (.slice a n c) n (l.flatMap encZ))
    (hb : ∀ b, Value.ownBlock (.slice a n c) = some b → Value.ownBlock (.slice x.kA x.kN x.kC) = some b ∨ W.heap.size ≤ b) (hl : ∀ z ∈ l, In64 z) :
    Wk (upd ρ (Value.ownBlock (.slice a n c)) (k + 5)) (W1.setCell ⟨g, k * 10 + 6, none⟩ (.slice a n c)) pw g cap len m (M.set k (withK x a n c l)) v N := by
  obtain ⟨hkl, _⟩ := List.getElem?_eq_some_iff.1 hk
  have hm := List.mem_of_getElem? hk
  have rold : ∀ b, Value.ownBlock (.slice x.kA x.kN x.kC) = some b → ρ b = k + 5 := fun b hb => h.krole k x b hk hb
  have same1 : ∀ b, b < W.heap.size → ρ b ≠ k + 5 → W1.heap[b]? = W.heap[b]? := fun b hb1 h5 => hg.block b hb1 (fun e => h5 (rold b e.symm))
  have same : ∀ b, b < W.heap.size → ρ b ≠ k + 5 → ρ b ≠ 2 → (W1.setCell ⟨g, k * 10 + 6, none⟩ (.slice a n c)).heap[b]? = W.heap[b]? := fun b hb1 h5 h2 => (Below.heap_setCell _ _ _ b (fun e => h2 (by have e : b = g := e; rw [e]; exact h.grole))).trans (same1 b hb1 h5)
  have cel : ∀ b o, b < W.heap.size → ρ b ≠ k + 5 → ρ b ≠ 2 → (W1.setCell ⟨g, k * 10 + 6, none⟩ (.slice a n c)).cell? ⟨b, o, none⟩ = W.cell? ⟨b, o, none⟩ := fun b o h1 h2 h3 => World.cell?_of_block (w := W) (a := ⟨b, o, none⟩) (same b h1 h2 h3)
  have mid := h.mid hg (fun b hb => by rw [rold b hb]; omega)
  have old := upd_old (ρ := ρ) (o := Value.ownBlock (.slice a n c)) (r := k + 5) (n := W.heap.size) (fun b hb2 => (hb b hb2).imp (rold b) id)
  have hsz : W.heap.size ≤ (W1.setCell ⟨g, k * 10 + 6, none⟩ (.slice a n c)).heap.size := by simpa [World.setCell] using hg.size
  have nb : ∀ b, Value.ownBlock (.slice a n c) = some b → b < W1.heap.size ∧ b ≠ g := fun b hb2 => ⟨own_block_lt ho hb2, fun e => by
    rcases hb b hb2 with h1 | h1
    · have := rold b h1
      rw [e, h.grole] at this
      omega
    · have := h.glt
      omega⟩
  have getM : ∀ {i : Nat} {z : NodeD}, (M.set k (withK x a n c l))[i]? = some z → (i = k ∧ z = withK x a n c l) ∨ (i ≠ k ∧ M[i]? = some z) := fun {i z} hz => by
    by_cases e : i = k
    · subst e
      rw [List.getElem?_set_self hkl] at hz
      exact .inl ⟨rfl, (Option.some.inj hz).symm⟩
    · rw [List.getElem?_set_ne (fun e2 => e e2.symm)] at hz
      exact .inr ⟨e, hz⟩
  have arow : ∀ {a' : Option Addr} {n' c' : Nat} {l' : AL}, AttrRow W a' n' c' l' → (∀ b off, a' = some ⟨b, off, none⟩ → 0 < n' → ρ b = 0 ∧ g < b) → AttrRow (W1.setCell ⟨g, k * 10 + 6, none⟩ (.slice a n c)) a' n' c' l' := fun {a' n' c' l'} hr h0 => ⟨hr.row.keep hsz (fun b off he hp o' => by
    have hlt : b < W.heap.size := by
      rcases hr.row.cells with e0 | ⟨b2, off2, ha2, hlt, _⟩
      · omega
      · rw [he] at ha2
        injection ha2 with ha2
        injection ha2 with e1
        omega
    exact cel b o' hlt (by rw [(h0 b off he hp).1]; omega) (by rw [(h0 b off he hp).1]; decide)), hr.small, hr.hnil⟩
  have f := h.fld x hm
  have p3 : ρ pw ≠ k + 5 ∧ ρ pw ≠ 2 := by rw [h.prole]; omega
  refine ⟨by rw [List.length_set]; exact h.hlen, h.hcap, h.hmax, fun i z j' u' hz hu => ?_, fun o => by rw [World.frozen?_setCell]; exact mid.gfree o, Nat.lt_of_lt_of_le h.glt hsz, fun i z hz => ?_, fun i z b hz hb2 => ?_, fun z hz => ?_, fun z hz b off he hp => ?_, fun z hz => ?_,
    (cel _ _ h.plt p3.1 p3.2).trans h.c0, (cel _ _ h.plt p3.1 p3.2).trans h.c1, (cel _ _ h.plt p3.1 p3.2).trans h.c2, fun o => (World.frozen?_of_block (w := W) (a := ⟨pw, o, none⟩) (same pw h.plt p3.1 p3.2)).trans (h.pfree o), Nat.lt_of_lt_of_le h.plt hsz,
    own_same h.nown (fun b hb2 => same b (own_block_lt h.nown hb2) (by rw [h.nrole b hb2]; omega) (by rw [h.nrole b hb2]; decide)), fun b hb2 => by rw [old b (own_block_lt h.nown hb2)]; exact h.nrole b hb2, h.nok, by rw [old pw h.plt]; exact h.prole, by rw [old g h.glt]; exact h.grole, fun b hb2 => ?_⟩
  · have hj' : j' < 10 := by have := (List.getElem?_eq_some_iff.1 hu).1; rwa [encN_len] at this
    rcases getM hz with ⟨rfl, rfl⟩ | ⟨hne, hz⟩
    · by_cases ej : j' = 6
      · subst ej
        have hu : some (Value.slice a n c) = some u' := hu
        rw [← Option.some.inj hu]
        exact World.cell?_setCell_same _ _ _ (mid.cells i x 6 _ hk rfl)
      · rw [World.cell?_setCell_other _ _ _ _ (fun e' => by injection e' with _ e'; omega)]
        refine mid.cells i x j' u' hk ?_
        rw [show encN (withK x a n c l) = (encN x).set 6 (.slice a n c) from rfl, List.getElem?_set_ne (fun e => ej e.symm)] at hu
        exact hu
    · rw [World.cell?_setCell_other _ _ _ _ (fun e' => by injection e' with _ e'; omega)]
      exact mid.cells i z j' u' hz hu
  · rcases getM hz with ⟨rfl, rfl⟩ | ⟨hne, hz⟩
    · exact own_same ho (fun b hb2 => Below.heap_setCell _ _ _ b (nb b hb2).2)
    · refine own_same (h.kown i z hz) (fun b hb2 => same b (own_block_lt (h.kown i z hz) hb2) ?_ ?_)
      · rw [h.krole i z b hz hb2]; omega
      · rw [h.krole i z b hz hb2]; omega
  · rcases getM hz with ⟨rfl, rfl⟩ | ⟨hne, hz⟩
    · have hb2 : Value.ownBlock (.slice a n c) = some b := hb2
      unfold upd
      rw [if_pos hb2]
    · rw [old b (own_block_lt (h.kown i z hz) hb2)]
      exact h.krole i z b hz hb2
  · rcases List.mem_or_eq_of_mem_set hz with hz | rfl
    · exact arow (h.aok z hz) (h.arole z hz)
    · exact arow (h.aok x hm) (h.arole x hm)
  · have key : ∀ z ∈ M, z.aA = some ⟨b, off, none⟩ → 0 < z.aN → upd ρ (Value.ownBlock (.slice a n c)) (k + 5) b = 0 ∧ g < b := fun z hz he hp => by
      have hlt : b < W.heap.size := by
        rcases (h.aok z hz).row.cells with e0 | ⟨b2, off2, ha2, hlt, _⟩
        · omega
        · rw [he] at ha2
          injection ha2 with ha2
          injection ha2 with e1
          omega
      rw [old b hlt]
      exact h.arole z hz b off he hp
    rcases List.mem_or_eq_of_mem_set hz with hz | rfl
    · exact key z hz he hp
    · exact key x hm he hp
  · rcases List.mem_or_eq_of_mem_set hz with hz | rfl
    · exact h.fld z hz
    · exact ⟨f.name, f.is, f.data, f.kind, f.parent, f.host, f.under, f.doc, hl⟩
  · have hb3 : W1.heap.size ≤ b := by simpa [World.setCell] using hb2
    unfold upd
    rw [if_neg (fun e => by have := (nb b e).1; omega)]
    exact h.fresh b (Nat.le_trans hg.size hb3)
theorem Wk.note (h : Wk ρ W pw g cap len m M v N) {x : NoteD} (hx : NoteOk x) {v' : Value} (hg : W.grownBy W1 v.ownBlock) (ho : W1.ownsRow 0 58 9 v' (N.length + 1) ((N ++ [x]).flatMap encO)) (hb : ∀ b, v'.ownBlock = some b → v.ownBlock = some b ∨ W.heap.size ≤ b) :
    Wk (upd ρ v'.ownBlock 3) (W1.setCell ⟨pw, 2, none⟩ v') pw g cap len m M v' (N ++ [x]) := by
  have same1 : ∀ b, b < W.heap.size → ρ b ≠ 3 → W1.heap[b]? = W.heap[b]? := fun b hb1 h5 => hg.block b hb1 (fun e => h5 (h.nrole b e.symm))
  have same : ∀ b, b < W.heap.size → ρ b ≠ 3 → ρ b ≠ 1 → (W1.setCell ⟨pw, 2, none⟩ v').heap[b]? = W.heap[b]? := fun b hb1 h5 h2 => (Below.heap_setCell _ _ _ b (fun e => h2 (by have e : b = pw := e; rw [e]; exact h.prole))).trans (same1 b hb1 h5)
  have cel : ∀ b o, b < W.heap.size → ρ b ≠ 3 → ρ b ≠ 1 → (W1.setCell ⟨pw, 2, none⟩ v').cell? ⟨b, o, none⟩ = W.cell? ⟨b, o, none⟩ := fun b o h1 h2 h3 => World.cell?_of_block (w := W) (a := ⟨b, o, none⟩) (same b h1 h2 h3)
  have sp := same1 pw h.plt (by rw [h.prole]; decide)
  have pc : ∀ o, W1.cell? ⟨pw, o, none⟩ = W.cell? ⟨pw, o, none⟩ := fun o => World.cell?_of_block (w := W) (a := ⟨pw, o, none⟩) sp
  have old := upd_old (ρ := ρ) (o := v'.ownBlock) (r := 3) (n := W.heap.size) (fun b hb2 => (hb b hb2).imp (h.nrole b) id)
  have hsz : W.heap.size ≤ (W1.setCell ⟨pw, 2, none⟩ v').heap.size := by simpa [World.setCell] using hg.size
  have nb : ∀ b, v'.ownBlock = some b → b < W1.heap.size ∧ b ≠ pw := fun b hb2 => ⟨own_block_lt ho hb2, fun e => by
    rcases hb b hb2 with h1 | h1
    · have := h.nrole b h1
      rw [e, h.prole] at this
      omega
    · have := h.plt
      omega⟩
  have g3 : ρ g ≠ 3 ∧ ρ g ≠ 1 := by rw [h.grole]; decide
  refine ⟨h.hlen, h.hcap, h.hmax, fun i z j' u' hz hu => (cel _ _ h.glt g3.1 g3.2).trans (h.cells i z j' u' hz hu), fun o => (World.frozen?_of_block (w := W) (a := ⟨g, o, none⟩) (same g h.glt g3.1 g3.2)).trans (h.gfree o), Nat.lt_of_lt_of_le h.glt hsz,
    fun i z hz => own_same (h.kown i z hz) (fun b hb2 => same b (own_block_lt (h.kown i z hz) hb2) (by rw [h.krole i z b hz hb2]; omega) (by rw [h.krole i z b hz hb2]; omega)), fun i z b hz hb2 => by rw [old b (own_block_lt (h.kown i z hz) hb2)]; exact h.krole i z b hz hb2,
    fun z hz => ⟨(h.aok z hz).row.keep hsz (fun b off he hp o' => ?_), (h.aok z hz).small, (h.aok z hz).hnil⟩, fun z hz b off he hp => ?_, h.fld,
    (World.cell?_setCell_other _ _ _ _ (fun e => by injection e with _ e; omega)).trans ((pc 0).trans h.c0), (World.cell?_setCell_other _ _ _ _ (fun e => by injection e with _ e; omega)).trans ((pc 1).trans h.c1), World.cell?_setCell_same _ _ _ ((pc 2).trans h.c2),
    fun o => by rw [World.frozen?_setCell]; exact (World.frozen?_of_block (w := W) (a := ⟨pw, o, none⟩) sp).trans (h.pfree o), Nat.lt_of_lt_of_le h.plt hsz, by rw [List.length_append]; exact own_same ho (fun b hb2 => Below.heap_setCell _ _ _ b (nb b hb2).2), fun b hb2 => by unfold upd; rw [if_pos hb2],
    fun z hz => by rcases List.mem_append.1 hz with hz | hz; exact h.nok z hz; rw [List.mem_singleton.1 hz]; exact hx, by rw [old pw h.plt]; exact h.prole, by rw [old g h.glt]; exact h.grole, fun b hb2 => ?_⟩
  · have hlt := attr_block_lt (h.aok z hz) he hp
    exact cel b o' hlt (by rw [(h.arole z hz b off he hp).1]; decide) (by rw [(h.arole z hz b off he hp).1]; decide)
  · rw [old b (attr_block_lt (h.aok z hz) he hp)]
    exact h.arole z hz b off he hp
  · have hb3 : W1.heap.size ≤ b := by simpa [World.setCell] using hb2
    unfold upd
    rw [if_neg (fun e => by have := (nb b e).1; omega)]
    exact h.fresh b (Nat.le_trans hg.size hb3)
end
end Go.Proofs.YtiffhlncnpppoaaGreatDoor
