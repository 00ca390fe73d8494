/- Texts joined in build order: ForestIter OrderKit. -/
import Derived.Test.YtnjoimedilonnaaB22
import Derived.RangeFuncNested
import Derived.RangeFuncBound
import Derived.RangeFuncCalls
import Derived.RangeFuncLeaves
import Derived.RangeFuncBox
import Derived.Shelf.Abstract
import Derived.Shelf.RegionOpen
import Derived.WalkKit
import Derived.OwnWalkIn
import Derived.TacticsInMore
import Derived.LoopNIn
import Derived.LoopIn
import Derived.Test.YtnjoimedilonnaaB19
namespace Go.Proofs.Ytnjoimedilonnaa
open Go.RowKit Go.Shelf
attribute [local go_sem] Oper.semAt_some
set_option maxHeartbeats 2000000 in
theorem backward_any (a : Option Addr) (len cap : Nat) (w : World) :
    Calls Try.prog 58 #[.slice a len cap] w fun e w' => e = .returned (.func (.func 68) #[] #[.pointer (some ⟨w.heap.size, 0, none⟩)]) ∧ w' = w.alloc (.cells #[.slice a len cap] 30) := by
  go_enter Try.func58, Try.ntmps58
  go_wp2
  go_ret
  exact ⟨rfl, rfl⟩
def backF (K : List Int) (j : Nat) : Int × Int := ((K.length : Int) - 1 - j, K[K.length - 1 - j]?.getD 0)
def backTo (K : List Int) (k : Nat) : List (Int × Int) := (List.range k).map (backF K)
theorem backTo_succ (K : List Int) (k : Nat) : backTo K (k + 1) = backTo K k ++ [backF K k] := by simp [backTo, List.range_succ]
theorem backTo_length (K : List Int) (k : Nat) : (backTo K k).length = k := by simp [backTo]
def KpB (Bs n₀ : Nat) (W W' : World) : Prop := W'.heap[Bs]? = W.heap[Bs]? ∧ Below n₀ W W'
abbrev encP (x : Int × Int) : Array Value := #[.int .i64 x.1, .int .i64 x.2]
set_option maxRecDepth 100000 in
set_option maxHeartbeats 4000000 in
theorem back1_in (F : Fence) (n : Nat) (hf : F.fn 68) (hro : F.round = none) (hn : 1 ≤ n) (l Bs n₀ : Nat) (a : Option Addr) (len cap : Nat) (K : List Int) (J Jx : List (Int × Int) → World → Prop)
    (hY : ∀ pre x W, J pre W → pre.length < len → YieldAt F (n - 1) Try.prog l (encP x) W fun e W' =>
      (e = .returned (.bool true) ∧ J (pre ++ [x]) W' ∧ KpB Bs n₀ W W') ∨ (e = .returned (.bool false) ∧ Jx (pre ++ [x]) W'))
    (W : World) (hBs : W.cell? ⟨Bs, 0, none⟩ = some (.slice a len cap)) (hK : IntRow W a len cap K) (hlow : ∀ b off, a = some ⟨b, off, none⟩ → 0 < len → b < n₀) (h0 : J [] W) :
    CallsIn F n Try.prog 68 #[.func (.yield l) #[] #[], .pointer (some ⟨Bs, 0, none⟩)] W fun e W' => (∃ v, e = .returned v) ∧
      ((∃ ys, ys = backTo K len ∧ J ys W') ∨ (∃ pre, pre.length ≤ len ∧ Jx pre W')) := by
  have hl := hK.len64
  have HL := Lib.hid hK.hlen
  have HK := Lib.hid hK
  clear hK
  refine callsIn_of_wp Try.func68 rfl hf ?_ hro
  simp only [Try.ntmps68, List.size_toArray, List.length_cons, List.length_nil, Nat.reduceAdd, Nat.reduceSub, Array.replicate_succ, Array.replicate_zero, List.push_toArray, List.append_toArray, List.nil_append, List.cons_append]
  gi_wp2
  gi_loopw [3] (fun i wr => ∃ k : Nat, k ≤ len ∧ i = .int .i64 ((len : Int) - 1 - k) ∧ J (backTo K k) wr ∧ KpB Bs n₀ W wr) (fun i _ => (intOf i + 1).toNat)
  case atStart => exact ⟨0, Nat.zero_le _, by simp, h0, rfl, Below.refl _ _⟩
  case round =>
    obtain ⟨k, hk, rfl, hJs, hkp⟩ := hrel
    have hB2 : wr.cell? ⟨Bs, 0, none⟩ = some (.slice a len cap) := (World.cell?_of_block (a := ⟨Bs, 0, none⟩) hkp.1).trans hBs
    by_cases hlt : k < len
    · obtain ⟨j, hj⟩ : ∃ j : Nat, (len : Int) - 1 - k = j := ⟨len - 1 - k, by omega⟩
      obtain ⟨b, off, z, rfl, hb, hz, hcz, hin⟩ := HK.out.get (k := j) (by omega)
      have hcz2 : wr.cell? ⟨b, off + j, none⟩ = some (.int .i64 z) := (hkp.2.cell (p := ⟨b, off + j, none⟩) (hlow b off rfl (by omega))).trans hcz
      have hfk : backF K k = ((j : Int), z) := by
        unfold backF
        rw [HL.out, hj, show len - 1 - k = j by omega, hz]
        rfl
      obtain ⟨fn, tmps, assign, body, hy, hR⟩ := hY _ ((j : Int), z) wr hJs (by rw [backTo_length]; exact hlt)
      try dsimp only at hy
      rw [hj]
      have hj64 : j ≤ 9223372036854775807 := by omega
      clear hz hcz hin
      gi_wp2
      refine hR.mono ?_
      rintro e W3 (⟨rfl, hJ3, hk3⟩ | ⟨rfl, hJx3⟩)
      · gi_wp2
        go_roundw
        case rel => exact ⟨k + 1, by omega, by congr 1; omega, by rw [backTo_succ, hfk]; exact hJ3, hk3.1.trans hkp.1, hkp.2.trans hk3.2⟩
        case measure => simp [intOf]
      · gi_wp2
        refine bodyPost_ret (results_none rfl _ _ _) rfl ?_
        exact ⟨⟨_, rfl⟩, .inr ⟨_, by rw [List.length_append, backTo_length]; simp; omega, hJx3⟩⟩
    · have hkk : k = len := by omega
      subst hkk
      have e1 : (k : Int) - 1 - k = -1 := by omega
      rw [e1]
      gi_wp2
      go_end0
      exact ⟨⟨_, rfl⟩, .inl ⟨_, rfl, hJs⟩⟩
theorem back_stops (F : Fence) (n : Nat) (hf : F.fn 68) (hro : F.round = none) (hn : 1 ≤ n) (Bs n₀ : Nat) (a : Option Addr) (len cap : Nat) (K : List Int) (w : World) (hBs : Bs < w.heap.size) 
    (hc : w.cell? ⟨Bs, 0, none⟩ = some (.slice a len cap)) (hK : IntRow w a len cap K) (hlow : ∀ b off, a = some ⟨b, off, none⟩ → 0 < len → b < n₀) :
    SeqStopsK F n Try.prog 68 #[.pointer (some ⟨Bs, 0, none⟩)] encP (KpB Bs n₀) (fun ys => ys = backTo K len) (fun pre => pre.length ≤ len) len w := fun l J Jx W hW _ _ hY h0 =>
  back1_in F n hf hro hn l Bs n₀ a len cap K J Jx hY W ((hW.cell (p := ⟨Bs, 0, none⟩) hBs).trans hc) (hK.below hW) hlow h0
end Go.Proofs.Ytnjoimedilonnaa
namespace Go.Proofs.Ytnjoimedilonnaa
open Go.RowKit Go.Shelf
theorem wpListIn_append_keep {F : Fence} {n : Nat} {P : Program} (w : World) {ops : Array Oper} {rest : List Oper} {o : Oper} {a : Act} {Q : Exit → Act → World → Prop}
    (hg : o.guard = none) (s x : Operand) (t : TypeId) (hop : o.op = Op.call { callee := Callee.builtin Builtin.append, args := #[s, x], argTypes := #[t, t] })
    (base : Nat) (e : TypeId) (i : TypeInfo) (z : Value) (size bytes : Nat) (h1 : P.underlying t = some (.slice e)) (h2 : P.info? e = some i) (h3 : i.zero = some z) (h4 : i.size = size) (h5 : i.bytes = bytes) (h6 : z.cells.size = size) (h7 : 0 < size)
    (v : Value) (k : Nat) (xs : List Value) (hs : a.eval s = v) (hown : w.ownsRow base e size v k xs) (ad : Addr) (m c : Nat) (news : List Value) (hx : a.eval x = .slice (some ad) m c) (hn : news.length = m * size)
    (hc : ∀ j u, news[j]? = some u → w.cell? (ad.add j) = some u) (h1c : ∀ u ∈ news, u.oneCell' = true) (hm : 0 < m) (b1 : k + m ≤ maxLen) (b2 : (k + m) * bytes ≤ 140737488355328) (b3 : base ≤ w.heap.size)
    (hK : ∀ g cap w', w'.ownsRow base e size (.slice (some ⟨g, 0, none⟩) (k + m) cap) (k + m) (xs ++ news) → w'.ownsRow base e size v k xs → w.grownBy w' v.ownBlock → (v.ownBlock = some g ∨ g = w.heap.size) → g < w'.heap.size → wpListIn F n P ops Q rest (a.put o.dst (.slice (some ⟨g, 0, none⟩) (k + m) cap)) w') :
    wpListIn F n P ops Q (o :: rest) a w := by
  refine wpListIn_plain hg fun K hK' => ?_
  obtain ⟨g, cap, w', hrun, r1, r2, r3, r4, r5⟩ := run_append_keep (P := P) w t o.type base e i z size bytes h1 h2 h3 h4 h5 h6 h7 v k xs hown ad m c news hn hc h1c hm b1 b2 b3
  unfold Oper.wpIn
  refine ⟨?_, ?_⟩
  · simp [Oper.about, hop, resolve, Target.leads, Sem.run_pure]
  · rw [Oper.semAt_plain F _ _ (by rw [hop]; intro c hc'; cases hc')]
    simp [execOp, hop, resolve, invoke, builtin, hs, hx, hrun, Result.andThen]
    exact hK' _ _ (hK g cap w' r1 r2 r3 r4 r5)
abbrev markD (D : Nat) : Deferred := { target := .collected D, args := #[] }
structure Marks (B : Nat) (ds : List Nat) (W : World) : Prop where
  nd : ds.Nodup
  at_ : ∀ D ∈ ds, B ≤ D ∧ W.heap[D]? = some (.deferred (some []))
theorem Marks.kept {B : Nat} {ds : List Nat} {W W2 : World} {row : Option Nat} (h : Marks B ds W) (hg : W.grownBy W2 row) (hne : ∀ r, row = some r → (∃ c e f, W.heap[r]? = some (.cells c e f)) ∨ r ∉ ds) : Marks B ds W2 := by
  refine ⟨h.nd, fun D hD => ⟨(h.at_ D hD).1, (hg.block D (Array.getElem?_eq_some_iff.1 (h.at_ D hD).2).1 (fun e => ?_)).trans (h.at_ D hD).2⟩⟩
  rcases hne D e.symm with ⟨c, t, f, hc⟩ | hn
  · rw [(h.at_ D hD).2] at hc
    cases hc
  · exact hn hD
theorem leaves_marks {F : Fence} {n : Nat} {P : Program} {fn : Func} {tmps : Array Value} {R : Ending → World → Prop} (B : Nat) (Φ : World → Prop)
    (stab : ∀ W D, Φ W → B ≤ D → W.heap[D]? = some (.deferred (some [])) → Φ (W.putObj D (.deferred none))) (fin : ∀ W, Φ W → LeavesIn F n P fn tmps R [] .returning W) :
    ∀ (ds : List Nat) (W : World), Marks B ds W → Φ W → LeavesInM F n P fn tmps R (ds.map markD) .returning W
  | [], W, _, h => fin W h
  | D :: ds, W, hm, h => by
    have hD := hm.at_ D (by simp)
    have hnd := List.nodup_cons.1 hm.nd
    refine ⟨by simp, .inl ⟨D, _, rfl, run_takeDeferred hD.2, ?_⟩⟩
    refine leaves_marks B Φ stab fin ds _ ⟨hnd.2, fun E hE => ⟨(hm.at_ E (by simp [hE])).1, ?_⟩⟩ (stab W D h hD.1 hD.2)
    have hne : E ≠ D := fun e => hnd.1 (by rw [← e]; exact hE)
    rw [World.putObj_heap_other hne]
    exact (hm.at_ E (by simp [hE])).2
theorem own_prefix {w : World} {base : Nat} {e : TypeId} {size g k cap : Nat} {xs ys : List Value} (h : w.ownsRow base e size (.slice (some ⟨g, 0, none⟩) (k + 1) cap) (k + 1) (xs ++ ys)) (hl : xs.length = k * size) : w.ownsRow base e size (.slice (some ⟨g, 0, none⟩) k cap) k xs := by
  refine ⟨hl, ?_⟩
  rcases h.2 with ⟨hv, _⟩ | ⟨g', cap', cur, hv, hb, hg, h1, h2, h3, h4⟩
  · cases hv
  · injection hv with e1 e2 e3
    subst e3
    refine .inr ⟨g', cap, cur, by rw [e1], hb, hg, by omega, h2, h3, ?_⟩
    have := congrArg (List.take (k * size)) h4
    rw [List.take_take, Nat.min_eq_left (Nat.mul_le_mul_right _ (by omega)), ← hl, List.take_left] at this
    rw [← hl]
    exact this
structure Hand (w1 W : World) (B Bp g cp : Nat) (vo : Value) (out P : List Int) : Prop where
  below : Below B w1 W
  pile : Boxed W Bp 30 (.slice (some ⟨g, 0, none⟩) P.length cp)
  low : B ≤ Bp
  prow : W.ownsRow B 3 1 (.slice (some ⟨g, 0, none⟩) P.length cp) P.length (P.map encI)
  orow : W.ownsRow B 3 1 vo out.length (out.map encI)
  apart : vo.ownBlock ≠ some g
theorem Hand.kept {w1 W W2 : World} {B Bp g cp : Nat} {vo : Value} {out P : List Int} {row : Option Nat} (h : Hand w1 W B Bp g cp vo out P) (hg : W.grownBy W2 row) (hB : ∀ r, row = some r → B ≤ r) (h1 : some Bp ≠ row) (h2 : some g ≠ row) (h3 : vo.ownBlock = none ∨ vo.ownBlock ≠ row) (hsz : B ≤ W.heap.size) : Hand w1 W2 B Bp g cp vo out P :=
  ⟨h.below.grown hg hsz (fun k e => hB k e), h.pile.kept hg h1, h.low, h.prow.kept hg (.inr h2), h.orow.kept hg h3, h.apart⟩
theorem Hand.size {w1 W : World} {B Bp g cp : Nat} {vo : Value} {out P : List Int} (h : Hand w1 W B Bp g cp vo out P) : B ≤ W.heap.size := by
  have h1 := h.low
  have h2 := h.pile.lt
  omega
theorem own_cells {w : World} {base : Nat} {e : TypeId} {size n : Nat} {v : Value} {xs : List Value} (h : w.ownsRow base e size v n xs) : ∀ r, v.ownBlock = some r → ∃ c t f, w.heap[r]? = some (.cells c t f) := fun r hr => by
  rcases h.2 with ⟨rfl, _⟩ | ⟨g, cap, cur, rfl, _, hg, _⟩
  · cases hr
  · injection hr with hr
    have e : g = r := hr
    subst e
    exact ⟨_, _, _, hg⟩
theorem Hand.alloc {w1 W : World} {B Bp g cp : Nat} {vo : Value} {out P : List Int} (h : Hand w1 W B Bp g cp vo out P) (o : Obj) : Hand w1 (W.alloc o) B Bp g cp vo out P :=
  h.kept (World.grownBy_alloc W o none) (fun r e => by cases e) (by simp) (by simp) (by
    cases hv : vo.ownBlock with
    | none => exact .inl rfl
    | some k => exact .inr (by simp)) h.size
theorem Hand.other {w1 W W2 : World} {B Bp g cp : Nat} {vo : Value} {out P : List Int} {row : Option Nat} (h : Hand w1 W B Bp g cp vo out P) (hg : W.grownBy W2 row) (hr : ∀ r, row = some r → B ≤ r ∧ ∃ o : Obj, W.heap[r]? = some o ∧ o.isCells = false) : Hand w1 W2 B Bp g cp vo out P := by
  have no : ∀ k, (∃ c t f, W.heap[k]? = some (.cells c t f)) → some k ≠ row := fun k ⟨c, t, f, hc⟩ e => by
    obtain ⟨_, o, ho, hoc⟩ := hr k e.symm
    rw [hc] at ho
    injection ho with ho
    rw [← ho] at hoc
    cases hoc
  refine h.kept hg (fun r e => (hr r e).1) (no Bp ⟨_, _, _, h.pile⟩) (no g (own_cells h.prow g rfl)) ?_ h.size
  cases hv : vo.ownBlock with
  | none => exact .inl rfl
  | some k => exact .inr (no k (own_cells h.orow k hv))
theorem Hand.pop {w1 W : World} {B Bp g cp : Nat} {vo : Value} {out Q : List Int} {z : Int} (h : Hand w1 W B Bp g cp vo out (Q ++ [z])) : Hand w1 (W.setCell ⟨Bp, 0, none⟩ (.slice (some ⟨g, 0, none⟩) Q.length cp)) B Bp g cp vo out Q := by
  have hp := h.prow
  rw [List.length_append, List.map_append] at hp
  have hp2 := own_prefix hp (by simp)
  have hne : some Bp ≠ some g := h.pile.not_row (by decide) h.prow
  have hno := h.pile.not_row (by decide) h.orow
  refine ⟨h.below.setCell (p := ⟨Bp, 0, none⟩) h.low _, h.pile.set _, h.low, hp2.kept (grownBy_setCell' W Bp _) (.inr (fun e => hne e.symm)), h.orow.kept (grownBy_setCell' W Bp _) (.inr (fun e => hno e.symm)), h.apart⟩
theorem Hand.more {w1 W W2 : World} {B Bp g cp g2 cap : Nat} {vo : Value} {out P : List Int} {z : Int} {tmp : Obj} (h : Hand w1 W B Bp g cp vo out P)
    (ho : W2.ownsRow B 3 1 (.slice (some ⟨g2, 0, none⟩) (out.length + 1) cap) (out.length + 1) (out.map encI ++ [encI z])) (hg : (W.alloc tmp).grownBy W2 vo.ownBlock) (hat : vo.ownBlock = some g2 ∨ g2 = (W.alloc tmp).heap.size) : Hand w1 W2 B Bp g cp (.slice (some ⟨g2, 0, none⟩) (out.length + 1) cap) (out ++ [z]) P := by
  have h1 := h.alloc tmp
  have hno := h1.pile.not_row (by decide) h1.orow
  refine ⟨h1.below.grown hg h1.size (fun k e => (h1.orow.lt k e).1), h1.pile.kept hg hno, h1.low, h1.prow.kept hg (.inr (fun e => h1.apart e.symm)), by simpa using ho, fun e => ?_⟩
  have e2 : g2 = g := by injection e
  rcases hat with hat | hat
  · exact h.apart (by rw [hat, e2])
  · have := (h1.prow.lt g rfl).2
    omega
theorem Hand.push {w1 W W2 : World} {B Bp g cp g2 cap : Nat} {vo : Value} {out P : List Int} {z : Int} {tmp : Obj} (h : Hand w1 W B Bp g cp vo out P)
    (ho : W2.ownsRow B 3 1 (.slice (some ⟨g2, 0, none⟩) (P.length + 1) cap) (P.length + 1) (P.map encI ++ [encI z])) (hg : (W.alloc tmp).grownBy W2 (Value.ownBlock (.slice (some ⟨g, 0, none⟩) P.length cp))) (hat : Value.ownBlock (.slice (some ⟨g, 0, none⟩) P.length cp) = some g2 ∨ g2 = (W.alloc tmp).heap.size) :
    Boxed W2 Bp 30 (.slice (some ⟨g, 0, none⟩) P.length cp) ∧ Hand w1 (W2.setCell ⟨Bp, 0, none⟩ (.slice (some ⟨g2, 0, none⟩) (P.length + 1) cap)) B Bp g2 cap vo out (P ++ [z]) := by
  have h1 := h.alloc tmp
  have hno := h1.pile.not_row (by decide) h1.prow
  have hb := h1.pile.kept hg hno
  have hb2 := hb.not_row (by decide) ho
  have hor := h1.orow.kept hg (.inr h1.apart)
  have hno2 := hb.not_row (by decide) hor
  have e1 : (P ++ [z]).length = P.length + 1 := by simp
  refine ⟨hb, (h1.below.grown hg h1.size (fun k e => (h1.prow.lt k e).1)).setCell (p := ⟨Bp, 0, none⟩) h.low _, by rw [e1]; exact hb.set _, h.low, ?_, hor.kept (grownBy_setCell' W2 Bp _) (.inr (fun e => hno2 e.symm)), fun e => ?_⟩
  · rw [e1, List.map_append]
    exact ho.kept (grownBy_setCell' W2 Bp _) (.inr (fun e => hb2 e.symm))
  · rcases hat with hat | hat
    · have e2 : g = g2 := by injection hat
      exact h.apart (by rw [e, e2])
    · have := (h1.orow.lt g2 e).2
      omega
theorem Hand.next {w1 W : World} {B Bp g cp : Nat} {vo : Value} {out P : List Int} (h : Hand w1 W B Bp g cp vo out P) : Hand w1 (W.alloc (.cells #[.slice (some ⟨g, 0, none⟩) P.length cp] 30)) B W.heap.size g cp vo out P := by
  have h1 := h.alloc (.cells #[.slice (some ⟨g, 0, none⟩) P.length cp] 30)
  exact ⟨h1.below, Boxed.new _ _ _, h.size, h1.prow, h1.orow, h1.apart⟩
end Go.Proofs.Ytnjoimedilonnaa
