/- Texts joined in build order: Ref9AwReg DeskFnsProof. -/
import Derived.Test.YtioeagadhnnajaaA40
import Derived.Test.YtioeagadhnnajaaA45
import Derived.Test.YtioeagadhnnajaaA46
/- instarref09's Await: the region that copies who waits, in any order. -/
namespace Go.Proofs.Ytioeagadhnnajaa
open Go.RowKit
def awOps : List Oper := [
  { dst := some 22, op := .fieldAddr 25 (.tmp 2) 0, type := 0, pos := "ref.go:119", after := #[], guard := none },
  { dst := some 23, op := .load 22 (.tmp 22), type := 22, pos := "ref.go:119", after := #[{ on := 0, ground := .data }], guard := none },
  { dst := some 24, op := .buildSlice 23 0 #[], type := 23, pos := "ref.go:119", after := #[], guard := none },
  { dst := some 25, op := .fieldAddr 25 (.tmp 2) 1, type := 0, pos := "ref.go:119", after := #[], guard := none },
  { dst := some 26, op := .load 23 (.tmp 25), type := 23, pos := "ref.go:119", after := #[{ on := 3, ground := .data }], guard := none },
  { dst := some 27, op := .call { callee := .builtin .append, args := #[.tmp 24, .tmp 26], argTypes := #[23, 23] }, type := 23, pos := "ref.go:119", after := #[{ on := 2, ground := .data }, { on := 4, ground := .data }], guard := none },
  { dst := some 28, op := .fieldAddr 25 (.tmp 2) 2, type := 0, pos := "ref.go:119", after := #[], guard := none },
  { dst := some 29, op := .load 3 (.tmp 28), type := 3, pos := "ref.go:119", after := #[{ on := 6, ground := .data }], guard := none },
  { dst := some 30, op := .binOp .add 3 (.tmp 29) (.const (.int .i64 1)) 3, type := 3, pos := "ref.go:119", after := #[{ on := 7, ground := .data }], guard := none },
  { dst := some 31, op := .fieldAddr 25 (.tmp 2) 3, type := 0, pos := "ref.go:119", after := #[], guard := none },
  { dst := some 32, op := .load 4 (.tmp 31), type := 4, pos := "ref.go:119", after := #[{ on := 9, ground := .data }], guard := none },
  { dst := some 33, op := .build 25 #[(0, .tmp 23), (1, .tmp 27), (2, .tmp 30), (3, .tmp 32)], type := 25, pos := "ref.go:119", after := #[{ on := 1, ground := .data }, { on := 5, ground := .data }, { on := 8, ground := .data }, { on := 10, ground := .data }], guard := none },
  { dst := some 8, op := .alloc 25, type := 0, pos := "ref.go:119", after := #[], guard := none },
  { dst := none, op := .store 25 (.tmp 8) (.tmp 33), type := 0, pos := "ref.go:119", after := #[{ on := 12, ground := .data }, { on := 11, ground := .data }, { on := 5, ground := .chain }, { on := 0, ground := .phase }, { on := 1, ground := .phase }, { on := 2, ground := .phase }, { on := 3, ground := .phase }, { on := 4, ground := .phase }, { on := 5, ground := .phase }, { on := 6, ground := .phase }, { on := 7, ground := .phase }, { on := 8, ground := .phase }, { on := 9, ground := .phase }, { on := 10, ground := .phase }, { on := 11, ground := .phase }, { on := 12, ground := .phase }], guard := none }]
def awUsed : List (Option Nat) := [none, none, some 5, none, none, some 11, none, none, none, none, none, some 13, some 13]
open Iv1 in
set_option maxHeartbeats 4000000 in
set_option maxRecDepth 100000 in
theorem aw_region {id : Nat} {Q : Exit → Act → World → Prop} {a0 : Act} {W : World} (hn : 34 ≤ a0.tmps.size) (b : Nat) (da : Option Addr) (dl dc : Nat) (wa : Option Addr) (wl wc : Nat) (nx : Int) (bz : Bool) (M : List WaitD) (hfv : a0.tmps[2]? = some (.pointer (some ⟨b, 0, none⟩))) (hb : b < W.heap.size)
    (hc0 : W.cell? ⟨b, 0, none⟩ = some (.slice da dl dc)) (hc1 : W.cell? ⟨b, 1, none⟩ = some (.slice wa wl wc)) (hc2 : W.cell? ⟨b, 2, none⟩ = some (.int .i64 nx)) (hc3 : W.cell? ⟨b, 3, none⟩ = some (.bool bz)) (ht : WaitRow W wa wl wc M) (hm : wl ≤ 100000) (h0 : 0 ≤ nx ∧ nx ≤ 100000)
    (hQ : ∀ (v : Nat → Value) g x w, W.heap.size ≤ g → GBox w g (.slice none 0 0) (.slice none 0 0) 0 false → w.ownsRow W.heap.size 48 2 x wl (M.flatMap encT9) → (∀ b, x.ownBlock = some b → b ≠ g) → Below W.heap.size W w →
      Q .normal ⟨(puts a0.tmps.toList [(some 22, v 0), (some 23, v 1), (some 24, v 2), (some 25, v 3), (some 26, v 4), (some 27, v 5), (some 28, v 6), (some 29, v 7), (some 30, v 8), (some 31, v 9), (some 32, v 10), (some 33, v 11), (some 8, .pointer (some ⟨g, 0, none⟩))]).toArray, a0.defers⟩ (put4 w g (.slice da dl dc) x (.int .i64 (nx + 1)) (.bool bz))) :
    (Code.region id awOps.toArray true).wp Try.prog Q a0 W := by
  have hf2 : ∀ j, j < 13 → (awOps[j]?).bind (·.dst) ≠ some 2 := by decide
  have hrow : ∀ {w : World} {x : Value}, w.ownsRow W.heap.size 48 2 x (0 + wl) (([] ++ M).flatMap encT9) → w.ownsRow W.heap.size 48 2 x wl (M.flatMap encT9) := fun h => by rwa [Nat.zero_add, List.nil_append] at h
  refine wp_region_inv (planOf [isItem W (.pointer (some ⟨b, 0, none⟩)), isItem W (.slice da dl dc), rowItem W 0 [], isItem W (.pointer (some ⟨b, 1, none⟩)), isItem W (.slice wa wl wc), rowItem W (0 + wl) (([] ++ M).flatMap encT9), isItem W (.pointer (some ⟨b, 2, none⟩)), isItem W (.int .i64 nx), isItem W (.int .i64 (nx + 1)), isItem W (.pointer (some ⟨b, 3, none⟩)), isItem W (.bool bz), aggItem W da dl dc (0 + wl) (([] ++ M).flatMap encT9) (nx + 1) bz, boxItem W] awUsed) 13 34 (by kernel_rfl) (by kernel_rfl) hn (planOf_stab _ _ _) ?_ ?_
  · intro i hi o ho
    match i, hi with
    | 0, _ => cases ho; exact st_field0 rfl hf2 hfv
    | 1, _ => cases ho; exact st_load0 rfl (j := 0) (by decide) rfl rfl rfl (by simp [edgeOn, Region.binds]) hb hc0
    | 2, _ => cases ho; exact st_nil rfl
    | 3, _ => cases ho; exact st_field1 rfl hf2 hfv
    | 4, _ => cases ho; exact st_load1 rfl (j := 3) (by decide) rfl rfl rfl (by simp [edgeOn, Region.binds]) hb hc1
    | 5, _ => cases ho; exact st_app (L := []) (M := M) (n := 0) (m := wl) (s2 := 26) rfl (j := 2) (by decide) rfl rfl rfl (by simp [edgeOn, Region.binds]) (src_old (k := 4) (by decide) rfl rfl rfl (by simp [edgeOn, Region.binds]) ht.row (fun e => ht.hnil e)) (by omega)
    | 6, _ => cases ho; exact st_field2 rfl hf2 hfv
    | 7, _ => cases ho; exact st_load2 rfl (j := 6) (by decide) rfl rfl rfl (by simp [edgeOn, Region.binds]) hb hc2
    | 8, _ => cases ho; exact st_add rfl (j := 7) (by decide) rfl rfl rfl (by simp [edgeOn, Region.binds]) h0
    | 9, _ => cases ho; exact st_field3 rfl hf2 hfv
    | 10, _ => cases ho; exact st_load3 rfl (j := 9) (by decide) rfl rfl rfl (by simp [edgeOn, Region.binds]) hb hc3
    | 11, _ => cases ho; exact st_agg rfl (j0 := 1) (j1 := 5) (j2 := 8) (j3 := 10) (by decide) rfl rfl rfl (by decide) rfl rfl rfl (by decide) rfl rfl rfl (by decide) rfl rfl rfl (by simp [edgeOn, Region.binds]) (by simp [edgeOn, Region.binds]) (by simp [edgeOn, Region.binds]) (by simp [edgeOn, Region.binds])
    | 12, _ => cases ho; exact st_box rfl
  · intro o ho w v h
    cases ho
    refine st_store h (j := 12) (k := 11) (by decide) rfl rfl rfl (by simp [edgeOn, Region.binds]) (by decide) rfl rfl rfl (by simp [edgeOn, Region.binds]) (by decide) ?_
    intro g x e1 e2 hg hbox hown hne hbel
    have := hQ v g x w hg hbox (hrow hown) hne hbel
    show Q .normal ⟨(puts a0.tmps.toList [(some 22, v 0), (some 23, v 1), (some 24, v 2), (some 25, v 3), (some 26, v 4), (some 27, v 5), (some 28, v 6), (some 29, v 7), (some 30, v 8), (some 31, v 9), (some 32, v 10), (some 33, v 11), (some 8, v 12)]).toArray, a0.defers⟩ _
    rw [e1]
    exact this
end Go.Proofs.Ytioeagadhnnajaa
/- What is asked of package desk's functions holds of the landed code. -/
namespace Go.Proofs.Ytioeagadhnnajaa
open Go.RowKit
theorem deskFns : DeskFns where
  right := deskright_any
  find := fun da dl dc wa wl wc nx bz L M l s W h1 h2 _ _ => deskfind_any da dl dc wa wl wc nx bz L M l s W h1 h2
  named := fun da dl dc wa wl wc nx bz L M s W h1 h2 _ => named_any da dl dc wa wl wc nx bz L M s W h1 h2
  classed := classed_any
  may := fun da dl dc wa wl wc nx bz L M m s base c W h1 h2 h3 _ => deskmay_any da dl dc wa wl wc nx bz L M m s base c W h1 h2 h3
  add := fun da dl dc wa wl wc nx bz L M m s base c W h1 h2 h3 h4 h5 h6 h7 => by
    by_cases hm : mayE ⟨L, M, nx, bz⟩ m s.toList base.toList c = 0
    · unfold addR9
      rw [if_pos hm]
      exact add_ok da dl dc wa wl wc nx bz L M m s base c W h1 h2 h3 h4 h5 h6 h7 hm
    · unfold addR9
      rw [if_neg hm]
      exact add_err da dl dc wa wl wc nx bz L M m s base c W h1 h2 h3 h6 h7 hm
  await := fun da dl dc wa wl wc nx bz L M s W h1 h2 h3 _ h6 h7 => by
    by_cases hm : awaitE ⟨L, M, nx, bz⟩ s.toList = 0
    · unfold awaitR
      rw [if_pos hm]
      exact await_good da dl dc wa wl wc nx bz L M s W h1 h2 h3 h6 h7 hm
    · unfold awaitR
      rw [if_neg hm]
      exact await_err da dl dc wa wl wc nx bz L M s W h1 h2 h3 h6 h7 hm
end Go.Proofs.Ytioeagadhnnajaa
