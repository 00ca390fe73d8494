/- Texts joined in build order: Ref9AdReg. -/
import Derived.Test.YtioeagadhnnajaaA41
/- instarref09's Add: the region that copies the definitions and lays the new one behind them, in any order. -/
namespace Go.Proofs.Ytioeagadhnnajaa
open Go.RowKit
def adOps : List Oper := [
  { dst := some 37, op := .buildSlice 22 0 #[], type := 22, pos := "ref.go:96", after := #[], guard := none },
  { dst := some 38, op := .fieldAddr 25 (.tmp 5) 0, type := 0, pos := "ref.go:96", after := #[], guard := none },
  { dst := some 39, op := .load 22 (.tmp 38), type := 22, pos := "ref.go:96", after := #[{ on := 1, ground := .data }], guard := none },
  { dst := some 40, op := .call { callee := .builtin .append, args := #[.tmp 37, .tmp 39], argTypes := #[22, 22] }, type := 22, pos := "ref.go:96", after := #[{ on := 0, ground := .data }, { on := 2, ground := .data }], guard := none },
  { dst := some 41, op := .load 46 (.tmp 15), type := 46, pos := "ref.go:96", after := #[], guard := none },
  { dst := some 42, op := .buildSlice 22 1 #[(0, .tmp 41)], type := 22, pos := "ref.go:96", after := #[{ on := 4, ground := .data }], guard := none },
  { dst := some 43, op := .call { callee := .builtin .append, args := #[.tmp 40, .tmp 42], argTypes := #[22, 22] }, type := 22, pos := "ref.go:96", after := #[{ on := 3, ground := .data }, { on := 5, ground := .data }, { on := 3, ground := .chain }], guard := none },
  { dst := some 44, op := .fieldAddr 25 (.tmp 5) 2, type := 0, pos := "ref.go:96", after := #[], guard := none },
  { dst := some 45, op := .load 3 (.tmp 44), type := 3, pos := "ref.go:96", after := #[{ on := 7, ground := .data }], guard := none },
  { dst := some 46, op := .build 25 #[(0, .tmp 43), (2, .tmp 45)], type := 25, pos := "ref.go:96", after := #[{ on := 6, ground := .data }, { on := 8, ground := .data }], guard := none },
  { dst := some 16, op := .alloc 25, type := 0, pos := "ref.go:96", after := #[], guard := none },
  { dst := none, op := .store 25 (.tmp 16) (.tmp 46), type := 0, pos := "ref.go:96", after := #[{ on := 10, ground := .data }, { on := 9, ground := .data }, { on := 6, ground := .chain }, { on := 0, ground := .phase }, { on := 1, ground := .phase }, { on := 2, ground := .phase }, { on := 3, ground := .phase }, { on := 4, ground := .phase }, { on := 5, ground := .phase }, { on := 6, ground := .phase }, { on := 7, ground := .phase }, { on := 8, ground := .phase }, { on := 9, ground := .phase }, { on := 10, ground := .phase }], guard := none }]
def adUsed : List (Option Nat) := [some 3, none, none, some 6, none, some 6, some 9, none, none, some 11, some 11]
open Iv0 in
set_option maxHeartbeats 4000000 in
set_option maxRecDepth 100000 in
theorem ad_region {id : Nat} {Q : Exit → Act → World → Prop} {a0 : Act} {W : World} (hn : 47 ≤ a0.tmps.size) (b q : Nat) (da : Option Addr) (dl dc : Nat) (nx : Int) (L : List DefD) (n l9 : ByteArray) (c : Int) (hfv : a0.tmps[5]? = some (.pointer (some ⟨b, 0, none⟩))) (hxv : a0.tmps[15]? = some (.pointer (some ⟨q, 0, none⟩))) (hb : b < W.heap.size)
    (hc0 : W.cell? ⟨b, 0, none⟩ = some (.slice da dl dc)) (hc2 : W.cell? ⟨b, 2, none⟩ = some (.int .i64 nx)) (hx : XBox W q n l9 c) (hd : DefRow W da dl dc L) (hm : dl ≤ 1000)
    (hQ : ∀ (v : Nat → Value) g x w, W.heap.size ≤ g → GBox w g (.slice none 0 0) (.slice none 0 0) 0 false → w.ownsRow W.heap.size 46 3 x (dl + 1) ((L ++ [(⟨n, l9, c⟩ : DefD)]).flatMap encD) → (∀ b, x.ownBlock = some b → b ≠ g) → Below W.heap.size W w →
      Q .normal ⟨(puts a0.tmps.toList [(some 37, v 0), (some 38, v 1), (some 39, v 2), (some 40, v 3), (some 41, v 4), (some 42, v 5), (some 43, v 6), (some 44, v 7), (some 45, v 8), (some 46, v 9), (some 16, .pointer (some ⟨g, 0, none⟩))]).toArray, a0.defers⟩ (put4 w g x (.slice none 0 0) (.int .i64 nx) (.bool false))) :
    (Code.region id adOps.toArray true).wp Try.prog Q a0 W := by
  have hf5 : ∀ j, j < 11 → (adOps[j]?).bind (·.dst) ≠ some 5 := by decide
  have hf15 : ∀ j, j < 11 → (adOps[j]?).bind (·.dst) ≠ some 15 := by decide
  have hrow : ∀ {w : World} {x : Value}, w.ownsRow W.heap.size 46 3 x ((0 + dl) + 1) ((([] ++ L) ++ [(⟨n, l9, c⟩ : DefD)]).flatMap encD) → w.ownsRow W.heap.size 46 3 x (dl + 1) ((L ++ [(⟨n, l9, c⟩ : DefD)]).flatMap encD) := fun h => by rwa [Nat.zero_add, List.nil_append] at h
  refine wp_region_inv (planOf [rowItem W 0 [], isItem W (.pointer (some ⟨b, 0, none⟩)), isItem W (.slice da dl dc), rowItem W (0 + dl) (([] ++ L).flatMap encD), isItem W (.agg #[.string n, .string l9, .int .i64 c]), litItem W (⟨n, l9, c⟩ : DefD), rowItem W ((0 + dl) + 1) ((([] ++ L) ++ [(⟨n, l9, c⟩ : DefD)]).flatMap encD), isItem W (.pointer (some ⟨b, 2, none⟩)), isItem W (.int .i64 nx), aggItem W ((0 + dl) + 1) ((([] ++ L) ++ [(⟨n, l9, c⟩ : DefD)]).flatMap encD) nx, boxItem W] adUsed) 11 47 (by kernel_rfl) (by kernel_rfl) hn (planOf_stab _ _ _) ?_ ?_
  · intro i hi o ho
    match i, hi with
    | 0, _ => cases ho; exact st_nil rfl
    | 1, _ => cases ho; exact st_field0 rfl hf5 hfv
    | 2, _ => cases ho; exact st_load0 rfl (j := 1) (by decide) rfl rfl rfl (by simp [edgeOn, Region.binds]) hb hc0
    | 3, _ => cases ho; exact st_app (L := []) (M := L) (n := 0) (m := dl) (s2 := 39) rfl (j := 0) (by decide) rfl rfl rfl (by simp [edgeOn, Region.binds]) (src_old (k := 2) (by decide) rfl rfl rfl (by simp [edgeOn, Region.binds]) hd.row (fun e => hd.hnil e)) (by omega)
    | 4, _ => cases ho; exact st_loadX rfl hf15 hxv hx
    | 5, _ => cases ho; exact st_lit rfl (j := 4) (by decide) rfl rfl rfl (by simp [edgeOn, Region.binds])
    | 6, _ => cases ho; exact st_app (L := [] ++ L) (M := [(⟨n, l9, c⟩ : DefD)]) (n := 0 + dl) (m := 1) (s2 := 42) rfl (j := 3) (by decide) rfl rfl rfl (by simp [edgeOn, Region.binds]) (src_lit (k := 5) (by decide) rfl rfl rfl (by simp [edgeOn, Region.binds])) (by omega)
    | 7, _ => cases ho; exact st_field2 rfl hf5 hfv
    | 8, _ => cases ho; exact st_load2 rfl (j := 7) (by decide) rfl rfl rfl (by simp [edgeOn, Region.binds]) hb hc2
    | 9, _ => cases ho; exact st_agg rfl (j0 := 6) (j2 := 8) (by decide) rfl rfl rfl (by decide) rfl rfl rfl (by simp [edgeOn, Region.binds]) (by simp [edgeOn, Region.binds])
    | 10, _ => cases ho; exact st_box rfl
  · intro o ho w v h
    cases ho
    refine st_store h (j := 10) (k := 9) (by decide) rfl rfl rfl (by simp [edgeOn, Region.binds]) (by decide) rfl rfl rfl (by simp [edgeOn, Region.binds]) (by decide) ?_
    intro g x e1 e2 hg hbox hown hne hbel
    have := hQ v g x w hg hbox (hrow hown) hne hbel
    show Q .normal ⟨(puts a0.tmps.toList [(some 37, v 0), (some 38, v 1), (some 39, v 2), (some 40, v 3), (some 41, v 4), (some 42, v 5), (some 43, v 6), (some 44, v 7), (some 45, v 8), (some 46, v 9), (some 16, v 10)]).toArray, a0.defers⟩ _
    rw [e1]
    exact this
end Go.Proofs.Ytioeagadhnnajaa
