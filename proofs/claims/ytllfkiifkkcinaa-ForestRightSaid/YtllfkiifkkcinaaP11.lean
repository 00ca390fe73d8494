/- Texts joined in build order: ForestRegion. -/
import Derived.Test.YtllfkiifkkcinaaP10
/- Regions 8, 17 and 21 of the law ForestRight. (Printed by wip/tools/gen_forestright.py.) -/
namespace Go.Proofs.Ytllfkiifkkcinaa
open Go.RowKit
theorem NodeRow.nilRow (w : World) : NodeRow w none 0 0 [] := ⟨SRow.nil, (fun z hz => by cases hz), fun _ => rfl⟩
def forestRight8AOps : List Oper := [
  { dst := some 51, op := Go.Op.load 24 (Go.Operand.tmp 5), type := 24, pos := "law.go:30", after := #[], guard := none },
  { dst := some 52, op := Go.Op.call { callee := Go.Callee.value (Go.Operand.func 19), args := #[Go.Operand.tmp 51], argTypes := #[24] }, type := 4, pos := "law.go:30", after := #[{ on := 0, ground := Go.Ground.data }], guard := none },
  { dst := some 53, op := Go.Op.move (Go.Operand.tmp 11), type := 4, pos := "law.go:30", after := #[], guard := none },
  { dst := some 54, op := Go.Op.binOp Go.BinOp.neq 4 (Go.Operand.tmp 52) (Go.Operand.tmp 53) 4, type := 4, pos := "law.go:30", after := #[{ on := 1, ground := Go.Ground.data }, { on := 2, ground := Go.Ground.data }], guard := none },
  { dst := some 55, op := Go.Op.move (Go.Operand.tmp 54), type := 4, pos := "law.go:30", after := #[{ on := 3, ground := Go.Ground.data }, { on := 1, ground := Go.Ground.chain }], guard := none },
  { dst := some 56, op := Go.Op.move (Go.Operand.tmp 13), type := 31, pos := "law.go:30", after := #[{ on := 4, ground := Go.Ground.guard }], guard := some (4, false) },
  { dst := some 57, op := Go.Op.binOp Go.BinOp.eql 31 (Go.Operand.tmp 56) (Go.Operand.const (Go.Value.int Go.IntKind.i64 0)) 31, type := 4, pos := "law.go:30", after := #[{ on := 5, ground := Go.Ground.data }, { on := 4, ground := Go.Ground.guard }], guard := some (4, false) },
  { dst := some 58, op := Go.Op.move (Go.Operand.tmp 2), type := 3, pos := "law.go:30", after := #[{ on := 4, ground := Go.Ground.guard }], guard := some (4, false) },
  { dst := some 59, op := Go.Op.binOp Go.BinOp.geq 3 (Go.Operand.tmp 58) (Go.Operand.const (Go.Value.int Go.IntKind.i64 1)) 3, type := 4, pos := "law.go:30", after := #[{ on := 7, ground := Go.Ground.data }, { on := 4, ground := Go.Ground.guard }], guard := some (4, false) },
  { dst := some 60, op := Go.Op.move (Go.Operand.tmp 59), type := 4, pos := "law.go:30", after := #[{ on := 8, ground := Go.Ground.data }, { on := 4, ground := Go.Ground.chain }, { on := 4, ground := Go.Ground.guard }], guard := some (4, false) },
  { dst := some 61, op := Go.Op.move (Go.Operand.tmp 2), type := 3, pos := "law.go:30", after := #[{ on := 9, ground := Go.Ground.guard }], guard := some (9, true) },
  { dst := some 62, op := Go.Op.binOp Go.BinOp.leq 3 (Go.Operand.tmp 61) (Go.Operand.const (Go.Value.int Go.IntKind.i64 400)) 3, type := 4, pos := "law.go:30", after := #[{ on := 10, ground := Go.Ground.data }, { on := 9, ground := Go.Ground.guard }], guard := some (9, true) },
  { dst := some 63, op := Go.Op.pick (Go.Operand.tmp 60) (Go.Operand.tmp 62) (Go.Operand.const (Go.Value.bool false)), type := 4, pos := "law.go:30", after := #[{ on := 9, ground := Go.Ground.data }, { on := 11, ground := Go.Ground.data }, { on := 4, ground := Go.Ground.guard }], guard := some (4, false) },
  { dst := some 64, op := Go.Op.binOp Go.BinOp.neq 4 (Go.Operand.tmp 57) (Go.Operand.tmp 63) 4, type := 4, pos := "law.go:30", after := #[{ on := 6, ground := Go.Ground.data }, { on := 12, ground := Go.Ground.data }, { on := 4, ground := Go.Ground.guard }], guard := some (4, false) },
  { dst := some 65, op := Go.Op.pick (Go.Operand.tmp 55) (Go.Operand.const (Go.Value.bool true)) (Go.Operand.tmp 64), type := 4, pos := "law.go:30", after := #[{ on := 4, ground := Go.Ground.data }, { on := 13, ground := Go.Ground.data }], guard := none },
  { dst := some 66, op := Go.Op.move (Go.Operand.tmp 65), type := 4, pos := "law.go:30", after := #[{ on := 14, ground := Go.Ground.data }, { on := 9, ground := Go.Ground.chain }], guard := none },
  { dst := some 67, op := Go.Op.move (Go.Operand.tmp 13), type := 31, pos := "law.go:30", after := #[{ on := 15, ground := Go.Ground.guard }], guard := some (15, false) },
  { dst := some 68, op := Go.Op.binOp Go.BinOp.eql 31 (Go.Operand.tmp 67) (Go.Operand.const (Go.Value.int Go.IntKind.i64 0)) 31, type := 4, pos := "law.go:30", after := #[{ on := 16, ground := Go.Ground.data }, { on := 15, ground := Go.Ground.guard }], guard := some (15, false) },
  { dst := some 69, op := Go.Op.move (Go.Operand.tmp 68), type := 4, pos := "law.go:30", after := #[{ on := 17, ground := Go.Ground.data }, { on := 15, ground := Go.Ground.chain }, { on := 15, ground := Go.Ground.guard }], guard := some (15, false) },
  { dst := some 70, op := Go.Op.load 24 (Go.Operand.tmp 12), type := 24, pos := "law.go:30", after := #[{ on := 18, ground := Go.Ground.guard }], guard := some (18, true) },
  { dst := some 71, op := Go.Op.move (Go.Operand.tmp 2), type := 3, pos := "law.go:30", after := #[{ on := 18, ground := Go.Ground.guard }], guard := some (18, true) },
  { dst := some 72, op := Go.Op.call { callee := Go.Callee.value (Go.Operand.func 21), args := #[Go.Operand.tmp 71], argTypes := #[3] }, type := 24, pos := "law.go:30", after := #[{ on := 20, ground := Go.Ground.data }, { on := 18, ground := Go.Ground.chain }, { on := 18, ground := Go.Ground.guard }], guard := some (18, true) },
  { dst := some 73, op := Go.Op.call { callee := Go.Callee.value (Go.Operand.func 20), args := #[Go.Operand.tmp 70, Go.Operand.tmp 72], argTypes := #[24, 24] }, type := 4, pos := "law.go:30", after := #[{ on := 19, ground := Go.Ground.data }, { on := 21, ground := Go.Ground.data }, { on := 21, ground := Go.Ground.chain }, { on := 18, ground := Go.Ground.guard }], guard := some (18, true) },
  { dst := some 74, op := Go.Op.unOp Go.UnOp.not 4 (Go.Operand.tmp 73), type := 4, pos := "law.go:30", after := #[{ on := 22, ground := Go.Ground.data }, { on := 18, ground := Go.Ground.guard }], guard := some (18, true) },
  { dst := some 75, op := Go.Op.pick (Go.Operand.tmp 69) (Go.Operand.tmp 74) (Go.Operand.const (Go.Value.bool false)), type := 4, pos := "law.go:30", after := #[{ on := 18, ground := Go.Ground.data }, { on := 23, ground := Go.Ground.data }, { on := 15, ground := Go.Ground.guard }], guard := some (15, false) },
  { dst := some 76, op := Go.Op.pick (Go.Operand.tmp 66) (Go.Operand.const (Go.Value.bool true)) (Go.Operand.tmp 75), type := 4, pos := "law.go:30", after := #[{ on := 15, ground := Go.Ground.data }, { on := 24, ground := Go.Ground.data }], guard := none },
  { dst := some 77, op := Go.Op.move (Go.Operand.tmp 76), type := 4, pos := "law.go:30", after := #[{ on := 25, ground := Go.Ground.data }, { on := 22, ground := Go.Ground.chain }], guard := none },
  { dst := some 78, op := Go.Op.move (Go.Operand.tmp 13), type := 31, pos := "law.go:30", after := #[{ on := 26, ground := Go.Ground.guard }], guard := some (26, false) },
  { dst := some 79, op := Go.Op.binOp Go.BinOp.neq 31 (Go.Operand.tmp 78) (Go.Operand.const (Go.Value.int Go.IntKind.i64 0)) 31, type := 4, pos := "law.go:30", after := #[{ on := 27, ground := Go.Ground.data }, { on := 26, ground := Go.Ground.guard }], guard := some (26, false) },
  { dst := some 80, op := Go.Op.move (Go.Operand.tmp 79), type := 4, pos := "law.go:30", after := #[{ on := 28, ground := Go.Ground.data }, { on := 26, ground := Go.Ground.chain }, { on := 26, ground := Go.Ground.guard }], guard := some (26, false) },
  { dst := some 81, op := Go.Op.move (Go.Operand.tmp 13), type := 31, pos := "law.go:30", after := #[{ on := 29, ground := Go.Ground.guard }], guard := some (29, true) },
  { dst := some 82, op := Go.Op.binOp Go.BinOp.neq 31 (Go.Operand.tmp 81) (Go.Operand.const (Go.Value.int Go.IntKind.i64 1)) 31, type := 4, pos := "law.go:30", after := #[{ on := 30, ground := Go.Ground.data }, { on := 29, ground := Go.Ground.guard }], guard := some (29, true) },
  { dst := some 83, op := Go.Op.move (Go.Operand.tmp 82), type := 4, pos := "law.go:30", after := #[{ on := 31, ground := Go.Ground.data }, { on := 29, ground := Go.Ground.chain }, { on := 29, ground := Go.Ground.guard }], guard := some (29, true) },
  { dst := some 84, op := Go.Op.load 24 (Go.Operand.tmp 12), type := 24, pos := "law.go:30", after := #[{ on := 32, ground := Go.Ground.guard }], guard := some (32, false) },
  { dst := some 85, op := Go.Op.build 24 #[], type := 24, pos := "law.go:30", after := #[{ on := 32, ground := Go.Ground.guard }], guard := some (32, false) },
  { dst := some 86, op := Go.Op.call { callee := Go.Callee.value (Go.Operand.func 20), args := #[Go.Operand.tmp 84, Go.Operand.tmp 85], argTypes := #[24, 24] }, type := 4, pos := "law.go:30", after := #[{ on := 33, ground := Go.Ground.data }, { on := 34, ground := Go.Ground.data }, { on := 32, ground := Go.Ground.chain }, { on := 32, ground := Go.Ground.guard }], guard := some (32, false) },
  { dst := some 87, op := Go.Op.unOp Go.UnOp.not 4 (Go.Operand.tmp 86), type := 4, pos := "law.go:30", after := #[{ on := 35, ground := Go.Ground.data }, { on := 32, ground := Go.Ground.guard }], guard := some (32, false) },
  { dst := some 88, op := Go.Op.pick (Go.Operand.tmp 83) (Go.Operand.const (Go.Value.bool true)) (Go.Operand.tmp 87), type := 4, pos := "law.go:30", after := #[{ on := 32, ground := Go.Ground.data }, { on := 36, ground := Go.Ground.data }, { on := 29, ground := Go.Ground.guard }], guard := some (29, true) },
  { dst := some 89, op := Go.Op.pick (Go.Operand.tmp 80) (Go.Operand.tmp 88) (Go.Operand.const (Go.Value.bool false)), type := 4, pos := "law.go:30", after := #[{ on := 29, ground := Go.Ground.data }, { on := 37, ground := Go.Ground.data }, { on := 26, ground := Go.Ground.guard }], guard := some (26, false) },
  { dst := some 90, op := Go.Op.pick (Go.Operand.tmp 77) (Go.Operand.const (Go.Value.bool true)) (Go.Operand.tmp 89), type := 4, pos := "law.go:30", after := #[{ on := 26, ground := Go.Ground.data }, { on := 38, ground := Go.Ground.data }], guard := none }]
set_option maxHeartbeats 16000000 in
set_option maxRecDepth 100000 in
theorem forestRight8A_region {Q : Exit → Act → World → Prop} {a0 : Act} {W : World} (hsz : factsOK forestRight8AOps a0.tmps.size = true) {R : Bool} {most : Int} {q1 : Nat} {na : Option Addr} {nl nc : Nat} {LN : List NodeD} {m : Int} {q0 : Nat} {fa : Option Addr} {fl fc : Nat}
    (hq0 : q0 < W.heap.size) (hc00 : W.cell? ⟨q0, 0, none⟩ = some (.slice fa fl fc)) (hc01 : W.cell? ⟨q0, 1, none⟩ = some (.int .i64 m))
    (hq1 : q1 < W.heap.size) (hc10 : W.cell? ⟨q1, 0, none⟩ = some (.slice na nl nc)) (hc11 : W.cell? ⟨q1, 1, none⟩ = some (.int .i64 most)) (hn : NodeRow W na nl nc LN) (hcn : coreL LN = [docC]) (hm1 : most ≥ 1) (hm2 : most ≤ 400)

    (h2 : a0.tmps[2]? = some (.int .i64 most))
    (h5 : a0.tmps[5]? = some (.pointer (some ⟨q0, 0, none⟩)))
    (h11 : a0.tmps[11]? = some (.bool R))
    (h12 : a0.tmps[12]? = some (.pointer (some ⟨q1, 0, none⟩)))
    (h13 : a0.tmps[13]? = some (.int .i64 0))
    (C1 : CallFact Try.prog 19 #[forV fa fl fc m] W (isV (.bool R)))
    (C21 : CallFact Try.prog 21 #[.int .i64 most] W (forestF most [docC]))
    (hQ : ∀ (v : Nat → Value) w', Below W.heap.size W w' → Q .normal ⟨(puts a0.tmps.toList [(some 51, v 0), (some 52, v 1), (some 53, v 2), (some 54, v 3), (some 55, v 4), (some 56, v 5), (some 57, v 6), (some 58, v 7), (some 59, v 8), (some 60, v 9), (some 61, v 10), (some 62, v 11), (some 63, v 12), (some 64, v 13), (some 65, v 14), (some 66, v 15), (some 67, v 16), (some 68, v 17), (some 69, v 18), (some 70, v 19), (some 71, v 20), (some 72, v 21), (some 73, v 22), (some 74, v 23), (some 75, v 24), (some 76, v 25), (some 77, v 26), (some 78, v 27), (some 79, v 28), (some 80, v 29), (some 81, v 30), (some 82, v 31), (some 83, v 32), (some 84, v 33), (some 85, v 34), (some 86, v 35), (some 87, v 36), (some 88, v 37), (some 89, v 38), (some 90, .bool false)]).toArray, a0.defers⟩ w') :
    (Code.region 8 forestRight8AOps.toArray true).wp Try.prog Q a0 W := by
  refine wp_region_facts [isV (forV fa fl fc m), isV (.bool R), isV (.bool R), isV (.bool false), isV (.bool false), isV (.int .i64 0), isV (.bool true), isV (.int .i64 most), isV (.bool true), isV (.bool true), isV (.int .i64 most), isV (.bool true), isV (.bool true), isV (.bool false), isV (.bool false), isV (.bool false), isV (.int .i64 0), isV (.bool true), isV (.bool true), isV (forV na nl nc most), isV (.int .i64 most), forestF most [docC], isV (.bool true), isV (.bool false), isV (.bool false), isV (.bool false), isV (.bool false), isV (.int .i64 0), isV (.bool false), isV (.bool false), isV (undef), isV (undef), isV (undef), isV (undef), isV (undef), isV (undef), isV (undef), isV (undef), isV (.bool false), isV (.bool false)] (by kernel_rfl) hsz rfl (.cons ?_ (.cons ?_ (.cons ?_ (.cons ?_ (.cons ?_ (.cons ?_ (.cons ?_ (.cons ?_ (.cons ?_ (.cons ?_ (.cons ?_ (.cons ?_ (.cons ?_ (.cons ?_ (.cons ?_ (.cons ?_ (.cons ?_ (.cons ?_ (.cons ?_ (.cons ?_ (.cons ?_ (.cons ?_ (.cons ?_ (.cons ?_ (.cons ?_ (.cons ?_ (.cons ?_ (.cons ?_ (.cons ?_ (.cons ?_ (.cons ?_ (.cons ?_ (.cons ?_ (.cons ?_ (.cons ?_ (.cons ?_ (.cons ?_ (.cons ?_ (.cons ?_ (.cons ?_ .nil)))))))))))))))))))))))))))))))))))))))) ?_
  · intro a w v K h hK
    rw [if_pos (wanted_none rfl)]
    have e5 := h.out (t := 5) (by kernel_rfl) h5
    have c0 := (h.below.cell (p := ⟨q0, 0, none⟩) hq0).trans hc00
    have c1 := (h.below.cell (p := ⟨q0, 1, none⟩) hq0).trans hc01
    have hK := Lib.hid hK; clear h
    go_simp
    exact hK.out _ _ rfl (Below.refl _ _)
  · intro a w v K h hK
    rw [if_pos (wanted_none rfl)]
    have e51 := h.at_ (j := 0) (d := 51) (by decide) (by kernel_rfl) rfl rfl
    have hc := C1 w h.below
    have hK := Lib.hid hK; clear h
    go_simp
    refine hc.mono ?_
    rintro e w' ⟨u, rfl, hu, hb⟩
    exact hK.out _ _ hu hb
  · intro a w v K h hK
    rw [if_pos (wanted_none rfl)]
    have e11 := h.out (t := 11) (by kernel_rfl) h11
    have hK := Lib.hid hK; clear h
    go_simp
    exact hK.out _ _ rfl (Below.refl _ _)
  · intro a w v K h hK
    rw [if_pos (wanted_none rfl)]
    have e52 := h.at_ (j := 1) (d := 52) (by decide) (by kernel_rfl) rfl rfl
    have e53 := h.at_ (j := 2) (d := 53) (by decide) (by kernel_rfl) rfl rfl
    have hK := Lib.hid hK; clear h
    go_simp
    exact hK.out _ _ rfl (Below.refl _ _)
  · intro a w v K h hK
    rw [if_pos (wanted_none rfl)]
    have e54 := h.at_ (j := 3) (d := 54) (by decide) (by kernel_rfl) rfl rfl
    have hK := Lib.hid hK; clear h
    go_simp
    exact hK.out _ _ rfl (Below.refl _ _)
  · intro a w v K h hK
    have e55 := h.at_ (j := 4) (d := 55) (by decide) (by kernel_rfl) rfl rfl
    rw [if_pos (wanted_some (l := forestRight8AOps) rfl rfl e55)]
    have e13 := h.out (t := 13) (by kernel_rfl) h13
    have hK := Lib.hid hK; clear h
    go_simp
    exact hK.out _ _ rfl (Below.refl _ _)
  · intro a w v K h hK
    have e55 := h.at_ (j := 4) (d := 55) (by decide) (by kernel_rfl) rfl rfl
    rw [if_pos (wanted_some (l := forestRight8AOps) rfl rfl e55)]
    have e56 := h.at_ (j := 5) (d := 56) (by decide) (by kernel_rfl) rfl rfl
    have hK := Lib.hid hK; clear h
    go_simp
    exact hK.out _ _ rfl (Below.refl _ _)
  · intro a w v K h hK
    have e55 := h.at_ (j := 4) (d := 55) (by decide) (by kernel_rfl) rfl rfl
    rw [if_pos (wanted_some (l := forestRight8AOps) rfl rfl e55)]
    have e2 := h.out (t := 2) (by kernel_rfl) h2
    have hK := Lib.hid hK; clear h
    go_simp
    exact hK.out _ _ rfl (Below.refl _ _)
  · intro a w v K h hK
    have e55 := h.at_ (j := 4) (d := 55) (by decide) (by kernel_rfl) rfl rfl
    rw [if_pos (wanted_some (l := forestRight8AOps) rfl rfl e55)]
    have e58 := h.at_ (j := 7) (d := 58) (by decide) (by kernel_rfl) rfl rfl
    have hK := Lib.hid hK; clear h
    go_simp
    exact hK.out _ _ rfl (Below.refl _ _)
  · intro a w v K h hK
    have e55 := h.at_ (j := 4) (d := 55) (by decide) (by kernel_rfl) rfl rfl
    rw [if_pos (wanted_some (l := forestRight8AOps) rfl rfl e55)]
    have e59 := h.at_ (j := 8) (d := 59) (by decide) (by kernel_rfl) rfl rfl
    have hK := Lib.hid hK; clear h
    go_simp
    exact hK.out _ _ rfl (Below.refl _ _)
  · intro a w v K h hK
    have e60 := h.at_ (j := 9) (d := 60) (by decide) (by kernel_rfl) rfl rfl
    rw [if_pos (wanted_some (l := forestRight8AOps) rfl rfl e60)]
    have e2 := h.out (t := 2) (by kernel_rfl) h2
    have hK := Lib.hid hK; clear h
    go_simp
    exact hK.out _ _ rfl (Below.refl _ _)
  · intro a w v K h hK
    have e60 := h.at_ (j := 9) (d := 60) (by decide) (by kernel_rfl) rfl rfl
    rw [if_pos (wanted_some (l := forestRight8AOps) rfl rfl e60)]
    have e61 := h.at_ (j := 10) (d := 61) (by decide) (by kernel_rfl) rfl rfl
    have hK := Lib.hid hK; clear h
    go_simp
    exact hK.out _ _ rfl (Below.refl _ _)
  · intro a w v K h hK
    have e55 := h.at_ (j := 4) (d := 55) (by decide) (by kernel_rfl) rfl rfl
    rw [if_pos (wanted_some (l := forestRight8AOps) rfl rfl e55)]
    have e60 := h.at_ (j := 9) (d := 60) (by decide) (by kernel_rfl) rfl rfl
    have e62 := h.at_ (j := 11) (d := 62) (by decide) (by kernel_rfl) rfl rfl
    have hK := Lib.hid hK; clear h
    go_simp
    exact hK.out _ _ rfl (Below.refl _ _)
  · intro a w v K h hK
    have e55 := h.at_ (j := 4) (d := 55) (by decide) (by kernel_rfl) rfl rfl
    rw [if_pos (wanted_some (l := forestRight8AOps) rfl rfl e55)]
    have e57 := h.at_ (j := 6) (d := 57) (by decide) (by kernel_rfl) rfl rfl
    have e63 := h.at_ (j := 12) (d := 63) (by decide) (by kernel_rfl) rfl rfl
    have hK := Lib.hid hK; clear h
    go_simp
    exact hK.out _ _ rfl (Below.refl _ _)
  · intro a w v K h hK
    rw [if_pos (wanted_none rfl)]
    have e55 := h.at_ (j := 4) (d := 55) (by decide) (by kernel_rfl) rfl rfl
    have e64 := h.at_ (j := 13) (d := 64) (by decide) (by kernel_rfl) rfl rfl
    have hK := Lib.hid hK; clear h
    go_simp
    exact hK.out _ _ rfl (Below.refl _ _)
  · intro a w v K h hK
    rw [if_pos (wanted_none rfl)]
    have e65 := h.at_ (j := 14) (d := 65) (by decide) (by kernel_rfl) rfl rfl
    have hK := Lib.hid hK; clear h
    go_simp
    exact hK.out _ _ rfl (Below.refl _ _)
  · intro a w v K h hK
    have e66 := h.at_ (j := 15) (d := 66) (by decide) (by kernel_rfl) rfl rfl
    rw [if_pos (wanted_some (l := forestRight8AOps) rfl rfl e66)]
    have e13 := h.out (t := 13) (by kernel_rfl) h13
    have hK := Lib.hid hK; clear h
    go_simp
    exact hK.out _ _ rfl (Below.refl _ _)
  · intro a w v K h hK
    have e66 := h.at_ (j := 15) (d := 66) (by decide) (by kernel_rfl) rfl rfl
    rw [if_pos (wanted_some (l := forestRight8AOps) rfl rfl e66)]
    have e67 := h.at_ (j := 16) (d := 67) (by decide) (by kernel_rfl) rfl rfl
    have hK := Lib.hid hK; clear h
    go_simp
    exact hK.out _ _ rfl (Below.refl _ _)
  · intro a w v K h hK
    have e66 := h.at_ (j := 15) (d := 66) (by decide) (by kernel_rfl) rfl rfl
    rw [if_pos (wanted_some (l := forestRight8AOps) rfl rfl e66)]
    have e68 := h.at_ (j := 17) (d := 68) (by decide) (by kernel_rfl) rfl rfl
    have hK := Lib.hid hK; clear h
    go_simp
    exact hK.out _ _ rfl (Below.refl _ _)
  · intro a w v K h hK
    have e69 := h.at_ (j := 18) (d := 69) (by decide) (by kernel_rfl) rfl rfl
    rw [if_pos (wanted_some (l := forestRight8AOps) rfl rfl e69)]
    have e12 := h.out (t := 12) (by kernel_rfl) h12
    have c0 := (h.below.cell (p := ⟨q1, 0, none⟩) hq1).trans hc10
    have c1 := (h.below.cell (p := ⟨q1, 1, none⟩) hq1).trans hc11
    have hK := Lib.hid hK; clear h
    go_simp
    exact hK.out _ _ rfl (Below.refl _ _)
  · intro a w v K h hK
    have e69 := h.at_ (j := 18) (d := 69) (by decide) (by kernel_rfl) rfl rfl
    rw [if_pos (wanted_some (l := forestRight8AOps) rfl rfl e69)]
    have e2 := h.out (t := 2) (by kernel_rfl) h2
    have hK := Lib.hid hK; clear h
    go_simp
    exact hK.out _ _ rfl (Below.refl _ _)
  · intro a w v K h hK
    have e69 := h.at_ (j := 18) (d := 69) (by decide) (by kernel_rfl) rfl rfl
    rw [if_pos (wanted_some (l := forestRight8AOps) rfl rfl e69)]
    have e71 := h.at_ (j := 20) (d := 71) (by decide) (by kernel_rfl) rfl rfl
    have hc := C21 w h.below
    have hK := Lib.hid hK; clear h
    go_simp
    refine hc.mono ?_
    rintro e w' ⟨u, rfl, hu, hb⟩
    exact hK.out _ _ hu hb
  · intro a w v K h hK
    have e69 := h.at_ (j := 18) (d := 69) (by decide) (by kernel_rfl) rfl rfl
    rw [if_pos (wanted_some (l := forestRight8AOps) rfl rfl e69)]
    have e70 := h.at_ (j := 19) (d := 70) (by decide) (by kernel_rfl) rfl rfl
    obtain ⟨u72, e72, r72⟩ := h.with (j := 21) (d := 72) (by decide) (by kernel_rfl) rfl rfl
    obtain ⟨a1, l1, c1', L1, rfl, hr1, hk1⟩ := r72
    have hc := fact_same (m := most) (hn.below h.below) hr1 (hcn.trans hk1.symm)
    have hK := Lib.hid hK; clear h
    go_simp
    refine hc.mono ?_
    rintro e w' ⟨u, rfl, hu, hb⟩
    exact hK.out _ _ hu hb
  · intro a w v K h hK
    have e69 := h.at_ (j := 18) (d := 69) (by decide) (by kernel_rfl) rfl rfl
    rw [if_pos (wanted_some (l := forestRight8AOps) rfl rfl e69)]
    have e73 := h.at_ (j := 22) (d := 73) (by decide) (by kernel_rfl) rfl rfl
    have hK := Lib.hid hK; clear h
    go_simp
    exact hK.out _ _ rfl (Below.refl _ _)
  · intro a w v K h hK
    have e66 := h.at_ (j := 15) (d := 66) (by decide) (by kernel_rfl) rfl rfl
    rw [if_pos (wanted_some (l := forestRight8AOps) rfl rfl e66)]
    have e69 := h.at_ (j := 18) (d := 69) (by decide) (by kernel_rfl) rfl rfl
    have e74 := h.at_ (j := 23) (d := 74) (by decide) (by kernel_rfl) rfl rfl
    have hK := Lib.hid hK; clear h
    go_simp
    exact hK.out _ _ rfl (Below.refl _ _)
  · intro a w v K h hK
    rw [if_pos (wanted_none rfl)]
    have e66 := h.at_ (j := 15) (d := 66) (by decide) (by kernel_rfl) rfl rfl
    have e75 := h.at_ (j := 24) (d := 75) (by decide) (by kernel_rfl) rfl rfl
    have hK := Lib.hid hK; clear h
    go_simp
    exact hK.out _ _ rfl (Below.refl _ _)
  · intro a w v K h hK
    rw [if_pos (wanted_none rfl)]
    have e76 := h.at_ (j := 25) (d := 76) (by decide) (by kernel_rfl) rfl rfl
    have hK := Lib.hid hK; clear h
    go_simp
    exact hK.out _ _ rfl (Below.refl _ _)
  · intro a w v K h hK
    have e77 := h.at_ (j := 26) (d := 77) (by decide) (by kernel_rfl) rfl rfl
    rw [if_pos (wanted_some (l := forestRight8AOps) rfl rfl e77)]
    have e13 := h.out (t := 13) (by kernel_rfl) h13
    have hK := Lib.hid hK; clear h
    go_simp
    exact hK.out _ _ rfl (Below.refl _ _)
  · intro a w v K h hK
    have e77 := h.at_ (j := 26) (d := 77) (by decide) (by kernel_rfl) rfl rfl
    rw [if_pos (wanted_some (l := forestRight8AOps) rfl rfl e77)]
    have e78 := h.at_ (j := 27) (d := 78) (by decide) (by kernel_rfl) rfl rfl
    have hK := Lib.hid hK; clear h
    go_simp
    exact hK.out _ _ rfl (Below.refl _ _)
  · intro a w v K h hK
    have e77 := h.at_ (j := 26) (d := 77) (by decide) (by kernel_rfl) rfl rfl
    rw [if_pos (wanted_some (l := forestRight8AOps) rfl rfl e77)]
    have e79 := h.at_ (j := 28) (d := 79) (by decide) (by kernel_rfl) rfl rfl
    have hK := Lib.hid hK; clear h
    go_simp
    exact hK.out _ _ rfl (Below.refl _ _)
  · intro a w v K h hK
    have e80 := h.at_ (j := 29) (d := 80) (by decide) (by kernel_rfl) rfl rfl
    rw [if_neg (wanted_not (l := forestRight8AOps) (g := 29) (want := true) rfl rfl e80 (by decide))]
    exact hK _ _ rfl (Below.refl _ _)
  · intro a w v K h hK
    have e80 := h.at_ (j := 29) (d := 80) (by decide) (by kernel_rfl) rfl rfl
    rw [if_neg (wanted_not (l := forestRight8AOps) (g := 29) (want := true) rfl rfl e80 (by decide))]
    exact hK _ _ rfl (Below.refl _ _)
  · intro a w v K h hK
    have e80 := h.at_ (j := 29) (d := 80) (by decide) (by kernel_rfl) rfl rfl
    rw [if_neg (wanted_not (l := forestRight8AOps) (g := 29) (want := true) rfl rfl e80 (by decide))]
    exact hK _ _ rfl (Below.refl _ _)
  · intro a w v K h hK
    have e83 := h.at_ (j := 32) (d := 83) (by decide) (by kernel_rfl) rfl rfl
    rw [if_neg (wanted_undef (l := forestRight8AOps) (g := 32) (want := false) rfl rfl e83)]
    exact hK _ _ rfl (Below.refl _ _)
  · intro a w v K h hK
    have e83 := h.at_ (j := 32) (d := 83) (by decide) (by kernel_rfl) rfl rfl
    rw [if_neg (wanted_undef (l := forestRight8AOps) (g := 32) (want := false) rfl rfl e83)]
    exact hK _ _ rfl (Below.refl _ _)
  · intro a w v K h hK
    have e83 := h.at_ (j := 32) (d := 83) (by decide) (by kernel_rfl) rfl rfl
    rw [if_neg (wanted_undef (l := forestRight8AOps) (g := 32) (want := false) rfl rfl e83)]
    exact hK _ _ rfl (Below.refl _ _)
  · intro a w v K h hK
    have e83 := h.at_ (j := 32) (d := 83) (by decide) (by kernel_rfl) rfl rfl
    rw [if_neg (wanted_undef (l := forestRight8AOps) (g := 32) (want := false) rfl rfl e83)]
    exact hK _ _ rfl (Below.refl _ _)
  · intro a w v K h hK
    have e80 := h.at_ (j := 29) (d := 80) (by decide) (by kernel_rfl) rfl rfl
    rw [if_neg (wanted_not (l := forestRight8AOps) (g := 29) (want := true) rfl rfl e80 (by decide))]
    exact hK _ _ rfl (Below.refl _ _)
  · intro a w v K h hK
    have e77 := h.at_ (j := 26) (d := 77) (by decide) (by kernel_rfl) rfl rfl
    rw [if_pos (wanted_some (l := forestRight8AOps) rfl rfl e77)]
    have e80 := h.at_ (j := 29) (d := 80) (by decide) (by kernel_rfl) rfl rfl
    have e88 := h.at_ (j := 37) (d := 88) (by decide) (by kernel_rfl) rfl rfl
    have hK := Lib.hid hK; clear h
    go_simp
    exact hK.out _ _ rfl (Below.refl _ _)
  · intro a w v K h hK
    rw [if_pos (wanted_none rfl)]
    have e77 := h.at_ (j := 26) (d := 77) (by decide) (by kernel_rfl) rfl rfl
    have e89 := h.at_ (j := 38) (d := 89) (by decide) (by kernel_rfl) rfl rfl
    have hK := Lib.hid hK; clear h
    go_simp
    exact hK.out _ _ rfl (Below.refl _ _)
  · intro v w' hb hf
    have e : v 39 = .bool false := hf 39 (by decide) _ rfl
    have := hQ v w' hb
    rw [← e] at this
    exact this
def forestRight8BOps : List Oper := [
  { dst := some 51, op := Go.Op.load 24 (Go.Operand.tmp 5), type := 24, pos := "law.go:30", after := #[], guard := none },
  { dst := some 52, op := Go.Op.call { callee := Go.Callee.value (Go.Operand.func 19), args := #[Go.Operand.tmp 51], argTypes := #[24] }, type := 4, pos := "law.go:30", after := #[{ on := 0, ground := Go.Ground.data }], guard := none },
  { dst := some 53, op := Go.Op.move (Go.Operand.tmp 11), type := 4, pos := "law.go:30", after := #[], guard := none },
  { dst := some 54, op := Go.Op.binOp Go.BinOp.neq 4 (Go.Operand.tmp 52) (Go.Operand.tmp 53) 4, type := 4, pos := "law.go:30", after := #[{ on := 1, ground := Go.Ground.data }, { on := 2, ground := Go.Ground.data }], guard := none },
  { dst := some 55, op := Go.Op.move (Go.Operand.tmp 54), type := 4, pos := "law.go:30", after := #[{ on := 3, ground := Go.Ground.data }, { on := 1, ground := Go.Ground.chain }], guard := none },
  { dst := some 56, op := Go.Op.move (Go.Operand.tmp 13), type := 31, pos := "law.go:30", after := #[{ on := 4, ground := Go.Ground.guard }], guard := some (4, false) },
  { dst := some 57, op := Go.Op.binOp Go.BinOp.eql 31 (Go.Operand.tmp 56) (Go.Operand.const (Go.Value.int Go.IntKind.i64 0)) 31, type := 4, pos := "law.go:30", after := #[{ on := 5, ground := Go.Ground.data }, { on := 4, ground := Go.Ground.guard }], guard := some (4, false) },
  { dst := some 58, op := Go.Op.move (Go.Operand.tmp 2), type := 3, pos := "law.go:30", after := #[{ on := 4, ground := Go.Ground.guard }], guard := some (4, false) },
  { dst := some 59, op := Go.Op.binOp Go.BinOp.geq 3 (Go.Operand.tmp 58) (Go.Operand.const (Go.Value.int Go.IntKind.i64 1)) 3, type := 4, pos := "law.go:30", after := #[{ on := 7, ground := Go.Ground.data }, { on := 4, ground := Go.Ground.guard }], guard := some (4, false) },
  { dst := some 60, op := Go.Op.move (Go.Operand.tmp 59), type := 4, pos := "law.go:30", after := #[{ on := 8, ground := Go.Ground.data }, { on := 4, ground := Go.Ground.chain }, { on := 4, ground := Go.Ground.guard }], guard := some (4, false) },
  { dst := some 61, op := Go.Op.move (Go.Operand.tmp 2), type := 3, pos := "law.go:30", after := #[{ on := 9, ground := Go.Ground.guard }], guard := some (9, true) },
  { dst := some 62, op := Go.Op.binOp Go.BinOp.leq 3 (Go.Operand.tmp 61) (Go.Operand.const (Go.Value.int Go.IntKind.i64 400)) 3, type := 4, pos := "law.go:30", after := #[{ on := 10, ground := Go.Ground.data }, { on := 9, ground := Go.Ground.guard }], guard := some (9, true) },
  { dst := some 63, op := Go.Op.pick (Go.Operand.tmp 60) (Go.Operand.tmp 62) (Go.Operand.const (Go.Value.bool false)), type := 4, pos := "law.go:30", after := #[{ on := 9, ground := Go.Ground.data }, { on := 11, ground := Go.Ground.data }, { on := 4, ground := Go.Ground.guard }], guard := some (4, false) },
  { dst := some 64, op := Go.Op.binOp Go.BinOp.neq 4 (Go.Operand.tmp 57) (Go.Operand.tmp 63) 4, type := 4, pos := "law.go:30", after := #[{ on := 6, ground := Go.Ground.data }, { on := 12, ground := Go.Ground.data }, { on := 4, ground := Go.Ground.guard }], guard := some (4, false) },
  { dst := some 65, op := Go.Op.pick (Go.Operand.tmp 55) (Go.Operand.const (Go.Value.bool true)) (Go.Operand.tmp 64), type := 4, pos := "law.go:30", after := #[{ on := 4, ground := Go.Ground.data }, { on := 13, ground := Go.Ground.data }], guard := none },
  { dst := some 66, op := Go.Op.move (Go.Operand.tmp 65), type := 4, pos := "law.go:30", after := #[{ on := 14, ground := Go.Ground.data }, { on := 9, ground := Go.Ground.chain }], guard := none },
  { dst := some 67, op := Go.Op.move (Go.Operand.tmp 13), type := 31, pos := "law.go:30", after := #[{ on := 15, ground := Go.Ground.guard }], guard := some (15, false) },
  { dst := some 68, op := Go.Op.binOp Go.BinOp.eql 31 (Go.Operand.tmp 67) (Go.Operand.const (Go.Value.int Go.IntKind.i64 0)) 31, type := 4, pos := "law.go:30", after := #[{ on := 16, ground := Go.Ground.data }, { on := 15, ground := Go.Ground.guard }], guard := some (15, false) },
  { dst := some 69, op := Go.Op.move (Go.Operand.tmp 68), type := 4, pos := "law.go:30", after := #[{ on := 17, ground := Go.Ground.data }, { on := 15, ground := Go.Ground.chain }, { on := 15, ground := Go.Ground.guard }], guard := some (15, false) },
  { dst := some 70, op := Go.Op.load 24 (Go.Operand.tmp 12), type := 24, pos := "law.go:30", after := #[{ on := 18, ground := Go.Ground.guard }], guard := some (18, true) },
  { dst := some 71, op := Go.Op.move (Go.Operand.tmp 2), type := 3, pos := "law.go:30", after := #[{ on := 18, ground := Go.Ground.guard }], guard := some (18, true) },
  { dst := some 72, op := Go.Op.call { callee := Go.Callee.value (Go.Operand.func 21), args := #[Go.Operand.tmp 71], argTypes := #[3] }, type := 24, pos := "law.go:30", after := #[{ on := 20, ground := Go.Ground.data }, { on := 18, ground := Go.Ground.chain }, { on := 18, ground := Go.Ground.guard }], guard := some (18, true) },
  { dst := some 73, op := Go.Op.call { callee := Go.Callee.value (Go.Operand.func 20), args := #[Go.Operand.tmp 70, Go.Operand.tmp 72], argTypes := #[24, 24] }, type := 4, pos := "law.go:30", after := #[{ on := 19, ground := Go.Ground.data }, { on := 21, ground := Go.Ground.data }, { on := 21, ground := Go.Ground.chain }, { on := 18, ground := Go.Ground.guard }], guard := some (18, true) },
  { dst := some 74, op := Go.Op.unOp Go.UnOp.not 4 (Go.Operand.tmp 73), type := 4, pos := "law.go:30", after := #[{ on := 22, ground := Go.Ground.data }, { on := 18, ground := Go.Ground.guard }], guard := some (18, true) },
  { dst := some 75, op := Go.Op.pick (Go.Operand.tmp 69) (Go.Operand.tmp 74) (Go.Operand.const (Go.Value.bool false)), type := 4, pos := "law.go:30", after := #[{ on := 18, ground := Go.Ground.data }, { on := 23, ground := Go.Ground.data }, { on := 15, ground := Go.Ground.guard }], guard := some (15, false) },
  { dst := some 76, op := Go.Op.pick (Go.Operand.tmp 66) (Go.Operand.const (Go.Value.bool true)) (Go.Operand.tmp 75), type := 4, pos := "law.go:30", after := #[{ on := 15, ground := Go.Ground.data }, { on := 24, ground := Go.Ground.data }], guard := none },
  { dst := some 77, op := Go.Op.move (Go.Operand.tmp 76), type := 4, pos := "law.go:30", after := #[{ on := 25, ground := Go.Ground.data }, { on := 22, ground := Go.Ground.chain }], guard := none },
  { dst := some 78, op := Go.Op.move (Go.Operand.tmp 13), type := 31, pos := "law.go:30", after := #[{ on := 26, ground := Go.Ground.guard }], guard := some (26, false) },
  { dst := some 79, op := Go.Op.binOp Go.BinOp.neq 31 (Go.Operand.tmp 78) (Go.Operand.const (Go.Value.int Go.IntKind.i64 0)) 31, type := 4, pos := "law.go:30", after := #[{ on := 27, ground := Go.Ground.data }, { on := 26, ground := Go.Ground.guard }], guard := some (26, false) },
  { dst := some 80, op := Go.Op.move (Go.Operand.tmp 79), type := 4, pos := "law.go:30", after := #[{ on := 28, ground := Go.Ground.data }, { on := 26, ground := Go.Ground.chain }, { on := 26, ground := Go.Ground.guard }], guard := some (26, false) },
  { dst := some 81, op := Go.Op.move (Go.Operand.tmp 13), type := 31, pos := "law.go:30", after := #[{ on := 29, ground := Go.Ground.guard }], guard := some (29, true) },
  { dst := some 82, op := Go.Op.binOp Go.BinOp.neq 31 (Go.Operand.tmp 81) (Go.Operand.const (Go.Value.int Go.IntKind.i64 1)) 31, type := 4, pos := "law.go:30", after := #[{ on := 30, ground := Go.Ground.data }, { on := 29, ground := Go.Ground.guard }], guard := some (29, true) },
  { dst := some 83, op := Go.Op.move (Go.Operand.tmp 82), type := 4, pos := "law.go:30", after := #[{ on := 31, ground := Go.Ground.data }, { on := 29, ground := Go.Ground.chain }, { on := 29, ground := Go.Ground.guard }], guard := some (29, true) },
  { dst := some 84, op := Go.Op.load 24 (Go.Operand.tmp 12), type := 24, pos := "law.go:30", after := #[{ on := 32, ground := Go.Ground.guard }], guard := some (32, false) },
  { dst := some 85, op := Go.Op.build 24 #[], type := 24, pos := "law.go:30", after := #[{ on := 32, ground := Go.Ground.guard }], guard := some (32, false) },
  { dst := some 86, op := Go.Op.call { callee := Go.Callee.value (Go.Operand.func 20), args := #[Go.Operand.tmp 84, Go.Operand.tmp 85], argTypes := #[24, 24] }, type := 4, pos := "law.go:30", after := #[{ on := 33, ground := Go.Ground.data }, { on := 34, ground := Go.Ground.data }, { on := 32, ground := Go.Ground.chain }, { on := 32, ground := Go.Ground.guard }], guard := some (32, false) },
  { dst := some 87, op := Go.Op.unOp Go.UnOp.not 4 (Go.Operand.tmp 86), type := 4, pos := "law.go:30", after := #[{ on := 35, ground := Go.Ground.data }, { on := 32, ground := Go.Ground.guard }], guard := some (32, false) },
  { dst := some 88, op := Go.Op.pick (Go.Operand.tmp 83) (Go.Operand.const (Go.Value.bool true)) (Go.Operand.tmp 87), type := 4, pos := "law.go:30", after := #[{ on := 32, ground := Go.Ground.data }, { on := 36, ground := Go.Ground.data }, { on := 29, ground := Go.Ground.guard }], guard := some (29, true) },
  { dst := some 89, op := Go.Op.pick (Go.Operand.tmp 80) (Go.Operand.tmp 88) (Go.Operand.const (Go.Value.bool false)), type := 4, pos := "law.go:30", after := #[{ on := 29, ground := Go.Ground.data }, { on := 37, ground := Go.Ground.data }, { on := 26, ground := Go.Ground.guard }], guard := some (26, false) },
  { dst := some 90, op := Go.Op.pick (Go.Operand.tmp 77) (Go.Operand.const (Go.Value.bool true)) (Go.Operand.tmp 89), type := 4, pos := "law.go:30", after := #[{ on := 26, ground := Go.Ground.data }, { on := 38, ground := Go.Ground.data }], guard := none }]
set_option maxHeartbeats 16000000 in
set_option maxRecDepth 100000 in
theorem forestRight8B_region {Q : Exit → Act → World → Prop} {a0 : Act} {W : World} (hsz : factsOK forestRight8BOps a0.tmps.size = true) {R : Bool} {most : Int} {q1 : Nat} {na : Option Addr} {nl nc : Nat} {LN : List NodeD} {m : Int} {q0 : Nat} {fa : Option Addr} {fl fc : Nat}
    (hq0 : q0 < W.heap.size) (hc00 : W.cell? ⟨q0, 0, none⟩ = some (.slice fa fl fc)) (hc01 : W.cell? ⟨q0, 1, none⟩ = some (.int .i64 m))
    (hq1 : q1 < W.heap.size) (hc10 : W.cell? ⟨q1, 0, none⟩ = some (.slice na nl nc)) (hc11 : W.cell? ⟨q1, 1, none⟩ = some (.int .i64 0)) (hn : NodeRow W na nl nc LN) (hcn : coreL LN = []) (hm1 : ¬ most ≥ 1)

    (h2 : a0.tmps[2]? = some (.int .i64 most))
    (h5 : a0.tmps[5]? = some (.pointer (some ⟨q0, 0, none⟩)))
    (h11 : a0.tmps[11]? = some (.bool R))
    (h12 : a0.tmps[12]? = some (.pointer (some ⟨q1, 0, none⟩)))
    (h13 : a0.tmps[13]? = some (.int .i64 1))
    (C1 : CallFact Try.prog 19 #[forV fa fl fc m] W (isV (.bool R)))
    (hQ : ∀ (v : Nat → Value) w', Below W.heap.size W w' → Q .normal ⟨(puts a0.tmps.toList [(some 51, v 0), (some 52, v 1), (some 53, v 2), (some 54, v 3), (some 55, v 4), (some 56, v 5), (some 57, v 6), (some 58, v 7), (some 59, v 8), (some 60, v 9), (some 61, v 10), (some 62, v 11), (some 63, v 12), (some 64, v 13), (some 65, v 14), (some 66, v 15), (some 67, v 16), (some 68, v 17), (some 69, v 18), (some 70, v 19), (some 71, v 20), (some 72, v 21), (some 73, v 22), (some 74, v 23), (some 75, v 24), (some 76, v 25), (some 77, v 26), (some 78, v 27), (some 79, v 28), (some 80, v 29), (some 81, v 30), (some 82, v 31), (some 83, v 32), (some 84, v 33), (some 85, v 34), (some 86, v 35), (some 87, v 36), (some 88, v 37), (some 89, v 38), (some 90, .bool false)]).toArray, a0.defers⟩ w') :
    (Code.region 8 forestRight8BOps.toArray true).wp Try.prog Q a0 W := by
  refine wp_region_facts [isV (forV fa fl fc m), isV (.bool R), isV (.bool R), isV (.bool false), isV (.bool false), isV (.int .i64 1), isV (.bool false), isV (.int .i64 most), isV (.bool false), isV (.bool false), isV (undef), isV (undef), isV (.bool false), isV (.bool false), isV (.bool false), isV (.bool false), isV (.int .i64 1), isV (.bool false), isV (.bool false), isV (undef), isV (undef), isV (undef), isV (undef), isV (undef), isV (.bool false), isV (.bool false), isV (.bool false), isV (.int .i64 1), isV (.bool true), isV (.bool true), isV (.int .i64 1), isV (.bool false), isV (.bool false), isV (forV na nl nc 0), isV (.agg #[.slice none 0 0, .int .i64 0]), isV (.bool true), isV (.bool false), isV (.bool false), isV (.bool false), isV (.bool false)] (by kernel_rfl) hsz rfl (.cons ?_ (.cons ?_ (.cons ?_ (.cons ?_ (.cons ?_ (.cons ?_ (.cons ?_ (.cons ?_ (.cons ?_ (.cons ?_ (.cons ?_ (.cons ?_ (.cons ?_ (.cons ?_ (.cons ?_ (.cons ?_ (.cons ?_ (.cons ?_ (.cons ?_ (.cons ?_ (.cons ?_ (.cons ?_ (.cons ?_ (.cons ?_ (.cons ?_ (.cons ?_ (.cons ?_ (.cons ?_ (.cons ?_ (.cons ?_ (.cons ?_ (.cons ?_ (.cons ?_ (.cons ?_ (.cons ?_ (.cons ?_ (.cons ?_ (.cons ?_ (.cons ?_ (.cons ?_ .nil)))))))))))))))))))))))))))))))))))))))) ?_
  · intro a w v K h hK
    rw [if_pos (wanted_none rfl)]
    have e5 := h.out (t := 5) (by kernel_rfl) h5
    have c0 := (h.below.cell (p := ⟨q0, 0, none⟩) hq0).trans hc00
    have c1 := (h.below.cell (p := ⟨q0, 1, none⟩) hq0).trans hc01
    have hK := Lib.hid hK; clear h
    go_simp
    exact hK.out _ _ rfl (Below.refl _ _)
  · intro a w v K h hK
    rw [if_pos (wanted_none rfl)]
    have e51 := h.at_ (j := 0) (d := 51) (by decide) (by kernel_rfl) rfl rfl
    have hc := C1 w h.below
    have hK := Lib.hid hK; clear h
    go_simp
    refine hc.mono ?_
    rintro e w' ⟨u, rfl, hu, hb⟩
    exact hK.out _ _ hu hb
  · intro a w v K h hK
    rw [if_pos (wanted_none rfl)]
    have e11 := h.out (t := 11) (by kernel_rfl) h11
    have hK := Lib.hid hK; clear h
    go_simp
    exact hK.out _ _ rfl (Below.refl _ _)
  · intro a w v K h hK
    rw [if_pos (wanted_none rfl)]
    have e52 := h.at_ (j := 1) (d := 52) (by decide) (by kernel_rfl) rfl rfl
    have e53 := h.at_ (j := 2) (d := 53) (by decide) (by kernel_rfl) rfl rfl
    have hK := Lib.hid hK; clear h
    go_simp
    exact hK.out _ _ rfl (Below.refl _ _)
  · intro a w v K h hK
    rw [if_pos (wanted_none rfl)]
    have e54 := h.at_ (j := 3) (d := 54) (by decide) (by kernel_rfl) rfl rfl
    have hK := Lib.hid hK; clear h
    go_simp
    exact hK.out _ _ rfl (Below.refl _ _)
  · intro a w v K h hK
    have e55 := h.at_ (j := 4) (d := 55) (by decide) (by kernel_rfl) rfl rfl
    rw [if_pos (wanted_some (l := forestRight8BOps) rfl rfl e55)]
    have e13 := h.out (t := 13) (by kernel_rfl) h13
    have hK := Lib.hid hK; clear h
    go_simp
    exact hK.out _ _ rfl (Below.refl _ _)
  · intro a w v K h hK
    have e55 := h.at_ (j := 4) (d := 55) (by decide) (by kernel_rfl) rfl rfl
    rw [if_pos (wanted_some (l := forestRight8BOps) rfl rfl e55)]
    have e56 := h.at_ (j := 5) (d := 56) (by decide) (by kernel_rfl) rfl rfl
    have hK := Lib.hid hK; clear h
    go_simp
    exact hK.out _ _ rfl (Below.refl _ _)
  · intro a w v K h hK
    have e55 := h.at_ (j := 4) (d := 55) (by decide) (by kernel_rfl) rfl rfl
    rw [if_pos (wanted_some (l := forestRight8BOps) rfl rfl e55)]
    have e2 := h.out (t := 2) (by kernel_rfl) h2
    have hK := Lib.hid hK; clear h
    go_simp
    exact hK.out _ _ rfl (Below.refl _ _)
  · intro a w v K h hK
    have e55 := h.at_ (j := 4) (d := 55) (by decide) (by kernel_rfl) rfl rfl
    rw [if_pos (wanted_some (l := forestRight8BOps) rfl rfl e55)]
    have e58 := h.at_ (j := 7) (d := 58) (by decide) (by kernel_rfl) rfl rfl
    have hK := Lib.hid hK; clear h
    go_simp
    exact hK.out _ _ rfl (Below.refl _ _)
  · intro a w v K h hK
    have e55 := h.at_ (j := 4) (d := 55) (by decide) (by kernel_rfl) rfl rfl
    rw [if_pos (wanted_some (l := forestRight8BOps) rfl rfl e55)]
    have e59 := h.at_ (j := 8) (d := 59) (by decide) (by kernel_rfl) rfl rfl
    have hK := Lib.hid hK; clear h
    go_simp
    exact hK.out _ _ rfl (Below.refl _ _)
  · intro a w v K h hK
    have e60 := h.at_ (j := 9) (d := 60) (by decide) (by kernel_rfl) rfl rfl
    rw [if_neg (wanted_not (l := forestRight8BOps) (g := 9) (want := true) rfl rfl e60 (by decide))]
    exact hK _ _ rfl (Below.refl _ _)
  · intro a w v K h hK
    have e60 := h.at_ (j := 9) (d := 60) (by decide) (by kernel_rfl) rfl rfl
    rw [if_neg (wanted_not (l := forestRight8BOps) (g := 9) (want := true) rfl rfl e60 (by decide))]
    exact hK _ _ rfl (Below.refl _ _)
  · intro a w v K h hK
    have e55 := h.at_ (j := 4) (d := 55) (by decide) (by kernel_rfl) rfl rfl
    rw [if_pos (wanted_some (l := forestRight8BOps) rfl rfl e55)]
    have e60 := h.at_ (j := 9) (d := 60) (by decide) (by kernel_rfl) rfl rfl
    have e62 := h.at_ (j := 11) (d := 62) (by decide) (by kernel_rfl) rfl rfl
    have hK := Lib.hid hK; clear h
    go_simp
    exact hK.out _ _ rfl (Below.refl _ _)
  · intro a w v K h hK
    have e55 := h.at_ (j := 4) (d := 55) (by decide) (by kernel_rfl) rfl rfl
    rw [if_pos (wanted_some (l := forestRight8BOps) rfl rfl e55)]
    have e57 := h.at_ (j := 6) (d := 57) (by decide) (by kernel_rfl) rfl rfl
    have e63 := h.at_ (j := 12) (d := 63) (by decide) (by kernel_rfl) rfl rfl
    have hK := Lib.hid hK; clear h
    go_simp
    exact hK.out _ _ rfl (Below.refl _ _)
  · intro a w v K h hK
    rw [if_pos (wanted_none rfl)]
    have e55 := h.at_ (j := 4) (d := 55) (by decide) (by kernel_rfl) rfl rfl
    have e64 := h.at_ (j := 13) (d := 64) (by decide) (by kernel_rfl) rfl rfl
    have hK := Lib.hid hK; clear h
    go_simp
    exact hK.out _ _ rfl (Below.refl _ _)
  · intro a w v K h hK
    rw [if_pos (wanted_none rfl)]
    have e65 := h.at_ (j := 14) (d := 65) (by decide) (by kernel_rfl) rfl rfl
    have hK := Lib.hid hK; clear h
    go_simp
    exact hK.out _ _ rfl (Below.refl _ _)
  · intro a w v K h hK
    have e66 := h.at_ (j := 15) (d := 66) (by decide) (by kernel_rfl) rfl rfl
    rw [if_pos (wanted_some (l := forestRight8BOps) rfl rfl e66)]
    have e13 := h.out (t := 13) (by kernel_rfl) h13
    have hK := Lib.hid hK; clear h
    go_simp
    exact hK.out _ _ rfl (Below.refl _ _)
  · intro a w v K h hK
    have e66 := h.at_ (j := 15) (d := 66) (by decide) (by kernel_rfl) rfl rfl
    rw [if_pos (wanted_some (l := forestRight8BOps) rfl rfl e66)]
    have e67 := h.at_ (j := 16) (d := 67) (by decide) (by kernel_rfl) rfl rfl
    have hK := Lib.hid hK; clear h
    go_simp
    exact hK.out _ _ rfl (Below.refl _ _)
  · intro a w v K h hK
    have e66 := h.at_ (j := 15) (d := 66) (by decide) (by kernel_rfl) rfl rfl
    rw [if_pos (wanted_some (l := forestRight8BOps) rfl rfl e66)]
    have e68 := h.at_ (j := 17) (d := 68) (by decide) (by kernel_rfl) rfl rfl
    have hK := Lib.hid hK; clear h
    go_simp
    exact hK.out _ _ rfl (Below.refl _ _)
  · intro a w v K h hK
    have e69 := h.at_ (j := 18) (d := 69) (by decide) (by kernel_rfl) rfl rfl
    rw [if_neg (wanted_not (l := forestRight8BOps) (g := 18) (want := true) rfl rfl e69 (by decide))]
    exact hK _ _ rfl (Below.refl _ _)
  · intro a w v K h hK
    have e69 := h.at_ (j := 18) (d := 69) (by decide) (by kernel_rfl) rfl rfl
    rw [if_neg (wanted_not (l := forestRight8BOps) (g := 18) (want := true) rfl rfl e69 (by decide))]
    exact hK _ _ rfl (Below.refl _ _)
  · intro a w v K h hK
    have e69 := h.at_ (j := 18) (d := 69) (by decide) (by kernel_rfl) rfl rfl
    rw [if_neg (wanted_not (l := forestRight8BOps) (g := 18) (want := true) rfl rfl e69 (by decide))]
    exact hK _ _ rfl (Below.refl _ _)
  · intro a w v K h hK
    have e69 := h.at_ (j := 18) (d := 69) (by decide) (by kernel_rfl) rfl rfl
    rw [if_neg (wanted_not (l := forestRight8BOps) (g := 18) (want := true) rfl rfl e69 (by decide))]
    exact hK _ _ rfl (Below.refl _ _)
  · intro a w v K h hK
    have e69 := h.at_ (j := 18) (d := 69) (by decide) (by kernel_rfl) rfl rfl
    rw [if_neg (wanted_not (l := forestRight8BOps) (g := 18) (want := true) rfl rfl e69 (by decide))]
    exact hK _ _ rfl (Below.refl _ _)
  · intro a w v K h hK
    have e66 := h.at_ (j := 15) (d := 66) (by decide) (by kernel_rfl) rfl rfl
    rw [if_pos (wanted_some (l := forestRight8BOps) rfl rfl e66)]
    have e69 := h.at_ (j := 18) (d := 69) (by decide) (by kernel_rfl) rfl rfl
    have e74 := h.at_ (j := 23) (d := 74) (by decide) (by kernel_rfl) rfl rfl
    have hK := Lib.hid hK; clear h
    go_simp
    exact hK.out _ _ rfl (Below.refl _ _)
  · intro a w v K h hK
    rw [if_pos (wanted_none rfl)]
    have e66 := h.at_ (j := 15) (d := 66) (by decide) (by kernel_rfl) rfl rfl
    have e75 := h.at_ (j := 24) (d := 75) (by decide) (by kernel_rfl) rfl rfl
    have hK := Lib.hid hK; clear h
    go_simp
    exact hK.out _ _ rfl (Below.refl _ _)
  · intro a w v K h hK
    rw [if_pos (wanted_none rfl)]
    have e76 := h.at_ (j := 25) (d := 76) (by decide) (by kernel_rfl) rfl rfl
    have hK := Lib.hid hK; clear h
    go_simp
    exact hK.out _ _ rfl (Below.refl _ _)
  · intro a w v K h hK
    have e77 := h.at_ (j := 26) (d := 77) (by decide) (by kernel_rfl) rfl rfl
    rw [if_pos (wanted_some (l := forestRight8BOps) rfl rfl e77)]
    have e13 := h.out (t := 13) (by kernel_rfl) h13
    have hK := Lib.hid hK; clear h
    go_simp
    exact hK.out _ _ rfl (Below.refl _ _)
  · intro a w v K h hK
    have e77 := h.at_ (j := 26) (d := 77) (by decide) (by kernel_rfl) rfl rfl
    rw [if_pos (wanted_some (l := forestRight8BOps) rfl rfl e77)]
    have e78 := h.at_ (j := 27) (d := 78) (by decide) (by kernel_rfl) rfl rfl
    have hK := Lib.hid hK; clear h
    go_simp
    exact hK.out _ _ rfl (Below.refl _ _)
  · intro a w v K h hK
    have e77 := h.at_ (j := 26) (d := 77) (by decide) (by kernel_rfl) rfl rfl
    rw [if_pos (wanted_some (l := forestRight8BOps) rfl rfl e77)]
    have e79 := h.at_ (j := 28) (d := 79) (by decide) (by kernel_rfl) rfl rfl
    have hK := Lib.hid hK; clear h
    go_simp
    exact hK.out _ _ rfl (Below.refl _ _)
  · intro a w v K h hK
    have e80 := h.at_ (j := 29) (d := 80) (by decide) (by kernel_rfl) rfl rfl
    rw [if_pos (wanted_some (l := forestRight8BOps) rfl rfl e80)]
    have e13 := h.out (t := 13) (by kernel_rfl) h13
    have hK := Lib.hid hK; clear h
    go_simp
    exact hK.out _ _ rfl (Below.refl _ _)
  · intro a w v K h hK
    have e80 := h.at_ (j := 29) (d := 80) (by decide) (by kernel_rfl) rfl rfl
    rw [if_pos (wanted_some (l := forestRight8BOps) rfl rfl e80)]
    have e81 := h.at_ (j := 30) (d := 81) (by decide) (by kernel_rfl) rfl rfl
    have hK := Lib.hid hK; clear h
    go_simp
    exact hK.out _ _ rfl (Below.refl _ _)
  · intro a w v K h hK
    have e80 := h.at_ (j := 29) (d := 80) (by decide) (by kernel_rfl) rfl rfl
    rw [if_pos (wanted_some (l := forestRight8BOps) rfl rfl e80)]
    have e82 := h.at_ (j := 31) (d := 82) (by decide) (by kernel_rfl) rfl rfl
    have hK := Lib.hid hK; clear h
    go_simp
    exact hK.out _ _ rfl (Below.refl _ _)
  · intro a w v K h hK
    have e83 := h.at_ (j := 32) (d := 83) (by decide) (by kernel_rfl) rfl rfl
    rw [if_pos (wanted_some (l := forestRight8BOps) rfl rfl e83)]
    have e12 := h.out (t := 12) (by kernel_rfl) h12
    have c0 := (h.below.cell (p := ⟨q1, 0, none⟩) hq1).trans hc10
    have c1 := (h.below.cell (p := ⟨q1, 1, none⟩) hq1).trans hc11
    have hK := Lib.hid hK; clear h
    go_simp
    exact hK.out _ _ rfl (Below.refl _ _)
  · intro a w v K h hK
    have e83 := h.at_ (j := 32) (d := 83) (by decide) (by kernel_rfl) rfl rfl
    rw [if_pos (wanted_some (l := forestRight8BOps) rfl rfl e83)]
    have hK := Lib.hid hK; clear h
    go_simp
    exact hK.out _ _ rfl (Below.refl _ _)
  · intro a w v K h hK
    have e83 := h.at_ (j := 32) (d := 83) (by decide) (by kernel_rfl) rfl rfl
    rw [if_pos (wanted_some (l := forestRight8BOps) rfl rfl e83)]
    have e84 := h.at_ (j := 33) (d := 84) (by decide) (by kernel_rfl) rfl rfl
    have e85 := h.at_ (j := 34) (d := 85) (by decide) (by kernel_rfl) rfl rfl
    have hc := fact_same (m := 0) (hn.below h.below) (NodeRow.nilRow w) hcn
    have hK := Lib.hid hK; clear h
    go_simp
    refine hc.mono ?_
    rintro e w' ⟨u, rfl, hu, hb⟩
    exact hK.out _ _ hu hb
  · intro a w v K h hK
    have e83 := h.at_ (j := 32) (d := 83) (by decide) (by kernel_rfl) rfl rfl
    rw [if_pos (wanted_some (l := forestRight8BOps) rfl rfl e83)]
    have e86 := h.at_ (j := 35) (d := 86) (by decide) (by kernel_rfl) rfl rfl
    have hK := Lib.hid hK; clear h
    go_simp
    exact hK.out _ _ rfl (Below.refl _ _)
  · intro a w v K h hK
    have e80 := h.at_ (j := 29) (d := 80) (by decide) (by kernel_rfl) rfl rfl
    rw [if_pos (wanted_some (l := forestRight8BOps) rfl rfl e80)]
    have e83 := h.at_ (j := 32) (d := 83) (by decide) (by kernel_rfl) rfl rfl
    have e87 := h.at_ (j := 36) (d := 87) (by decide) (by kernel_rfl) rfl rfl
    have hK := Lib.hid hK; clear h
    go_simp
    exact hK.out _ _ rfl (Below.refl _ _)
  · intro a w v K h hK
    have e77 := h.at_ (j := 26) (d := 77) (by decide) (by kernel_rfl) rfl rfl
    rw [if_pos (wanted_some (l := forestRight8BOps) rfl rfl e77)]
    have e80 := h.at_ (j := 29) (d := 80) (by decide) (by kernel_rfl) rfl rfl
    have e88 := h.at_ (j := 37) (d := 88) (by decide) (by kernel_rfl) rfl rfl
    have hK := Lib.hid hK; clear h
    go_simp
    exact hK.out _ _ rfl (Below.refl _ _)
  · intro a w v K h hK
    rw [if_pos (wanted_none rfl)]
    have e77 := h.at_ (j := 26) (d := 77) (by decide) (by kernel_rfl) rfl rfl
    have e89 := h.at_ (j := 38) (d := 89) (by decide) (by kernel_rfl) rfl rfl
    have hK := Lib.hid hK; clear h
    go_simp
    exact hK.out _ _ rfl (Below.refl _ _)
  · intro v w' hb hf
    have e : v 39 = .bool false := hf 39 (by decide) _ rfl
    have := hQ v w' hb
    rw [← e] at this
    exact this
def forestRight8COps : List Oper := [
  { dst := some 51, op := Go.Op.load 24 (Go.Operand.tmp 5), type := 24, pos := "law.go:30", after := #[], guard := none },
  { dst := some 52, op := Go.Op.call { callee := Go.Callee.value (Go.Operand.func 19), args := #[Go.Operand.tmp 51], argTypes := #[24] }, type := 4, pos := "law.go:30", after := #[{ on := 0, ground := Go.Ground.data }], guard := none },
  { dst := some 53, op := Go.Op.move (Go.Operand.tmp 11), type := 4, pos := "law.go:30", after := #[], guard := none },
  { dst := some 54, op := Go.Op.binOp Go.BinOp.neq 4 (Go.Operand.tmp 52) (Go.Operand.tmp 53) 4, type := 4, pos := "law.go:30", after := #[{ on := 1, ground := Go.Ground.data }, { on := 2, ground := Go.Ground.data }], guard := none },
  { dst := some 55, op := Go.Op.move (Go.Operand.tmp 54), type := 4, pos := "law.go:30", after := #[{ on := 3, ground := Go.Ground.data }, { on := 1, ground := Go.Ground.chain }], guard := none },
  { dst := some 56, op := Go.Op.move (Go.Operand.tmp 13), type := 31, pos := "law.go:30", after := #[{ on := 4, ground := Go.Ground.guard }], guard := some (4, false) },
  { dst := some 57, op := Go.Op.binOp Go.BinOp.eql 31 (Go.Operand.tmp 56) (Go.Operand.const (Go.Value.int Go.IntKind.i64 0)) 31, type := 4, pos := "law.go:30", after := #[{ on := 5, ground := Go.Ground.data }, { on := 4, ground := Go.Ground.guard }], guard := some (4, false) },
  { dst := some 58, op := Go.Op.move (Go.Operand.tmp 2), type := 3, pos := "law.go:30", after := #[{ on := 4, ground := Go.Ground.guard }], guard := some (4, false) },
  { dst := some 59, op := Go.Op.binOp Go.BinOp.geq 3 (Go.Operand.tmp 58) (Go.Operand.const (Go.Value.int Go.IntKind.i64 1)) 3, type := 4, pos := "law.go:30", after := #[{ on := 7, ground := Go.Ground.data }, { on := 4, ground := Go.Ground.guard }], guard := some (4, false) },
  { dst := some 60, op := Go.Op.move (Go.Operand.tmp 59), type := 4, pos := "law.go:30", after := #[{ on := 8, ground := Go.Ground.data }, { on := 4, ground := Go.Ground.chain }, { on := 4, ground := Go.Ground.guard }], guard := some (4, false) },
  { dst := some 61, op := Go.Op.move (Go.Operand.tmp 2), type := 3, pos := "law.go:30", after := #[{ on := 9, ground := Go.Ground.guard }], guard := some (9, true) },
  { dst := some 62, op := Go.Op.binOp Go.BinOp.leq 3 (Go.Operand.tmp 61) (Go.Operand.const (Go.Value.int Go.IntKind.i64 400)) 3, type := 4, pos := "law.go:30", after := #[{ on := 10, ground := Go.Ground.data }, { on := 9, ground := Go.Ground.guard }], guard := some (9, true) },
  { dst := some 63, op := Go.Op.pick (Go.Operand.tmp 60) (Go.Operand.tmp 62) (Go.Operand.const (Go.Value.bool false)), type := 4, pos := "law.go:30", after := #[{ on := 9, ground := Go.Ground.data }, { on := 11, ground := Go.Ground.data }, { on := 4, ground := Go.Ground.guard }], guard := some (4, false) },
  { dst := some 64, op := Go.Op.binOp Go.BinOp.neq 4 (Go.Operand.tmp 57) (Go.Operand.tmp 63) 4, type := 4, pos := "law.go:30", after := #[{ on := 6, ground := Go.Ground.data }, { on := 12, ground := Go.Ground.data }, { on := 4, ground := Go.Ground.guard }], guard := some (4, false) },
  { dst := some 65, op := Go.Op.pick (Go.Operand.tmp 55) (Go.Operand.const (Go.Value.bool true)) (Go.Operand.tmp 64), type := 4, pos := "law.go:30", after := #[{ on := 4, ground := Go.Ground.data }, { on := 13, ground := Go.Ground.data }], guard := none },
  { dst := some 66, op := Go.Op.move (Go.Operand.tmp 65), type := 4, pos := "law.go:30", after := #[{ on := 14, ground := Go.Ground.data }, { on := 9, ground := Go.Ground.chain }], guard := none },
  { dst := some 67, op := Go.Op.move (Go.Operand.tmp 13), type := 31, pos := "law.go:30", after := #[{ on := 15, ground := Go.Ground.guard }], guard := some (15, false) },
  { dst := some 68, op := Go.Op.binOp Go.BinOp.eql 31 (Go.Operand.tmp 67) (Go.Operand.const (Go.Value.int Go.IntKind.i64 0)) 31, type := 4, pos := "law.go:30", after := #[{ on := 16, ground := Go.Ground.data }, { on := 15, ground := Go.Ground.guard }], guard := some (15, false) },
  { dst := some 69, op := Go.Op.move (Go.Operand.tmp 68), type := 4, pos := "law.go:30", after := #[{ on := 17, ground := Go.Ground.data }, { on := 15, ground := Go.Ground.chain }, { on := 15, ground := Go.Ground.guard }], guard := some (15, false) },
  { dst := some 70, op := Go.Op.load 24 (Go.Operand.tmp 12), type := 24, pos := "law.go:30", after := #[{ on := 18, ground := Go.Ground.guard }], guard := some (18, true) },
  { dst := some 71, op := Go.Op.move (Go.Operand.tmp 2), type := 3, pos := "law.go:30", after := #[{ on := 18, ground := Go.Ground.guard }], guard := some (18, true) },
  { dst := some 72, op := Go.Op.call { callee := Go.Callee.value (Go.Operand.func 21), args := #[Go.Operand.tmp 71], argTypes := #[3] }, type := 24, pos := "law.go:30", after := #[{ on := 20, ground := Go.Ground.data }, { on := 18, ground := Go.Ground.chain }, { on := 18, ground := Go.Ground.guard }], guard := some (18, true) },
  { dst := some 73, op := Go.Op.call { callee := Go.Callee.value (Go.Operand.func 20), args := #[Go.Operand.tmp 70, Go.Operand.tmp 72], argTypes := #[24, 24] }, type := 4, pos := "law.go:30", after := #[{ on := 19, ground := Go.Ground.data }, { on := 21, ground := Go.Ground.data }, { on := 21, ground := Go.Ground.chain }, { on := 18, ground := Go.Ground.guard }], guard := some (18, true) },
  { dst := some 74, op := Go.Op.unOp Go.UnOp.not 4 (Go.Operand.tmp 73), type := 4, pos := "law.go:30", after := #[{ on := 22, ground := Go.Ground.data }, { on := 18, ground := Go.Ground.guard }], guard := some (18, true) },
  { dst := some 75, op := Go.Op.pick (Go.Operand.tmp 69) (Go.Operand.tmp 74) (Go.Operand.const (Go.Value.bool false)), type := 4, pos := "law.go:30", after := #[{ on := 18, ground := Go.Ground.data }, { on := 23, ground := Go.Ground.data }, { on := 15, ground := Go.Ground.guard }], guard := some (15, false) },
  { dst := some 76, op := Go.Op.pick (Go.Operand.tmp 66) (Go.Operand.const (Go.Value.bool true)) (Go.Operand.tmp 75), type := 4, pos := "law.go:30", after := #[{ on := 15, ground := Go.Ground.data }, { on := 24, ground := Go.Ground.data }], guard := none },
  { dst := some 77, op := Go.Op.move (Go.Operand.tmp 76), type := 4, pos := "law.go:30", after := #[{ on := 25, ground := Go.Ground.data }, { on := 22, ground := Go.Ground.chain }], guard := none },
  { dst := some 78, op := Go.Op.move (Go.Operand.tmp 13), type := 31, pos := "law.go:30", after := #[{ on := 26, ground := Go.Ground.guard }], guard := some (26, false) },
  { dst := some 79, op := Go.Op.binOp Go.BinOp.neq 31 (Go.Operand.tmp 78) (Go.Operand.const (Go.Value.int Go.IntKind.i64 0)) 31, type := 4, pos := "law.go:30", after := #[{ on := 27, ground := Go.Ground.data }, { on := 26, ground := Go.Ground.guard }], guard := some (26, false) },
  { dst := some 80, op := Go.Op.move (Go.Operand.tmp 79), type := 4, pos := "law.go:30", after := #[{ on := 28, ground := Go.Ground.data }, { on := 26, ground := Go.Ground.chain }, { on := 26, ground := Go.Ground.guard }], guard := some (26, false) },
  { dst := some 81, op := Go.Op.move (Go.Operand.tmp 13), type := 31, pos := "law.go:30", after := #[{ on := 29, ground := Go.Ground.guard }], guard := some (29, true) },
  { dst := some 82, op := Go.Op.binOp Go.BinOp.neq 31 (Go.Operand.tmp 81) (Go.Operand.const (Go.Value.int Go.IntKind.i64 1)) 31, type := 4, pos := "law.go:30", after := #[{ on := 30, ground := Go.Ground.data }, { on := 29, ground := Go.Ground.guard }], guard := some (29, true) },
  { dst := some 83, op := Go.Op.move (Go.Operand.tmp 82), type := 4, pos := "law.go:30", after := #[{ on := 31, ground := Go.Ground.data }, { on := 29, ground := Go.Ground.chain }, { on := 29, ground := Go.Ground.guard }], guard := some (29, true) },
  { dst := some 84, op := Go.Op.load 24 (Go.Operand.tmp 12), type := 24, pos := "law.go:30", after := #[{ on := 32, ground := Go.Ground.guard }], guard := some (32, false) },
  { dst := some 85, op := Go.Op.build 24 #[], type := 24, pos := "law.go:30", after := #[{ on := 32, ground := Go.Ground.guard }], guard := some (32, false) },
  { dst := some 86, op := Go.Op.call { callee := Go.Callee.value (Go.Operand.func 20), args := #[Go.Operand.tmp 84, Go.Operand.tmp 85], argTypes := #[24, 24] }, type := 4, pos := "law.go:30", after := #[{ on := 33, ground := Go.Ground.data }, { on := 34, ground := Go.Ground.data }, { on := 32, ground := Go.Ground.chain }, { on := 32, ground := Go.Ground.guard }], guard := some (32, false) },
  { dst := some 87, op := Go.Op.unOp Go.UnOp.not 4 (Go.Operand.tmp 86), type := 4, pos := "law.go:30", after := #[{ on := 35, ground := Go.Ground.data }, { on := 32, ground := Go.Ground.guard }], guard := some (32, false) },
  { dst := some 88, op := Go.Op.pick (Go.Operand.tmp 83) (Go.Operand.const (Go.Value.bool true)) (Go.Operand.tmp 87), type := 4, pos := "law.go:30", after := #[{ on := 32, ground := Go.Ground.data }, { on := 36, ground := Go.Ground.data }, { on := 29, ground := Go.Ground.guard }], guard := some (29, true) },
  { dst := some 89, op := Go.Op.pick (Go.Operand.tmp 80) (Go.Operand.tmp 88) (Go.Operand.const (Go.Value.bool false)), type := 4, pos := "law.go:30", after := #[{ on := 29, ground := Go.Ground.data }, { on := 37, ground := Go.Ground.data }, { on := 26, ground := Go.Ground.guard }], guard := some (26, false) },
  { dst := some 90, op := Go.Op.pick (Go.Operand.tmp 77) (Go.Operand.const (Go.Value.bool true)) (Go.Operand.tmp 89), type := 4, pos := "law.go:30", after := #[{ on := 26, ground := Go.Ground.data }, { on := 38, ground := Go.Ground.data }], guard := none }]
set_option maxHeartbeats 16000000 in
set_option maxRecDepth 100000 in
theorem forestRight8C_region {Q : Exit → Act → World → Prop} {a0 : Act} {W : World} (hsz : factsOK forestRight8COps a0.tmps.size = true) {R : Bool} {most : Int} {q1 : Nat} {na : Option Addr} {nl nc : Nat} {LN : List NodeD} {m : Int} {q0 : Nat} {fa : Option Addr} {fl fc : Nat}
    (hq0 : q0 < W.heap.size) (hc00 : W.cell? ⟨q0, 0, none⟩ = some (.slice fa fl fc)) (hc01 : W.cell? ⟨q0, 1, none⟩ = some (.int .i64 m))
    (hq1 : q1 < W.heap.size) (hc10 : W.cell? ⟨q1, 0, none⟩ = some (.slice na nl nc)) (hc11 : W.cell? ⟨q1, 1, none⟩ = some (.int .i64 0)) (hn : NodeRow W na nl nc LN) (hcn : coreL LN = []) (hm1 : most ≥ 1) (hm2 : ¬ most ≤ 400)

    (h2 : a0.tmps[2]? = some (.int .i64 most))
    (h5 : a0.tmps[5]? = some (.pointer (some ⟨q0, 0, none⟩)))
    (h11 : a0.tmps[11]? = some (.bool R))
    (h12 : a0.tmps[12]? = some (.pointer (some ⟨q1, 0, none⟩)))
    (h13 : a0.tmps[13]? = some (.int .i64 1))
    (C1 : CallFact Try.prog 19 #[forV fa fl fc m] W (isV (.bool R)))
    (hQ : ∀ (v : Nat → Value) w', Below W.heap.size W w' → Q .normal ⟨(puts a0.tmps.toList [(some 51, v 0), (some 52, v 1), (some 53, v 2), (some 54, v 3), (some 55, v 4), (some 56, v 5), (some 57, v 6), (some 58, v 7), (some 59, v 8), (some 60, v 9), (some 61, v 10), (some 62, v 11), (some 63, v 12), (some 64, v 13), (some 65, v 14), (some 66, v 15), (some 67, v 16), (some 68, v 17), (some 69, v 18), (some 70, v 19), (some 71, v 20), (some 72, v 21), (some 73, v 22), (some 74, v 23), (some 75, v 24), (some 76, v 25), (some 77, v 26), (some 78, v 27), (some 79, v 28), (some 80, v 29), (some 81, v 30), (some 82, v 31), (some 83, v 32), (some 84, v 33), (some 85, v 34), (some 86, v 35), (some 87, v 36), (some 88, v 37), (some 89, v 38), (some 90, .bool false)]).toArray, a0.defers⟩ w') :
    (Code.region 8 forestRight8COps.toArray true).wp Try.prog Q a0 W := by
  refine wp_region_facts [isV (forV fa fl fc m), isV (.bool R), isV (.bool R), isV (.bool false), isV (.bool false), isV (.int .i64 1), isV (.bool false), isV (.int .i64 most), isV (.bool true), isV (.bool true), isV (.int .i64 most), isV (.bool false), isV (.bool false), isV (.bool false), isV (.bool false), isV (.bool false), isV (.int .i64 1), isV (.bool false), isV (.bool false), isV (undef), isV (undef), isV (undef), isV (undef), isV (undef), isV (.bool false), isV (.bool false), isV (.bool false), isV (.int .i64 1), isV (.bool true), isV (.bool true), isV (.int .i64 1), isV (.bool false), isV (.bool false), isV (forV na nl nc 0), isV (.agg #[.slice none 0 0, .int .i64 0]), isV (.bool true), isV (.bool false), isV (.bool false), isV (.bool false), isV (.bool false)] (by kernel_rfl) hsz rfl (.cons ?_ (.cons ?_ (.cons ?_ (.cons ?_ (.cons ?_ (.cons ?_ (.cons ?_ (.cons ?_ (.cons ?_ (.cons ?_ (.cons ?_ (.cons ?_ (.cons ?_ (.cons ?_ (.cons ?_ (.cons ?_ (.cons ?_ (.cons ?_ (.cons ?_ (.cons ?_ (.cons ?_ (.cons ?_ (.cons ?_ (.cons ?_ (.cons ?_ (.cons ?_ (.cons ?_ (.cons ?_ (.cons ?_ (.cons ?_ (.cons ?_ (.cons ?_ (.cons ?_ (.cons ?_ (.cons ?_ (.cons ?_ (.cons ?_ (.cons ?_ (.cons ?_ (.cons ?_ .nil)))))))))))))))))))))))))))))))))))))))) ?_
  · intro a w v K h hK
    rw [if_pos (wanted_none rfl)]
    have e5 := h.out (t := 5) (by kernel_rfl) h5
    have c0 := (h.below.cell (p := ⟨q0, 0, none⟩) hq0).trans hc00
    have c1 := (h.below.cell (p := ⟨q0, 1, none⟩) hq0).trans hc01
    have hK := Lib.hid hK; clear h
    go_simp
    exact hK.out _ _ rfl (Below.refl _ _)
  · intro a w v K h hK
    rw [if_pos (wanted_none rfl)]
    have e51 := h.at_ (j := 0) (d := 51) (by decide) (by kernel_rfl) rfl rfl
    have hc := C1 w h.below
    have hK := Lib.hid hK; clear h
    go_simp
    refine hc.mono ?_
    rintro e w' ⟨u, rfl, hu, hb⟩
    exact hK.out _ _ hu hb
  · intro a w v K h hK
    rw [if_pos (wanted_none rfl)]
    have e11 := h.out (t := 11) (by kernel_rfl) h11
    have hK := Lib.hid hK; clear h
    go_simp
    exact hK.out _ _ rfl (Below.refl _ _)
  · intro a w v K h hK
    rw [if_pos (wanted_none rfl)]
    have e52 := h.at_ (j := 1) (d := 52) (by decide) (by kernel_rfl) rfl rfl
    have e53 := h.at_ (j := 2) (d := 53) (by decide) (by kernel_rfl) rfl rfl
    have hK := Lib.hid hK; clear h
    go_simp
    exact hK.out _ _ rfl (Below.refl _ _)
  · intro a w v K h hK
    rw [if_pos (wanted_none rfl)]
    have e54 := h.at_ (j := 3) (d := 54) (by decide) (by kernel_rfl) rfl rfl
    have hK := Lib.hid hK; clear h
    go_simp
    exact hK.out _ _ rfl (Below.refl _ _)
  · intro a w v K h hK
    have e55 := h.at_ (j := 4) (d := 55) (by decide) (by kernel_rfl) rfl rfl
    rw [if_pos (wanted_some (l := forestRight8COps) rfl rfl e55)]
    have e13 := h.out (t := 13) (by kernel_rfl) h13
    have hK := Lib.hid hK; clear h
    go_simp
    exact hK.out _ _ rfl (Below.refl _ _)
  · intro a w v K h hK
    have e55 := h.at_ (j := 4) (d := 55) (by decide) (by kernel_rfl) rfl rfl
    rw [if_pos (wanted_some (l := forestRight8COps) rfl rfl e55)]
    have e56 := h.at_ (j := 5) (d := 56) (by decide) (by kernel_rfl) rfl rfl
    have hK := Lib.hid hK; clear h
    go_simp
    exact hK.out _ _ rfl (Below.refl _ _)
  · intro a w v K h hK
    have e55 := h.at_ (j := 4) (d := 55) (by decide) (by kernel_rfl) rfl rfl
    rw [if_pos (wanted_some (l := forestRight8COps) rfl rfl e55)]
    have e2 := h.out (t := 2) (by kernel_rfl) h2
    have hK := Lib.hid hK; clear h
    go_simp
    exact hK.out _ _ rfl (Below.refl _ _)
  · intro a w v K h hK
    have e55 := h.at_ (j := 4) (d := 55) (by decide) (by kernel_rfl) rfl rfl
    rw [if_pos (wanted_some (l := forestRight8COps) rfl rfl e55)]
    have e58 := h.at_ (j := 7) (d := 58) (by decide) (by kernel_rfl) rfl rfl
    have hK := Lib.hid hK; clear h
    go_simp
    exact hK.out _ _ rfl (Below.refl _ _)
  · intro a w v K h hK
    have e55 := h.at_ (j := 4) (d := 55) (by decide) (by kernel_rfl) rfl rfl
    rw [if_pos (wanted_some (l := forestRight8COps) rfl rfl e55)]
    have e59 := h.at_ (j := 8) (d := 59) (by decide) (by kernel_rfl) rfl rfl
    have hK := Lib.hid hK; clear h
    go_simp
    exact hK.out _ _ rfl (Below.refl _ _)
  · intro a w v K h hK
    have e60 := h.at_ (j := 9) (d := 60) (by decide) (by kernel_rfl) rfl rfl
    rw [if_pos (wanted_some (l := forestRight8COps) rfl rfl e60)]
    have e2 := h.out (t := 2) (by kernel_rfl) h2
    have hK := Lib.hid hK; clear h
    go_simp
    exact hK.out _ _ rfl (Below.refl _ _)
  · intro a w v K h hK
    have e60 := h.at_ (j := 9) (d := 60) (by decide) (by kernel_rfl) rfl rfl
    rw [if_pos (wanted_some (l := forestRight8COps) rfl rfl e60)]
    have e61 := h.at_ (j := 10) (d := 61) (by decide) (by kernel_rfl) rfl rfl
    have hK := Lib.hid hK; clear h
    go_simp
    exact hK.out _ _ rfl (Below.refl _ _)
  · intro a w v K h hK
    have e55 := h.at_ (j := 4) (d := 55) (by decide) (by kernel_rfl) rfl rfl
    rw [if_pos (wanted_some (l := forestRight8COps) rfl rfl e55)]
    have e60 := h.at_ (j := 9) (d := 60) (by decide) (by kernel_rfl) rfl rfl
    have e62 := h.at_ (j := 11) (d := 62) (by decide) (by kernel_rfl) rfl rfl
    have hK := Lib.hid hK; clear h
    go_simp
    exact hK.out _ _ rfl (Below.refl _ _)
  · intro a w v K h hK
    have e55 := h.at_ (j := 4) (d := 55) (by decide) (by kernel_rfl) rfl rfl
    rw [if_pos (wanted_some (l := forestRight8COps) rfl rfl e55)]
    have e57 := h.at_ (j := 6) (d := 57) (by decide) (by kernel_rfl) rfl rfl
    have e63 := h.at_ (j := 12) (d := 63) (by decide) (by kernel_rfl) rfl rfl
    have hK := Lib.hid hK; clear h
    go_simp
    exact hK.out _ _ rfl (Below.refl _ _)
  · intro a w v K h hK
    rw [if_pos (wanted_none rfl)]
    have e55 := h.at_ (j := 4) (d := 55) (by decide) (by kernel_rfl) rfl rfl
    have e64 := h.at_ (j := 13) (d := 64) (by decide) (by kernel_rfl) rfl rfl
    have hK := Lib.hid hK; clear h
    go_simp
    exact hK.out _ _ rfl (Below.refl _ _)
  · intro a w v K h hK
    rw [if_pos (wanted_none rfl)]
    have e65 := h.at_ (j := 14) (d := 65) (by decide) (by kernel_rfl) rfl rfl
    have hK := Lib.hid hK; clear h
    go_simp
    exact hK.out _ _ rfl (Below.refl _ _)
  · intro a w v K h hK
    have e66 := h.at_ (j := 15) (d := 66) (by decide) (by kernel_rfl) rfl rfl
    rw [if_pos (wanted_some (l := forestRight8COps) rfl rfl e66)]
    have e13 := h.out (t := 13) (by kernel_rfl) h13
    have hK := Lib.hid hK; clear h
    go_simp
    exact hK.out _ _ rfl (Below.refl _ _)
  · intro a w v K h hK
    have e66 := h.at_ (j := 15) (d := 66) (by decide) (by kernel_rfl) rfl rfl
    rw [if_pos (wanted_some (l := forestRight8COps) rfl rfl e66)]
    have e67 := h.at_ (j := 16) (d := 67) (by decide) (by kernel_rfl) rfl rfl
    have hK := Lib.hid hK; clear h
    go_simp
    exact hK.out _ _ rfl (Below.refl _ _)
  · intro a w v K h hK
    have e66 := h.at_ (j := 15) (d := 66) (by decide) (by kernel_rfl) rfl rfl
    rw [if_pos (wanted_some (l := forestRight8COps) rfl rfl e66)]
    have e68 := h.at_ (j := 17) (d := 68) (by decide) (by kernel_rfl) rfl rfl
    have hK := Lib.hid hK; clear h
    go_simp
    exact hK.out _ _ rfl (Below.refl _ _)
  · intro a w v K h hK
    have e69 := h.at_ (j := 18) (d := 69) (by decide) (by kernel_rfl) rfl rfl
    rw [if_neg (wanted_not (l := forestRight8COps) (g := 18) (want := true) rfl rfl e69 (by decide))]
    exact hK _ _ rfl (Below.refl _ _)
  · intro a w v K h hK
    have e69 := h.at_ (j := 18) (d := 69) (by decide) (by kernel_rfl) rfl rfl
    rw [if_neg (wanted_not (l := forestRight8COps) (g := 18) (want := true) rfl rfl e69 (by decide))]
    exact hK _ _ rfl (Below.refl _ _)
  · intro a w v K h hK
    have e69 := h.at_ (j := 18) (d := 69) (by decide) (by kernel_rfl) rfl rfl
    rw [if_neg (wanted_not (l := forestRight8COps) (g := 18) (want := true) rfl rfl e69 (by decide))]
    exact hK _ _ rfl (Below.refl _ _)
  · intro a w v K h hK
    have e69 := h.at_ (j := 18) (d := 69) (by decide) (by kernel_rfl) rfl rfl
    rw [if_neg (wanted_not (l := forestRight8COps) (g := 18) (want := true) rfl rfl e69 (by decide))]
    exact hK _ _ rfl (Below.refl _ _)
  · intro a w v K h hK
    have e69 := h.at_ (j := 18) (d := 69) (by decide) (by kernel_rfl) rfl rfl
    rw [if_neg (wanted_not (l := forestRight8COps) (g := 18) (want := true) rfl rfl e69 (by decide))]
    exact hK _ _ rfl (Below.refl _ _)
  · intro a w v K h hK
    have e66 := h.at_ (j := 15) (d := 66) (by decide) (by kernel_rfl) rfl rfl
    rw [if_pos (wanted_some (l := forestRight8COps) rfl rfl e66)]
    have e69 := h.at_ (j := 18) (d := 69) (by decide) (by kernel_rfl) rfl rfl
    have e74 := h.at_ (j := 23) (d := 74) (by decide) (by kernel_rfl) rfl rfl
    have hK := Lib.hid hK; clear h
    go_simp
    exact hK.out _ _ rfl (Below.refl _ _)
  · intro a w v K h hK
    rw [if_pos (wanted_none rfl)]
    have e66 := h.at_ (j := 15) (d := 66) (by decide) (by kernel_rfl) rfl rfl
    have e75 := h.at_ (j := 24) (d := 75) (by decide) (by kernel_rfl) rfl rfl
    have hK := Lib.hid hK; clear h
    go_simp
    exact hK.out _ _ rfl (Below.refl _ _)
  · intro a w v K h hK
    rw [if_pos (wanted_none rfl)]
    have e76 := h.at_ (j := 25) (d := 76) (by decide) (by kernel_rfl) rfl rfl
    have hK := Lib.hid hK; clear h
    go_simp
    exact hK.out _ _ rfl (Below.refl _ _)
  · intro a w v K h hK
    have e77 := h.at_ (j := 26) (d := 77) (by decide) (by kernel_rfl) rfl rfl
    rw [if_pos (wanted_some (l := forestRight8COps) rfl rfl e77)]
    have e13 := h.out (t := 13) (by kernel_rfl) h13
    have hK := Lib.hid hK; clear h
    go_simp
    exact hK.out _ _ rfl (Below.refl _ _)
  · intro a w v K h hK
    have e77 := h.at_ (j := 26) (d := 77) (by decide) (by kernel_rfl) rfl rfl
    rw [if_pos (wanted_some (l := forestRight8COps) rfl rfl e77)]
    have e78 := h.at_ (j := 27) (d := 78) (by decide) (by kernel_rfl) rfl rfl
    have hK := Lib.hid hK; clear h
    go_simp
    exact hK.out _ _ rfl (Below.refl _ _)
  · intro a w v K h hK
    have e77 := h.at_ (j := 26) (d := 77) (by decide) (by kernel_rfl) rfl rfl
    rw [if_pos (wanted_some (l := forestRight8COps) rfl rfl e77)]
    have e79 := h.at_ (j := 28) (d := 79) (by decide) (by kernel_rfl) rfl rfl
    have hK := Lib.hid hK; clear h
    go_simp
    exact hK.out _ _ rfl (Below.refl _ _)
  · intro a w v K h hK
    have e80 := h.at_ (j := 29) (d := 80) (by decide) (by kernel_rfl) rfl rfl
    rw [if_pos (wanted_some (l := forestRight8COps) rfl rfl e80)]
    have e13 := h.out (t := 13) (by kernel_rfl) h13
    have hK := Lib.hid hK; clear h
    go_simp
    exact hK.out _ _ rfl (Below.refl _ _)
  · intro a w v K h hK
    have e80 := h.at_ (j := 29) (d := 80) (by decide) (by kernel_rfl) rfl rfl
    rw [if_pos (wanted_some (l := forestRight8COps) rfl rfl e80)]
    have e81 := h.at_ (j := 30) (d := 81) (by decide) (by kernel_rfl) rfl rfl
    have hK := Lib.hid hK; clear h
    go_simp
    exact hK.out _ _ rfl (Below.refl _ _)
  · intro a w v K h hK
    have e80 := h.at_ (j := 29) (d := 80) (by decide) (by kernel_rfl) rfl rfl
    rw [if_pos (wanted_some (l := forestRight8COps) rfl rfl e80)]
    have e82 := h.at_ (j := 31) (d := 82) (by decide) (by kernel_rfl) rfl rfl
    have hK := Lib.hid hK; clear h
    go_simp
    exact hK.out _ _ rfl (Below.refl _ _)
  · intro a w v K h hK
    have e83 := h.at_ (j := 32) (d := 83) (by decide) (by kernel_rfl) rfl rfl
    rw [if_pos (wanted_some (l := forestRight8COps) rfl rfl e83)]
    have e12 := h.out (t := 12) (by kernel_rfl) h12
    have c0 := (h.below.cell (p := ⟨q1, 0, none⟩) hq1).trans hc10
    have c1 := (h.below.cell (p := ⟨q1, 1, none⟩) hq1).trans hc11
    have hK := Lib.hid hK; clear h
    go_simp
    exact hK.out _ _ rfl (Below.refl _ _)
  · intro a w v K h hK
    have e83 := h.at_ (j := 32) (d := 83) (by decide) (by kernel_rfl) rfl rfl
    rw [if_pos (wanted_some (l := forestRight8COps) rfl rfl e83)]
    have hK := Lib.hid hK; clear h
    go_simp
    exact hK.out _ _ rfl (Below.refl _ _)
  · intro a w v K h hK
    have e83 := h.at_ (j := 32) (d := 83) (by decide) (by kernel_rfl) rfl rfl
    rw [if_pos (wanted_some (l := forestRight8COps) rfl rfl e83)]
    have e84 := h.at_ (j := 33) (d := 84) (by decide) (by kernel_rfl) rfl rfl
    have e85 := h.at_ (j := 34) (d := 85) (by decide) (by kernel_rfl) rfl rfl
    have hc := fact_same (m := 0) (hn.below h.below) (NodeRow.nilRow w) hcn
    have hK := Lib.hid hK; clear h
    go_simp
    refine hc.mono ?_
    rintro e w' ⟨u, rfl, hu, hb⟩
    exact hK.out _ _ hu hb
  · intro a w v K h hK
    have e83 := h.at_ (j := 32) (d := 83) (by decide) (by kernel_rfl) rfl rfl
    rw [if_pos (wanted_some (l := forestRight8COps) rfl rfl e83)]
    have e86 := h.at_ (j := 35) (d := 86) (by decide) (by kernel_rfl) rfl rfl
    have hK := Lib.hid hK; clear h
    go_simp
    exact hK.out _ _ rfl (Below.refl _ _)
  · intro a w v K h hK
    have e80 := h.at_ (j := 29) (d := 80) (by decide) (by kernel_rfl) rfl rfl
    rw [if_pos (wanted_some (l := forestRight8COps) rfl rfl e80)]
    have e83 := h.at_ (j := 32) (d := 83) (by decide) (by kernel_rfl) rfl rfl
    have e87 := h.at_ (j := 36) (d := 87) (by decide) (by kernel_rfl) rfl rfl
    have hK := Lib.hid hK; clear h
    go_simp
    exact hK.out _ _ rfl (Below.refl _ _)
  · intro a w v K h hK
    have e77 := h.at_ (j := 26) (d := 77) (by decide) (by kernel_rfl) rfl rfl
    rw [if_pos (wanted_some (l := forestRight8COps) rfl rfl e77)]
    have e80 := h.at_ (j := 29) (d := 80) (by decide) (by kernel_rfl) rfl rfl
    have e88 := h.at_ (j := 37) (d := 88) (by decide) (by kernel_rfl) rfl rfl
    have hK := Lib.hid hK; clear h
    go_simp
    exact hK.out _ _ rfl (Below.refl _ _)
  · intro a w v K h hK
    rw [if_pos (wanted_none rfl)]
    have e77 := h.at_ (j := 26) (d := 77) (by decide) (by kernel_rfl) rfl rfl
    have e89 := h.at_ (j := 38) (d := 89) (by decide) (by kernel_rfl) rfl rfl
    have hK := Lib.hid hK; clear h
    go_simp
    exact hK.out _ _ rfl (Below.refl _ _)
  · intro v w' hb hf
    have e : v 39 = .bool false := hf 39 (by decide) _ rfl
    have := hQ v w' hb
    rw [← e] at this
    exact this
def forestRight17Ops : List Oper := [
  { dst := some 205, op := Go.Op.load 24 (Go.Operand.tmp 5), type := 24, pos := "law.go:43", after := #[], guard := none },
  { dst := some 206, op := Go.Op.move (Go.Operand.tmp 3), type := 3, pos := "law.go:43", after := #[], guard := none },
  { dst := some 207, op := Go.Op.call { callee := Go.Callee.value (Go.Operand.func 22), args := #[Go.Operand.tmp 205, Go.Operand.tmp 206], argTypes := #[24, 3] }, type := 3, pos := "law.go:43", after := #[{ on := 0, ground := Go.Ground.data }, { on := 1, ground := Go.Ground.data }], guard := none },
  { dst := some 208, op := Go.Op.load 24 (Go.Operand.tmp 5), type := 24, pos := "law.go:43", after := #[], guard := none },
  { dst := some 209, op := Go.Op.move (Go.Operand.tmp 3), type := 3, pos := "law.go:43", after := #[], guard := none },
  { dst := some 210, op := Go.Op.call { callee := Go.Callee.value (Go.Operand.func 28), args := #[Go.Operand.tmp 208, Go.Operand.tmp 209], argTypes := #[24, 3] }, type := 3, pos := "law.go:43", after := #[{ on := 3, ground := Go.Ground.data }, { on := 4, ground := Go.Ground.data }, { on := 2, ground := Go.Ground.chain }], guard := none },
  { dst := some 211, op := Go.Op.binOp Go.BinOp.neq 3 (Go.Operand.tmp 207) (Go.Operand.tmp 210) 3, type := 4, pos := "law.go:43", after := #[{ on := 2, ground := Go.Ground.data }, { on := 5, ground := Go.Ground.data }], guard := none },
  { dst := some 212, op := Go.Op.move (Go.Operand.tmp 211), type := 4, pos := "law.go:43", after := #[{ on := 6, ground := Go.Ground.data }, { on := 5, ground := Go.Ground.chain }], guard := none },
  { dst := some 213, op := Go.Op.load 24 (Go.Operand.tmp 5), type := 24, pos := "law.go:43", after := #[{ on := 7, ground := Go.Ground.guard }], guard := some (7, false) },
  { dst := some 214, op := Go.Op.move (Go.Operand.tmp 3), type := 3, pos := "law.go:43", after := #[{ on := 7, ground := Go.Ground.guard }], guard := some (7, false) },
  { dst := some 215, op := Go.Op.call { callee := Go.Callee.value (Go.Operand.func 23), args := #[Go.Operand.tmp 213, Go.Operand.tmp 214], argTypes := #[24, 3] }, type := 26, pos := "law.go:43", after := #[{ on := 8, ground := Go.Ground.data }, { on := 9, ground := Go.Ground.data }, { on := 7, ground := Go.Ground.chain }, { on := 7, ground := Go.Ground.guard }], guard := some (7, false) },
  { dst := some 216, op := Go.Op.load 24 (Go.Operand.tmp 5), type := 24, pos := "law.go:43", after := #[{ on := 7, ground := Go.Ground.guard }], guard := some (7, false) },
  { dst := some 217, op := Go.Op.move (Go.Operand.tmp 3), type := 3, pos := "law.go:43", after := #[{ on := 7, ground := Go.Ground.guard }], guard := some (7, false) },
  { dst := some 218, op := Go.Op.call { callee := Go.Callee.value (Go.Operand.func 30), args := #[Go.Operand.tmp 216, Go.Operand.tmp 217], argTypes := #[24, 3] }, type := 26, pos := "law.go:43", after := #[{ on := 11, ground := Go.Ground.data }, { on := 12, ground := Go.Ground.data }, { on := 10, ground := Go.Ground.chain }, { on := 7, ground := Go.Ground.guard }], guard := some (7, false) },
  { dst := some 219, op := Go.Op.call { callee := Go.Callee.value (Go.Operand.func 29), args := #[Go.Operand.tmp 215, Go.Operand.tmp 218], argTypes := #[26, 26] }, type := 4, pos := "law.go:43", after := #[{ on := 10, ground := Go.Ground.data }, { on := 13, ground := Go.Ground.data }, { on := 13, ground := Go.Ground.chain }, { on := 7, ground := Go.Ground.guard }], guard := some (7, false) },
  { dst := some 220, op := Go.Op.unOp Go.UnOp.not 4 (Go.Operand.tmp 219), type := 4, pos := "law.go:43", after := #[{ on := 14, ground := Go.Ground.data }, { on := 7, ground := Go.Ground.guard }], guard := some (7, false) },
  { dst := some 221, op := Go.Op.pick (Go.Operand.tmp 212) (Go.Operand.const (Go.Value.bool true)) (Go.Operand.tmp 220), type := 4, pos := "law.go:43", after := #[{ on := 7, ground := Go.Ground.data }, { on := 15, ground := Go.Ground.data }], guard := none },
  { dst := some 222, op := Go.Op.move (Go.Operand.tmp 221), type := 4, pos := "law.go:43", after := #[{ on := 16, ground := Go.Ground.data }, { on := 14, ground := Go.Ground.chain }], guard := none },
  { dst := some 223, op := Go.Op.load 24 (Go.Operand.tmp 5), type := 24, pos := "law.go:43", after := #[{ on := 17, ground := Go.Ground.guard }], guard := some (17, false) },
  { dst := some 224, op := Go.Op.move (Go.Operand.tmp 3), type := 3, pos := "law.go:43", after := #[{ on := 17, ground := Go.Ground.guard }], guard := some (17, false) },
  { dst := some 225, op := Go.Op.call { callee := Go.Callee.value (Go.Operand.func 25), args := #[Go.Operand.tmp 223, Go.Operand.tmp 224], argTypes := #[24, 3] }, type := 3, pos := "law.go:43", after := #[{ on := 18, ground := Go.Ground.data }, { on := 19, ground := Go.Ground.data }, { on := 17, ground := Go.Ground.chain }, { on := 17, ground := Go.Ground.guard }], guard := some (17, false) },
  { dst := some 226, op := Go.Op.load 24 (Go.Operand.tmp 5), type := 24, pos := "law.go:43", after := #[{ on := 17, ground := Go.Ground.guard }], guard := some (17, false) },
  { dst := some 227, op := Go.Op.move (Go.Operand.tmp 3), type := 3, pos := "law.go:43", after := #[{ on := 17, ground := Go.Ground.guard }], guard := some (17, false) },
  { dst := some 228, op := Go.Op.call { callee := Go.Callee.value (Go.Operand.func 31), args := #[Go.Operand.tmp 226, Go.Operand.tmp 227], argTypes := #[24, 3] }, type := 3, pos := "law.go:43", after := #[{ on := 21, ground := Go.Ground.data }, { on := 22, ground := Go.Ground.data }, { on := 20, ground := Go.Ground.chain }, { on := 17, ground := Go.Ground.guard }], guard := some (17, false) },
  { dst := some 229, op := Go.Op.binOp Go.BinOp.neq 3 (Go.Operand.tmp 225) (Go.Operand.tmp 228) 3, type := 4, pos := "law.go:43", after := #[{ on := 20, ground := Go.Ground.data }, { on := 23, ground := Go.Ground.data }, { on := 17, ground := Go.Ground.guard }], guard := some (17, false) },
  { dst := some 230, op := Go.Op.pick (Go.Operand.tmp 222) (Go.Operand.const (Go.Value.bool true)) (Go.Operand.tmp 229), type := 4, pos := "law.go:43", after := #[{ on := 17, ground := Go.Ground.data }, { on := 24, ground := Go.Ground.data }], guard := none }]
set_option maxHeartbeats 16000000 in
set_option maxRecDepth 100000 in
theorem forestRight17_region {Q : Exit → Act → World → Prop} {a0 : Act} {W : World} (hsz : factsOK forestRight17Ops a0.tmps.size = true) {x T U : Int} {lo : List Int} {m : Int} {q0 : Nat} {fa : Option Addr} {fl fc : Nat}
    (hq0 : q0 < W.heap.size) (hc00 : W.cell? ⟨q0, 0, none⟩ = some (.slice fa fl fc)) (hc01 : W.cell? ⟨q0, 1, none⟩ = some (.int .i64 m))

    (h3 : a0.tmps[3]? = some (.int .i64 x))
    (h5 : a0.tmps[5]? = some (.pointer (some ⟨q0, 0, none⟩)))
    (C2 : CallFact Try.prog 22 #[forV fa fl fc m, .int .i64 x] W (isV (.int .i64 T)))
    (C5 : CallFact Try.prog 28 #[forV fa fl fc m, .int .i64 x] W (isV (.int .i64 T)))
    (C10 : CallFact Try.prog 23 #[forV fa fl fc m, .int .i64 x] W (rowF lo))
    (C13 : CallFact Try.prog 30 #[forV fa fl fc m, .int .i64 x] W (rowF lo))
    (C20 : CallFact Try.prog 25 #[forV fa fl fc m, .int .i64 x] W (isV (.int .i64 U)))
    (C23 : CallFact Try.prog 31 #[forV fa fl fc m, .int .i64 x] W (isV (.int .i64 U)))
    (hQ : ∀ (v : Nat → Value) w', Below W.heap.size W w' → Q .normal ⟨(puts a0.tmps.toList [(some 205, v 0), (some 206, v 1), (some 207, v 2), (some 208, v 3), (some 209, v 4), (some 210, v 5), (some 211, v 6), (some 212, v 7), (some 213, v 8), (some 214, v 9), (some 215, v 10), (some 216, v 11), (some 217, v 12), (some 218, v 13), (some 219, v 14), (some 220, v 15), (some 221, v 16), (some 222, v 17), (some 223, v 18), (some 224, v 19), (some 225, v 20), (some 226, v 21), (some 227, v 22), (some 228, v 23), (some 229, v 24), (some 230, .bool false)]).toArray, a0.defers⟩ w') :
    (Code.region 17 forestRight17Ops.toArray true).wp Try.prog Q a0 W := by
  refine wp_region_facts [isV (forV fa fl fc m), isV (.int .i64 x), isV (.int .i64 T), isV (forV fa fl fc m), isV (.int .i64 x), isV (.int .i64 T), isV (.bool false), isV (.bool false), isV (forV fa fl fc m), isV (.int .i64 x), rowF lo, isV (forV fa fl fc m), isV (.int .i64 x), rowF lo, isV (.bool true), isV (.bool false), isV (.bool false), isV (.bool false), isV (forV fa fl fc m), isV (.int .i64 x), isV (.int .i64 U), isV (forV fa fl fc m), isV (.int .i64 x), isV (.int .i64 U), isV (.bool false), isV (.bool false)] (by kernel_rfl) hsz rfl (.cons ?_ (.cons ?_ (.cons ?_ (.cons ?_ (.cons ?_ (.cons ?_ (.cons ?_ (.cons ?_ (.cons ?_ (.cons ?_ (.cons ?_ (.cons ?_ (.cons ?_ (.cons ?_ (.cons ?_ (.cons ?_ (.cons ?_ (.cons ?_ (.cons ?_ (.cons ?_ (.cons ?_ (.cons ?_ (.cons ?_ (.cons ?_ (.cons ?_ (.cons ?_ .nil)))))))))))))))))))))))))) ?_
  · intro a w v K h hK
    rw [if_pos (wanted_none rfl)]
    have e5 := h.out (t := 5) (by kernel_rfl) h5
    have c0 := (h.below.cell (p := ⟨q0, 0, none⟩) hq0).trans hc00
    have c1 := (h.below.cell (p := ⟨q0, 1, none⟩) hq0).trans hc01
    have hK := Lib.hid hK; clear h
    go_simp
    exact hK.out _ _ rfl (Below.refl _ _)
  · intro a w v K h hK
    rw [if_pos (wanted_none rfl)]
    have e3 := h.out (t := 3) (by kernel_rfl) h3
    have hK := Lib.hid hK; clear h
    go_simp
    exact hK.out _ _ rfl (Below.refl _ _)
  · intro a w v K h hK
    rw [if_pos (wanted_none rfl)]
    have e205 := h.at_ (j := 0) (d := 205) (by decide) (by kernel_rfl) rfl rfl
    have e206 := h.at_ (j := 1) (d := 206) (by decide) (by kernel_rfl) rfl rfl
    have hc := C2 w h.below
    have hK := Lib.hid hK; clear h
    go_simp
    refine hc.mono ?_
    rintro e w' ⟨u, rfl, hu, hb⟩
    exact hK.out _ _ hu hb
  · intro a w v K h hK
    rw [if_pos (wanted_none rfl)]
    have e5 := h.out (t := 5) (by kernel_rfl) h5
    have c0 := (h.below.cell (p := ⟨q0, 0, none⟩) hq0).trans hc00
    have c1 := (h.below.cell (p := ⟨q0, 1, none⟩) hq0).trans hc01
    have hK := Lib.hid hK; clear h
    go_simp
    exact hK.out _ _ rfl (Below.refl _ _)
  · intro a w v K h hK
    rw [if_pos (wanted_none rfl)]
    have e3 := h.out (t := 3) (by kernel_rfl) h3
    have hK := Lib.hid hK; clear h
    go_simp
    exact hK.out _ _ rfl (Below.refl _ _)
  · intro a w v K h hK
    rw [if_pos (wanted_none rfl)]
    have e208 := h.at_ (j := 3) (d := 208) (by decide) (by kernel_rfl) rfl rfl
    have e209 := h.at_ (j := 4) (d := 209) (by decide) (by kernel_rfl) rfl rfl
    have hc := C5 w h.below
    have hK := Lib.hid hK; clear h
    go_simp
    refine hc.mono ?_
    rintro e w' ⟨u, rfl, hu, hb⟩
    exact hK.out _ _ hu hb
  · intro a w v K h hK
    rw [if_pos (wanted_none rfl)]
    have e207 := h.at_ (j := 2) (d := 207) (by decide) (by kernel_rfl) rfl rfl
    have e210 := h.at_ (j := 5) (d := 210) (by decide) (by kernel_rfl) rfl rfl
    have hK := Lib.hid hK; clear h
    go_simp
    exact hK.out _ _ rfl (Below.refl _ _)
  · intro a w v K h hK
    rw [if_pos (wanted_none rfl)]
    have e211 := h.at_ (j := 6) (d := 211) (by decide) (by kernel_rfl) rfl rfl
    have hK := Lib.hid hK; clear h
    go_simp
    exact hK.out _ _ rfl (Below.refl _ _)
  · intro a w v K h hK
    have e212 := h.at_ (j := 7) (d := 212) (by decide) (by kernel_rfl) rfl rfl
    rw [if_pos (wanted_some (l := forestRight17Ops) rfl rfl e212)]
    have e5 := h.out (t := 5) (by kernel_rfl) h5
    have c0 := (h.below.cell (p := ⟨q0, 0, none⟩) hq0).trans hc00
    have c1 := (h.below.cell (p := ⟨q0, 1, none⟩) hq0).trans hc01
    have hK := Lib.hid hK; clear h
    go_simp
    exact hK.out _ _ rfl (Below.refl _ _)
  · intro a w v K h hK
    have e212 := h.at_ (j := 7) (d := 212) (by decide) (by kernel_rfl) rfl rfl
    rw [if_pos (wanted_some (l := forestRight17Ops) rfl rfl e212)]
    have e3 := h.out (t := 3) (by kernel_rfl) h3
    have hK := Lib.hid hK; clear h
    go_simp
    exact hK.out _ _ rfl (Below.refl _ _)
  · intro a w v K h hK
    have e212 := h.at_ (j := 7) (d := 212) (by decide) (by kernel_rfl) rfl rfl
    rw [if_pos (wanted_some (l := forestRight17Ops) rfl rfl e212)]
    have e213 := h.at_ (j := 8) (d := 213) (by decide) (by kernel_rfl) rfl rfl
    have e214 := h.at_ (j := 9) (d := 214) (by decide) (by kernel_rfl) rfl rfl
    have hc := C10 w h.below
    have hK := Lib.hid hK; clear h
    go_simp
    refine hc.mono ?_
    rintro e w' ⟨u, rfl, hu, hb⟩
    exact hK.out _ _ hu hb
  · intro a w v K h hK
    have e212 := h.at_ (j := 7) (d := 212) (by decide) (by kernel_rfl) rfl rfl
    rw [if_pos (wanted_some (l := forestRight17Ops) rfl rfl e212)]
    have e5 := h.out (t := 5) (by kernel_rfl) h5
    have c0 := (h.below.cell (p := ⟨q0, 0, none⟩) hq0).trans hc00
    have c1 := (h.below.cell (p := ⟨q0, 1, none⟩) hq0).trans hc01
    have hK := Lib.hid hK; clear h
    go_simp
    exact hK.out _ _ rfl (Below.refl _ _)
  · intro a w v K h hK
    have e212 := h.at_ (j := 7) (d := 212) (by decide) (by kernel_rfl) rfl rfl
    rw [if_pos (wanted_some (l := forestRight17Ops) rfl rfl e212)]
    have e3 := h.out (t := 3) (by kernel_rfl) h3
    have hK := Lib.hid hK; clear h
    go_simp
    exact hK.out _ _ rfl (Below.refl _ _)
  · intro a w v K h hK
    have e212 := h.at_ (j := 7) (d := 212) (by decide) (by kernel_rfl) rfl rfl
    rw [if_pos (wanted_some (l := forestRight17Ops) rfl rfl e212)]
    have e216 := h.at_ (j := 11) (d := 216) (by decide) (by kernel_rfl) rfl rfl
    have e217 := h.at_ (j := 12) (d := 217) (by decide) (by kernel_rfl) rfl rfl
    have hc := C13 w h.below
    have hK := Lib.hid hK; clear h
    go_simp
    refine hc.mono ?_
    rintro e w' ⟨u, rfl, hu, hb⟩
    exact hK.out _ _ hu hb
  · intro a w v K h hK
    have e212 := h.at_ (j := 7) (d := 212) (by decide) (by kernel_rfl) rfl rfl
    rw [if_pos (wanted_some (l := forestRight17Ops) rfl rfl e212)]
    obtain ⟨u215, e215, r215⟩ := h.with (j := 10) (d := 215) (by decide) (by kernel_rfl) rfl rfl
    obtain ⟨u218, e218, r218⟩ := h.with (j := 13) (d := 218) (by decide) (by kernel_rfl) rfl rfl
    obtain ⟨a1, l1, c1, rfl, hr1⟩ := r215
    obtain ⟨a2, l2, c2, rfl, hr2⟩ := r218
    have hc := ints_same hr1 hr2
    have hK := Lib.hid hK; clear h
    go_simp
    refine hc.mono ?_
    rintro e w' ⟨u, rfl, hu, hb⟩
    exact hK.out _ _ hu hb
  · intro a w v K h hK
    have e212 := h.at_ (j := 7) (d := 212) (by decide) (by kernel_rfl) rfl rfl
    rw [if_pos (wanted_some (l := forestRight17Ops) rfl rfl e212)]
    have e219 := h.at_ (j := 14) (d := 219) (by decide) (by kernel_rfl) rfl rfl
    have hK := Lib.hid hK; clear h
    go_simp
    exact hK.out _ _ rfl (Below.refl _ _)
  · intro a w v K h hK
    rw [if_pos (wanted_none rfl)]
    have e212 := h.at_ (j := 7) (d := 212) (by decide) (by kernel_rfl) rfl rfl
    have e220 := h.at_ (j := 15) (d := 220) (by decide) (by kernel_rfl) rfl rfl
    have hK := Lib.hid hK; clear h
    go_simp
    exact hK.out _ _ rfl (Below.refl _ _)
  · intro a w v K h hK
    rw [if_pos (wanted_none rfl)]
    have e221 := h.at_ (j := 16) (d := 221) (by decide) (by kernel_rfl) rfl rfl
    have hK := Lib.hid hK; clear h
    go_simp
    exact hK.out _ _ rfl (Below.refl _ _)
  · intro a w v K h hK
    have e222 := h.at_ (j := 17) (d := 222) (by decide) (by kernel_rfl) rfl rfl
    rw [if_pos (wanted_some (l := forestRight17Ops) rfl rfl e222)]
    have e5 := h.out (t := 5) (by kernel_rfl) h5
    have c0 := (h.below.cell (p := ⟨q0, 0, none⟩) hq0).trans hc00
    have c1 := (h.below.cell (p := ⟨q0, 1, none⟩) hq0).trans hc01
    have hK := Lib.hid hK; clear h
    go_simp
    exact hK.out _ _ rfl (Below.refl _ _)
  · intro a w v K h hK
    have e222 := h.at_ (j := 17) (d := 222) (by decide) (by kernel_rfl) rfl rfl
    rw [if_pos (wanted_some (l := forestRight17Ops) rfl rfl e222)]
    have e3 := h.out (t := 3) (by kernel_rfl) h3
    have hK := Lib.hid hK; clear h
    go_simp
    exact hK.out _ _ rfl (Below.refl _ _)
  · intro a w v K h hK
    have e222 := h.at_ (j := 17) (d := 222) (by decide) (by kernel_rfl) rfl rfl
    rw [if_pos (wanted_some (l := forestRight17Ops) rfl rfl e222)]
    have e223 := h.at_ (j := 18) (d := 223) (by decide) (by kernel_rfl) rfl rfl
    have e224 := h.at_ (j := 19) (d := 224) (by decide) (by kernel_rfl) rfl rfl
    have hc := C20 w h.below
    have hK := Lib.hid hK; clear h
    go_simp
    refine hc.mono ?_
    rintro e w' ⟨u, rfl, hu, hb⟩
    exact hK.out _ _ hu hb
  · intro a w v K h hK
    have e222 := h.at_ (j := 17) (d := 222) (by decide) (by kernel_rfl) rfl rfl
    rw [if_pos (wanted_some (l := forestRight17Ops) rfl rfl e222)]
    have e5 := h.out (t := 5) (by kernel_rfl) h5
    have c0 := (h.below.cell (p := ⟨q0, 0, none⟩) hq0).trans hc00
    have c1 := (h.below.cell (p := ⟨q0, 1, none⟩) hq0).trans hc01
    have hK := Lib.hid hK; clear h
    go_simp
    exact hK.out _ _ rfl (Below.refl _ _)
  · intro a w v K h hK
    have e222 := h.at_ (j := 17) (d := 222) (by decide) (by kernel_rfl) rfl rfl
    rw [if_pos (wanted_some (l := forestRight17Ops) rfl rfl e222)]
    have e3 := h.out (t := 3) (by kernel_rfl) h3
    have hK := Lib.hid hK; clear h
    go_simp
    exact hK.out _ _ rfl (Below.refl _ _)
  · intro a w v K h hK
    have e222 := h.at_ (j := 17) (d := 222) (by decide) (by kernel_rfl) rfl rfl
    rw [if_pos (wanted_some (l := forestRight17Ops) rfl rfl e222)]
    have e226 := h.at_ (j := 21) (d := 226) (by decide) (by kernel_rfl) rfl rfl
    have e227 := h.at_ (j := 22) (d := 227) (by decide) (by kernel_rfl) rfl rfl
    have hc := C23 w h.below
    have hK := Lib.hid hK; clear h
    go_simp
    refine hc.mono ?_
    rintro e w' ⟨u, rfl, hu, hb⟩
    exact hK.out _ _ hu hb
  · intro a w v K h hK
    have e222 := h.at_ (j := 17) (d := 222) (by decide) (by kernel_rfl) rfl rfl
    rw [if_pos (wanted_some (l := forestRight17Ops) rfl rfl e222)]
    have e225 := h.at_ (j := 20) (d := 225) (by decide) (by kernel_rfl) rfl rfl
    have e228 := h.at_ (j := 23) (d := 228) (by decide) (by kernel_rfl) rfl rfl
    have hK := Lib.hid hK; clear h
    go_simp
    exact hK.out _ _ rfl (Below.refl _ _)
  · intro a w v K h hK
    rw [if_pos (wanted_none rfl)]
    have e222 := h.at_ (j := 17) (d := 222) (by decide) (by kernel_rfl) rfl rfl
    have e229 := h.at_ (j := 24) (d := 229) (by decide) (by kernel_rfl) rfl rfl
    have hK := Lib.hid hK; clear h
    go_simp
    exact hK.out _ _ rfl (Below.refl _ _)
  · intro v w' hb hf
    have e : v 25 = .bool false := hf 25 (by decide) _ rfl
    have := hQ v w' hb
    rw [← e] at this
    exact this
def forestRight21DOps : List Oper := [
  { dst := some 252, op := Go.Op.load 24 (Go.Operand.tmp 5), type := 24, pos := "law.go:49", after := #[], guard := none },
  { dst := some 253, op := Go.Op.move (Go.Operand.tmp 3), type := 3, pos := "law.go:49", after := #[], guard := none },
  { dst := some 254, op := Go.Op.move (Go.Operand.tmp 4), type := 3, pos := "law.go:49", after := #[], guard := none },
  { dst := some 255, op := Go.Op.call { callee := Go.Callee.value (Go.Operand.func 24), args := #[Go.Operand.tmp 252, Go.Operand.tmp 253, Go.Operand.tmp 254], argTypes := #[24, 3, 3] }, type := 4, pos := "law.go:49", after := #[{ on := 0, ground := Go.Ground.data }, { on := 1, ground := Go.Ground.data }, { on := 2, ground := Go.Ground.data }], guard := none },
  { dst := some 256, op := Go.Op.load 24 (Go.Operand.tmp 5), type := 24, pos := "law.go:49", after := #[], guard := none },
  { dst := some 257, op := Go.Op.move (Go.Operand.tmp 3), type := 3, pos := "law.go:49", after := #[], guard := none },
  { dst := some 258, op := Go.Op.move (Go.Operand.tmp 4), type := 3, pos := "law.go:49", after := #[], guard := none },
  { dst := some 259, op := Go.Op.call { callee := Go.Callee.value (Go.Operand.func 32), args := #[Go.Operand.tmp 256, Go.Operand.tmp 257, Go.Operand.tmp 258], argTypes := #[24, 3, 3] }, type := 4, pos := "law.go:49", after := #[{ on := 4, ground := Go.Ground.data }, { on := 5, ground := Go.Ground.data }, { on := 6, ground := Go.Ground.data }, { on := 3, ground := Go.Ground.chain }], guard := none },
  { dst := some 260, op := Go.Op.binOp Go.BinOp.eql 4 (Go.Operand.tmp 255) (Go.Operand.tmp 259) 4, type := 4, pos := "law.go:49", after := #[{ on := 3, ground := Go.Ground.data }, { on := 7, ground := Go.Ground.data }], guard := none },
  { dst := some 261, op := Go.Op.move (Go.Operand.tmp 260), type := 4, pos := "law.go:49", after := #[{ on := 8, ground := Go.Ground.data }, { on := 7, ground := Go.Ground.chain }], guard := none },
  { dst := some 262, op := Go.Op.load 24 (Go.Operand.tmp 5), type := 24, pos := "law.go:49", after := #[{ on := 9, ground := Go.Ground.guard }], guard := some (9, true) },
  { dst := some 263, op := Go.Op.move (Go.Operand.tmp 3), type := 3, pos := "law.go:49", after := #[{ on := 9, ground := Go.Ground.guard }], guard := some (9, true) },
  { dst := some 264, op := Go.Op.move (Go.Operand.tmp 4), type := 3, pos := "law.go:49", after := #[{ on := 9, ground := Go.Ground.guard }], guard := some (9, true) },
  { dst := some 265, op := Go.Op.call { callee := Go.Callee.value (Go.Operand.func 26), args := #[Go.Operand.tmp 262, Go.Operand.tmp 263, Go.Operand.tmp 264], argTypes := #[24, 3, 3] }, type := 4, pos := "law.go:49", after := #[{ on := 10, ground := Go.Ground.data }, { on := 11, ground := Go.Ground.data }, { on := 12, ground := Go.Ground.data }, { on := 9, ground := Go.Ground.chain }, { on := 9, ground := Go.Ground.guard }], guard := some (9, true) },
  { dst := some 266, op := Go.Op.load 24 (Go.Operand.tmp 5), type := 24, pos := "law.go:49", after := #[{ on := 9, ground := Go.Ground.guard }], guard := some (9, true) },
  { dst := some 267, op := Go.Op.move (Go.Operand.tmp 3), type := 3, pos := "law.go:49", after := #[{ on := 9, ground := Go.Ground.guard }], guard := some (9, true) },
  { dst := some 268, op := Go.Op.call { callee := Go.Callee.value (Go.Operand.func 28), args := #[Go.Operand.tmp 266, Go.Operand.tmp 267], argTypes := #[24, 3] }, type := 3, pos := "law.go:49", after := #[{ on := 14, ground := Go.Ground.data }, { on := 15, ground := Go.Ground.data }, { on := 13, ground := Go.Ground.chain }, { on := 9, ground := Go.Ground.guard }], guard := some (9, true) },
  { dst := some 269, op := Go.Op.load 24 (Go.Operand.tmp 5), type := 24, pos := "law.go:49", after := #[{ on := 9, ground := Go.Ground.guard }], guard := some (9, true) },
  { dst := some 270, op := Go.Op.move (Go.Operand.tmp 4), type := 3, pos := "law.go:49", after := #[{ on := 9, ground := Go.Ground.guard }], guard := some (9, true) },
  { dst := some 271, op := Go.Op.call { callee := Go.Callee.value (Go.Operand.func 28), args := #[Go.Operand.tmp 269, Go.Operand.tmp 270], argTypes := #[24, 3] }, type := 3, pos := "law.go:49", after := #[{ on := 17, ground := Go.Ground.data }, { on := 18, ground := Go.Ground.data }, { on := 16, ground := Go.Ground.chain }, { on := 9, ground := Go.Ground.guard }], guard := some (9, true) },
  { dst := some 272, op := Go.Op.binOp Go.BinOp.eql 3 (Go.Operand.tmp 268) (Go.Operand.tmp 271) 3, type := 4, pos := "law.go:49", after := #[{ on := 16, ground := Go.Ground.data }, { on := 19, ground := Go.Ground.data }, { on := 9, ground := Go.Ground.guard }], guard := some (9, true) },
  { dst := some 273, op := Go.Op.move (Go.Operand.tmp 272), type := 4, pos := "law.go:49", after := #[{ on := 20, ground := Go.Ground.data }, { on := 19, ground := Go.Ground.chain }, { on := 9, ground := Go.Ground.guard }], guard := some (9, true) },
  { dst := some 274, op := Go.Op.load 24 (Go.Operand.tmp 5), type := 24, pos := "law.go:49", after := #[{ on := 21, ground := Go.Ground.guard }], guard := some (21, true) },
  { dst := some 275, op := Go.Op.move (Go.Operand.tmp 3), type := 3, pos := "law.go:49", after := #[{ on := 21, ground := Go.Ground.guard }], guard := some (21, true) },
  { dst := some 276, op := Go.Op.move (Go.Operand.tmp 4), type := 3, pos := "law.go:49", after := #[{ on := 21, ground := Go.Ground.guard }], guard := some (21, true) },
  { dst := some 277, op := Go.Op.call { callee := Go.Callee.value (Go.Operand.func 33), args := #[Go.Operand.tmp 274, Go.Operand.tmp 275, Go.Operand.tmp 276], argTypes := #[24, 3, 3] }, type := 4, pos := "law.go:49", after := #[{ on := 22, ground := Go.Ground.data }, { on := 23, ground := Go.Ground.data }, { on := 24, ground := Go.Ground.data }, { on := 21, ground := Go.Ground.chain }, { on := 21, ground := Go.Ground.guard }], guard := some (21, true) },
  { dst := some 278, op := Go.Op.pick (Go.Operand.tmp 273) (Go.Operand.tmp 277) (Go.Operand.const (Go.Value.bool false)), type := 4, pos := "law.go:49", after := #[{ on := 21, ground := Go.Ground.data }, { on := 25, ground := Go.Ground.data }, { on := 9, ground := Go.Ground.guard }], guard := some (9, true) },
  { dst := some 279, op := Go.Op.binOp Go.BinOp.eql 4 (Go.Operand.tmp 265) (Go.Operand.tmp 278) 4, type := 4, pos := "law.go:49", after := #[{ on := 13, ground := Go.Ground.data }, { on := 26, ground := Go.Ground.data }, { on := 9, ground := Go.Ground.guard }], guard := some (9, true) },
  { dst := some 280, op := Go.Op.pick (Go.Operand.tmp 261) (Go.Operand.tmp 279) (Go.Operand.const (Go.Value.bool false)), type := 4, pos := "law.go:49", after := #[{ on := 9, ground := Go.Ground.data }, { on := 27, ground := Go.Ground.data }], guard := none },
  { dst := some 10, op := Go.Op.assign (Go.Operand.tmp 280), type := 4, pos := "law.go:49", after := #[{ on := 28, ground := Go.Ground.data }, { on := 25, ground := Go.Ground.chain }, { on := 0, ground := Go.Ground.phase }, { on := 1, ground := Go.Ground.phase }, { on := 2, ground := Go.Ground.phase }, { on := 3, ground := Go.Ground.phase }, { on := 4, ground := Go.Ground.phase }, { on := 5, ground := Go.Ground.phase }, { on := 6, ground := Go.Ground.phase }, { on := 7, ground := Go.Ground.phase }, { on := 8, ground := Go.Ground.phase }, { on := 9, ground := Go.Ground.phase }, { on := 10, ground := Go.Ground.phase }, { on := 11, ground := Go.Ground.phase }, { on := 12, ground := Go.Ground.phase }, { on := 13, ground := Go.Ground.phase }, { on := 14, ground := Go.Ground.phase }, { on := 15, ground := Go.Ground.phase }, { on := 16, ground := Go.Ground.phase }, { on := 17, ground := Go.Ground.phase }, { on := 18, ground := Go.Ground.phase }, { on := 19, ground := Go.Ground.phase }, { on := 20, ground := Go.Ground.phase }, { on := 21, ground := Go.Ground.phase }, { on := 22, ground := Go.Ground.phase }, { on := 23, ground := Go.Ground.phase }, { on := 24, ground := Go.Ground.phase }, { on := 25, ground := Go.Ground.phase }, { on := 26, ground := Go.Ground.phase }, { on := 27, ground := Go.Ground.phase }, { on := 28, ground := Go.Ground.phase }], guard := none }]
set_option maxHeartbeats 16000000 in
set_option maxRecDepth 100000 in
theorem forestRight21D_region {Q : Exit → Act → World → Prop} {a0 : Act} {W : World} (hsz : factsOK forestRight21DOps a0.tmps.size = true) {x y RA : Int} {H A : Bool} {m : Int} {q0 : Nat} {fa : Option Addr} {fl fc : Nat}
    (hq0 : q0 < W.heap.size) (hc00 : W.cell? ⟨q0, 0, none⟩ = some (.slice fa fl fc)) (hc01 : W.cell? ⟨q0, 1, none⟩ = some (.int .i64 m))

    (h3 : a0.tmps[3]? = some (.int .i64 x))
    (h4 : a0.tmps[4]? = some (.int .i64 y))
    (h5 : a0.tmps[5]? = some (.pointer (some ⟨q0, 0, none⟩)))
    (C3 : CallFact Try.prog 24 #[forV fa fl fc m, .int .i64 x, .int .i64 y] W (isV (.bool H)))
    (C7 : CallFact Try.prog 32 #[forV fa fl fc m, .int .i64 x, .int .i64 y] W (isV (.bool H)))
    (C13 : CallFact Try.prog 26 #[forV fa fl fc m, .int .i64 x, .int .i64 y] W (isV (.bool A)))
    (C16 : CallFact Try.prog 28 #[forV fa fl fc m, .int .i64 x] W (isV (.int .i64 RA)))
    (C19 : CallFact Try.prog 28 #[forV fa fl fc m, .int .i64 y] W (isV (.int .i64 RA)))
    (C25 : CallFact Try.prog 33 #[forV fa fl fc m, .int .i64 x, .int .i64 y] W (isV (.bool A)))
    (hQ : ∀ (v : Nat → Value) w', Below W.heap.size W w' → Q .normal ⟨(puts a0.tmps.toList [(some 252, v 0), (some 253, v 1), (some 254, v 2), (some 255, v 3), (some 256, v 4), (some 257, v 5), (some 258, v 6), (some 259, v 7), (some 260, v 8), (some 261, v 9), (some 262, v 10), (some 263, v 11), (some 264, v 12), (some 265, v 13), (some 266, v 14), (some 267, v 15), (some 268, v 16), (some 269, v 17), (some 270, v 18), (some 271, v 19), (some 272, v 20), (some 273, v 21), (some 274, v 22), (some 275, v 23), (some 276, v 24), (some 277, v 25), (some 278, v 26), (some 279, v 27), (some 280, v 28), (some 10, .bool true)]).toArray, a0.defers⟩ w') :
    (Code.region 21 forestRight21DOps.toArray true).wp Try.prog Q a0 W := by
  refine wp_region_facts [isV (forV fa fl fc m), isV (.int .i64 x), isV (.int .i64 y), isV (.bool H), isV (forV fa fl fc m), isV (.int .i64 x), isV (.int .i64 y), isV (.bool H), isV (.bool true), isV (.bool true), isV (forV fa fl fc m), isV (.int .i64 x), isV (.int .i64 y), isV (.bool A), isV (forV fa fl fc m), isV (.int .i64 x), isV (.int .i64 RA), isV (forV fa fl fc m), isV (.int .i64 y), isV (.int .i64 RA), isV (.bool true), isV (.bool true), isV (forV fa fl fc m), isV (.int .i64 x), isV (.int .i64 y), isV (.bool A), isV (.bool A), isV (.bool true), isV (.bool true), isV (.bool true)] (by kernel_rfl) hsz rfl (.cons ?_ (.cons ?_ (.cons ?_ (.cons ?_ (.cons ?_ (.cons ?_ (.cons ?_ (.cons ?_ (.cons ?_ (.cons ?_ (.cons ?_ (.cons ?_ (.cons ?_ (.cons ?_ (.cons ?_ (.cons ?_ (.cons ?_ (.cons ?_ (.cons ?_ (.cons ?_ (.cons ?_ (.cons ?_ (.cons ?_ (.cons ?_ (.cons ?_ (.cons ?_ (.cons ?_ (.cons ?_ (.cons ?_ (.cons ?_ .nil)))))))))))))))))))))))))))))) ?_
  · intro a w v K h hK
    rw [if_pos (wanted_none rfl)]
    have e5 := h.out (t := 5) (by kernel_rfl) h5
    have c0 := (h.below.cell (p := ⟨q0, 0, none⟩) hq0).trans hc00
    have c1 := (h.below.cell (p := ⟨q0, 1, none⟩) hq0).trans hc01
    have hK := Lib.hid hK; clear h
    go_simp
    exact hK.out _ _ rfl (Below.refl _ _)
  · intro a w v K h hK
    rw [if_pos (wanted_none rfl)]
    have e3 := h.out (t := 3) (by kernel_rfl) h3
    have hK := Lib.hid hK; clear h
    go_simp
    exact hK.out _ _ rfl (Below.refl _ _)
  · intro a w v K h hK
    rw [if_pos (wanted_none rfl)]
    have e4 := h.out (t := 4) (by kernel_rfl) h4
    have hK := Lib.hid hK; clear h
    go_simp
    exact hK.out _ _ rfl (Below.refl _ _)
  · intro a w v K h hK
    rw [if_pos (wanted_none rfl)]
    have e252 := h.at_ (j := 0) (d := 252) (by decide) (by kernel_rfl) rfl rfl
    have e253 := h.at_ (j := 1) (d := 253) (by decide) (by kernel_rfl) rfl rfl
    have e254 := h.at_ (j := 2) (d := 254) (by decide) (by kernel_rfl) rfl rfl
    have hc := C3 w h.below
    have hK := Lib.hid hK; clear h
    go_simp
    refine hc.mono ?_
    rintro e w' ⟨u, rfl, hu, hb⟩
    exact hK.out _ _ hu hb
  · intro a w v K h hK
    rw [if_pos (wanted_none rfl)]
    have e5 := h.out (t := 5) (by kernel_rfl) h5
    have c0 := (h.below.cell (p := ⟨q0, 0, none⟩) hq0).trans hc00
    have c1 := (h.below.cell (p := ⟨q0, 1, none⟩) hq0).trans hc01
    have hK := Lib.hid hK; clear h
    go_simp
    exact hK.out _ _ rfl (Below.refl _ _)
  · intro a w v K h hK
    rw [if_pos (wanted_none rfl)]
    have e3 := h.out (t := 3) (by kernel_rfl) h3
    have hK := Lib.hid hK; clear h
    go_simp
    exact hK.out _ _ rfl (Below.refl _ _)
  · intro a w v K h hK
    rw [if_pos (wanted_none rfl)]
    have e4 := h.out (t := 4) (by kernel_rfl) h4
    have hK := Lib.hid hK; clear h
    go_simp
    exact hK.out _ _ rfl (Below.refl _ _)
  · intro a w v K h hK
    rw [if_pos (wanted_none rfl)]
    have e256 := h.at_ (j := 4) (d := 256) (by decide) (by kernel_rfl) rfl rfl
    have e257 := h.at_ (j := 5) (d := 257) (by decide) (by kernel_rfl) rfl rfl
    have e258 := h.at_ (j := 6) (d := 258) (by decide) (by kernel_rfl) rfl rfl
    have hc := C7 w h.below
    have hK := Lib.hid hK; clear h
    go_simp
    refine hc.mono ?_
    rintro e w' ⟨u, rfl, hu, hb⟩
    exact hK.out _ _ hu hb
  · intro a w v K h hK
    rw [if_pos (wanted_none rfl)]
    have e255 := h.at_ (j := 3) (d := 255) (by decide) (by kernel_rfl) rfl rfl
    have e259 := h.at_ (j := 7) (d := 259) (by decide) (by kernel_rfl) rfl rfl
    have hK := Lib.hid hK; clear h
    go_simp
    exact hK.out _ _ rfl (Below.refl _ _)
  · intro a w v K h hK
    rw [if_pos (wanted_none rfl)]
    have e260 := h.at_ (j := 8) (d := 260) (by decide) (by kernel_rfl) rfl rfl
    have hK := Lib.hid hK; clear h
    go_simp
    exact hK.out _ _ rfl (Below.refl _ _)
  · intro a w v K h hK
    have e261 := h.at_ (j := 9) (d := 261) (by decide) (by kernel_rfl) rfl rfl
    rw [if_pos (wanted_some (l := forestRight21DOps) rfl rfl e261)]
    have e5 := h.out (t := 5) (by kernel_rfl) h5
    have c0 := (h.below.cell (p := ⟨q0, 0, none⟩) hq0).trans hc00
    have c1 := (h.below.cell (p := ⟨q0, 1, none⟩) hq0).trans hc01
    have hK := Lib.hid hK; clear h
    go_simp
    exact hK.out _ _ rfl (Below.refl _ _)
  · intro a w v K h hK
    have e261 := h.at_ (j := 9) (d := 261) (by decide) (by kernel_rfl) rfl rfl
    rw [if_pos (wanted_some (l := forestRight21DOps) rfl rfl e261)]
    have e3 := h.out (t := 3) (by kernel_rfl) h3
    have hK := Lib.hid hK; clear h
    go_simp
    exact hK.out _ _ rfl (Below.refl _ _)
  · intro a w v K h hK
    have e261 := h.at_ (j := 9) (d := 261) (by decide) (by kernel_rfl) rfl rfl
    rw [if_pos (wanted_some (l := forestRight21DOps) rfl rfl e261)]
    have e4 := h.out (t := 4) (by kernel_rfl) h4
    have hK := Lib.hid hK; clear h
    go_simp
    exact hK.out _ _ rfl (Below.refl _ _)
  · intro a w v K h hK
    have e261 := h.at_ (j := 9) (d := 261) (by decide) (by kernel_rfl) rfl rfl
    rw [if_pos (wanted_some (l := forestRight21DOps) rfl rfl e261)]
    have e262 := h.at_ (j := 10) (d := 262) (by decide) (by kernel_rfl) rfl rfl
    have e263 := h.at_ (j := 11) (d := 263) (by decide) (by kernel_rfl) rfl rfl
    have e264 := h.at_ (j := 12) (d := 264) (by decide) (by kernel_rfl) rfl rfl
    have hc := C13 w h.below
    have hK := Lib.hid hK; clear h
    go_simp
    refine hc.mono ?_
    rintro e w' ⟨u, rfl, hu, hb⟩
    exact hK.out _ _ hu hb
  · intro a w v K h hK
    have e261 := h.at_ (j := 9) (d := 261) (by decide) (by kernel_rfl) rfl rfl
    rw [if_pos (wanted_some (l := forestRight21DOps) rfl rfl e261)]
    have e5 := h.out (t := 5) (by kernel_rfl) h5
    have c0 := (h.below.cell (p := ⟨q0, 0, none⟩) hq0).trans hc00
    have c1 := (h.below.cell (p := ⟨q0, 1, none⟩) hq0).trans hc01
    have hK := Lib.hid hK; clear h
    go_simp
    exact hK.out _ _ rfl (Below.refl _ _)
  · intro a w v K h hK
    have e261 := h.at_ (j := 9) (d := 261) (by decide) (by kernel_rfl) rfl rfl
    rw [if_pos (wanted_some (l := forestRight21DOps) rfl rfl e261)]
    have e3 := h.out (t := 3) (by kernel_rfl) h3
    have hK := Lib.hid hK; clear h
    go_simp
    exact hK.out _ _ rfl (Below.refl _ _)
  · intro a w v K h hK
    have e261 := h.at_ (j := 9) (d := 261) (by decide) (by kernel_rfl) rfl rfl
    rw [if_pos (wanted_some (l := forestRight21DOps) rfl rfl e261)]
    have e266 := h.at_ (j := 14) (d := 266) (by decide) (by kernel_rfl) rfl rfl
    have e267 := h.at_ (j := 15) (d := 267) (by decide) (by kernel_rfl) rfl rfl
    have hc := C16 w h.below
    have hK := Lib.hid hK; clear h
    go_simp
    refine hc.mono ?_
    rintro e w' ⟨u, rfl, hu, hb⟩
    exact hK.out _ _ hu hb
  · intro a w v K h hK
    have e261 := h.at_ (j := 9) (d := 261) (by decide) (by kernel_rfl) rfl rfl
    rw [if_pos (wanted_some (l := forestRight21DOps) rfl rfl e261)]
    have e5 := h.out (t := 5) (by kernel_rfl) h5
    have c0 := (h.below.cell (p := ⟨q0, 0, none⟩) hq0).trans hc00
    have c1 := (h.below.cell (p := ⟨q0, 1, none⟩) hq0).trans hc01
    have hK := Lib.hid hK; clear h
    go_simp
    exact hK.out _ _ rfl (Below.refl _ _)
  · intro a w v K h hK
    have e261 := h.at_ (j := 9) (d := 261) (by decide) (by kernel_rfl) rfl rfl
    rw [if_pos (wanted_some (l := forestRight21DOps) rfl rfl e261)]
    have e4 := h.out (t := 4) (by kernel_rfl) h4
    have hK := Lib.hid hK; clear h
    go_simp
    exact hK.out _ _ rfl (Below.refl _ _)
  · intro a w v K h hK
    have e261 := h.at_ (j := 9) (d := 261) (by decide) (by kernel_rfl) rfl rfl
    rw [if_pos (wanted_some (l := forestRight21DOps) rfl rfl e261)]
    have e269 := h.at_ (j := 17) (d := 269) (by decide) (by kernel_rfl) rfl rfl
    have e270 := h.at_ (j := 18) (d := 270) (by decide) (by kernel_rfl) rfl rfl
    have hc := C19 w h.below
    have hK := Lib.hid hK; clear h
    go_simp
    refine hc.mono ?_
    rintro e w' ⟨u, rfl, hu, hb⟩
    exact hK.out _ _ hu hb
  · intro a w v K h hK
    have e261 := h.at_ (j := 9) (d := 261) (by decide) (by kernel_rfl) rfl rfl
    rw [if_pos (wanted_some (l := forestRight21DOps) rfl rfl e261)]
    have e268 := h.at_ (j := 16) (d := 268) (by decide) (by kernel_rfl) rfl rfl
    have e271 := h.at_ (j := 19) (d := 271) (by decide) (by kernel_rfl) rfl rfl
    have hK := Lib.hid hK; clear h
    go_simp
    exact hK.out _ _ rfl (Below.refl _ _)
  · intro a w v K h hK
    have e261 := h.at_ (j := 9) (d := 261) (by decide) (by kernel_rfl) rfl rfl
    rw [if_pos (wanted_some (l := forestRight21DOps) rfl rfl e261)]
    have e272 := h.at_ (j := 20) (d := 272) (by decide) (by kernel_rfl) rfl rfl
    have hK := Lib.hid hK; clear h
    go_simp
    exact hK.out _ _ rfl (Below.refl _ _)
  · intro a w v K h hK
    have e273 := h.at_ (j := 21) (d := 273) (by decide) (by kernel_rfl) rfl rfl
    rw [if_pos (wanted_some (l := forestRight21DOps) rfl rfl e273)]
    have e5 := h.out (t := 5) (by kernel_rfl) h5
    have c0 := (h.below.cell (p := ⟨q0, 0, none⟩) hq0).trans hc00
    have c1 := (h.below.cell (p := ⟨q0, 1, none⟩) hq0).trans hc01
    have hK := Lib.hid hK; clear h
    go_simp
    exact hK.out _ _ rfl (Below.refl _ _)
  · intro a w v K h hK
    have e273 := h.at_ (j := 21) (d := 273) (by decide) (by kernel_rfl) rfl rfl
    rw [if_pos (wanted_some (l := forestRight21DOps) rfl rfl e273)]
    have e3 := h.out (t := 3) (by kernel_rfl) h3
    have hK := Lib.hid hK; clear h
    go_simp
    exact hK.out _ _ rfl (Below.refl _ _)
  · intro a w v K h hK
    have e273 := h.at_ (j := 21) (d := 273) (by decide) (by kernel_rfl) rfl rfl
    rw [if_pos (wanted_some (l := forestRight21DOps) rfl rfl e273)]
    have e4 := h.out (t := 4) (by kernel_rfl) h4
    have hK := Lib.hid hK; clear h
    go_simp
    exact hK.out _ _ rfl (Below.refl _ _)
  · intro a w v K h hK
    have e273 := h.at_ (j := 21) (d := 273) (by decide) (by kernel_rfl) rfl rfl
    rw [if_pos (wanted_some (l := forestRight21DOps) rfl rfl e273)]
    have e274 := h.at_ (j := 22) (d := 274) (by decide) (by kernel_rfl) rfl rfl
    have e275 := h.at_ (j := 23) (d := 275) (by decide) (by kernel_rfl) rfl rfl
    have e276 := h.at_ (j := 24) (d := 276) (by decide) (by kernel_rfl) rfl rfl
    have hc := C25 w h.below
    have hK := Lib.hid hK; clear h
    go_simp
    refine hc.mono ?_
    rintro e w' ⟨u, rfl, hu, hb⟩
    exact hK.out _ _ hu hb
  · intro a w v K h hK
    have e261 := h.at_ (j := 9) (d := 261) (by decide) (by kernel_rfl) rfl rfl
    rw [if_pos (wanted_some (l := forestRight21DOps) rfl rfl e261)]
    have e273 := h.at_ (j := 21) (d := 273) (by decide) (by kernel_rfl) rfl rfl
    have e277 := h.at_ (j := 25) (d := 277) (by decide) (by kernel_rfl) rfl rfl
    have hK := Lib.hid hK; clear h
    go_simp
    exact hK.out _ _ rfl (Below.refl _ _)
  · intro a w v K h hK
    have e261 := h.at_ (j := 9) (d := 261) (by decide) (by kernel_rfl) rfl rfl
    rw [if_pos (wanted_some (l := forestRight21DOps) rfl rfl e261)]
    have e265 := h.at_ (j := 13) (d := 265) (by decide) (by kernel_rfl) rfl rfl
    have e278 := h.at_ (j := 26) (d := 278) (by decide) (by kernel_rfl) rfl rfl
    have hK := Lib.hid hK; clear h
    go_simp
    exact hK.out _ _ rfl (Below.refl _ _)
  · intro a w v K h hK
    rw [if_pos (wanted_none rfl)]
    have e261 := h.at_ (j := 9) (d := 261) (by decide) (by kernel_rfl) rfl rfl
    have e279 := h.at_ (j := 27) (d := 279) (by decide) (by kernel_rfl) rfl rfl
    have hK := Lib.hid hK; clear h
    go_simp
    exact hK.out _ _ rfl (Below.refl _ _)
  · intro a w v K h hK
    rw [if_pos (wanted_none rfl)]
    have e280 := h.at_ (j := 28) (d := 280) (by decide) (by kernel_rfl) rfl rfl
    have hK := Lib.hid hK; clear h
    go_simp
    exact hK.out _ _ rfl (Below.refl _ _)
  · intro v w' hb hf
    have e : v 29 = .bool true := hf 29 (by decide) _ rfl
    have := hQ v w' hb
    rw [← e] at this
    exact this
def forestRight21EOps : List Oper := [
  { dst := some 252, op := Go.Op.load 24 (Go.Operand.tmp 5), type := 24, pos := "law.go:49", after := #[], guard := none },
  { dst := some 253, op := Go.Op.move (Go.Operand.tmp 3), type := 3, pos := "law.go:49", after := #[], guard := none },
  { dst := some 254, op := Go.Op.move (Go.Operand.tmp 4), type := 3, pos := "law.go:49", after := #[], guard := none },
  { dst := some 255, op := Go.Op.call { callee := Go.Callee.value (Go.Operand.func 24), args := #[Go.Operand.tmp 252, Go.Operand.tmp 253, Go.Operand.tmp 254], argTypes := #[24, 3, 3] }, type := 4, pos := "law.go:49", after := #[{ on := 0, ground := Go.Ground.data }, { on := 1, ground := Go.Ground.data }, { on := 2, ground := Go.Ground.data }], guard := none },
  { dst := some 256, op := Go.Op.load 24 (Go.Operand.tmp 5), type := 24, pos := "law.go:49", after := #[], guard := none },
  { dst := some 257, op := Go.Op.move (Go.Operand.tmp 3), type := 3, pos := "law.go:49", after := #[], guard := none },
  { dst := some 258, op := Go.Op.move (Go.Operand.tmp 4), type := 3, pos := "law.go:49", after := #[], guard := none },
  { dst := some 259, op := Go.Op.call { callee := Go.Callee.value (Go.Operand.func 32), args := #[Go.Operand.tmp 256, Go.Operand.tmp 257, Go.Operand.tmp 258], argTypes := #[24, 3, 3] }, type := 4, pos := "law.go:49", after := #[{ on := 4, ground := Go.Ground.data }, { on := 5, ground := Go.Ground.data }, { on := 6, ground := Go.Ground.data }, { on := 3, ground := Go.Ground.chain }], guard := none },
  { dst := some 260, op := Go.Op.binOp Go.BinOp.eql 4 (Go.Operand.tmp 255) (Go.Operand.tmp 259) 4, type := 4, pos := "law.go:49", after := #[{ on := 3, ground := Go.Ground.data }, { on := 7, ground := Go.Ground.data }], guard := none },
  { dst := some 261, op := Go.Op.move (Go.Operand.tmp 260), type := 4, pos := "law.go:49", after := #[{ on := 8, ground := Go.Ground.data }, { on := 7, ground := Go.Ground.chain }], guard := none },
  { dst := some 262, op := Go.Op.load 24 (Go.Operand.tmp 5), type := 24, pos := "law.go:49", after := #[{ on := 9, ground := Go.Ground.guard }], guard := some (9, true) },
  { dst := some 263, op := Go.Op.move (Go.Operand.tmp 3), type := 3, pos := "law.go:49", after := #[{ on := 9, ground := Go.Ground.guard }], guard := some (9, true) },
  { dst := some 264, op := Go.Op.move (Go.Operand.tmp 4), type := 3, pos := "law.go:49", after := #[{ on := 9, ground := Go.Ground.guard }], guard := some (9, true) },
  { dst := some 265, op := Go.Op.call { callee := Go.Callee.value (Go.Operand.func 26), args := #[Go.Operand.tmp 262, Go.Operand.tmp 263, Go.Operand.tmp 264], argTypes := #[24, 3, 3] }, type := 4, pos := "law.go:49", after := #[{ on := 10, ground := Go.Ground.data }, { on := 11, ground := Go.Ground.data }, { on := 12, ground := Go.Ground.data }, { on := 9, ground := Go.Ground.chain }, { on := 9, ground := Go.Ground.guard }], guard := some (9, true) },
  { dst := some 266, op := Go.Op.load 24 (Go.Operand.tmp 5), type := 24, pos := "law.go:49", after := #[{ on := 9, ground := Go.Ground.guard }], guard := some (9, true) },
  { dst := some 267, op := Go.Op.move (Go.Operand.tmp 3), type := 3, pos := "law.go:49", after := #[{ on := 9, ground := Go.Ground.guard }], guard := some (9, true) },
  { dst := some 268, op := Go.Op.call { callee := Go.Callee.value (Go.Operand.func 28), args := #[Go.Operand.tmp 266, Go.Operand.tmp 267], argTypes := #[24, 3] }, type := 3, pos := "law.go:49", after := #[{ on := 14, ground := Go.Ground.data }, { on := 15, ground := Go.Ground.data }, { on := 13, ground := Go.Ground.chain }, { on := 9, ground := Go.Ground.guard }], guard := some (9, true) },
  { dst := some 269, op := Go.Op.load 24 (Go.Operand.tmp 5), type := 24, pos := "law.go:49", after := #[{ on := 9, ground := Go.Ground.guard }], guard := some (9, true) },
  { dst := some 270, op := Go.Op.move (Go.Operand.tmp 4), type := 3, pos := "law.go:49", after := #[{ on := 9, ground := Go.Ground.guard }], guard := some (9, true) },
  { dst := some 271, op := Go.Op.call { callee := Go.Callee.value (Go.Operand.func 28), args := #[Go.Operand.tmp 269, Go.Operand.tmp 270], argTypes := #[24, 3] }, type := 3, pos := "law.go:49", after := #[{ on := 17, ground := Go.Ground.data }, { on := 18, ground := Go.Ground.data }, { on := 16, ground := Go.Ground.chain }, { on := 9, ground := Go.Ground.guard }], guard := some (9, true) },
  { dst := some 272, op := Go.Op.binOp Go.BinOp.eql 3 (Go.Operand.tmp 268) (Go.Operand.tmp 271) 3, type := 4, pos := "law.go:49", after := #[{ on := 16, ground := Go.Ground.data }, { on := 19, ground := Go.Ground.data }, { on := 9, ground := Go.Ground.guard }], guard := some (9, true) },
  { dst := some 273, op := Go.Op.move (Go.Operand.tmp 272), type := 4, pos := "law.go:49", after := #[{ on := 20, ground := Go.Ground.data }, { on := 19, ground := Go.Ground.chain }, { on := 9, ground := Go.Ground.guard }], guard := some (9, true) },
  { dst := some 274, op := Go.Op.load 24 (Go.Operand.tmp 5), type := 24, pos := "law.go:49", after := #[{ on := 21, ground := Go.Ground.guard }], guard := some (21, true) },
  { dst := some 275, op := Go.Op.move (Go.Operand.tmp 3), type := 3, pos := "law.go:49", after := #[{ on := 21, ground := Go.Ground.guard }], guard := some (21, true) },
  { dst := some 276, op := Go.Op.move (Go.Operand.tmp 4), type := 3, pos := "law.go:49", after := #[{ on := 21, ground := Go.Ground.guard }], guard := some (21, true) },
  { dst := some 277, op := Go.Op.call { callee := Go.Callee.value (Go.Operand.func 33), args := #[Go.Operand.tmp 274, Go.Operand.tmp 275, Go.Operand.tmp 276], argTypes := #[24, 3, 3] }, type := 4, pos := "law.go:49", after := #[{ on := 22, ground := Go.Ground.data }, { on := 23, ground := Go.Ground.data }, { on := 24, ground := Go.Ground.data }, { on := 21, ground := Go.Ground.chain }, { on := 21, ground := Go.Ground.guard }], guard := some (21, true) },
  { dst := some 278, op := Go.Op.pick (Go.Operand.tmp 273) (Go.Operand.tmp 277) (Go.Operand.const (Go.Value.bool false)), type := 4, pos := "law.go:49", after := #[{ on := 21, ground := Go.Ground.data }, { on := 25, ground := Go.Ground.data }, { on := 9, ground := Go.Ground.guard }], guard := some (9, true) },
  { dst := some 279, op := Go.Op.binOp Go.BinOp.eql 4 (Go.Operand.tmp 265) (Go.Operand.tmp 278) 4, type := 4, pos := "law.go:49", after := #[{ on := 13, ground := Go.Ground.data }, { on := 26, ground := Go.Ground.data }, { on := 9, ground := Go.Ground.guard }], guard := some (9, true) },
  { dst := some 280, op := Go.Op.pick (Go.Operand.tmp 261) (Go.Operand.tmp 279) (Go.Operand.const (Go.Value.bool false)), type := 4, pos := "law.go:49", after := #[{ on := 9, ground := Go.Ground.data }, { on := 27, ground := Go.Ground.data }], guard := none },
  { dst := some 10, op := Go.Op.assign (Go.Operand.tmp 280), type := 4, pos := "law.go:49", after := #[{ on := 28, ground := Go.Ground.data }, { on := 25, ground := Go.Ground.chain }, { on := 0, ground := Go.Ground.phase }, { on := 1, ground := Go.Ground.phase }, { on := 2, ground := Go.Ground.phase }, { on := 3, ground := Go.Ground.phase }, { on := 4, ground := Go.Ground.phase }, { on := 5, ground := Go.Ground.phase }, { on := 6, ground := Go.Ground.phase }, { on := 7, ground := Go.Ground.phase }, { on := 8, ground := Go.Ground.phase }, { on := 9, ground := Go.Ground.phase }, { on := 10, ground := Go.Ground.phase }, { on := 11, ground := Go.Ground.phase }, { on := 12, ground := Go.Ground.phase }, { on := 13, ground := Go.Ground.phase }, { on := 14, ground := Go.Ground.phase }, { on := 15, ground := Go.Ground.phase }, { on := 16, ground := Go.Ground.phase }, { on := 17, ground := Go.Ground.phase }, { on := 18, ground := Go.Ground.phase }, { on := 19, ground := Go.Ground.phase }, { on := 20, ground := Go.Ground.phase }, { on := 21, ground := Go.Ground.phase }, { on := 22, ground := Go.Ground.phase }, { on := 23, ground := Go.Ground.phase }, { on := 24, ground := Go.Ground.phase }, { on := 25, ground := Go.Ground.phase }, { on := 26, ground := Go.Ground.phase }, { on := 27, ground := Go.Ground.phase }, { on := 28, ground := Go.Ground.phase }], guard := none }]
set_option maxHeartbeats 16000000 in
set_option maxRecDepth 100000 in
theorem forestRight21E_region {Q : Exit → Act → World → Prop} {a0 : Act} {W : World} (hsz : factsOK forestRight21EOps a0.tmps.size = true) {x y RA RB : Int} {H : Bool} {m : Int} {q0 : Nat} {fa : Option Addr} {fl fc : Nat}
    (hq0 : q0 < W.heap.size) (hc00 : W.cell? ⟨q0, 0, none⟩ = some (.slice fa fl fc)) (hc01 : W.cell? ⟨q0, 1, none⟩ = some (.int .i64 m)) (hne : (RA == RB) = false)

    (h3 : a0.tmps[3]? = some (.int .i64 x))
    (h4 : a0.tmps[4]? = some (.int .i64 y))
    (h5 : a0.tmps[5]? = some (.pointer (some ⟨q0, 0, none⟩)))
    (C3 : CallFact Try.prog 24 #[forV fa fl fc m, .int .i64 x, .int .i64 y] W (isV (.bool H)))
    (C7 : CallFact Try.prog 32 #[forV fa fl fc m, .int .i64 x, .int .i64 y] W (isV (.bool H)))
    (C13 : CallFact Try.prog 26 #[forV fa fl fc m, .int .i64 x, .int .i64 y] W (isV (.bool false)))
    (C16 : CallFact Try.prog 28 #[forV fa fl fc m, .int .i64 x] W (isV (.int .i64 RA)))
    (C19 : CallFact Try.prog 28 #[forV fa fl fc m, .int .i64 y] W (isV (.int .i64 RB)))
    (hQ : ∀ (v : Nat → Value) w', Below W.heap.size W w' → Q .normal ⟨(puts a0.tmps.toList [(some 252, v 0), (some 253, v 1), (some 254, v 2), (some 255, v 3), (some 256, v 4), (some 257, v 5), (some 258, v 6), (some 259, v 7), (some 260, v 8), (some 261, v 9), (some 262, v 10), (some 263, v 11), (some 264, v 12), (some 265, v 13), (some 266, v 14), (some 267, v 15), (some 268, v 16), (some 269, v 17), (some 270, v 18), (some 271, v 19), (some 272, v 20), (some 273, v 21), (some 274, v 22), (some 275, v 23), (some 276, v 24), (some 277, v 25), (some 278, v 26), (some 279, v 27), (some 280, v 28), (some 10, .bool true)]).toArray, a0.defers⟩ w') :
    (Code.region 21 forestRight21EOps.toArray true).wp Try.prog Q a0 W := by
  refine wp_region_facts [isV (forV fa fl fc m), isV (.int .i64 x), isV (.int .i64 y), isV (.bool H), isV (forV fa fl fc m), isV (.int .i64 x), isV (.int .i64 y), isV (.bool H), isV (.bool true), isV (.bool true), isV (forV fa fl fc m), isV (.int .i64 x), isV (.int .i64 y), isV (.bool false), isV (forV fa fl fc m), isV (.int .i64 x), isV (.int .i64 RA), isV (forV fa fl fc m), isV (.int .i64 y), isV (.int .i64 RB), isV (.bool false), isV (.bool false), isV (undef), isV (undef), isV (undef), isV (undef), isV (.bool false), isV (.bool true), isV (.bool true), isV (.bool true)] (by kernel_rfl) hsz rfl (.cons ?_ (.cons ?_ (.cons ?_ (.cons ?_ (.cons ?_ (.cons ?_ (.cons ?_ (.cons ?_ (.cons ?_ (.cons ?_ (.cons ?_ (.cons ?_ (.cons ?_ (.cons ?_ (.cons ?_ (.cons ?_ (.cons ?_ (.cons ?_ (.cons ?_ (.cons ?_ (.cons ?_ (.cons ?_ (.cons ?_ (.cons ?_ (.cons ?_ (.cons ?_ (.cons ?_ (.cons ?_ (.cons ?_ (.cons ?_ .nil)))))))))))))))))))))))))))))) ?_
  · intro a w v K h hK
    rw [if_pos (wanted_none rfl)]
    have e5 := h.out (t := 5) (by kernel_rfl) h5
    have c0 := (h.below.cell (p := ⟨q0, 0, none⟩) hq0).trans hc00
    have c1 := (h.below.cell (p := ⟨q0, 1, none⟩) hq0).trans hc01
    have hK := Lib.hid hK; clear h
    go_simp
    exact hK.out _ _ rfl (Below.refl _ _)
  · intro a w v K h hK
    rw [if_pos (wanted_none rfl)]
    have e3 := h.out (t := 3) (by kernel_rfl) h3
    have hK := Lib.hid hK; clear h
    go_simp
    exact hK.out _ _ rfl (Below.refl _ _)
  · intro a w v K h hK
    rw [if_pos (wanted_none rfl)]
    have e4 := h.out (t := 4) (by kernel_rfl) h4
    have hK := Lib.hid hK; clear h
    go_simp
    exact hK.out _ _ rfl (Below.refl _ _)
  · intro a w v K h hK
    rw [if_pos (wanted_none rfl)]
    have e252 := h.at_ (j := 0) (d := 252) (by decide) (by kernel_rfl) rfl rfl
    have e253 := h.at_ (j := 1) (d := 253) (by decide) (by kernel_rfl) rfl rfl
    have e254 := h.at_ (j := 2) (d := 254) (by decide) (by kernel_rfl) rfl rfl
    have hc := C3 w h.below
    have hK := Lib.hid hK; clear h
    go_simp
    refine hc.mono ?_
    rintro e w' ⟨u, rfl, hu, hb⟩
    exact hK.out _ _ hu hb
  · intro a w v K h hK
    rw [if_pos (wanted_none rfl)]
    have e5 := h.out (t := 5) (by kernel_rfl) h5
    have c0 := (h.below.cell (p := ⟨q0, 0, none⟩) hq0).trans hc00
    have c1 := (h.below.cell (p := ⟨q0, 1, none⟩) hq0).trans hc01
    have hK := Lib.hid hK; clear h
    go_simp
    exact hK.out _ _ rfl (Below.refl _ _)
  · intro a w v K h hK
    rw [if_pos (wanted_none rfl)]
    have e3 := h.out (t := 3) (by kernel_rfl) h3
    have hK := Lib.hid hK; clear h
    go_simp
    exact hK.out _ _ rfl (Below.refl _ _)
  · intro a w v K h hK
    rw [if_pos (wanted_none rfl)]
    have e4 := h.out (t := 4) (by kernel_rfl) h4
    have hK := Lib.hid hK; clear h
    go_simp
    exact hK.out _ _ rfl (Below.refl _ _)
  · intro a w v K h hK
    rw [if_pos (wanted_none rfl)]
    have e256 := h.at_ (j := 4) (d := 256) (by decide) (by kernel_rfl) rfl rfl
    have e257 := h.at_ (j := 5) (d := 257) (by decide) (by kernel_rfl) rfl rfl
    have e258 := h.at_ (j := 6) (d := 258) (by decide) (by kernel_rfl) rfl rfl
    have hc := C7 w h.below
    have hK := Lib.hid hK; clear h
    go_simp
    refine hc.mono ?_
    rintro e w' ⟨u, rfl, hu, hb⟩
    exact hK.out _ _ hu hb
  · intro a w v K h hK
    rw [if_pos (wanted_none rfl)]
    have e255 := h.at_ (j := 3) (d := 255) (by decide) (by kernel_rfl) rfl rfl
    have e259 := h.at_ (j := 7) (d := 259) (by decide) (by kernel_rfl) rfl rfl
    have hK := Lib.hid hK; clear h
    go_simp
    exact hK.out _ _ rfl (Below.refl _ _)
  · intro a w v K h hK
    rw [if_pos (wanted_none rfl)]
    have e260 := h.at_ (j := 8) (d := 260) (by decide) (by kernel_rfl) rfl rfl
    have hK := Lib.hid hK; clear h
    go_simp
    exact hK.out _ _ rfl (Below.refl _ _)
  · intro a w v K h hK
    have e261 := h.at_ (j := 9) (d := 261) (by decide) (by kernel_rfl) rfl rfl
    rw [if_pos (wanted_some (l := forestRight21EOps) rfl rfl e261)]
    have e5 := h.out (t := 5) (by kernel_rfl) h5
    have c0 := (h.below.cell (p := ⟨q0, 0, none⟩) hq0).trans hc00
    have c1 := (h.below.cell (p := ⟨q0, 1, none⟩) hq0).trans hc01
    have hK := Lib.hid hK; clear h
    go_simp
    exact hK.out _ _ rfl (Below.refl _ _)
  · intro a w v K h hK
    have e261 := h.at_ (j := 9) (d := 261) (by decide) (by kernel_rfl) rfl rfl
    rw [if_pos (wanted_some (l := forestRight21EOps) rfl rfl e261)]
    have e3 := h.out (t := 3) (by kernel_rfl) h3
    have hK := Lib.hid hK; clear h
    go_simp
    exact hK.out _ _ rfl (Below.refl _ _)
  · intro a w v K h hK
    have e261 := h.at_ (j := 9) (d := 261) (by decide) (by kernel_rfl) rfl rfl
    rw [if_pos (wanted_some (l := forestRight21EOps) rfl rfl e261)]
    have e4 := h.out (t := 4) (by kernel_rfl) h4
    have hK := Lib.hid hK; clear h
    go_simp
    exact hK.out _ _ rfl (Below.refl _ _)
  · intro a w v K h hK
    have e261 := h.at_ (j := 9) (d := 261) (by decide) (by kernel_rfl) rfl rfl
    rw [if_pos (wanted_some (l := forestRight21EOps) rfl rfl e261)]
    have e262 := h.at_ (j := 10) (d := 262) (by decide) (by kernel_rfl) rfl rfl
    have e263 := h.at_ (j := 11) (d := 263) (by decide) (by kernel_rfl) rfl rfl
    have e264 := h.at_ (j := 12) (d := 264) (by decide) (by kernel_rfl) rfl rfl
    have hc := C13 w h.below
    have hK := Lib.hid hK; clear h
    go_simp
    refine hc.mono ?_
    rintro e w' ⟨u, rfl, hu, hb⟩
    exact hK.out _ _ hu hb
  · intro a w v K h hK
    have e261 := h.at_ (j := 9) (d := 261) (by decide) (by kernel_rfl) rfl rfl
    rw [if_pos (wanted_some (l := forestRight21EOps) rfl rfl e261)]
    have e5 := h.out (t := 5) (by kernel_rfl) h5
    have c0 := (h.below.cell (p := ⟨q0, 0, none⟩) hq0).trans hc00
    have c1 := (h.below.cell (p := ⟨q0, 1, none⟩) hq0).trans hc01
    have hK := Lib.hid hK; clear h
    go_simp
    exact hK.out _ _ rfl (Below.refl _ _)
  · intro a w v K h hK
    have e261 := h.at_ (j := 9) (d := 261) (by decide) (by kernel_rfl) rfl rfl
    rw [if_pos (wanted_some (l := forestRight21EOps) rfl rfl e261)]
    have e3 := h.out (t := 3) (by kernel_rfl) h3
    have hK := Lib.hid hK; clear h
    go_simp
    exact hK.out _ _ rfl (Below.refl _ _)
  · intro a w v K h hK
    have e261 := h.at_ (j := 9) (d := 261) (by decide) (by kernel_rfl) rfl rfl
    rw [if_pos (wanted_some (l := forestRight21EOps) rfl rfl e261)]
    have e266 := h.at_ (j := 14) (d := 266) (by decide) (by kernel_rfl) rfl rfl
    have e267 := h.at_ (j := 15) (d := 267) (by decide) (by kernel_rfl) rfl rfl
    have hc := C16 w h.below
    have hK := Lib.hid hK; clear h
    go_simp
    refine hc.mono ?_
    rintro e w' ⟨u, rfl, hu, hb⟩
    exact hK.out _ _ hu hb
  · intro a w v K h hK
    have e261 := h.at_ (j := 9) (d := 261) (by decide) (by kernel_rfl) rfl rfl
    rw [if_pos (wanted_some (l := forestRight21EOps) rfl rfl e261)]
    have e5 := h.out (t := 5) (by kernel_rfl) h5
    have c0 := (h.below.cell (p := ⟨q0, 0, none⟩) hq0).trans hc00
    have c1 := (h.below.cell (p := ⟨q0, 1, none⟩) hq0).trans hc01
    have hK := Lib.hid hK; clear h
    go_simp
    exact hK.out _ _ rfl (Below.refl _ _)
  · intro a w v K h hK
    have e261 := h.at_ (j := 9) (d := 261) (by decide) (by kernel_rfl) rfl rfl
    rw [if_pos (wanted_some (l := forestRight21EOps) rfl rfl e261)]
    have e4 := h.out (t := 4) (by kernel_rfl) h4
    have hK := Lib.hid hK; clear h
    go_simp
    exact hK.out _ _ rfl (Below.refl _ _)
  · intro a w v K h hK
    have e261 := h.at_ (j := 9) (d := 261) (by decide) (by kernel_rfl) rfl rfl
    rw [if_pos (wanted_some (l := forestRight21EOps) rfl rfl e261)]
    have e269 := h.at_ (j := 17) (d := 269) (by decide) (by kernel_rfl) rfl rfl
    have e270 := h.at_ (j := 18) (d := 270) (by decide) (by kernel_rfl) rfl rfl
    have hc := C19 w h.below
    have hK := Lib.hid hK; clear h
    go_simp
    refine hc.mono ?_
    rintro e w' ⟨u, rfl, hu, hb⟩
    exact hK.out _ _ hu hb
  · intro a w v K h hK
    have e261 := h.at_ (j := 9) (d := 261) (by decide) (by kernel_rfl) rfl rfl
    rw [if_pos (wanted_some (l := forestRight21EOps) rfl rfl e261)]
    have e268 := h.at_ (j := 16) (d := 268) (by decide) (by kernel_rfl) rfl rfl
    have e271 := h.at_ (j := 19) (d := 271) (by decide) (by kernel_rfl) rfl rfl
    have hK := Lib.hid hK; clear h
    go_simp
    exact hK.out _ _ rfl (Below.refl _ _)
  · intro a w v K h hK
    have e261 := h.at_ (j := 9) (d := 261) (by decide) (by kernel_rfl) rfl rfl
    rw [if_pos (wanted_some (l := forestRight21EOps) rfl rfl e261)]
    have e272 := h.at_ (j := 20) (d := 272) (by decide) (by kernel_rfl) rfl rfl
    have hK := Lib.hid hK; clear h
    go_simp
    exact hK.out _ _ rfl (Below.refl _ _)
  · intro a w v K h hK
    have e273 := h.at_ (j := 21) (d := 273) (by decide) (by kernel_rfl) rfl rfl
    rw [if_neg (wanted_not (l := forestRight21EOps) (g := 21) (want := true) rfl rfl e273 (by decide))]
    exact hK _ _ rfl (Below.refl _ _)
  · intro a w v K h hK
    have e273 := h.at_ (j := 21) (d := 273) (by decide) (by kernel_rfl) rfl rfl
    rw [if_neg (wanted_not (l := forestRight21EOps) (g := 21) (want := true) rfl rfl e273 (by decide))]
    exact hK _ _ rfl (Below.refl _ _)
  · intro a w v K h hK
    have e273 := h.at_ (j := 21) (d := 273) (by decide) (by kernel_rfl) rfl rfl
    rw [if_neg (wanted_not (l := forestRight21EOps) (g := 21) (want := true) rfl rfl e273 (by decide))]
    exact hK _ _ rfl (Below.refl _ _)
  · intro a w v K h hK
    have e273 := h.at_ (j := 21) (d := 273) (by decide) (by kernel_rfl) rfl rfl
    rw [if_neg (wanted_not (l := forestRight21EOps) (g := 21) (want := true) rfl rfl e273 (by decide))]
    exact hK _ _ rfl (Below.refl _ _)
  · intro a w v K h hK
    have e261 := h.at_ (j := 9) (d := 261) (by decide) (by kernel_rfl) rfl rfl
    rw [if_pos (wanted_some (l := forestRight21EOps) rfl rfl e261)]
    have e273 := h.at_ (j := 21) (d := 273) (by decide) (by kernel_rfl) rfl rfl
    have e277 := h.at_ (j := 25) (d := 277) (by decide) (by kernel_rfl) rfl rfl
    have hK := Lib.hid hK; clear h
    go_simp
    exact hK.out _ _ rfl (Below.refl _ _)
  · intro a w v K h hK
    have e261 := h.at_ (j := 9) (d := 261) (by decide) (by kernel_rfl) rfl rfl
    rw [if_pos (wanted_some (l := forestRight21EOps) rfl rfl e261)]
    have e265 := h.at_ (j := 13) (d := 265) (by decide) (by kernel_rfl) rfl rfl
    have e278 := h.at_ (j := 26) (d := 278) (by decide) (by kernel_rfl) rfl rfl
    have hK := Lib.hid hK; clear h
    go_simp
    exact hK.out _ _ rfl (Below.refl _ _)
  · intro a w v K h hK
    rw [if_pos (wanted_none rfl)]
    have e261 := h.at_ (j := 9) (d := 261) (by decide) (by kernel_rfl) rfl rfl
    have e279 := h.at_ (j := 27) (d := 279) (by decide) (by kernel_rfl) rfl rfl
    have hK := Lib.hid hK; clear h
    go_simp
    exact hK.out _ _ rfl (Below.refl _ _)
  · intro a w v K h hK
    rw [if_pos (wanted_none rfl)]
    have e280 := h.at_ (j := 28) (d := 280) (by decide) (by kernel_rfl) rfl rfl
    have hK := Lib.hid hK; clear h
    go_simp
    exact hK.out _ _ rfl (Below.refl _ _)
  · intro v w' hb hf
    have e : v 29 = .bool true := hf 29 (by decide) _ rfl
    have := hQ v w' hb
    rw [← e] at this
    exact this
end Go.Proofs.Ytllfkiifkkcinaa
