/- The walk of instarlaw11's LineBack. (Printed by wip/tools/gen_back11.py.) -/
import Derived.Test.YtadlmjiebhpaoaaLineMath2
import Derived.Test.YtadlmjiebhpaoaaRef11Eq
import Derived.Test.YtadlmjiebhpaoaaExt
import Derived.Deep.DeepCutAuto
import Derived.Deep.RegionHeld3
namespace Go.Proofs.Ytadlmjiebhpaoaa
open Go.RowKit
theorem QBox.keep {W V : World} {g : Nat} {t : TodoD} (h : QBox W g t) (hb : Below W.heap.size W V) : QBox V g t := .of ((hb.block g (Array.getElem?_eq_some_iff.1 h.h).1).trans h.h)
theorem QBox.lt {W : World} {g : Nat} {t : TodoD} (h : QBox W g t) : g < W.heap.size := (Array.getElem?_eq_some_iff.1 h.h).1
/-- The law's three boxes: the line, and the two todos. -/
structure BackAt (w W : World) (v : LnV) (t u : TodoD) : Prop where
  l : HeldL w W w.heap.size v
  t : QBox W (w.heap.size + 1) t
  u : QBox W (w.heap.size + 2) u
theorem BackAt.keep {w W V : World} {v : LnV} {t u : TodoD} (h : BackAt w W v t u) (hb : Below W.heap.size W V) : BackAt w V v t u := ⟨h.l.keep hb, h.t.keep hb, h.u.keep hb⟩
theorem BackAt.start (w : World) (v : LnV) (t u : TodoD) (h : LineAt w v) : BackAt w (((w.alloc v.obj).alloc t.obj).alloc u.obj) v t u := by
  have e1 : (w.alloc v.obj).heap.size = w.heap.size + 1 := by simp
  have e2 : ((w.alloc v.obj).alloc t.obj).heap.size = w.heap.size + 2 := by simp
  have b2 := below_one (w.alloc v.obj) t.obj
  have b3 := below_one ((w.alloc v.obj).alloc t.obj) u.obj
  have q2 : QBox ((w.alloc v.obj).alloc t.obj) (w.heap.size + 1) t := .of (by rw [← e1]; exact heap_alloc_new _ _)
  have q3 : QBox (((w.alloc v.obj).alloc t.obj).alloc u.obj) (w.heap.size + 2) u := .of (by rw [← e2]; exact heap_alloc_new _ _)
  exact ⟨((HeldL.new (Below.refl w.heap.size w) (Below.refl w.heap.size w) h).keep b2).keep b3, q2.keep b3, q3⟩
theorem sb_below {a0 a1 a2 a3 a4 a5 a6 a7 a8 a9 a10 a11 a12 a13 : Prop} {V W : World} (h : a0 ∧ a1 ∧ a2 ∧ a3 ∧ a4 ∧ a5 ∧ a6 ∧ a7 ∧ a8 ∧ a9 ∧ a10 ∧ a11 ∧ a12 ∧ a13 ∧ Below V.heap.size V W) : Below V.heap.size V W := h.2.2.2.2.2.2.2.2.2.2.2.2.2.2
abbrev SB (w V W : World) (v : LnV) (t : TodoD) : Prop := W.cell? ⟨w.heap.size, 0, none⟩ = some (.slice v.ta v.tl v.tc) ∧ W.cell? ⟨w.heap.size, 1, none⟩ = some (.slice v.sa v.sl v.sc) ∧ W.cell? ⟨w.heap.size, 2, none⟩ = some (.slice v.ba v.bl v.bc) ∧ W.cell? ⟨w.heap.size, 3, none⟩ = some (.bool v.bz) ∧ W.cell? ⟨w.heap.size + 1, 0, none⟩ = some (.int .i64 t.kind) ∧ W.cell? ⟨w.heap.size + 1, 1, none⟩ = some (.int .i64 t.dfn) ∧ W.cell? ⟨w.heap.size + 1, 2, none⟩ = some (.string t.name) ∧ W.cell? ⟨w.heap.size + 1, 3, none⟩ = some (.bool t.had) ∧ W.cell? ⟨w.heap.size + 1, 4, none⟩ = some (.bool t.has) ∧ W.cell? ⟨w.heap.size + 1, 5, none⟩ = some (.string t.old) ∧ W.cell? ⟨w.heap.size + 1, 6, none⟩ = some (.string t.new) ∧ W.cell? ⟨w.heap.size + 1, 7, none⟩ = some (.int .i64 t.frm) ∧ W.cell? ⟨w.heap.size + 1, 8, none⟩ = some (.int .i64 t.to) ∧ W.cell? ⟨w.heap.size + 1, 9, none⟩ = some (.bool t.on) ∧ Below V.heap.size V W
theorem sb_of {w V W : World} {v : LnV} {t u : TodoD} (h : BackAt w V v t u) (hb : Below V.heap.size V W) : SB w V W v t := by
  have k := h.keep hb
  have c := k.t.c
  obtain ⟨c0, c1, c2, c3, c4, c5, c6, c7, c8, c9⟩ := c
  simp only [Nat.zero_add] at c0 c1 c2 c3 c4 c5 c6 c7 c8 c9
  exact ⟨k.l.b.c0, k.l.b.c1, k.l.b.c2, k.l.b.c3, c0, c1, c2, c3, c4, c5, c6, c7, c8, c9, hb⟩
theorem box_later {W0 W1 : World} {g : Nat} (hx : LBox W0 g .zero) (hb : Below W0.heap.size W0 W1) :
    W1.cell? ⟨g, 0, none⟩ = some (.slice none 0 0) ∧ W1.cell? ⟨g, 1, none⟩ = some (.slice none 0 0) ∧ W1.cell? ⟨g, 2, none⟩ = some (.slice none 0 0) ∧ W1.cell? ⟨g, 3, none⟩ = some (.bool false) ∧ W1.frozen? ⟨g, 0, none⟩ = false ∧ W1.frozen? ⟨g, 1, none⟩ = false ∧ W1.frozen? ⟨g, 2, none⟩ = false ∧ W1.frozen? ⟨g, 3, none⟩ = false ∧ LBox W1 g .zero := by
  have B := hx.keep hb
  exact ⟨B.c0, B.c1, B.c2, B.c3, B.f 0, B.f 1, B.f 2, B.f 3, B⟩
theorem LBox.new0 (W : World) : LBox (W.alloc (lineB none 0 0 none 0 0 none 0 0 false)) W.heap.size .zero := .new W .zero
theorem LBox.drew {W : World} {g : Nat} {v : LnV} (h : LBox W g v) : LBox W.drew g v := .of h.h
/-- Stored into a box made ahead. -/
theorem HeldL.put {w V W1 W2 : World} {g : Nat} {u0 u : LnV} (hw : Below w.heap.size w V) (hb : Below V.heap.size V W2) (hg : V.heap.size ≤ g) (h : LBox W1 g u0) (h2 : Below W1.heap.size W1 W2) (hl : LineAt W2 u) (hn : LineNew W1.heap.size u) :
    HeldL w ((((W2.setCell ⟨g, 0, none⟩ (.slice u.ta u.tl u.tc)).setCell ⟨g, 1, none⟩ (.slice u.sa u.sl u.sc)).setCell ⟨g, 2, none⟩ (.slice u.ba u.bl u.bc)).setCell ⟨g, 3, none⟩ (.bool u.bz)) g u := by
  obtain ⟨X, hX, b1, l1, g1, s1⟩ := h.put h2 hl hn
  rw [hX]
  have h3 := hw.trans (hb.mono hw.size)
  exact ⟨b1, l1, h3.grown g1 h3.size (fun k hk => by injection hk with hk; have := hw.size; omega)⟩
theorem HeldL.put9 {w V W2 : World} {g : Nat} {u0 u : LnV} (hw : Below w.heap.size w V) (hb : Below V.heap.size V W2) (hg : V.heap.size ≤ g) (hp : ∃ W1, LBox W1 g u0 ∧ Below W1.heap.size W1 W2 ∧ LineNew W1.heap.size u) (hl : LineAt W2 u) :
    HeldL w ((((W2.setCell ⟨g, 0, none⟩ (.slice u.ta u.tl u.tc)).setCell ⟨g, 1, none⟩ (.slice u.sa u.sl u.sc)).setCell ⟨g, 2, none⟩ (.slice u.ba u.bl u.bc)).setCell ⟨g, 3, none⟩ (.bool u.bz)) g u ∧ Below V.heap.size V ((((W2.setCell ⟨g, 0, none⟩ (.slice u.ta u.tl u.tc)).setCell ⟨g, 1, none⟩ (.slice u.sa u.sl u.sc)).setCell ⟨g, 2, none⟩ (.slice u.ba u.bl u.bc)).setCell ⟨g, 3, none⟩ (.bool u.bz)) ∧ V.heap.size ≤ g := by
  obtain ⟨W1, h, h2, hn⟩ := hp
  exact ⟨HeldL.put hw hb hg h h2 hl hn, below_put4 hb hg, hg⟩
theorem HeldL.new9 {w V W1 : World} {u : LnV} (hw : Below w.heap.size w V) (hb : Below V.heap.size V W1) (hl : LineAt W1 u) : HeldL w (W1.alloc u.obj) W1.heap.size u ∧ Below V.heap.size V (W1.alloc u.obj) ∧ V.heap.size ≤ W1.heap.size :=
  ⟨HeldL.new hw hb hl, hb.trans ((below_one _ _).mono hb.size), hb.size⟩
theorem LBox.put2 {V W W1 : World} {g : Nat} {u0 u1 : LnV} (h : LBox W g u0) (hb : Below W.heap.size W W1) (hl : LineAt W1 u1) (hn : LineNew W.heap.size u1) (hv : Below V.heap.size V W) (hg : V.heap.size ≤ g) :
    ∃ X, (((W1.setCell ⟨g, 0, none⟩ (.slice u1.ta u1.tl u1.tc)).setCell ⟨g, 1, none⟩ (.slice u1.sa u1.sl u1.sc)).setCell ⟨g, 2, none⟩ (.slice u1.ba u1.bl u1.bc)).setCell ⟨g, 3, none⟩ (.bool u1.bz) = X ∧ LBox X g u1 ∧ LineAt X u1 ∧ W1.grownBy X (some g) ∧ Below V.heap.size V X := by
  obtain ⟨X, hX, b1, l1, g1, s1⟩ := h.put hb hl hn
  exact ⟨X, hX, b1, l1, g1, by rw [← hX]; exact below_put4 (hv.trans (hb.mono hv.size)) hg⟩
theorem td_neq (t : TodoD) (W : World) : (binOp .neq 28 (todoV t.kind t.dfn t.name t.had t.has t.old t.new t.frm t.to t.on) (todoV t.kind t.dfn t.name t.had t.has t.old t.new t.frm t.to t.on)).run Try.prog W = .ok (.bool false) W := by
  have h := todo_neq t.kind t.dfn t.name t.had t.has t.old t.new t.frm t.to t.on t.kind t.dfn t.name t.had t.has t.old t.new t.frm t.to t.on W
  rw [show sameTd ⟨t.kind, t.dfn, t.name, t.had, t.has, t.old, t.new, t.frm, t.to, t.on⟩ ⟨t.kind, t.dfn, t.name, t.had, t.has, t.old, t.new, t.frm, t.to, t.on⟩ = true from sameTd_eq.2 rfl] at h
  exact h
/-- A line in a box that the law made. -/
structure BoxL (W : World) (g : Nat) (v : LnV) : Prop where
  b : LBox W g v
  l : LineAt W v
theorem BoxL.keep {W V : World} {g : Nat} {v : LnV} (h : BoxL W g v) (hb : Below W.heap.size W V) : BoxL V g v := ⟨h.b.keep hb, h.l.below hb⟩
theorem sb_keep {a0 a1 a2 a3 a4 a5 a6 a7 a8 a9 a10 a11 a12 a13 : Prop} {w V W X : World} {v : LnV} {t u : TodoD} (h : BackAt w V v t u) (H : a0 ∧ a1 ∧ a2 ∧ a3 ∧ a4 ∧ a5 ∧ a6 ∧ a7 ∧ a8 ∧ a9 ∧ a10 ∧ a11 ∧ a12 ∧ a13 ∧ Below V.heap.size V W) (hb : Below W.heap.size W X) : SB w V X v t := sb_of h ((sb_below H).trans (hb.mono (sb_below H).size))
theorem sb_put4 {a0 a1 a2 a3 a4 a5 a6 a7 a8 a9 a10 a11 a12 a13 : Prop} {w V W : World} {g : Nat} {v : LnV} {t u : TodoD} (h : BackAt w V v t u) (H : a0 ∧ a1 ∧ a2 ∧ a3 ∧ a4 ∧ a5 ∧ a6 ∧ a7 ∧ a8 ∧ a9 ∧ a10 ∧ a11 ∧ a12 ∧ a13 ∧ Below V.heap.size V W) (hg : V.heap.size ≤ g) (x0 x1 x2 x3 : Value) : SB w V ((((W.setCell ⟨g, 0, none⟩ x0).setCell ⟨g, 1, none⟩ x1).setCell ⟨g, 2, none⟩ x2).setCell ⟨g, 3, none⟩ x3) v t := sb_of h (below_put4 (sb_below H) hg)
theorem box_first {W0 W1 : World} (hb : Below ((W0.alloc (lineB none 0 0 none 0 0 none 0 0 false)).drew).heap.size (W0.alloc (lineB none 0 0 none 0 0 none 0 0 false)).drew W1) :
    W1.cell? ⟨W0.heap.size, 0, none⟩ = some (.slice none 0 0) ∧ W1.cell? ⟨W0.heap.size, 1, none⟩ = some (.slice none 0 0) ∧ W1.cell? ⟨W0.heap.size, 2, none⟩ = some (.slice none 0 0) ∧ W1.cell? ⟨W0.heap.size, 3, none⟩ = some (.bool false) ∧ W1.frozen? ⟨W0.heap.size, 0, none⟩ = false ∧ W1.frozen? ⟨W0.heap.size, 1, none⟩ = false ∧ W1.frozen? ⟨W0.heap.size, 2, none⟩ = false ∧ W1.frozen? ⟨W0.heap.size, 3, none⟩ = false ∧ LBox W1 W0.heap.size .zero :=
  box_later (LBox.new0 W0).drew hb
theorem box_first0 {W0 W1 : World} (hb : Below (W0.alloc (lineB none 0 0 none 0 0 none 0 0 false)).heap.size (W0.alloc (lineB none 0 0 none 0 0 none 0 0 false)) W1) :
    W1.cell? ⟨W0.heap.size, 0, none⟩ = some (.slice none 0 0) ∧ W1.cell? ⟨W0.heap.size, 1, none⟩ = some (.slice none 0 0) ∧ W1.cell? ⟨W0.heap.size, 2, none⟩ = some (.slice none 0 0) ∧ W1.cell? ⟨W0.heap.size, 3, none⟩ = some (.bool false) ∧ W1.frozen? ⟨W0.heap.size, 0, none⟩ = false ∧ W1.frozen? ⟨W0.heap.size, 1, none⟩ = false ∧ W1.frozen? ⟨W0.heap.size, 2, none⟩ = false ∧ W1.frozen? ⟨W0.heap.size, 3, none⟩ = false ∧ LBox W1 W0.heap.size .zero :=
  box_later (LBox.new0 W0) hb
set_option maxHeartbeats 6000000 in
set_option maxRecDepth 100000 in
theorem lineBack_walk (_F : True) (v : LnV) (a b : Int) (t u : TodoD) (w : World) (ht : LineAt w v) (ha : 0 ≤ a ∧ a ≤ 255) (hbb : 0 ≤ b ∧ b ≤ 255) (hto : okTd t) (huo : okTd u) :
    Calls Try.prog 5 #[v.val, .int .u8 a, .int .u8 b, t.val, u.val] w fun e w' => e = .returned (.bool true) ∧ Below w.heap.size w w' := by
  have AW := Lib.hid (fun W => awake11_any W)
  obtain ⟨q0, hq0⟩ : ∃ q, short11 v.dat = q := ⟨_, rfl⟩
  obtain ⟨q1, hq1⟩ : ∃ q, right11 v.dat = q := ⟨_, rfl⟩
  have SH : Hid (∀ V, LineAt V v → Calls Try.prog 8 #[v.val] V fun e w' => e = .returned (.bool q0) ∧ Below V.heap.size V w') := Lib.hid (fun V h => by
    have := refshort11_any v V h
    rw [hq0] at this
    exact this)
  have RT : Hid (∀ V, LineAt V v → Calls Try.prog 15 #[v.val] V fun e w' => e = .returned (.bool q1) ∧ Below V.heap.size V w') := Lib.hid (fun V h => by
    have := right11_any v V h
    rw [hq1] at this
    exact this)
  have FX := Lib.hid (BackAt.start w v t u ht)
  obtain ⟨D, hD⟩ : ∃ D, v.dat = D := ⟨_, rfl⟩
  have HTL : Hid (D.td.length = v.tl) := Lib.hid (by rw [← hD]; exact ht.t.dlen)
  have t64 := ht.t.len64
  rw [hD] at hq0 hq1
  have HD := Lib.hid hD
  have HTO := Lib.hid hto
  have HUO := Lib.hid huo
  have a0 := ha.1
  have a1 := ha.2
  have b0 := hbb.1
  have b1 := hbb.2
  clear hD ht ha hbb hto huo _F
  obtain ⟨ta, tl, tc, sa, sl, sc, ba, bl, bc, bz, T, S, B⟩ := v
  dsimp only at HTL t64
  (have z0 := FX.out.l.b.c0; have z1 := FX.out.l.b.c1; have z2 := FX.out.l.b.c2; have z3 := FX.out.l.b.c3; dsimp only at z0 z1 z2 z3)
  cases q0 with
  | false => clear hq0 hq1; (go_enter Try.func5, Try.ntmps5; go_wp2_with (first
                                                                                                                                           | (go_at_call 7; (with_reducible refine (AW.out _).mono ?_); rintro e w5 ⟨rfl, hb⟩; (clear z0 z1 z2 z3; have FX := Lib.hid (FX.out.keep hb); (have z0 := FX.out.l.b.c0; have z1 := FX.out.l.b.c1; have z2 := FX.out.l.b.c2; have z3 := FX.out.l.b.c3; dsimp only at z0 z1 z2 z3); clear hb))
                                                                                                                                           | (go_at_call 8; (with_reducible refine (SH.out _ FX.out.l.l).mono ?_); rintro e w5 ⟨rfl, hb⟩; (clear z0 z1 z2 z3; have FX := Lib.hid (FX.out.keep hb); (have z0 := FX.out.l.b.c0; have z1 := FX.out.l.b.c1; have z2 := FX.out.l.b.c2; have z3 := FX.out.l.b.c3; dsimp only at z0 z1 z2 z3); clear hb))
                                                                                                                                           | (go_at_call 15; (with_reducible refine (RT.out _ FX.out.l.l).mono ?_); rintro e w5 ⟨rfl, hb⟩; (clear z0 z1 z2 z3; have FX := Lib.hid (FX.out.keep hb); (have z0 := FX.out.l.b.c0; have z1 := FX.out.l.b.c1; have z2 := FX.out.l.b.c2; have z3 := FX.out.l.b.c3; dsimp only at z0 z1 z2 z3); clear hb))); go_ret; exact ⟨rfl, FX.out.l.w⟩)
  | true =>
  cases q1 with
  | false => clear hq0 hq1; (go_enter Try.func5, Try.ntmps5; go_wp2_with (first
                                                                                                                                           | (go_at_call 7; (with_reducible refine (AW.out _).mono ?_); rintro e w5 ⟨rfl, hb⟩; (clear z0 z1 z2 z3; have FX := Lib.hid (FX.out.keep hb); (have z0 := FX.out.l.b.c0; have z1 := FX.out.l.b.c1; have z2 := FX.out.l.b.c2; have z3 := FX.out.l.b.c3; dsimp only at z0 z1 z2 z3); clear hb))
                                                                                                                                           | (go_at_call 8; (with_reducible refine (SH.out _ FX.out.l.l).mono ?_); rintro e w5 ⟨rfl, hb⟩; (clear z0 z1 z2 z3; have FX := Lib.hid (FX.out.keep hb); (have z0 := FX.out.l.b.c0; have z1 := FX.out.l.b.c1; have z2 := FX.out.l.b.c2; have z3 := FX.out.l.b.c3; dsimp only at z0 z1 z2 z3); clear hb))
                                                                                                                                           | (go_at_call 15; (with_reducible refine (RT.out _ FX.out.l.l).mono ?_); rintro e w5 ⟨rfl, hb⟩; (clear z0 z1 z2 z3; have FX := Lib.hid (FX.out.keep hb); (have z0 := FX.out.l.b.c0; have z1 := FX.out.l.b.c1; have z2 := FX.out.l.b.c2; have z3 := FX.out.l.b.c3; dsimp only at z0 z1 z2 z3); clear hb))); go_ret; exact ⟨rfl, FX.out.l.w⟩)
  | true =>
  by_cases h0 : tl = 0
  · subst h0; clear hq0 hq1; (go_enter Try.func5, Try.ntmps5; go_wp2_with (first
                                                                                                                                            | (go_at_call 7; (with_reducible refine (AW.out _).mono ?_); rintro e w5 ⟨rfl, hb⟩; (clear z0 z1 z2 z3; have FX := Lib.hid (FX.out.keep hb); (have z0 := FX.out.l.b.c0; have z1 := FX.out.l.b.c1; have z2 := FX.out.l.b.c2; have z3 := FX.out.l.b.c3; dsimp only at z0 z1 z2 z3); clear hb))
                                                                                                                                            | (go_at_call 8; (with_reducible refine (SH.out _ FX.out.l.l).mono ?_); rintro e w5 ⟨rfl, hb⟩; (clear z0 z1 z2 z3; have FX := Lib.hid (FX.out.keep hb); (have z0 := FX.out.l.b.c0; have z1 := FX.out.l.b.c1; have z2 := FX.out.l.b.c2; have z3 := FX.out.l.b.c3; dsimp only at z0 z1 z2 z3); clear hb))
                                                                                                                                            | (go_at_call 15; (with_reducible refine (RT.out _ FX.out.l.l).mono ?_); rintro e w5 ⟨rfl, hb⟩; (clear z0 z1 z2 z3; have FX := Lib.hid (FX.out.keep hb); (have z0 := FX.out.l.b.c0; have z1 := FX.out.l.b.c1; have z2 := FX.out.l.b.c2; have z3 := FX.out.l.b.c3; dsimp only at z0 z1 z2 z3); clear hb))); go_ret; exact ⟨rfl, FX.out.l.w⟩)
  have HSM := Lib.hid (short_smallN hq0)
  have HRT := Lib.hid hq1
  clear hq0 hq1
  have e0 : ((tl : Int) == 0) = false := beq_eq_false_iff_ne.2 (by omega)
  have htl0 : (0 : Int) < (tl : Int) := by omega
  obtain ⟨x, hx⟩ : ∃ k : Nat, a % (tl : Int) = (k : Int) := ⟨(a % (tl : Int)).toNat, by rw [Int.toNat_of_nonneg]; exact Int.emod_nonneg _ (by omega)⟩
  obtain ⟨y, hy⟩ : ∃ k : Nat, b % (tl : Int) = (k : Int) := ⟨(b % (tl : Int)).toNat, by rw [Int.toNat_of_nonneg]; exact Int.emod_nonneg _ (by omega)⟩
  have hxl : x < tl := by have := Int.emod_lt_of_pos a htl0; omega
  have hyl : y < tl := by have := Int.emod_lt_of_pos b htl0; omega
  have HX := Lib.hid hxl
  have HY := Lib.hid hyl
  have e9 : a.tmod (tl : Int) = a % (tl : Int) := Int.tmod_eq_emod_of_nonneg a0
  have e8 : b.tmod (tl : Int) = b % (tl : Int) := Int.tmod_eq_emod_of_nonneg b0
  have HKX := Lib.hid hx
  have HKY := Lib.hid hy
  have CO : Hid (∀ V, LineAt V ⟨ta, tl, tc, sa, sl, sc, ba, bl, bc, bz, T, S, B⟩ → Calls Try.prog 21 #[lineV ta tl tc sa sl sc ba bl bc bz] V (GrowP V (open11 D))) := Lib.hid (fun V h => by
    have := open11_any ⟨ta, tl, tc, sa, sl, sc, ba, bl, bc, bz, T, S, B⟩ V h (by rw [HD.out]; exact HSM.out.small (by omega))
    rw [HD.out] at this
    exact this)
  have CS : Hid (∀ V (r : LnV), r.dat = open11 D → LineAt V r → Calls Try.prog 11 #[r.val] V (ShutP V D [] 0)) := Lib.hid (fun V r hr h => by
    have := shut_ok r V h (by rw [hr]; exact (open_small HSM.out).small (by omega)) (by rw [hr]; exact open_right HRT.out) D.st.length (by rw [hr]; unfold open11; simp)
    rw [hr, (open_shut D).1, (open_shut D).2] at this
    exact this)
  obtain ⟨D2, hD2⟩ : ∃ D2, add11 (open11 D) x t = (D2, false) := ⟨_, add_open D x t⟩
  obtain ⟨D3, hD3⟩ : ∃ D3 : LnD, (⟨D.td.set x (getL D.td x ++ [t]), D.st, D.bk, D.bz⟩ : LnD) = D3 := ⟨_, rfl⟩
  have HD3 := Lib.hid hD3
  have CA : Hid (∀ V (r : LnV), r.dat = open11 D → LineAt V r → Calls Try.prog 10 #[r.val, .int .i64 x, t.val] V (AddP V D2 false 0)) := Lib.hid (fun V r hr h => by
    have := add_ok r x t V h (by rw [hr]; exact (open_small HSM.out).small (by omega)) HTO.out (by rw [hr]; exact open_right HRT.out) (by rw [hr]; unfold open11; dsimp only; rw [HTL.out]; exact HX.out)
    rw [hr, hD2] at this
    exact this)
  have CS2 : Hid (∀ V (r : LnV), r.dat = D2 → LineAt V r → Calls Try.prog 11 #[r.val] V (ShutP V D3 [(x : Int)] 0)) := Lib.hid (fun V r hr h => by
    have e : D2 = (add11 (open11 D) x t).1 := by rw [hD2]
    have := shut_ok r V h (by rw [hr, e]; exact (add_small (open_small HSM.out)).small (by omega)) (by rw [hr, e]; exact add_right (open_right HRT.out) (by unfold open11; dsimp only; rw [HTL.out]; exact HX.out)) D.st.length (by rw [hr, e, add_stlen]; unfold open11; simp)
    rw [hr, e, (add_open_shut D x t).1, (add_open_shut D x t).2, hD3] at this
    exact this)
  have CT : Hid (getL D.td x = [] → ∀ V (r : LnV), r.dat = D3 → LineAt V r → Calls Try.prog 12 #[r.val, .int .i64 x] V (TakeP V D t true)) := Lib.hid (fun hz V r hr h => by
    have hs3 : SmallL D3 := by
      have e : D3 = (shut11 (add11 (open11 D) x t).1).1 := by rw [(add_open_shut D x t).1, hD3]
      have h1 := (add_small (k := x) (t := t) HSM.out)
      refine ⟨?_, ?_, by rw [← hD3]; have := HSM.out.st; dsimp only; omega, by rw [← hD3]; exact fun l hl => by have := HSM.out.se l hl; omega, by rw [← hD3]; have := HSM.out.bk; dsimp only; omega⟩
      · rw [← hD3]; dsimp only; rw [List.length_set]; have := HSM.out.td; omega
      · rw [← hD3]; intro l hl; have := h1.te l (by rw [add_td]; exact hl); omega
    have hr3 : right11 D3 = true := by rw [← hD3]; exact right_more HRT.out (by dsimp only; rw [List.length_set]; exact Nat.le_refl _) rfl rfl
    have := take_some r x t [] V h (by rw [hr]; exact hs3) (by rw [hr]; exact hr3) (by rw [hr, ← hD3]; dsimp only; rw [List.length_set, HTL.out]; exact HX.out) (by rw [hr, ← hD3]; dsimp only; rw [getL_set (by rw [HTL.out]; exact HX.out), hz]; rfl)
    rw [hr, ← hD3, put_take (by rw [HTL.out]; exact HX.out) hz] at this
    exact this)
  have SM : Hid (∀ V (r : LnV), r.dat = D → LineAt V r → LineAt V ⟨ta, tl, tc, sa, sl, sc, ba, bl, bc, bz, T, S, B⟩ → Calls Try.prog 18 #[r.val, lineV ta tl tc sa sl sc ba bl bc bz] V fun e w' => e = .returned (.bool true) ∧ Below V.heap.size V w') := Lib.hid (fun V r hr h h' => by
    have := refsame11_any r ⟨ta, tl, tc, sa, sl, sc, ba, bl, bc, bz, T, S, B⟩ V h h'
    rw [same11_yes (hr.trans HD.out.symm)] at this
    exact this)
  clear hD2 hD3 hx hy h0
  go_enter Try.func5, Try.ntmps5
  go_upto_region 5 with (first
                            | (go_at_call 7; (with_reducible refine (AW.out _).mono ?_); rintro e w5 ⟨rfl, hb⟩; (clear z0 z1 z2 z3; have FX := Lib.hid (FX.out.keep hb); (have z0 := FX.out.l.b.c0; have z1 := FX.out.l.b.c1; have z2 := FX.out.l.b.c2; have z3 := FX.out.l.b.c3; dsimp only at z0 z1 z2 z3); clear hb))
                            | (go_at_call 8; (with_reducible refine (SH.out _ FX.out.l.l).mono ?_); rintro e w5 ⟨rfl, hb⟩; (clear z0 z1 z2 z3; have FX := Lib.hid (FX.out.keep hb); (have z0 := FX.out.l.b.c0; have z1 := FX.out.l.b.c1; have z2 := FX.out.l.b.c2; have z3 := FX.out.l.b.c3; dsimp only at z0 z1 z2 z3); clear hb))
                            | (go_at_call 15; (with_reducible refine (RT.out _ FX.out.l.l).mono ?_); rintro e w5 ⟨rfl, hb⟩; (clear z0 z1 z2 z3; have FX := Lib.hid (FX.out.keep hb); (have z0 := FX.out.l.b.c0; have z1 := FX.out.l.b.c1; have z2 := FX.out.l.b.c2; have z3 := FX.out.l.b.c3; dsimp only at z0 z1 z2 z3); clear hb)))
  clear SH RT AW
  go_upto_region 6 with (first
    | (go_at_call 21; (with_reducible refine (CO.out _ FX.out.l.l).mono ?_); rintro e w6 ⟨u6, rfl, hd, hl, -, hb⟩; have M6 := Lib.hid hd; have L6 := Lib.hid hl; have FX := Lib.hid (FX.out.keep hb); clear hd hl hb z0 z1 z2 z3)
    | (go_at_call 11; (with_reducible refine (CS.out _ _ M6.out L6.out).mono ?_); rintro e w7 ⟨u7, a7, n7, c7, rfl, hd, hl, -, hir, -, hb⟩; have M7 := Lib.hid hd; have HN7 := hir.hlen; have FM := Lib.hid (HeldL.new FX.out.l.w hb hl); have FX := Lib.hid ((FX.out.keep hb).keep (below_one w7 u7.obj)); clear hd hl hb hir))
  obtain rfl : n7 = 0 := HN7.symm
  obtain ⟨g7, hg7⟩ : ∃ g, w7.heap.size = g := ⟨_, rfl⟩
  obtain ⟨W7, hW7⟩ : ∃ W, w7.alloc u7.obj = W := ⟨_, rfl⟩
  rw [hW7] at FX
  rw [hW7, hg7] at FM
  rw [hW7, hg7]
  clear hW7 hg7 CS M6 L6
  (have z0 := FX.out.l.b.c0; have z1 := FX.out.l.b.c1; have z2 := FX.out.l.b.c2; have z3 := FX.out.l.b.c3; dsimp only at z0 z1 z2 z3)
  (have m0 := FM.out.b.c0; have m1 := FM.out.b.c1; have m2 := FM.out.b.c2; have m3 := FM.out.b.c3)
  go_upto_region 8 with (go_at_call 18; (with_reducible refine (SM.out _ _ M7.out FM.out.l FX.out.l.l).mono ?_); rintro e w8 ⟨rfl, hb⟩; clear m0 m1 m2 m3; (clear z0 z1 z2 z3; have FX := Lib.hid (FX.out.keep hb); (have z0 := FX.out.l.b.c0; have z1 := FX.out.l.b.c1; have z2 := FX.out.l.b.c2; have z3 := FX.out.l.b.c3; dsimp only at z0 z1 z2 z3); clear hb))
  clear FM M7
  go_quiet (fail)
  go_upto_region 9 with fail
  obtain ⟨V, hV⟩ : ∃ V, World.drewN w8 nq = V := ⟨_, rfl⟩
  rw [hV]
  clear z0 z1 z2 z3
  have FX : Hid (BackAt w V ⟨ta, tl, tc, sa, sl, sc, ba, bl, bc, bz, T, S, B⟩ t u) := Lib.hid (by rw [← hV]; exact FX.out.keep (below_drewN (Below.refl _ _) nq))
  clear hV
  rw [HKX.out, HKY.out]
  go_cut [16, 17, 18] (fun p c f wx => True ∧ ∃ (G : Nat) (u9 : LnV), p = .pointer (some ⟨G, 0, none⟩) ∧ c = .bool false ∧ f = .int .i64 0 ∧ Hid (HeldL w wx G u9 ∧ Below V.heap.size V wx ∧ V.heap.size ≤ G) ∧ Hid (u9.dat = D2))
  case first =>
   go_region_held3 (fun w' => w'.cell? ⟨w.heap.size, 0, none⟩ = some (.slice ta tl tc) ∧ w'.cell? ⟨w.heap.size, 1, none⟩ = some (.slice sa sl sc) ∧ w'.cell? ⟨w.heap.size, 2, none⟩ = some (.slice ba bl bc) ∧ w'.cell? ⟨w.heap.size, 3, none⟩ = some (.bool bz) ∧ w'.cell? ⟨w.heap.size + 1, 0, none⟩ = some (.int .i64 t.kind) ∧ w'.cell? ⟨w.heap.size + 1, 1, none⟩ = some (.int .i64 t.dfn) ∧ w'.cell? ⟨w.heap.size + 1, 2, none⟩ = some (.string t.name) ∧ w'.cell? ⟨w.heap.size + 1, 3, none⟩ = some (.bool t.had) ∧ w'.cell? ⟨w.heap.size + 1, 4, none⟩ = some (.bool t.has) ∧ w'.cell? ⟨w.heap.size + 1, 5, none⟩ = some (.string t.old) ∧ w'.cell? ⟨w.heap.size + 1, 6, none⟩ = some (.string t.new) ∧ w'.cell? ⟨w.heap.size + 1, 7, none⟩ = some (.int .i64 t.frm) ∧ w'.cell? ⟨w.heap.size + 1, 8, none⟩ = some (.int .i64 t.to) ∧ w'.cell? ⟨w.heap.size + 1, 9, none⟩ = some (.bool t.on) ∧ Below V.heap.size V w')
     (first | assumption | (with_reducible exact sb_keep FX.out (by assumption) (by assumption)) | (with_reducible exact sb_of FX.out (Below.refl _ _).drew) | (with_reducible exact sb_keep FX.out (by assumption) (Below.refl _ _).drew) | (with_reducible exact sb_keep FX.out (by assumption) (below_one _ _)) | (with_reducible exact sb_keep FX.out (by assumption) (below_one _ _).drew) | (with_reducible exact sb_of FX.out (below_one _ _)) | (with_reducible exact sb_of FX.out (below_one _ _).drew) | (with_reducible exact sb_of FX.out (HW6.out.trans ((below_one _ _).mono HW6.out.size))) | (with_reducible exact sb_of FX.out (HW6.out.trans ((below_one _ _).drew.mono HW6.out.size))) | (with_reducible exact sb_of FX.out (HW9.out.trans ((below_one _ _).mono HW9.out.size))) | (with_reducible exact sb_put4 FX.out (by assumption) (by first | exact Nat.le_refl _ | assumption) _ _ _ _))
     (first
      | (go_at_call 21; (with_reducible refine (CO.out _ (FX.out.keep (sb_below (‹_ ∧ _ ∧ _ ∧ _ ∧ _ ∧ _ ∧ _ ∧ _ ∧ _ ∧ _ ∧ _ ∧ _ ∧ _ ∧ _ ∧ Below _ _ _›))).l.l).mono ?_); rintro e w6 ⟨u6, rfl, hd, hl, -, hb⟩; have M6 := Lib.hid hd; have L6 := Lib.hid hl; have HW6 : Hid (Below V.heap.size V w6) := Lib.hid ((sb_below (‹_ ∧ _ ∧ _ ∧ _ ∧ _ ∧ _ ∧ _ ∧ _ ∧ _ ∧ _ ∧ _ ∧ _ ∧ _ ∧ _ ∧ Below _ _ _›)).trans (hb.mono (sb_below (‹_ ∧ _ ∧ _ ∧ _ ∧ _ ∧ _ ∧ _ ∧ _ ∧ _ ∧ _ ∧ _ ∧ _ ∧ _ ∧ _ ∧ Below _ _ _›)).size)); have hz6 : V.heap.size ≤ w6.heap.size := HW6.out.size; clear hd hl; (with_reducible first | (have hbk := box_first (W0 := V) hb) | (have hbk := box_first0 (W0 := V) hb)); obtain ⟨k0, k1, k2, k3, q0, q1, q2, q3, hbx⟩ := hbk; have HBX := Lib.hid hbx; clear hbx)
      | (go_at_call 21; (with_reducible refine (CO.out _ (FX.out.keep (sb_below (‹_ ∧ _ ∧ _ ∧ _ ∧ _ ∧ _ ∧ _ ∧ _ ∧ _ ∧ _ ∧ _ ∧ _ ∧ _ ∧ _ ∧ Below _ _ _›))).l.l).mono ?_); rintro e w6 ⟨u6, rfl, hd, hl, -, hb⟩; have M6 := Lib.hid hd; have L6 := Lib.hid hl; have HW6 : Hid (Below V.heap.size V w6) := Lib.hid ((sb_below (‹_ ∧ _ ∧ _ ∧ _ ∧ _ ∧ _ ∧ _ ∧ _ ∧ _ ∧ _ ∧ _ ∧ _ ∧ _ ∧ _ ∧ Below _ _ _›)).trans (hb.mono (sb_below (‹_ ∧ _ ∧ _ ∧ _ ∧ _ ∧ _ ∧ _ ∧ _ ∧ _ ∧ _ ∧ _ ∧ _ ∧ _ ∧ _ ∧ Below _ _ _›)).size)); have hz6 : V.heap.size ≤ w6.heap.size := HW6.out.size; clear hd hl)
      | (go_at_call 10; (with_reducible refine (CA.out _ u6 M6.out (by with_reducible first | exact L6.out | exact L6.out.below (Below.refl _ _).drew | exact L6.out.below (below_one _ _) | exact L6.out.below (below_one _ _).drew)).mono ?_); rintro e w9 ⟨u9, rfl, hd, hl, hn, hb⟩; have M9 := Lib.hid hd; have L9 := Lib.hid hl; have HW9 : Hid (Below V.heap.size V w9) := Lib.hid ((sb_below (‹_ ∧ _ ∧ _ ∧ _ ∧ _ ∧ _ ∧ _ ∧ _ ∧ _ ∧ _ ∧ _ ∧ _ ∧ _ ∧ _ ∧ Below _ _ _›)).trans (hb.mono (sb_below (‹_ ∧ _ ∧ _ ∧ _ ∧ _ ∧ _ ∧ _ ∧ _ ∧ _ ∧ _ ∧ _ ∧ _ ∧ _ ∧ _ ∧ Below _ _ _›)).size)); have hz9 : V.heap.size ≤ w9.heap.size := HW9.out.size; clear hd hl; have HP : Hid (∃ W1, LBox W1 V.heap.size .zero ∧ Below W1.heap.size W1 w9 ∧ LineNew W1.heap.size u9) := Lib.hid (by with_reducible first | exact ⟨_, HBX.out, hb, hn⟩ | exact ⟨_, HBX.out.drew, hb, hn⟩); clear k0 k1 k2 k3 q0 q1 q2 q3; (with_reducible first | (have hbk := box_later HBX.out hb) | (have hbk := box_later HBX.out.drew hb)); obtain ⟨k0, k1, k2, k3, q0, q1, q2, q3, -⟩ := hbk)
      | (go_at_call 10; (with_reducible refine (CA.out _ u6 M6.out (by with_reducible first | exact L6.out | exact L6.out.below (Below.refl _ _).drew | exact L6.out.below (below_one _ _) | exact L6.out.below (below_one _ _).drew)).mono ?_); rintro e w9 ⟨u9, rfl, hd, hl, hn, hb⟩; have M9 := Lib.hid hd; have L9 := Lib.hid hl; have HW9 : Hid (Below V.heap.size V w9) := Lib.hid ((sb_below (‹_ ∧ _ ∧ _ ∧ _ ∧ _ ∧ _ ∧ _ ∧ _ ∧ _ ∧ _ ∧ _ ∧ _ ∧ _ ∧ _ ∧ Below _ _ _›)).trans (hb.mono (sb_below (‹_ ∧ _ ∧ _ ∧ _ ∧ _ ∧ _ ∧ _ ∧ _ ∧ _ ∧ _ ∧ _ ∧ _ ∧ _ ∧ _ ∧ Below _ _ _›)).size)); have hz9 : V.heap.size ≤ w9.heap.size := HW9.out.size; clear hd hl; (with_reducible first | (have hbk := box_first (W0 := w6) hb) | (have hbk := box_first0 (W0 := w6) hb)); have HP : Hid (∃ W1, LBox W1 w6.heap.size .zero ∧ Below W1.heap.size W1 w9 ∧ LineNew W1.heap.size u9) := Lib.hid (by with_reducible first | exact ⟨_, (LBox.new0 w6).drew, hb, hn⟩ | exact ⟨_, LBox.new0 w6, hb, hn⟩); obtain ⟨k0, k1, k2, k3, q0, q1, q2, q3, -⟩ := hbk)
      | (go_at_call 10; (with_reducible refine (CA.out _ u6 M6.out (by with_reducible first | exact L6.out | exact L6.out.below (Below.refl _ _).drew | exact L6.out.below (below_one _ _) | exact L6.out.below (below_one _ _).drew)).mono ?_); rintro e w9 ⟨u9, rfl, hd, hl, hn, hb⟩; have M9 := Lib.hid hd; have L9 := Lib.hid hl; have HW9 : Hid (Below V.heap.size V w9) := Lib.hid ((sb_below (‹_ ∧ _ ∧ _ ∧ _ ∧ _ ∧ _ ∧ _ ∧ _ ∧ _ ∧ _ ∧ _ ∧ _ ∧ _ ∧ _ ∧ Below _ _ _›)).trans (hb.mono (sb_below (‹_ ∧ _ ∧ _ ∧ _ ∧ _ ∧ _ ∧ _ ∧ _ ∧ _ ∧ _ ∧ _ ∧ _ ∧ _ ∧ _ ∧ Below _ _ _›)).size)); have hz9 : V.heap.size ≤ w9.heap.size := HW9.out.size; clear hd hl))
   all_goals
    go_wp2_with fail
    go_meet
    first
      | exact ⟨trivial, _, u9, rfl, rfl, rfl, Lib.hid (HeldL.put9 FX.out.l.w HW9.out (Nat.le_refl _) HP.out L9.out), M9⟩
      | exact ⟨trivial, _, u9, rfl, rfl, rfl, Lib.hid (HeldL.put9 FX.out.l.w HW9.out HW6.out.size HP.out L9.out), M9⟩
      | exact ⟨trivial, _, u9, rfl, rfl, rfl, Lib.hid (HeldL.new9 FX.out.l.w HW9.out L9.out), M9⟩
  case rest =>
  obtain ⟨-, G, u9, rfl, rfl, rfl, HG, M9⟩ := hcut
  have HB := Lib.hid HG.out.2.1
  have HGV : Hid (V.heap.size ≤ G) := Lib.hid HG.out.2.2
  have HL9 := Lib.hid HG.out.1
  clear HG CO CA
  have m0 := HL9.out.b.c0; have m1 := HL9.out.b.c1; have m2 := HL9.out.b.c2; have m3 := HL9.out.b.c3; have f0 := HL9.out.b.f 0; have f1 := HL9.out.b.f 1; have f2 := HL9.out.b.f 2; have f3 := HL9.out.b.f 3
  go_upto_region 11 with (go_at_call 11; (with_reducible refine (CS2.out _ _ M9.out HL9.out.l).mono ?_); rintro e w10 ⟨u10, a10, n10, c10, rfl, hd, hl, hn, hir, hlo, hb⟩; have M10 := Lib.hid hd; have L10 := Lib.hid hl; have N10 := Lib.hid hn; have R10 := Lib.hid hir; have O10 := Lib.hid hlo; have B10 := Lib.hid hb; clear m0 m1 m2 m3 f0 f1 f2 f3; have m0 := (HL9.out.b.keep hb).c0; have m1 := (HL9.out.b.keep hb).c1; have m2 := (HL9.out.b.keep hb).c2; have m3 := (HL9.out.b.keep hb).c3; have f0 := (HL9.out.b.keep hb).f 0; have f1 := (HL9.out.b.keep hb).f 1; have f2 := (HL9.out.b.keep hb).f 2; have f3 := (HL9.out.b.keep hb).f 3; clear hd hl hn hir hlo hb)
  clear m0 m1 m2 m3 f0 f1 f2 f3
  obtain ⟨W10, hW, hbx, hla, hgr, hbv⟩ := HL9.out.b.put2 B10.out L10.out N10.out HB.out HGV.out
  rw [hW]
  have GX : Hid (BoxL W10 G u10) := Lib.hid ⟨hbx, hla⟩
  have R10 : Hid (IntRow W10 a10 n10 c10 [(x : Int)]) := Lib.hid (R10.out.lrow.stay hgr (fun b o e e2 => by injection e2 with e2; have h1 := O10.out b o e; have h2 := HL9.out.b.lt; omega)).int
  have FX := Lib.hid (FX.out.keep hbv)
  clear hW hbx hla hgr hbv L10 N10 B10 O10 HL9 HB HGV M9 CS2
  have hx64 : In64 (x : Int) := by unfold In64; omega
  have CI : Hid (∀ V, Below W10.heap.size W10 V → Calls Try.prog 25 #[.slice a10 n10 c10, .slice (some ⟨V.heap.size, 0, none⟩) 1 1] (V.alloc (.cells #[.int .i64 x] 3)) fun e w' => e = .returned (.bool true) ∧ Below V.heap.size V w') := Lib.hid (fun V hb => (refintsB a10 (some ⟨V.heap.size, 0, none⟩) n10 c10 1 1 [(x : Int)] [(x : Int)] true (decide_eq_true rfl) (V.alloc (.cells #[.int .i64 x] 3)) ((R10.out.below hb).below (below_one _ _)) ⟨own_one V 3 (x : Int) #[.int .i64 x] rfl rfl, (fun z hz => by rw [List.mem_singleton.1 hz]; exact hx64), fun e => by cases e⟩).mono (fun e w' h => ⟨h.1, (below_one V _).trans (h.2.mono (by simp))⟩))
  clear hx64
  go_upto_region 13 with (go_at_call 25; (with_reducible refine (CI.out _ (Below.refl _ _)).mono ?_); rintro e w11 ⟨rfl, hb⟩; have GX := Lib.hid (GX.out.keep hb); have FX := Lib.hid (FX.out.keep hb); clear hb)
  clear CI R10
  have z0 := FX.out.l.b.c0
  dsimp only at z0
  obtain ⟨b1, o1, x1, e1, l1, hx1, c1, r1⟩ := FX.out.l.l.t.get HX.out
  dsimp only at e1 hx1
  subst e1
  obtain ⟨pa, pn, pc, pl⟩ := x1
  dsimp only at c1 r1
  have hxt : (x : Int) < (tl : Int) := by have := HX.out; omega
  have HZ : Hid (pn = 0 → getL D.td x = []) := Lib.hid (fun h0 => by
    have h2 := datL_get hx1
    have h3 : pl = [] := List.eq_nil_of_length_eq_zero (r1.hlen.trans h0)
    have h4 : D.td = datL T := by rw [← HD.out]; rfl
    unfold getL
    rw [h4, h2, h3]
    rfl)
  obtain ⟨q, hq⟩ : ∃ q, ((pn : Int) == 0) = q := ⟨_, rfl⟩
  have HQ : Hid (q = true → pn = 0) := Lib.hid (fun h => by rw [h, beq_iff_eq] at hq; omega)
  clear hx1 r1
  go_upto_if 113 with fail
  clear hq z0 c1
  go_cut [] (fun wx => True ∧ Hid (Below w11.heap.size w11 wx))
  case first =>
    cases q with
    | false =>
      go_wp2
      go_meet
      exact ⟨trivial, Lib.hid (Below.refl _ _)⟩
    | true =>
      have CT := Lib.hid (CT.out (HZ.out (HQ.out rfl)))
      have m0 := GX.out.b.c0; have m1 := GX.out.b.c1; have m2 := GX.out.b.c2; have m3 := GX.out.b.c3
      go_upto_region 15 with (go_at_call 12; (with_reducible refine (CT.out _ _ M10.out GX.out.l).mono ?_); rintro e w12 ⟨u12, rfl, hd, hl, -, hb⟩; have M12 := Lib.hid hd; have L12 := Lib.hid hl; have B12 := Lib.hid hb; clear hd hl hb m0 m1 m2 m3)
      obtain ⟨g12, hg12⟩ : ∃ g, w12.heap.size = g := ⟨_, rfl⟩
      obtain ⟨W12, hW12⟩ : ∃ W, (w12.alloc u12.obj).alloc t.obj = W := ⟨_, rfl⟩
      have X12 : Hid (LBox W12 g12 u12 ∧ LineAt W12 u12 ∧ Below w11.heap.size w11 W12 ∧ QBox W12 (g12 + 1) t) := Lib.hid (by
        rw [← hW12, ← hg12]
        refine ⟨(LBox.new _ _).keep (below_one _ _), (L12.out.below (below_one _ _)).below (below_one _ _), B12.out.trans (((below_one _ _).trans ((below_one _ _).mono (by simp))).mono B12.out.size), QBox.of ?_⟩
        have h := heap_alloc_new (w12.alloc u12.obj) t.obj
        rw [show (w12.alloc u12.obj).heap.size = w12.heap.size + 1 by simp] at h
        exact h)
      rw [hW12, hg12]
      clear hW12 hg12 L12 B12
      have FX := Lib.hid (FX.out.keep X12.out.2.2.1)
      (have z0 := FX.out.l.b.c0; have z1 := FX.out.l.b.c1; have z2 := FX.out.l.b.c2; have z3 := FX.out.l.b.c3; dsimp only at z0 z1 z2 z3)
      have m0 := X12.out.1.c0; have m1 := X12.out.1.c1; have m2 := X12.out.1.c2; have m3 := X12.out.1.c3
      obtain ⟨x0, x1, x2, x3, x4, x5, x6, x7, x8, x9⟩ := FX.out.t.c
      obtain ⟨y0, y1, y2, y3, y4, y5, y6, y7, y8, y9⟩ := X12.out.2.2.2.c
      simp only [Nat.zero_add] at x0 x1 x2 x3 x4 x5 x6 x7 x8 x9 y0 y1 y2 y3 y4 y5 y6 y7 y8 y9
      have hneq := td_neq t
      have hgd := todo_guard
      go_wp2_with (go_at_call 18; (with_reducible refine (SM.out _ _ M12.out X12.out.2.1 FX.out.l.l).mono ?_); rintro e w13 ⟨rfl, hb⟩; have B13 := Lib.hid (X12.out.2.2.1.trans (hb.mono X12.out.2.2.1.size)); clear hb)
      go_meet
      exact ⟨trivial, B13⟩
  case rest =>
  obtain ⟨-, B13⟩ := hcut
  have FX := Lib.hid (FX.out.keep B13.out)
  clear B13 GX M10 SM CT HZ HQ
  by_cases hxy : x = y
  · have e17 : ((x : Int) == (y : Int)) = true := by rw [hxy]; simp
    clear hxy
    go_wp2
    go_ret
    exact ⟨rfl, FX.out.l.w⟩
  have e17 : ((x : Int) == (y : Int)) = false := beq_eq_false_iff_ne.2 (by omega)
  have HXY := Lib.hid hxy
  clear hxy
  obtain ⟨D4, hD4⟩ : ∃ D4, (add11 D x t).1 = D4 := ⟨_, rfl⟩
  obtain ⟨E4, hE4⟩ : ∃ D4, (add11 D y u).1 = D4 := ⟨_, rfl⟩
  obtain ⟨D5, hD5⟩ : ∃ D5, (add11 D4 y u).1 = D5 := ⟨_, rfl⟩
  obtain ⟨E5, hE5⟩ : ∃ D5, (add11 E4 x t).1 = D5 := ⟨_, rfl⟩
  obtain ⟨p4, hp4⟩ : ∃ b, (add11 D x t).2 = b := ⟨_, rfl⟩
  obtain ⟨q4, hq4⟩ : ∃ b, (add11 D y u).2 = b := ⟨_, rfl⟩
  obtain ⟨p5, hp5⟩ : ∃ b, (add11 D4 y u).2 = b := ⟨_, rfl⟩
  obtain ⟨q5, hq5⟩ : ∃ b, (add11 E4 x t).2 = b := ⟨_, rfl⟩
  have HTD : Hid (D5.td = E5.td) := Lib.hid (by subst hD5; subst hE5; subst hD4; subst hE4; exact add_add_td HXY.out)
  have HTL5 : Hid (D5.td.length = tl) := Lib.hid (by rw [← hD5, add_tdlen, ← hD4, add_tdlen]; exact HTL.out)
  have HBZ : Hid (D5.bz = E5.bz) := Lib.hid (by subst hD5; subst hE5; subst hD4; subst hE4; simp only [add_bz, add_stlen])
  have HBL : Hid (D5.bk.length = E5.bk.length) := Lib.hid (by subst hD5; subst hE5; subst hD4; subst hE4; simp only [add_bklen, add_stlen])
  have A1 : Hid (∀ V, LineAt V ⟨some ⟨b1, o1, none⟩, tl, tc, sa, sl, sc, ba, bl, bc, bz, T, S, B⟩ → Calls Try.prog 10 #[lineV (some ⟨b1, o1, none⟩) tl tc sa sl sc ba bl bc bz, .int .i64 x, t.val] V (AddP V D4 p4 0)) := Lib.hid (fun V h => by
    have := add_ok ⟨some ⟨b1, o1, none⟩, tl, tc, sa, sl, sc, ba, bl, bc, bz, T, S, B⟩ x t V h (by rw [HD.out]; exact HSM.out.small (by omega)) HTO.out (by rw [HD.out]; exact HRT.out) (by rw [HD.out, HTL.out]; exact HX.out)
    rw [HD.out, hD4, hp4] at this
    exact this)
  have A2 : Hid (∀ V (r : LnV), r.dat = D4 → LineAt V r → Calls Try.prog 10 #[r.val, .int .i64 y, u.val] V (AddP V D5 p5 0)) := Lib.hid (fun V r hr h => by
    have := add_ok r y u V h (by rw [hr, ← hD4]; exact (add_small HSM.out).small (by omega)) HUO.out (by rw [hr, ← hD4]; exact add_right HRT.out (by rw [HTL.out]; exact HX.out)) (by rw [hr, ← hD4, add_tdlen, HTL.out]; exact HY.out)
    rw [hr, hD5, hp5] at this
    exact this)
  have A3 : Hid (∀ V, LineAt V ⟨some ⟨b1, o1, none⟩, tl, tc, sa, sl, sc, ba, bl, bc, bz, T, S, B⟩ → Calls Try.prog 10 #[lineV (some ⟨b1, o1, none⟩) tl tc sa sl sc ba bl bc bz, .int .i64 y, u.val] V (AddP V E4 q4 0)) := Lib.hid (fun V h => by
    have := add_ok ⟨some ⟨b1, o1, none⟩, tl, tc, sa, sl, sc, ba, bl, bc, bz, T, S, B⟩ y u V h (by rw [HD.out]; exact HSM.out.small (by omega)) HUO.out (by rw [HD.out]; exact HRT.out) (by rw [HD.out, HTL.out]; exact HY.out)
    rw [HD.out, hE4, hq4] at this
    exact this)
  have A4 : Hid (∀ V (r : LnV), r.dat = E4 → LineAt V r → Calls Try.prog 10 #[r.val, .int .i64 x, t.val] V (AddP V E5 q5 0)) := Lib.hid (fun V r hr h => by
    have := add_ok r x t V h (by rw [hr, ← hE4]; exact (add_small HSM.out).small (by omega)) HTO.out (by rw [hr, ← hE4]; exact add_right HRT.out (by rw [HTL.out]; exact HY.out)) (by rw [hr, ← hE4, add_tdlen, HTL.out]; exact HX.out)
    rw [hr, hE5, hq5] at this
    exact this)
  clear hD4 hE4 hD5 hE5 hp4 hq4 hp5 hq5
  obtain ⟨W0, hW0⟩ : ∃ W, wc = W := ⟨_, rfl⟩
  subst hW0
  (have z0 := FX.out.l.b.c0; have z1 := FX.out.l.b.c1; have z2 := FX.out.l.b.c2; have z3 := FX.out.l.b.c3; dsimp only at z0 z1 z2 z3)
  obtain ⟨x0, x1, x2, x3, x4, x5, x6, x7, x8, x9⟩ := FX.out.t.c
  simp only [Nat.zero_add] at x0 x1 x2 x3 x4 x5 x6 x7 x8 x9
  go_upto_region 20 with (go_at_call 10; (with_reducible refine (A1.out _ FX.out.l.l).mono ?_); rintro e w19 ⟨u19, rfl, hd, hl, -, hb⟩; have M19 := Lib.hid hd; have L19 := Lib.hid hl; have B19 := Lib.hid hb; clear hd hl hb z0 z1 z2 z3 x0 x1 x2 x3 x4 x5 x6 x7 x8 x9)
  obtain ⟨g19, hg19⟩ : ∃ g, w19.heap.size = g := ⟨_, rfl⟩
  obtain ⟨W19, hW19⟩ : ∃ W, w19.alloc u19.obj = W := ⟨_, rfl⟩
  have P19 : Hid (BoxL W19 g19 u19) := Lib.hid (by rw [← hW19, ← hg19]; exact ⟨LBox.new _ _, L19.out.below (below_one _ _)⟩)
  have HB19 : Hid (Below wc.heap.size wc W19) := Lib.hid (by rw [← hW19]; exact B19.out.trans ((below_one _ _).mono B19.out.size))
  have HG19 : Hid (wc.heap.size ≤ g19) := Lib.hid (by rw [← hg19]; exact B19.out.size)
  rw [hW19, hg19]
  clear hW19 hg19 L19 B19
  have FV := FX
  have FX := Lib.hid (FX.out.keep HB19.out)
  obtain ⟨y0, y1, y2, y3, y4, y5, y6, y7, y8, y9⟩ := (show TodoAt _ (w.heap.size + 1 + 1) 0 u from FX.out.u.c)
  simp only [Nat.zero_add] at y0 y1 y2 y3 y4 y5 y6 y7 y8 y9
  have m0 := (P19.out.b).c0; have m1 := (P19.out.b).c1; have m2 := (P19.out.b).c2; have m3 := (P19.out.b).c3; have f0 := (P19.out.b).f 0; have f1 := (P19.out.b).f 1; have f2 := (P19.out.b).f 2; have f3 := (P19.out.b).f 3
  go_upto_region 21 with (go_at_call 10; (with_reducible refine (A2.out _ _ M19.out P19.out.l).mono ?_); rintro e w20 ⟨u20, rfl, hd, hl, hn, hb⟩; have M20 := Lib.hid hd; have L20 := Lib.hid hl; have N20 := Lib.hid hn; have B20 := Lib.hid hb; clear m0 m1 m2 m3 f0 f1 f2 f3 y0 y1 y2 y3 y4 y5 y6 y7 y8 y9; have m0 := (P19.out.b.keep hb).c0; have m1 := (P19.out.b.keep hb).c1; have m2 := (P19.out.b.keep hb).c2; have m3 := (P19.out.b.keep hb).c3; have f0 := (P19.out.b.keep hb).f 0; have f1 := (P19.out.b.keep hb).f 1; have f2 := (P19.out.b.keep hb).f 2; have f3 := (P19.out.b.keep hb).f 3; clear hd hl hn hb)
  clear m0 m1 m2 m3 f0 f1 f2 f3
  obtain ⟨W20, hW, hbx, hla, hgr, hbv⟩ := P19.out.b.put2 B20.out L20.out N20.out HB19.out HG19.out
  rw [hW]
  have P20 : Hid (BoxL W20 g19 u20) := Lib.hid ⟨hbx, hla⟩
  have FX := Lib.hid (FV.out.keep hbv)
  have HV20 := Lib.hid hbv
  clear hW hbx hla hgr hbv L20 N20 B20 HB19 HG19 P19 M19 FV A2
  (have z0 := FX.out.l.b.c0; have z1 := FX.out.l.b.c1; have z2 := FX.out.l.b.c2; have z3 := FX.out.l.b.c3; dsimp only at z0 z1 z2 z3)
  obtain ⟨y0, y1, y2, y3, y4, y5, y6, y7, y8, y9⟩ := (show TodoAt _ (w.heap.size + 1 + 1) 0 u from FX.out.u.c)
  simp only [Nat.zero_add] at y0 y1 y2 y3 y4 y5 y6 y7 y8 y9
  go_upto_region 22 with (go_at_call 10; (with_reducible refine (A3.out _ FX.out.l.l).mono ?_); rintro e w21 ⟨u21, rfl, hd, hl, -, hb⟩; have M21 := Lib.hid hd; have L21 := Lib.hid hl; have B21 := Lib.hid hb; clear hd hl hb z0 z1 z2 z3 y0 y1 y2 y3 y4 y5 y6 y7 y8 y9)
  obtain ⟨g21, hg21⟩ : ∃ g, w21.heap.size = g := ⟨_, rfl⟩
  obtain ⟨W21, hW21⟩ : ∃ W, w21.alloc u21.obj = W := ⟨_, rfl⟩
  have P21 : Hid (BoxL W21 g21 u21) := Lib.hid (by rw [← hW21, ← hg21]; exact ⟨LBox.new _ _, L21.out.below (below_one _ _)⟩)
  have HB21 : Hid (Below W20.heap.size W20 W21) := Lib.hid (by rw [← hW21]; exact B21.out.trans ((below_one _ _).mono B21.out.size))
  have HG21 : Hid (W20.heap.size ≤ g21) := Lib.hid (by rw [← hg21]; exact B21.out.size)
  rw [hW21, hg21]
  clear hW21 hg21 L21 B21
  have Q20 := P20
  have FV := FX
  have FX := Lib.hid (FX.out.keep HB21.out)
  obtain ⟨x0, x1, x2, x3, x4, x5, x6, x7, x8, x9⟩ := FX.out.t.c
  simp only [Nat.zero_add] at x0 x1 x2 x3 x4 x5 x6 x7 x8 x9
  have m0 := (P21.out.b).c0; have m1 := (P21.out.b).c1; have m2 := (P21.out.b).c2; have m3 := (P21.out.b).c3; have f0 := (P21.out.b).f 0; have f1 := (P21.out.b).f 1; have f2 := (P21.out.b).f 2; have f3 := (P21.out.b).f 3
  go_upto_region 23 with (go_at_call 10; (with_reducible refine (A4.out _ _ M21.out P21.out.l).mono ?_); rintro e w22 ⟨u22, rfl, hd, hl, hn, hb⟩; have M22 := Lib.hid hd; have L22 := Lib.hid hl; have N22 := Lib.hid hn; have B22 := Lib.hid hb; clear m0 m1 m2 m3 f0 f1 f2 f3 x0 x1 x2 x3 x4 x5 x6 x7 x8 x9; have m0 := (P21.out.b.keep hb).c0; have m1 := (P21.out.b.keep hb).c1; have m2 := (P21.out.b.keep hb).c2; have m3 := (P21.out.b.keep hb).c3; have f0 := (P21.out.b.keep hb).f 0; have f1 := (P21.out.b.keep hb).f 1; have f2 := (P21.out.b.keep hb).f 2; have f3 := (P21.out.b.keep hb).f 3; clear hd hl hn hb)
  clear m0 m1 m2 m3 f0 f1 f2 f3
  obtain ⟨W22, hW, hbx, hla, hgr, hbv⟩ := P21.out.b.put2 B22.out L22.out N22.out HB21.out HG21.out
  rw [hW]
  have P22 : Hid (BoxL W22 g21 u22) := Lib.hid ⟨hbx, hla⟩
  have FX := Lib.hid (FV.out.keep hbv)
  have HV22 := Lib.hid hbv
  clear hW hbx hla hgr hbv L22 N22 B22 HB21 HG21 P21 M21 FV A4
  have PX := Lib.hid (Q20.out.keep HV22.out)
  have QX := P22
  clear P20 Q20 P22 HV20 HV22
  obtain ⟨ua, un, uc, va, vn, vc, xa, xn, xc, ub, UT, US, UB⟩ := u20
  obtain ⟨ga, gn, gc, ha, hn, hc, ja, jn, jc, jb, GT, GS, GB⟩ := u22
  obtain rfl : tl = un := by
    have h1 : (LnV.dat ⟨ua, un, uc, va, vn, vc, xa, xn, xc, ub, UT, US, UB⟩).td.length = un := PX.out.l.t.dlen
    rw [M20.out, HTL5.out] at h1
    exact h1
  obtain rfl : tl = gn := by
    have h1 : (LnV.dat ⟨ga, gn, gc, ha, hn, hc, ja, jn, jc, jb, GT, GS, GB⟩).td.length = gn := QX.out.l.t.dlen
    rw [M22.out, ← HTD.out, HTL5.out] at h1
    exact h1
  obtain rfl : ub = jb := show (LnV.dat ⟨ua, tl, uc, va, vn, vc, xa, xn, xc, ub, UT, US, UB⟩).bz = (LnV.dat ⟨ga, tl, gc, ha, hn, hc, ja, jn, jc, jb, GT, GS, GB⟩).bz by rw [M20.out, M22.out]; exact HBZ.out
  obtain rfl : xn = jn := by
    have h1 : (LnV.dat ⟨ua, tl, uc, va, vn, vc, xa, xn, xc, ub, UT, US, UB⟩).bk.length = xn := PX.out.l.b.hlen
    have h2 : (LnV.dat ⟨ga, tl, gc, ha, hn, hc, ja, jn, jc, ub, GT, GS, GB⟩).bk.length = jn := QX.out.l.b.hlen
    rw [← h1, ← h2, M20.out, M22.out]
    exact HBL.out
  have HUT : Hid (datL UT = datL GT) := Lib.hid (show (LnV.dat ⟨ua, tl, uc, va, vn, vc, xa, xn, xc, ub, UT, US, UB⟩).td = (LnV.dat ⟨ga, tl, gc, ha, hn, hc, ja, xn, jc, ub, GT, GS, GB⟩).td by rw [M20.out, M22.out]; exact HTD.out)
  clear M20 M22 HTD HBZ HBL HTL5
  have z0 := FX.out.l.b.c0
  dsimp only at z0
  go_wp2
  go_loopw [30] (fun i wr => ∃ j : Nat, j ≤ tl ∧ i = .int .i64 j ∧ Hid (Below W22.heap.size W22 wr)) (fun i _ => tl - (intOf i).toNat)
  case atStart => exact ⟨0, Nat.zero_le _, rfl, Lib.hid (Below.refl _ _)⟩
  case round =>
    obtain ⟨j, hj, rfl, HB⟩ := hrel
    have GX := Lib.hid (FX.out.keep HB.out)
    have GM := Lib.hid (PX.out.keep HB.out)
    have GG := Lib.hid (QX.out.keep HB.out)
    clear z0
    have z0 := GX.out.l.b.c0
    have m0 := GM.out.b.c0
    have y0 := GG.out.b.c0
    dsimp only at z0 m0 y0
    by_cases hlt : j < tl
    · obtain ⟨b2, o2, x2, e2, l2, hx2, c2, r2⟩ := GM.out.l.t.get hlt
      obtain ⟨b3, o3, x3, e3, l3, hx3, c3, r3⟩ := GG.out.l.t.get hlt
      dsimp only at e2 e3 hx2 hx3
      subst e2
      subst e3
      obtain ⟨qa, qn, qc, ql⟩ := x2
      obtain ⟨sa', sn', sc', sl'⟩ := x3
      dsimp only at c2 c3 r2 r3
      have HL2 : Hid (ql = sl') := Lib.hid (by
        have h2 := datL_get hx2
        have h3 := datL_get hx3
        rw [← HUT.out, h2] at h3
        exact Option.some.inj h3)
      have TD2 : Hid (∀ x : Ext wr, Calls Try.prog 29 #[.slice qa qn qc, .slice sa' sn' sc'] x.v fun e w' => e = .returned (.bool true) ∧ Below x.v.heap.size x.v w') := Lib.hid (fun x => reftodosB qa sa' qn qc sn' sc' ql sl' true (decide_eq_true HL2.out) x.v (r2.below x.below) (r3.below x.below))
      have hj1 : (j : Int) < (tl : Int) := by omega
      have hj2 : ¬ ((tl : Int) ≤ (j : Int)) := by omega
      have hj3 : decide ((tl : Int) ≤ (j : Int)) = false := decide_eq_false hj2
      have hj4 : decide (tl ≤ j) = false := decide_eq_false (by omega)
      clear hx2 hx3 r2 r3
      go_upto_region 26 with fail
      have m0 := Ext.cell m0 GM.out.b.lt
      have y0 := Ext.cell y0 GG.out.b.lt
      have c2 := Ext.cell c2 l2
      have c3 := Ext.cell c3 l3
      refine wp_region_ext (by kernel_rfl) (by kernel_rfl) ?_
      repeat (go_big_quiet_step (first | (go_at_call 29; with_reducible exact Ext.call_below (TD2.out _))))
      refine wpQuiet_nil ?_
      intro w' hw'
      obtain ⟨⟨wz, hbz⟩, hw''⟩ := hw'
      dsimp only at hw''
      subst hw''
      clear m0 y0 c2 c3
      go_wp2
      go_roundw
      case rel => exact ⟨j + 1, by omega, by go_num, Lib.hid (HB.out.trans (hbz.mono HB.out.size))⟩
      case measure => simp [intOf]; omega
    · obtain rfl : j = tl := by omega
      have q1 : (ub == ub) = true := by simp
      have q2 : ((xn : Int) == (xn : Int)) = true := by simp
      have m2 := GM.out.b.c2
      have m3 := GM.out.b.c3
      have y2 := GG.out.b.c2
      have y3 := GG.out.b.c3
      dsimp only at m2 m3 y2 y3
      go_wp2
      go_ret
      exact ⟨rfl, GX.out.l.w⟩
end Go.Proofs.Ytadlmjiebhpaoaa
