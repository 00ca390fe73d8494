/- Texts joined in build order: HeirRightLaw. -/
import Derived.Test.YtkomeijlljcdgaaGreatR46
import Derived.Test.YtkomeijlljcdgaaGreatR47
import Derived.Test.YtkomeijlljcdgaaGreatR39
import Derived.Test.YtkomeijlljcdgaaGreatR16
import Derived.Test.YtkomeijlljcdgaaGreatR04
namespace Go.Proofs.YtkomeijlljcdgaaGreat
open Go.RowKit
abbrev defB (xn xl : ByteArray) (cl : Int) : Obj := .cells #[.string xn, .string xl, .int .i64 cl] 30
structure EBox (W : World) (g : Nat) (xn xl : ByteArray) (cl : Int) : Prop where
  lt : g < W.heap.size
  c0 : W.cell? ⟨g, 0, none⟩ = some (.string xn)
  c1 : W.cell? ⟨g, 1, none⟩ = some (.string xl)
  c2 : W.cell? ⟨g, 2, none⟩ = some (.int .i64 cl)
theorem EBox.keep {W V : World} {g : Nat} {xn xl : ByteArray} {cl : Int} (h : EBox W g xn xl cl) (hb : Below W.heap.size W V) : EBox V g xn xl cl :=
  ⟨Nat.lt_of_lt_of_le h.lt hb.size, (hb.cell (p := ⟨g, 0, none⟩) h.lt).trans h.c0, (hb.cell (p := ⟨g, 1, none⟩) h.lt).trans h.c1, (hb.cell (p := ⟨g, 2, none⟩) h.lt).trans h.c2⟩
theorem EBox.new (W : World) (xn xl : ByteArray) (cl : Int) : EBox (W.alloc (defB xn xl cl)) W.heap.size xn xl cl :=
  ⟨by simp, cell_of_row _ W.heap.size 0 _ 30 (0, 0) (heap_alloc_new W _), cell_of_row _ W.heap.size 1 _ 30 (0, 0) (heap_alloc_new W _), cell_of_row _ W.heap.size 2 _ 30 (0, 0) (heap_alloc_new W _)⟩
theorem hr_keep {V W X : World} {b1 b2 b3 : Nat} {v0 v1 v2 v3 v4 v5 v6 v7 v8 : Option Value} (l : b1 < V.heap.size ∧ b2 < V.heap.size ∧ b3 < V.heap.size)
    (h : W.cell? ⟨b1, 0, none⟩ = v0 ∧ W.cell? ⟨b1, 1, none⟩ = v1 ∧ W.cell? ⟨b2, 0, none⟩ = v2 ∧ W.cell? ⟨b2, 1, none⟩ = v3 ∧ W.cell? ⟨b2, 2, none⟩ = v4 ∧ W.cell? ⟨b2, 3, none⟩ = v5 ∧ W.cell? ⟨b3, 0, none⟩ = v6 ∧ W.cell? ⟨b3, 1, none⟩ = v7 ∧ W.cell? ⟨b3, 2, none⟩ = v8 ∧ Below V.heap.size V W) (hb : Below W.heap.size W X) :
    X.cell? ⟨b1, 0, none⟩ = v0 ∧ X.cell? ⟨b1, 1, none⟩ = v1 ∧ X.cell? ⟨b2, 0, none⟩ = v2 ∧ X.cell? ⟨b2, 1, none⟩ = v3 ∧ X.cell? ⟨b2, 2, none⟩ = v4 ∧ X.cell? ⟨b2, 3, none⟩ = v5 ∧ X.cell? ⟨b3, 0, none⟩ = v6 ∧ X.cell? ⟨b3, 1, none⟩ = v7 ∧ X.cell? ⟨b3, 2, none⟩ = v8 ∧ Below V.heap.size V X := by
  obtain ⟨c0, c1, c2, c3, c4, c5, c6, c7, c8, hB⟩ := h
  have hs := hB.size
  exact ⟨(hb.cell (p := ⟨_, _, none⟩) (by simp only; omega)).trans c0, (hb.cell (p := ⟨_, _, none⟩) (by simp only; omega)).trans c1, (hb.cell (p := ⟨_, _, none⟩) (by simp only; omega)).trans c2, (hb.cell (p := ⟨_, _, none⟩) (by simp only; omega)).trans c3, (hb.cell (p := ⟨_, _, none⟩) (by simp only; omega)).trans c4, (hb.cell (p := ⟨_, _, none⟩) (by simp only; omega)).trans c5, (hb.cell (p := ⟨_, _, none⟩) (by simp only; omega)).trans c6, (hb.cell (p := ⟨_, _, none⟩) (by simp only; omega)).trans c7, (hb.cell (p := ⟨_, _, none⟩) (by simp only; omega)).trans c8, hB.trans (hb.mono hB.size)⟩
theorem heirs_wrong {m : Int} {F : List Core} {xn xl : ByteArray} (h : rightF m F = false) : heirsZ m F xn xl = [] := by
  have e : thereF m F 0 = false := by unfold thereF; rw [h]; rfl
  unfold heirsZ elemsZ allZ
  rw [e]
  rfl
theorem tries_out {m : Int} {F : List Core} {n : Int} {D : DeskD} (h : thereF m F n = false ∨ rightK D = false) : triesZ m F n D = [] := by
  rcases h with e | e
  · unfold triesZ elemsZ allZ
    rw [e]
    split <;> rfl
  · unfold triesZ
    rw [e]
    rfl
theorem fate_out {m : Int} {F : List Core} {n : Int} {D : DeskD} (h : thereF m F n = false ∨ rightK D = false) : fateZ m F n D = -1 := by
  rcases h with e | e
  · unfold fateZ
    rw [e]
    rfl
  · unfold fateZ
    split
    · split
      · unfold fateC ifRight
        rw [e]
        split <;> rfl
      · rfl
    · rfl
theorem tries_up {m : Int} {F : List Core} {n : Int} {D : DeskD} : ∀ u ∈ triesZ m F n D, ∃ t j : Int, u = ⟨t, upT j⟩ := by
  intro u hu
  unfold triesZ at hu
  split at hu
  · obtain ⟨z, _, hz⟩ := List.mem_filterMap.1 hu
    split at hz
    · split at hz
      · cases hz
      · exact ⟨_, _, (Option.some.inj hz).symm⟩
    · cases hz
  · cases hu
set_option maxHeartbeats 4000000 in
set_option maxRecDepth 100000 in
theorem heirRight_walk (_F : True) (a : Option Addr) (len cap : Nat) (m : Int) (K : List NodeD) (n : Int) (da : Option Addr) (dl dc : Nat) (wa : Option Addr) (wl wc_ : Nat) (nx : Int) (bz : Bool) (L : List DefD) (M : List WaitD) (xd : DefD) (s is : ByteArray) (w : World)
    (h0 : NodeRow w a len cap K) (hm : In64 m) (hn64 : In64 n) (hD : DeskAt w da dl dc wa wl wc_ ⟨L, M, nx, bz⟩) (_hx : xd.name.size ≤ maxLen ∧ xd.loc.size ≤ maxLen ∧ In64 xd.cls) (hs : s.size ≤ maxLen) (his : is.size ≤ maxLen) :
    Calls Tryz.prog 3 #[forV a len cap m, .int .i64 n, deskV da dl dc wa wl wc_ nx bz, .agg #[.string xd.name, .string xd.loc, .int .i64 xd.cls], .string s, .string is] w fun e w' => e = .returned (.bool true) ∧ Below w.heap.size w w' := by
  obtain ⟨xn, xl, cl⟩ := xd
  have AW := Lib.hid (fun W => awake10_any W)
  obtain ⟨W0, hW0, FX, EX⟩ : ∃ W0, ((w.alloc (forB a len cap m)).alloc (deskB da dl dc wa wl wc_ nx bz)).alloc (defB xn xl cl) = W0 ∧ Hid (FD w W0 w.heap.size (w.heap.size + 1) a len cap m K da dl dc wa wl wc_ nx bz L M) ∧ Hid (EBox W0 (w.heap.size + 1 + 1) xn xl cl) := by
    have hs2 : ((w.alloc (forB a len cap m)).alloc (deskB da dl dc wa wl wc_ nx bz)).heap.size = w.heap.size + 1 + 1 := by simp
    have h1 := EBox.new ((w.alloc (forB a len cap m)).alloc (deskB da dl dc wa wl wc_ nx bz)) xn xl cl
    rw [hs2] at h1
    exact ⟨_, rfl, Lib.hid ((FD.start (m := m) (nx := nx) (bz := bz) h0 hD.d hD.t).keep (below_box _ _)), Lib.hid h1⟩
  have HW0 := Lib.hid hW0
  have HM := Lib.hid hm
  have HN := Lib.hid hn64
  have HL := Lib.hid h0.hlen
  have hl0 := h0.len64
  have hdl := hD.d.len64
  have n1 : s.size ≤ 9223372036854775807 := by unfold maxLen at hs; omega
  have n3 : is.size ≤ 9223372036854775807 := by unfold maxLen at his; omega
  have SZ := Lib.hid (⟨hs, his⟩ : s.size ≤ maxLen ∧ is.size ≤ maxLen)
  (have z0 := FX.out.f.c0; have z1 := FX.out.f.c1; have d0 := FX.out.d.c0; have d1 := FX.out.d.c1; have d2 := FX.out.d.c2; have d3 := FX.out.d.c3; have x0 := EX.out.c0; have x1 := EX.out.c1; have x2 := EX.out.c2)
  obtain ⟨q0, hq0⟩ : ∃ q, shortF K = q := ⟨_, rfl⟩
  obtain ⟨q1, hq1⟩ : ∃ q, shortK L M = q := ⟨_, rfl⟩
  have S3 : Hid (∀ V, NodeRow V a len cap K → Calls Tryz.prog 8 #[forV a len cap m] V fun e w' => e = .returned (.bool q0) ∧ Below V.heap.size V w') := Lib.hid (fun V h1 => by
    have h := refshortF_any a len cap m K V h1
    rw [hq0] at h
    exact h)
  have S9 : Hid (∀ V, DefRow V da dl dc L → WaitRow V wa wl wc_ M → Calls Tryz.prog 9 #[deskV da dl dc wa wl wc_ nx bz] V fun e w' => e = .returned (.bool q1) ∧ Below V.heap.size V w') := Lib.hid (fun V h1 h2 => by
    have h := refshort9_any da dl dc wa wl wc_ nx bz L M V h1 h2
    rw [hq1] at h
    exact h)
  clear h0 hm hn64 hD _F _hx hs his hW0
  cases q0 with
  | false => clear hq0 hq1; (go_enter Tryz.func3, Tryz.ntmps3; go_upto_region 1 with fail; rw [HW0.out]; go_wp2_with (first
                                                                                                                                                                                       | (go_at_call 7; (with_reducible refine (AW.out _).mono ?_); rintro e w5 ⟨rfl, hb⟩; ((clear z0 z1 d0 d1 d2 d3 x0 x1 x2); have FX := Lib.hid (FX.out.keep hb); have EX := Lib.hid (EX.out.keep hb); (have z0 := FX.out.f.c0; have z1 := FX.out.f.c1; have d0 := FX.out.d.c0; have d1 := FX.out.d.c1; have d2 := FX.out.d.c2; have d3 := FX.out.d.c3; have x0 := EX.out.c0; have x1 := EX.out.c1; have x2 := EX.out.c2); clear hb))
                                                                                                                                                                                       | (go_at_call 8; (with_reducible refine (S3.out _ FX.out.f.row).mono ?_); rintro e w5 ⟨rfl, hb⟩; ((clear z0 z1 d0 d1 d2 d3 x0 x1 x2); have FX := Lib.hid (FX.out.keep hb); have EX := Lib.hid (EX.out.keep hb); (have z0 := FX.out.f.c0; have z1 := FX.out.f.c1; have d0 := FX.out.d.c0; have d1 := FX.out.d.c1; have d2 := FX.out.d.c2; have d3 := FX.out.d.c3; have x0 := EX.out.c0; have x1 := EX.out.c1; have x2 := EX.out.c2); clear hb))
                                                                                                                                                                                       | (go_at_call 9; (with_reducible refine (S9.out _ FX.out.d.d FX.out.d.t).mono ?_); rintro e w5 ⟨rfl, hb⟩; ((clear z0 z1 d0 d1 d2 d3 x0 x1 x2); have FX := Lib.hid (FX.out.keep hb); have EX := Lib.hid (EX.out.keep hb); (have z0 := FX.out.f.c0; have z1 := FX.out.f.c1; have d0 := FX.out.d.c0; have d1 := FX.out.d.c1; have d2 := FX.out.d.c2; have d3 := FX.out.d.c3; have x0 := EX.out.c0; have x1 := EX.out.c1; have x2 := EX.out.c2); clear hb))
                                                                                                                                                                                       | (go_at_call 10; (with_reducible refine (B1.out _).mono ?_); rintro e w5 ⟨rfl, hb⟩; ((clear z0 z1 d0 d1 d2 d3 x0 x1 x2); have FX := Lib.hid (FX.out.keep hb); have EX := Lib.hid (EX.out.keep hb); (have z0 := FX.out.f.c0; have z1 := FX.out.f.c1; have d0 := FX.out.d.c0; have d1 := FX.out.d.c1; have d2 := FX.out.d.c2; have d3 := FX.out.d.c3; have x0 := EX.out.c0; have x1 := EX.out.c1; have x2 := EX.out.c2); clear hb))
                                                                                                                                                                                       | (go_at_call 11; (with_reducible refine (B2.out _).mono ?_); rintro e w5 ⟨rfl, hb⟩; ((clear z0 z1 d0 d1 d2 d3 x0 x1 x2); have FX := Lib.hid (FX.out.keep hb); have EX := Lib.hid (EX.out.keep hb); (have z0 := FX.out.f.c0; have z1 := FX.out.f.c1; have d0 := FX.out.d.c0; have d1 := FX.out.d.c1; have d2 := FX.out.d.c2; have d3 := FX.out.d.c3; have x0 := EX.out.c0; have x1 := EX.out.c1; have x2 := EX.out.c2); clear hb))); go_ret; exact ⟨rfl, FX.out.f.below⟩)
  | true =>
  have SM := Lib.hid (small_of_short hq0)
  clear hq0
  cases q1 with
  | false => clear hq1; (go_enter Tryz.func3, Tryz.ntmps3; go_upto_region 1 with fail; rw [HW0.out]; go_wp2_with (first
                                                                                                                                                                                   | (go_at_call 7; (with_reducible refine (AW.out _).mono ?_); rintro e w5 ⟨rfl, hb⟩; ((clear z0 z1 d0 d1 d2 d3 x0 x1 x2); have FX := Lib.hid (FX.out.keep hb); have EX := Lib.hid (EX.out.keep hb); (have z0 := FX.out.f.c0; have z1 := FX.out.f.c1; have d0 := FX.out.d.c0; have d1 := FX.out.d.c1; have d2 := FX.out.d.c2; have d3 := FX.out.d.c3; have x0 := EX.out.c0; have x1 := EX.out.c1; have x2 := EX.out.c2); clear hb))
                                                                                                                                                                                   | (go_at_call 8; (with_reducible refine (S3.out _ FX.out.f.row).mono ?_); rintro e w5 ⟨rfl, hb⟩; ((clear z0 z1 d0 d1 d2 d3 x0 x1 x2); have FX := Lib.hid (FX.out.keep hb); have EX := Lib.hid (EX.out.keep hb); (have z0 := FX.out.f.c0; have z1 := FX.out.f.c1; have d0 := FX.out.d.c0; have d1 := FX.out.d.c1; have d2 := FX.out.d.c2; have d3 := FX.out.d.c3; have x0 := EX.out.c0; have x1 := EX.out.c1; have x2 := EX.out.c2); clear hb))
                                                                                                                                                                                   | (go_at_call 9; (with_reducible refine (S9.out _ FX.out.d.d FX.out.d.t).mono ?_); rintro e w5 ⟨rfl, hb⟩; ((clear z0 z1 d0 d1 d2 d3 x0 x1 x2); have FX := Lib.hid (FX.out.keep hb); have EX := Lib.hid (EX.out.keep hb); (have z0 := FX.out.f.c0; have z1 := FX.out.f.c1; have d0 := FX.out.d.c0; have d1 := FX.out.d.c1; have d2 := FX.out.d.c2; have d3 := FX.out.d.c3; have x0 := EX.out.c0; have x1 := EX.out.c1; have x2 := EX.out.c2); clear hb))
                                                                                                                                                                                   | (go_at_call 10; (with_reducible refine (B1.out _).mono ?_); rintro e w5 ⟨rfl, hb⟩; ((clear z0 z1 d0 d1 d2 d3 x0 x1 x2); have FX := Lib.hid (FX.out.keep hb); have EX := Lib.hid (EX.out.keep hb); (have z0 := FX.out.f.c0; have z1 := FX.out.f.c1; have d0 := FX.out.d.c0; have d1 := FX.out.d.c1; have d2 := FX.out.d.c2; have d3 := FX.out.d.c3; have x0 := EX.out.c0; have x1 := EX.out.c1; have x2 := EX.out.c2); clear hb))
                                                                                                                                                                                   | (go_at_call 11; (with_reducible refine (B2.out _).mono ?_); rintro e w5 ⟨rfl, hb⟩; ((clear z0 z1 d0 d1 d2 d3 x0 x1 x2); have FX := Lib.hid (FX.out.keep hb); have EX := Lib.hid (EX.out.keep hb); (have z0 := FX.out.f.c0; have z1 := FX.out.f.c1; have d0 := FX.out.d.c0; have d1 := FX.out.d.c1; have d2 := FX.out.d.c2; have d3 := FX.out.d.c3; have x0 := EX.out.c0; have x1 := EX.out.c1; have x2 := EX.out.c2); clear hb))); go_ret; exact ⟨rfl, FX.out.f.below⟩)
  | true =>
  have SS := Lib.hid (short_small hq1)
  clear hq1
  by_cases d1' : (300 : Int) < (s.size : Int)
  · (go_enter Tryz.func3, Tryz.ntmps3; go_upto_region 1 with fail; rw [HW0.out]; go_wp2_with (first
                                                                                                                                                               | (go_at_call 7; (with_reducible refine (AW.out _).mono ?_); rintro e w5 ⟨rfl, hb⟩; ((clear z0 z1 d0 d1 d2 d3 x0 x1 x2); have FX := Lib.hid (FX.out.keep hb); have EX := Lib.hid (EX.out.keep hb); (have z0 := FX.out.f.c0; have z1 := FX.out.f.c1; have d0 := FX.out.d.c0; have d1 := FX.out.d.c1; have d2 := FX.out.d.c2; have d3 := FX.out.d.c3; have x0 := EX.out.c0; have x1 := EX.out.c1; have x2 := EX.out.c2); clear hb))
                                                                                                                                                               | (go_at_call 8; (with_reducible refine (S3.out _ FX.out.f.row).mono ?_); rintro e w5 ⟨rfl, hb⟩; ((clear z0 z1 d0 d1 d2 d3 x0 x1 x2); have FX := Lib.hid (FX.out.keep hb); have EX := Lib.hid (EX.out.keep hb); (have z0 := FX.out.f.c0; have z1 := FX.out.f.c1; have d0 := FX.out.d.c0; have d1 := FX.out.d.c1; have d2 := FX.out.d.c2; have d3 := FX.out.d.c3; have x0 := EX.out.c0; have x1 := EX.out.c1; have x2 := EX.out.c2); clear hb))
                                                                                                                                                               | (go_at_call 9; (with_reducible refine (S9.out _ FX.out.d.d FX.out.d.t).mono ?_); rintro e w5 ⟨rfl, hb⟩; ((clear z0 z1 d0 d1 d2 d3 x0 x1 x2); have FX := Lib.hid (FX.out.keep hb); have EX := Lib.hid (EX.out.keep hb); (have z0 := FX.out.f.c0; have z1 := FX.out.f.c1; have d0 := FX.out.d.c0; have d1 := FX.out.d.c1; have d2 := FX.out.d.c2; have d3 := FX.out.d.c3; have x0 := EX.out.c0; have x1 := EX.out.c1; have x2 := EX.out.c2); clear hb))
                                                                                                                                                               | (go_at_call 10; (with_reducible refine (B1.out _).mono ?_); rintro e w5 ⟨rfl, hb⟩; ((clear z0 z1 d0 d1 d2 d3 x0 x1 x2); have FX := Lib.hid (FX.out.keep hb); have EX := Lib.hid (EX.out.keep hb); (have z0 := FX.out.f.c0; have z1 := FX.out.f.c1; have d0 := FX.out.d.c0; have d1 := FX.out.d.c1; have d2 := FX.out.d.c2; have d3 := FX.out.d.c3; have x0 := EX.out.c0; have x1 := EX.out.c1; have x2 := EX.out.c2); clear hb))
                                                                                                                                                               | (go_at_call 11; (with_reducible refine (B2.out _).mono ?_); rintro e w5 ⟨rfl, hb⟩; ((clear z0 z1 d0 d1 d2 d3 x0 x1 x2); have FX := Lib.hid (FX.out.keep hb); have EX := Lib.hid (EX.out.keep hb); (have z0 := FX.out.f.c0; have z1 := FX.out.f.c1; have d0 := FX.out.d.c0; have d1 := FX.out.d.c1; have d2 := FX.out.d.c2; have d3 := FX.out.d.c3; have x0 := EX.out.c0; have x1 := EX.out.c1; have x2 := EX.out.c2); clear hb))); go_ret; exact ⟨rfl, FX.out.f.below⟩)
  by_cases d3' : (300 : Int) < (is.size : Int)
  · (go_enter Tryz.func3, Tryz.ntmps3; go_upto_region 1 with fail; rw [HW0.out]; go_wp2_with (first
                                                                                                                                                               | (go_at_call 7; (with_reducible refine (AW.out _).mono ?_); rintro e w5 ⟨rfl, hb⟩; ((clear z0 z1 d0 d1 d2 d3 x0 x1 x2); have FX := Lib.hid (FX.out.keep hb); have EX := Lib.hid (EX.out.keep hb); (have z0 := FX.out.f.c0; have z1 := FX.out.f.c1; have d0 := FX.out.d.c0; have d1 := FX.out.d.c1; have d2 := FX.out.d.c2; have d3 := FX.out.d.c3; have x0 := EX.out.c0; have x1 := EX.out.c1; have x2 := EX.out.c2); clear hb))
                                                                                                                                                               | (go_at_call 8; (with_reducible refine (S3.out _ FX.out.f.row).mono ?_); rintro e w5 ⟨rfl, hb⟩; ((clear z0 z1 d0 d1 d2 d3 x0 x1 x2); have FX := Lib.hid (FX.out.keep hb); have EX := Lib.hid (EX.out.keep hb); (have z0 := FX.out.f.c0; have z1 := FX.out.f.c1; have d0 := FX.out.d.c0; have d1 := FX.out.d.c1; have d2 := FX.out.d.c2; have d3 := FX.out.d.c3; have x0 := EX.out.c0; have x1 := EX.out.c1; have x2 := EX.out.c2); clear hb))
                                                                                                                                                               | (go_at_call 9; (with_reducible refine (S9.out _ FX.out.d.d FX.out.d.t).mono ?_); rintro e w5 ⟨rfl, hb⟩; ((clear z0 z1 d0 d1 d2 d3 x0 x1 x2); have FX := Lib.hid (FX.out.keep hb); have EX := Lib.hid (EX.out.keep hb); (have z0 := FX.out.f.c0; have z1 := FX.out.f.c1; have d0 := FX.out.d.c0; have d1 := FX.out.d.c1; have d2 := FX.out.d.c2; have d3 := FX.out.d.c3; have x0 := EX.out.c0; have x1 := EX.out.c1; have x2 := EX.out.c2); clear hb))
                                                                                                                                                               | (go_at_call 10; (with_reducible refine (B1.out _).mono ?_); rintro e w5 ⟨rfl, hb⟩; ((clear z0 z1 d0 d1 d2 d3 x0 x1 x2); have FX := Lib.hid (FX.out.keep hb); have EX := Lib.hid (EX.out.keep hb); (have z0 := FX.out.f.c0; have z1 := FX.out.f.c1; have d0 := FX.out.d.c0; have d1 := FX.out.d.c1; have d2 := FX.out.d.c2; have d3 := FX.out.d.c3; have x0 := EX.out.c0; have x1 := EX.out.c1; have x2 := EX.out.c2); clear hb))
                                                                                                                                                               | (go_at_call 11; (with_reducible refine (B2.out _).mono ?_); rintro e w5 ⟨rfl, hb⟩; ((clear z0 z1 d0 d1 d2 d3 x0 x1 x2); have FX := Lib.hid (FX.out.keep hb); have EX := Lib.hid (EX.out.keep hb); (have z0 := FX.out.f.c0; have z1 := FX.out.f.c1; have d0 := FX.out.d.c0; have d1 := FX.out.d.c1; have d2 := FX.out.d.c2; have d3 := FX.out.d.c3; have x0 := EX.out.c0; have x1 := EX.out.c1; have x2 := EX.out.c2); clear hb))); go_ret; exact ⟨rfl, FX.out.f.below⟩)
  have hlen : K.length ≤ 1000 := by have := SM.out.1; omega
  have HLN := Lib.hid hlen
  have SZ1 : Hid (s.size ≤ 1000000) := Lib.hid (by omega)
  obtain ⟨bo, hbo⟩ : ∃ z, bornZ s.toList is.toList = z := ⟨_, rfl⟩
  have B1 : Hid (∀ V, Calls Tryz.prog 10 #[.string s, .string is] V fun e w' => e = .returned (.int .i64 bo) ∧ Below V.heap.size V w') := Lib.hid (fun V => by
    have h := born_any s is V SZ.out.1
    rw [hbo] at h
    exact h)
  have B2 : Hid (∀ V, Calls Tryz.prog 11 #[.string s, .string is] V fun e w' => e = .returned (.int .i64 bo) ∧ Below V.heap.size V w') := Lib.hid (fun V => by
    have h := refborn_any s is V SZ1.out SZ.out.2
    rw [hbo] at h
    exact h)
  clear hbo hlen
  obtain ⟨rt, hrt⟩ : ∃ q, rightF m (coreL K) = q := ⟨_, rfl⟩
  obtain ⟨op, hop⟩ : ∃ q, rightK ⟨L, M, nx, bz⟩ = q := ⟨_, rfl⟩
  obtain ⟨th, hth⟩ : ∃ q, thereF m (coreL K) n = q := ⟨_, rfl⟩
  obtain ⟨fz, hfz⟩ : ∃ z, fateZ m (coreL K) n ⟨L, M, nx, bz⟩ = z := ⟨_, rfl⟩
  obtain ⟨H, hH⟩ : ∃ H, heirsZ m (coreL K) xn xl = H := ⟨_, rfl⟩
  obtain ⟨T, hT⟩ : ∃ T, triesZ m (coreL K) n ⟨L, M, nx, bz⟩ = T := ⟨_, rfl⟩
  have HRT := Lib.hid hrt
  have HOP := Lib.hid hop
  have HTH := Lib.hid hth
  have HFZ := Lib.hid hfz
  have HHH := Lib.hid hH
  have HTT := Lib.hid hT
  clear hrt hop hth hfz hH hT
  go_enter Tryz.func3, Tryz.ntmps3
  go_upto_region 1 with fail
  rw [HW0.out]
  go_upto_region 7 with (first
                            | (go_at_call 7; (with_reducible refine (AW.out _).mono ?_); rintro e w5 ⟨rfl, hb⟩; ((clear z0 z1 d0 d1 d2 d3 x0 x1 x2); have FX := Lib.hid (FX.out.keep hb); have EX := Lib.hid (EX.out.keep hb); (have z0 := FX.out.f.c0; have z1 := FX.out.f.c1; have d0 := FX.out.d.c0; have d1 := FX.out.d.c1; have d2 := FX.out.d.c2; have d3 := FX.out.d.c3; have x0 := EX.out.c0; have x1 := EX.out.c1; have x2 := EX.out.c2); clear hb))
                            | (go_at_call 8; (with_reducible refine (S3.out _ FX.out.f.row).mono ?_); rintro e w5 ⟨rfl, hb⟩; ((clear z0 z1 d0 d1 d2 d3 x0 x1 x2); have FX := Lib.hid (FX.out.keep hb); have EX := Lib.hid (EX.out.keep hb); (have z0 := FX.out.f.c0; have z1 := FX.out.f.c1; have d0 := FX.out.d.c0; have d1 := FX.out.d.c1; have d2 := FX.out.d.c2; have d3 := FX.out.d.c3; have x0 := EX.out.c0; have x1 := EX.out.c1; have x2 := EX.out.c2); clear hb))
                            | (go_at_call 9; (with_reducible refine (S9.out _ FX.out.d.d FX.out.d.t).mono ?_); rintro e w5 ⟨rfl, hb⟩; ((clear z0 z1 d0 d1 d2 d3 x0 x1 x2); have FX := Lib.hid (FX.out.keep hb); have EX := Lib.hid (EX.out.keep hb); (have z0 := FX.out.f.c0; have z1 := FX.out.f.c1; have d0 := FX.out.d.c0; have d1 := FX.out.d.c1; have d2 := FX.out.d.c2; have d3 := FX.out.d.c3; have x0 := EX.out.c0; have x1 := EX.out.c1; have x2 := EX.out.c2); clear hb))
                            | (go_at_call 10; (with_reducible refine (B1.out _).mono ?_); rintro e w5 ⟨rfl, hb⟩; ((clear z0 z1 d0 d1 d2 d3 x0 x1 x2); have FX := Lib.hid (FX.out.keep hb); have EX := Lib.hid (EX.out.keep hb); (have z0 := FX.out.f.c0; have z1 := FX.out.f.c1; have d0 := FX.out.d.c0; have d1 := FX.out.d.c1; have d2 := FX.out.d.c2; have d3 := FX.out.d.c3; have x0 := EX.out.c0; have x1 := EX.out.c1; have x2 := EX.out.c2); clear hb))
                            | (go_at_call 11; (with_reducible refine (B2.out _).mono ?_); rintro e w5 ⟨rfl, hb⟩; ((clear z0 z1 d0 d1 d2 d3 x0 x1 x2); have FX := Lib.hid (FX.out.keep hb); have EX := Lib.hid (EX.out.keep hb); (have z0 := FX.out.f.c0; have z1 := FX.out.f.c1; have d0 := FX.out.d.c0; have d1 := FX.out.d.c1; have d2 := FX.out.d.c2; have d3 := FX.out.d.c3; have x0 := EX.out.c0; have x1 := EX.out.c1; have x2 := EX.out.c2); clear hb)))
  clear B1 B2 S3 S9 AW HW0
  obtain ⟨V0, rfl⟩ : ∃ V0, V0 = w5 := ⟨_, rfl⟩
  have C3 : Hid (∀ X : Ext V0, Calls Tryz.prog 12 #[forV a len cap m] X.v fun e w' => e = .returned (.bool rt) ∧ Below X.v.heap.size X.v w') := Lib.hid (fun X => by
    have h := refrightN_any a len cap m K X.v (FX.out.keep X.below).f.row
    rw [HRT.out] at h
    exact h)
  have C9 : Hid (∀ X : Ext V0, Calls Tryz.prog 13 #[deskV da dl dc wa wl wc_ nx bz] X.v fun e w' => e = .returned (.bool op) ∧ Below X.v.heap.size X.v w') := Lib.hid (fun X => by
    have h := refright9_any da dl dc wa wl wc_ nx bz L M X.v (FX.out.keep X.below).d.d (FX.out.keep X.below).d.t SS.out.1 SS.out.2
    rw [HOP.out] at h
    exact h)
  (clear z0 z1 d0 d1 d2 d3 x0 x1 x2)
  have z0 := Ext.cell FX.out.f.c0 FX.out.f.lt
  have z1 := Ext.cell FX.out.f.c1 FX.out.f.lt
  have d0 := Ext.cell FX.out.d.c0 FX.out.d.lt
  have d1 := Ext.cell FX.out.d.c1 FX.out.d.lt
  have d2 := Ext.cell FX.out.d.c2 FX.out.d.lt
  have d3 := Ext.cell FX.out.d.c3 FX.out.d.lt
  refine wp_region_ext (by kernel_rfl) (by kernel_rfl) ?_
  repeat (go_big_quiet_step (first | (go_at_call 12; exact Ext.call_below (C3.out _)) | (go_at_call 13; exact Ext.call_below (C9.out _))))
  refine wpQuiet_nil ?_
  intro w' hw'
  obtain ⟨⟨w8, hb8⟩, hw''⟩ := hw'
  dsimp only at hw''
  subst hw''
  clear z0 z1 d0 d1 d2 d3 C3 C9
  have FX := Lib.hid (FX.out.keep hb8)
  have EX := Lib.hid (EX.out.keep hb8)
  clear hb8
  obtain ⟨Y, hY⟩ : ∃ Y, Y = w' := ⟨_, rfl⟩
  subst hY
  have z0 := FX.out.f.c0
  have z1 := FX.out.f.c1
  go_upto_region 8 with fail
  have HTD : Hid (th = (rt && decide (0 ≤ n) && decide (n < (len : Int)))) := Lib.hid (by
    rw [← HTH.out, ← HRT.out]
    unfold thereF
    rw [coreL_len, HL.out])
  go_cut [15] (fun c wx => c = .bool th ∧ wx = Y)
  case first =>
    cases rt with
    | false =>
      go_wp2
      go_meet
      exact ⟨by rw [HTD.out]; rfl, rfl⟩
    | true =>
      by_cases h1 : 0 ≤ n
      · by_cases h2 : n < (len : Int)
        · have e : th = true := by rw [HTD.out]; simp [h1, h2]
          go_wp2
          go_meet
          exact ⟨by rw [e], rfl⟩
        · have e : th = false := by rw [HTD.out]; simp [h2]
          go_wp2
          go_meet
          exact ⟨by rw [e], rfl⟩
      · have e : th = false := by rw [HTD.out]; simp [h1]
        go_wp2
        go_meet
        exact ⟨by rw [e], rfl⟩
  case rest =>
    obtain ⟨rfl, rfl⟩ := hcut
    clear z0 z1
    have LT : Hid (w.heap.size < wc.heap.size ∧ w.heap.size + 1 < wc.heap.size ∧ w.heap.size + 1 + 1 < wc.heap.size) := Lib.hid ⟨FX.out.lt.1, FX.out.lt.2, EX.out.lt⟩
    have CF : Hid (∀ V, Below wc.heap.size wc V → Calls Tryz.prog 14 #[forV a len cap m, .int .i64 n, deskV da dl dc wa wl wc_ nx bz] V fun e w' => e = .returned (.int .i64 fz) ∧ Below V.heap.size V w') := Lib.hid (fun V hb => by
      have h := fateFn_any a len cap m K n da dl dc wa wl wc_ nx bz L M V (FX.out.keep hb).f.row HM.out HN.out SM.out (FX.out.keep hb).d.d (FX.out.keep hb).d.t
      rw [HFZ.out] at h
      exact h)
    have CH : Hid (∀ V, Below wc.heap.size wc V → Calls Tryz.prog 15 #[forV a len cap m, .agg #[.string xn, .string xl, .int .i64 cl]] V (OrdPost V H)) := Lib.hid (fun V hb => by
      have h := heirs_any a len cap m K xn xl cl V (FX.out.keep hb).f.row HM.out SM.out
      rw [HHH.out] at h
      exact h)
    have CT : Hid (∀ V, Below wc.heap.size wc V → Calls Tryz.prog 16 #[forV a len cap m, .int .i64 n, deskV da dl dc wa wl wc_ nx bz] V (DuePost V T)) := Lib.hid (fun V hb => by
      have h := tries_any a len cap m n K da dl dc wa wl wc_ nx bz L M V (FX.out.keep hb).f.row HM.out HN.out SM.out (FX.out.keep hb).d.d (FX.out.keep hb).d.t
      rw [HTT.out] at h
      exact h)
    (have z0 := FX.out.f.c0; have z1 := FX.out.f.c1; have d0 := FX.out.d.c0; have d1 := FX.out.d.c1; have d2 := FX.out.d.c2; have d3 := FX.out.d.c3; have x0 := EX.out.c0; have x1 := EX.out.c1; have x2 := EX.out.c2)
    have SV : wc.cell? ⟨w.heap.size, 0, none⟩ = some (.slice a len cap) ∧ wc.cell? ⟨w.heap.size, 1, none⟩ = some (.int .i64 m) ∧ wc.cell? ⟨w.heap.size + 1, 0, none⟩ = some (.slice da dl dc) ∧ wc.cell? ⟨w.heap.size + 1, 1, none⟩ = some (.slice wa wl wc_) ∧ wc.cell? ⟨w.heap.size + 1, 2, none⟩ = some (.int .i64 nx) ∧ wc.cell? ⟨w.heap.size + 1, 3, none⟩ = some (.bool bz) ∧ wc.cell? ⟨w.heap.size + 1 + 1, 0, none⟩ = some (.string xn) ∧ wc.cell? ⟨w.heap.size + 1 + 1, 1, none⟩ = some (.string xl) ∧ wc.cell? ⟨w.heap.size + 1 + 1, 2, none⟩ = some (.int .i64 cl) ∧ Below wc.heap.size wc wc := ⟨z0, z1, d0, d1, d2, d3, x0, x1, x2, Below.refl _ _⟩
    (clear z0 z1 d0 d1 d2 d3 x0 x1 x2)
    go_upto_region 9 with fail
    go_region_held3 (fun w' => w'.cell? ⟨w.heap.size, 0, none⟩ = some (.slice a len cap) ∧ w'.cell? ⟨w.heap.size, 1, none⟩ = some (.int .i64 m) ∧ w'.cell? ⟨w.heap.size + 1, 0, none⟩ = some (.slice da dl dc) ∧ w'.cell? ⟨w.heap.size + 1, 1, none⟩ = some (.slice wa wl wc_) ∧ w'.cell? ⟨w.heap.size + 1, 2, none⟩ = some (.int .i64 nx) ∧ w'.cell? ⟨w.heap.size + 1, 3, none⟩ = some (.bool bz) ∧ w'.cell? ⟨w.heap.size + 1 + 1, 0, none⟩ = some (.string xn) ∧ w'.cell? ⟨w.heap.size + 1 + 1, 1, none⟩ = some (.string xl) ∧ w'.cell? ⟨w.heap.size + 1 + 1, 2, none⟩ = some (.int .i64 cl) ∧ Below wc.heap.size wc w')
      (first | assumption | exact hr_keep LT.out (by assumption) (by assumption) | exact hr_keep LT.out SV (Below.refl _ _).drew)
      (first
        | (go_at_call 14; (with_reducible refine (CF.out _ (‹_ ∧ _ ∧ _ ∧ _ ∧ _ ∧ _ ∧ _ ∧ _ ∧ _ ∧ Below _ _ _›).2.2.2.2.2.2.2.2.2).mono ?_); rintro e w6 ⟨rfl, hb⟩)
        | (go_at_call 15; (with_reducible refine (CH.out _ (‹_ ∧ _ ∧ _ ∧ _ ∧ _ ∧ _ ∧ _ ∧ _ ∧ _ ∧ Below _ _ _›).2.2.2.2.2.2.2.2.2).mono ?_); rintro e w7 ⟨ah, lh, ch, rfl, hir, hb⟩; have HR := Lib.hid hir; clear hir)
        | (go_at_call 16; (with_reducible refine (CT.out _ (‹_ ∧ _ ∧ _ ∧ _ ∧ _ ∧ _ ∧ _ ∧ _ ∧ _ ∧ Below _ _ _›).2.2.2.2.2.2.2.2.2).mono ?_); rintro e w8 ⟨at_, lt, ct, rfl, hdu, hb⟩; have TR := Lib.hid hdu; have HR2 := Lib.hid (HR.out.below hb); clear hdu))
    have HB9 := Lib.hid ((‹_ ∧ _ ∧ _ ∧ _ ∧ _ ∧ _ ∧ _ ∧ _ ∧ _ ∧ Below _ _ _›).2.2.2.2.2.2.2.2.2 : Below wc.heap.size wc w8)
    rename_i hh
    clear hh
    have FX := Lib.hid (FX.out.keep HB9.out)
    have EX := Lib.hid (EX.out.keep HB9.out)
    clear SV CF CH CT LT
    go_upto_region 10 with fail
    obtain ⟨V3, rfl⟩ : ∃ V3, V3 = w8 := ⟨_, rfl⟩
    have HLH := Lib.hid HR2.out.hlen
    have HLT : Hid (T.length = lt) := Lib.hid TR.out.row.hlen
    have hlh64 := HR2.out.len64
    (have z0 := FX.out.f.c0; have z1 := FX.out.f.c1; have d0 := FX.out.d.c0; have d1 := FX.out.d.c1; have d2 := FX.out.d.c2; have d3 := FX.out.d.c3; have x0 := EX.out.c0; have x1 := EX.out.c1; have x2 := EX.out.c2)
    have NIL : Hid (th = false ∨ op = false → fz = -1 ∧ lt = 0) := Lib.hid (fun e => by
      have e2 : thereF m (coreL K) n = false ∨ rightK ⟨L, M, nx, bz⟩ = false := by rw [HTH.out, HOP.out]; exact e
      refine ⟨by rw [← HFZ.out]; exact fate_out e2, ?_⟩
      rw [← HLT.out, ← HTT.out, tries_out e2]
      rfl)
    cases rt with
    | false =>
      obtain rfl : th = false := by rw [HTD.out]; rfl
      obtain ⟨rfl, rfl⟩ := NIL.out (.inl rfl)
      obtain rfl : lh = 0 := by rw [← HLH.out, ← HHH.out, heirs_wrong HRT.out]; rfl
      go_wp2
      go_ret
      exact ⟨rfl, FX.out.f.below⟩
    | true =>
      have CRH : Hid (∀ V, NodeRow V a len cap K → Calls Tryz.prog 18 #[forV a len cap m, .agg #[.string xn, .string xl, .int .i64 cl]] V (OrdPost V H)) := Lib.hid (fun V h1 => by
        have h := refheirs10_any a len cap m K xn xl cl V HRT.out HLN.out h1
        rw [HHH.out] at h
        exact h)
      have CI : Hid (∀ V b9 l9 c9, IntRow V ah lh ch H → IntRow V b9 l9 c9 H → Calls Tryz.prog 17 #[.slice ah lh ch, .slice b9 l9 c9] V fun e w' => e = .returned (.bool true) ∧ Below V.heap.size V w') := Lib.hid (fun V b9 l9 c9 h1 h2 => by
        refine (refints_any ah b9 lh ch l9 c9 _ _ V h1 h2).mono fun e w' ⟨he, n, hn⟩ => ⟨?_, by rw [hn]; exact below_drewN (Below.refl _ _) n⟩
        rw [he, decide_eq_true rfl])
      cases th with
      | false =>
        obtain ⟨rfl, rfl⟩ := NIL.out (.inl rfl)
        go_wp2_with (first
          | (go_at_call 18; (with_reducible refine (CRH.out _ FX.out.f.row).mono ?_); rintro e w5 ⟨b9, l9, c9, rfl, hir, hb⟩; have R9 := Lib.hid hir; have HR2 := Lib.hid (HR2.out.below hb); clear hir; ((clear z0 z1 d0 d1 d2 d3 x0 x1 x2); have FX := Lib.hid (FX.out.keep hb); have EX := Lib.hid (EX.out.keep hb); (have z0 := FX.out.f.c0; have z1 := FX.out.f.c1; have d0 := FX.out.d.c0; have d1 := FX.out.d.c1; have d2 := FX.out.d.c2; have d3 := FX.out.d.c3; have x0 := EX.out.c0; have x1 := EX.out.c1; have x2 := EX.out.c2); clear hb))
          | (go_at_call 17; (with_reducible refine (CI.out _ _ _ _ HR2.out R9.out).mono ?_); rintro e w5 ⟨rfl, hb⟩; ((clear z0 z1 d0 d1 d2 d3 x0 x1 x2); have FX := Lib.hid (FX.out.keep hb); have EX := Lib.hid (EX.out.keep hb); (have z0 := FX.out.f.c0; have z1 := FX.out.f.c1; have d0 := FX.out.d.c0; have d1 := FX.out.d.c1; have d2 := FX.out.d.c2; have d3 := FX.out.d.c3; have x0 := EX.out.c0; have x1 := EX.out.c1; have x2 := EX.out.c2); clear hb)))
        go_ret
        exact ⟨rfl, FX.out.f.below⟩
      | true =>
        cases op with
        | false =>
          obtain ⟨rfl, rfl⟩ := NIL.out (.inr rfl)
          go_wp2_with (first
            | (go_at_call 18; (with_reducible refine (CRH.out _ FX.out.f.row).mono ?_); rintro e w5 ⟨b9, l9, c9, rfl, hir, hb⟩; have R9 := Lib.hid hir; have HR2 := Lib.hid (HR2.out.below hb); clear hir; ((clear z0 z1 d0 d1 d2 d3 x0 x1 x2); have FX := Lib.hid (FX.out.keep hb); have EX := Lib.hid (EX.out.keep hb); (have z0 := FX.out.f.c0; have z1 := FX.out.f.c1; have d0 := FX.out.d.c0; have d1 := FX.out.d.c1; have d2 := FX.out.d.c2; have d3 := FX.out.d.c3; have x0 := EX.out.c0; have x1 := EX.out.c1; have x2 := EX.out.c2); clear hb))
            | (go_at_call 17; (with_reducible refine (CI.out _ _ _ _ HR2.out R9.out).mono ?_); rintro e w5 ⟨rfl, hb⟩; ((clear z0 z1 d0 d1 d2 d3 x0 x1 x2); have FX := Lib.hid (FX.out.keep hb); have EX := Lib.hid (EX.out.keep hb); (have z0 := FX.out.f.c0; have z1 := FX.out.f.c1; have d0 := FX.out.d.c0; have d1 := FX.out.d.c1; have d2 := FX.out.d.c2; have d3 := FX.out.d.c3; have x0 := EX.out.c0; have x1 := EX.out.c1; have x2 := EX.out.c2); clear hb)))
          go_ret
          exact ⟨rfl, FX.out.f.below⟩
        | true =>
          obtain ⟨t, rfl, ht⟩ : ∃ t : Nat, n = (t : Int) ∧ t < len := by
            have h9 := HTD.out
            simp only [Bool.true_and] at h9
            have h8 := h9.symm
            rw [Bool.and_eq_true, decide_eq_true_eq, decide_eq_true_eq] at h8
            exact ⟨n.toNat, by omega, by omega⟩
          have HTL := Lib.hid ht
          obtain ⟨cc, hcc⟩ : ∃ c, (coreL K)[t]? = some c := ⟨_, List.getElem?_eq_getElem (by rw [coreL_len, HL.out]; exact ht)⟩
          have HCC := Lib.hid hcc
          have CRF : Hid (∀ V, NodeRow V a len cap K → DefRow V da dl dc L → WaitRow V wa wl wc_ M → Calls Tryz.prog 19 #[forV a len cap m, .int .i64 t, deskV da dl dc wa wl wc_ nx bz] V fun e w' => e = .returned (.int .i64 fz) ∧ Below V.heap.size V w') := Lib.hid (fun V h1 h2 h3 => by
            have h := reffate10_any a len cap m K t da dl dc wa wl wc_ nx bz L M cc V h1 HTL.out h2 h3 HOP.out HCC.out
            rw [← fate_zat HRT.out HCC.out, HFZ.out] at h
            exact h)
          have CRT : Hid (∀ V, NodeRow V a len cap K → DefRow V da dl dc L → WaitRow V wa wl wc_ M → Calls Tryz.prog 21 #[forV a len cap m, .int .i64 t, deskV da dl dc wa wl wc_ nx bz] V (DuePost V T)) := Lib.hid (fun V h1 h2 h3 => by
            have h := reftries10_any a len cap m K t da dl dc wa wl wc_ nx bz L M V h1 HTL.out HLN.out HRT.out h2 h3 HOP.out
            rw [HTT.out] at h
            exact h)
          have CD : Hid (∀ V b9 l9 c9, DueRow V at_ lt ct T → DueRow V b9 l9 c9 T → Calls Tryz.prog 20 #[.slice at_ lt ct, .slice b9 l9 c9] V fun e w' => e = .returned (.bool true) ∧ Below V.heap.size V w') := Lib.hid (fun V b9 l9 c9 h1 h2 => refdues_same at_ lt ct b9 l9 c9 T V h1 h2 (fun u hu => by rw [← HTT.out] at hu; exact tries_up u hu))
          clear hcc
          go_wp2_with (first
            | (go_at_call 18; (with_reducible refine (CRH.out _ FX.out.f.row).mono ?_); rintro e w5 ⟨b9, l9, c9, rfl, hir, hb⟩; have R9 := Lib.hid hir; have HR2 := Lib.hid (HR2.out.below hb); have TR := Lib.hid (TR.out.below hb); clear hir; ((clear z0 z1 d0 d1 d2 d3 x0 x1 x2); have FX := Lib.hid (FX.out.keep hb); have EX := Lib.hid (EX.out.keep hb); (have z0 := FX.out.f.c0; have z1 := FX.out.f.c1; have d0 := FX.out.d.c0; have d1 := FX.out.d.c1; have d2 := FX.out.d.c2; have d3 := FX.out.d.c3; have x0 := EX.out.c0; have x1 := EX.out.c1; have x2 := EX.out.c2); clear hb))
            | (go_at_call 17; (with_reducible refine (CI.out _ _ _ _ HR2.out R9.out).mono ?_); rintro e w5 ⟨rfl, hb⟩; have TR := Lib.hid (TR.out.below hb); ((clear z0 z1 d0 d1 d2 d3 x0 x1 x2); have FX := Lib.hid (FX.out.keep hb); have EX := Lib.hid (EX.out.keep hb); (have z0 := FX.out.f.c0; have z1 := FX.out.f.c1; have d0 := FX.out.d.c0; have d1 := FX.out.d.c1; have d2 := FX.out.d.c2; have d3 := FX.out.d.c3; have x0 := EX.out.c0; have x1 := EX.out.c1; have x2 := EX.out.c2); clear hb))
            | (go_at_call 19; (with_reducible refine (CRF.out _ FX.out.f.row FX.out.d.d FX.out.d.t).mono ?_); rintro e w5 ⟨rfl, hb⟩; have TR := Lib.hid (TR.out.below hb); ((clear z0 z1 d0 d1 d2 d3 x0 x1 x2); have FX := Lib.hid (FX.out.keep hb); have EX := Lib.hid (EX.out.keep hb); (have z0 := FX.out.f.c0; have z1 := FX.out.f.c1; have d0 := FX.out.d.c0; have d1 := FX.out.d.c1; have d2 := FX.out.d.c2; have d3 := FX.out.d.c3; have x0 := EX.out.c0; have x1 := EX.out.c1; have x2 := EX.out.c2); clear hb))
            | (go_at_call 21; (with_reducible refine (CRT.out _ FX.out.f.row FX.out.d.d FX.out.d.t).mono ?_); rintro e w5 ⟨bt, lt9, ct9, rfl, hdu, hb⟩; have RT9 := Lib.hid hdu; have TR := Lib.hid (TR.out.below hb); clear hdu; ((clear z0 z1 d0 d1 d2 d3 x0 x1 x2); have FX := Lib.hid (FX.out.keep hb); have EX := Lib.hid (EX.out.keep hb); (have z0 := FX.out.f.c0; have z1 := FX.out.f.c1; have d0 := FX.out.d.c0; have d1 := FX.out.d.c1; have d2 := FX.out.d.c2; have d3 := FX.out.d.c3; have x0 := EX.out.c0; have x1 := EX.out.c1; have x2 := EX.out.c2); clear hb))
            | (go_at_call 20; (with_reducible refine (CD.out _ _ _ _ TR.out RT9.out).mono ?_); rintro e w5 ⟨rfl, hb⟩; ((clear z0 z1 d0 d1 d2 d3 x0 x1 x2); have FX := Lib.hid (FX.out.keep hb); have EX := Lib.hid (EX.out.keep hb); (have z0 := FX.out.f.c0; have z1 := FX.out.f.c1; have d0 := FX.out.d.c0; have d1 := FX.out.d.c1; have d2 := FX.out.d.c2; have d3 := FX.out.d.c3; have x0 := EX.out.c0; have x1 := EX.out.c1; have x2 := EX.out.c2); clear hb)))
          go_ret
          exact ⟨rfl, FX.out.f.below⟩
end Go.Proofs.YtkomeijlljcdgaaGreat
