/- The walk of instarlaw09's DeskAdds, over what is asked of package desk. -/
import Derived.Test.YtapfhgimeohmgaaDeskAwake9
import Derived.Test.YtapfhgimeohmgaaRef9Short
import Derived.Test.YtapfhgimeohmgaaRef9Same
import Derived.Test.YtapfhgimeohmgaaDeskEq
import Derived.Test.YtapfhgimeohmgaaExt
import Derived.Deep.QuietTactic
import Derived.BigQuiet
import Derived.Deep.CutBlock
namespace Go.Proofs.Ytapfhgimeohmgaa
open Go.RowKit
/-- Three bytes, made a text. -/
theorem three_back (b0 b1 b2 : UInt8) (z0 z1 z2 : Int) (h0 : z0 = (b0.toNat : Int)) (h1 : z1 = (b1.toNat : Int)) (h2 : z2 = (b2.toNat : Int)) (W : World) : (convert 49 9 (.slice (some ⟨W.heap.size, 0, none⟩) 3 3)).run Try.prog (W.alloc (.cells #[.int .u8 z0, .int .u8 z1, .int .u8 z2] 5)) = .ok (.string (ofL [b0, b1, b2])) (W.alloc (.cells #[.int .u8 z0, .int .u8 z1, .int .u8 z2] 5)) := by
  have := run_convert_bytes_back (P := Try.prog) (W.alloc (.cells #[.int .u8 z0, .int .u8 z1, .int .u8 z2] 5)) 49 9 5 ⟨W.heap.size, 0, none⟩ 3 [b0, b1, b2] Try.underlying49 Try.underlying5 Try.underlying9 (fun j hj => by
    rw [Go.WideShapes.add_plain, Nat.zero_add, cell_of_row (W.alloc (.cells #[.int .u8 z0, .int .u8 z1, .int .u8 z2] 5)) W.heap.size j _ 5 (0, 0) (heap_alloc_new W _)]
    have hj3 : j = 0 ∨ j = 1 ∨ j = 2 := by simp at hj; omega
    rcases hj3 with rfl | rfl | rfl
    · rw [h0]; rfl
    · rw [h1]; rfl
    · rw [h2]; rfl)
  exact this
theorem u8_in9 {n : Int} (h1 : 0 ≤ n) (h2 : n ≤ 255) : IntKind.u8.wrap n = n := by rw [IntKind.wrap_u8]; omega
def qL (k : Nat) : List UInt8 := [113, 45, 97 + UInt8.ofNat k]
theorem qL_custom {k : Nat} (hk : k < 26) : customL (qL k) = true := by
  have : ∀ k : Fin 26, customL (qL k) = true := by decide
  exact this ⟨k, hk⟩
theorem qL_last {k : Nat} (hk : k < 26) : 97 + (k : Int) = ((97 + UInt8.ofNat k : UInt8).toNat : Int) := by
  have : ∀ k : Fin 26, 97 + (k.val : Int) = ((97 + UInt8.ofNat k.val : UInt8).toNat : Int) := by decide
  exact this ⟨k, hk⟩
theorem rest_at {M : List WaitD} {k : Nat} {x : WaitD} {s : List UInt8} (h : M[k]? = some x) (hn : (x.name.toList == s) = false) : (restT M s)[(restT (M.take k) s).length]? = some x := by
  unfold restT
  exact filter_at h (by rw [hn]; rfl)
theorem rest_more {M : List WaitD} {k : Nat} {x : WaitD} {s : List UInt8} (h : M[k]? = some x) : (restT (M.take (k + 1)) s).length = (restT (M.take k) s).length + if (x.name.toList == s) = true then 0 else 1 := by
  obtain ⟨n, c⟩ := x
  rw [rest_step h, List.length_append]
  dsimp only
  split <;> rfl
set_option maxHeartbeats 1000000 in
theorem told_has {M : List WaitD} {s : List UInt8} {k : Nat} {nm : ByteArray} {tk : Int} (HP : M.Pairwise (fun x y => x.ticket < y.ticket)) (HX : M[k]? = some ⟨nm, tk⟩) (e1 : (nm.toList == s) = true) (u1 : Option Addr) (v1 k1 : Nat) (V : World) (h : IntRow V u1 v1 k1 (toldZ M s)) : Calls Try.prog 26 #[.slice u1 v1 k1, .int .i64 tk] V fun e w' => e = .returned (.int .i64 1) ∧ V = w' := by
  have h9 := refhas_any u1 v1 k1 (toldZ M s) tk V h
  have h8 := told_once HP (List.mem_of_getElem? HX) (beq_iff_eq.1 e1)
  dsimp only at h8
  have h7 : ((hasZ (toldZ M s) tk : Nat) : Int) = 1 := by rw [h8]; rfl
  rw [h7] at h9
  exact h9
set_option maxHeartbeats 1000000 in
theorem rest_gone {M : List WaitD} {s : List UInt8} {k n : Nat} {nm : ByteArray} {tk : Int} (HX : M[k]? = some ⟨nm, tk⟩) (e1 : (nm.toList == s) = true) (HN : n = (restT (M.take k) s).length) : n = (restT (M.take (k + 1)) s).length := by
  rw [rest_more HX, if_pos e1, HN]; rfl
set_option maxHeartbeats 1000000 in
theorem rest_kept {M : List WaitD} {s : List UInt8} {k n : Nat} {nm : ByteArray} {tk : Int} (HX : M[k]? = some ⟨nm, tk⟩) (e1 : (nm.toList == s) = false) (HN : n = (restT (M.take k) s).length) : n + 1 = (restT (M.take (k + 1)) s).length := by
  rw [rest_more HX, if_neg (by dsimp only; rw [e1]; decide), HN]
set_option maxHeartbeats 16000000 in
set_option maxRecDepth 100000 in
theorem deskAdds_walk (F : DeskFns) (da : Option Addr) (dl dc : Nat) (wa : Option Addr) (wl wq : Nat) (nx : Int) (bz : Bool) (L : List DefD) (M : List WaitD) (m : Int) (s base l i : ByteArray) (c : Int) (w : World) (h : DeskAt w da dl dc wa wl wq ⟨L, M, nx, bz⟩)
    (_ : In64 m) (hs : s.size ≤ maxLen) (hbs : base.size ≤ maxLen) (hl : l.size ≤ maxLen) (hi : i.size ≤ maxLen) (hc64 : In64 c) :
    Calls Try.prog 5 #[deskV da dl dc wa wl wq nx bz, .int .i64 m, .string s, .string base, .string l, .string i, .int .i64 c] w fun e w' => e = .returned (.bool true) ∧ Below w.heap.size w w' := by
  have DX := Lib.hid (DBox.start (nx := nx) (bz := bz) h.d h.t)
  have z0 := DX.out.c0
  have z1 := DX.out.c1
  have z2 := DX.out.c2
  have z3 := DX.out.c3
  have HDL := Lib.hid h.d.hlen
  have HTL := Lib.hid h.t.hlen
  have AW : Hid (∀ V, Calls Try.prog 8 #[] V fun e w' => e = .returned (.bool true) ∧ Below V.heap.size V w') := Lib.hid (fun V => awake9_any F V)
  obtain ⟨q0, hq0⟩ : ∃ q, shortK L M = q := ⟨_, rfl⟩
  have SH : Hid (∀ V, DefRow V da dl dc L → WaitRow V wa wl wq M → Calls Try.prog 9 #[deskV da dl dc wa wl wq nx bz] V fun e w' => e = .returned (.bool q0) ∧ Below V.heap.size V w') := Lib.hid (fun V h1 h2 => by
    have h := refshort9_any da dl dc wa wl wq nx bz L M V h1 h2
    rw [hq0] at h
    exact h)
  have n1 : s.size ≤ 9223372036854775807 := by unfold maxLen at hs; omega
  have n3 : base.size ≤ 9223372036854775807 := by unfold maxLen at hbs; omega
  have n5 : l.size ≤ 9223372036854775807 := by unfold maxLen at hl; omega
  have n6 : i.size ≤ 9223372036854775807 := by unfold maxLen at hi; omega
  have SZ := Lib.hid (⟨hs, hbs, hl, hi⟩ : s.size ≤ maxLen ∧ base.size ≤ maxLen ∧ l.size ≤ maxLen ∧ i.size ≤ maxLen)
  have IN := Lib.hid hc64
  have HF := Lib.hid F
  clear h hs hbs hl hi hc64 F
  cases q0 with
  | false => clear hq0; (go_enter Try.func5, Try.ntmps5; go_wp2_with (first
                                                                                                                                       | (go_at_call 8; (with_reducible refine (AW.out _).mono ?_); rintro e w5 ⟨rfl, hb⟩; (clear z0 z1 z2 z3; have DX := Lib.hid (DX.out.keep hb); have z0 := DX.out.c0; have z1 := DX.out.c1; have z2 := DX.out.c2; have z3 := DX.out.c3; clear hb))
                                                                                                                                       | (go_at_call 9; (with_reducible refine (SH.out _ DX.out.d DX.out.t).mono ?_); rintro e w5 ⟨rfl, hb⟩; (clear z0 z1 z2 z3; have DX := Lib.hid (DX.out.keep hb); have z0 := DX.out.c0; have z1 := DX.out.c1; have z2 := DX.out.c2; have z3 := DX.out.c3; clear hb))); go_ret; exact ⟨rfl, DX.out.below⟩)
  | true =>
  have HSH := Lib.hid (shortK_iff.1 hq0)
  clear hq0
  by_cases d1 : (300 : Int) < (s.size : Int)
  · (go_enter Try.func5, Try.ntmps5; go_wp2_with (first
                                                                                                                   | (go_at_call 8; (with_reducible refine (AW.out _).mono ?_); rintro e w5 ⟨rfl, hb⟩; (clear z0 z1 z2 z3; have DX := Lib.hid (DX.out.keep hb); have z0 := DX.out.c0; have z1 := DX.out.c1; have z2 := DX.out.c2; have z3 := DX.out.c3; clear hb))
                                                                                                                   | (go_at_call 9; (with_reducible refine (SH.out _ DX.out.d DX.out.t).mono ?_); rintro e w5 ⟨rfl, hb⟩; (clear z0 z1 z2 z3; have DX := Lib.hid (DX.out.keep hb); have z0 := DX.out.c0; have z1 := DX.out.c1; have z2 := DX.out.c2; have z3 := DX.out.c3; clear hb))); go_ret; exact ⟨rfl, DX.out.below⟩)
  by_cases d3 : (300 : Int) < (base.size : Int)
  · (go_enter Try.func5, Try.ntmps5; go_wp2_with (first
                                                                                                                   | (go_at_call 8; (with_reducible refine (AW.out _).mono ?_); rintro e w5 ⟨rfl, hb⟩; (clear z0 z1 z2 z3; have DX := Lib.hid (DX.out.keep hb); have z0 := DX.out.c0; have z1 := DX.out.c1; have z2 := DX.out.c2; have z3 := DX.out.c3; clear hb))
                                                                                                                   | (go_at_call 9; (with_reducible refine (SH.out _ DX.out.d DX.out.t).mono ?_); rintro e w5 ⟨rfl, hb⟩; (clear z0 z1 z2 z3; have DX := Lib.hid (DX.out.keep hb); have z0 := DX.out.c0; have z1 := DX.out.c1; have z2 := DX.out.c2; have z3 := DX.out.c3; clear hb))); go_ret; exact ⟨rfl, DX.out.below⟩)
  by_cases d5 : (300 : Int) < (l.size : Int)
  · (go_enter Try.func5, Try.ntmps5; go_wp2_with (first
                                                                                                                   | (go_at_call 8; (with_reducible refine (AW.out _).mono ?_); rintro e w5 ⟨rfl, hb⟩; (clear z0 z1 z2 z3; have DX := Lib.hid (DX.out.keep hb); have z0 := DX.out.c0; have z1 := DX.out.c1; have z2 := DX.out.c2; have z3 := DX.out.c3; clear hb))
                                                                                                                   | (go_at_call 9; (with_reducible refine (SH.out _ DX.out.d DX.out.t).mono ?_); rintro e w5 ⟨rfl, hb⟩; (clear z0 z1 z2 z3; have DX := Lib.hid (DX.out.keep hb); have z0 := DX.out.c0; have z1 := DX.out.c1; have z2 := DX.out.c2; have z3 := DX.out.c3; clear hb))); go_ret; exact ⟨rfl, DX.out.below⟩)
  by_cases d6 : (300 : Int) < (i.size : Int)
  · (go_enter Try.func5, Try.ntmps5; go_wp2_with (first
                                                                                                                   | (go_at_call 8; (with_reducible refine (AW.out _).mono ?_); rintro e w5 ⟨rfl, hb⟩; (clear z0 z1 z2 z3; have DX := Lib.hid (DX.out.keep hb); have z0 := DX.out.c0; have z1 := DX.out.c1; have z2 := DX.out.c2; have z3 := DX.out.c3; clear hb))
                                                                                                                   | (go_at_call 9; (with_reducible refine (SH.out _ DX.out.d DX.out.t).mono ?_); rintro e w5 ⟨rfl, hb⟩; (clear z0 z1 z2 z3; have DX := Lib.hid (DX.out.keep hb); have z0 := DX.out.c0; have z1 := DX.out.c1; have z2 := DX.out.c2; have z3 := DX.out.c3; clear hb))); go_ret; exact ⟨rfl, DX.out.below⟩)
  obtain ⟨z, hz⟩ : ∃ z, mayE ⟨L, M, nx, bz⟩ m s.toList base.toList c = z := ⟨_, rfl⟩
  have MY : Hid (∀ V, DefRow V da dl dc L → WaitRow V wa wl wq M → Calls Try.prog 20 #[deskV da dl dc wa wl wq nx bz, .int .i64 m, .string s, .string base, .int .i64 c] V fun e w' => e = .returned (.int .i64 z) ∧ Below V.heap.size V w') := Lib.hid (fun V h1 h2 => by
    have h := HF.out.may da dl dc wa wl wq nx bz L M m s base c V h1 h2 SZ.out.1 SZ.out.2.1
    rw [hz] at h
    exact h)
  by_cases hz0 : z = 0
  rotate_left
  · have AD : Hid (∀ V, DefRow V da dl dc L → WaitRow V wa wl wq M → Calls Try.prog 18 #[deskV da dl dc wa wl wq nx bz, .int .i64 m, .string s, .string base, .int .i64 c] V (AddPost V (⟨L, M, nx, bz⟩, -1, [], z))) := Lib.hid (fun V h1 h2 => by
      have h := HF.out.add da dl dc wa wl wq nx bz L M m s base c V h1 h2 SZ.out.1 SZ.out.2.1 IN.out (by have := HSH.out.1; omega) (by have := HSH.out.2.1; omega)
      rw [addR_not (by rw [hz]; exact hz0), hz] at h
      exact h)
    have z0' : (z != 0) = true := bne_iff_ne.2 hz0
    have z0'' : (z == 0) = false := beq_eq_false_iff_ne.2 hz0
    have SM : Hid (∀ V da' dl' dc' wa' wl' wc', DefRow V da dl dc L → WaitRow V wa wl wq M → DefRow V da' dl' dc' L → WaitRow V wa' wl' wc' M → Calls Try.prog 22 #[deskV da dl dc wa wl wq nx bz, deskV da' dl' dc' wa' wl' wc' nx bz] V fun e w' => e = .returned (.bool true) ∧ Below V.heap.size V w') := Lib.hid (fun V da' dl' dc' wa' wl' wc' h1 h2 h3 h4 => by
      have h := refsame9_any da dl dc wa wl wq nx bz L M da' dl' dc' wa' wl' wc' nx bz L M V h1 h2 h3 h4
      rw [sameK_yes ⟨rfl, rfl, rfl, rfl⟩] at h
      exact h)
    clear hz hz0
    go_enter Try.func5, Try.ntmps5
    go_upto_region 5 with (first
                              | (go_at_call 8; (with_reducible refine (AW.out _).mono ?_); rintro e w5 ⟨rfl, hb⟩; (clear z0 z1 z2 z3; have DX := Lib.hid (DX.out.keep hb); have z0 := DX.out.c0; have z1 := DX.out.c1; have z2 := DX.out.c2; have z3 := DX.out.c3; clear hb))
                              | (go_at_call 9; (with_reducible refine (SH.out _ DX.out.d DX.out.t).mono ?_); rintro e w5 ⟨rfl, hb⟩; (clear z0 z1 z2 z3; have DX := Lib.hid (DX.out.keep hb); have z0 := DX.out.c0; have z1 := DX.out.c1; have z2 := DX.out.c2; have z3 := DX.out.c3; clear hb)))
    go_upto_region 6 with (go_at_call 18; (refine (AD.out _ DX.out.d DX.out.t).mono ?_); rintro e w1 ⟨a1, l1, c1, b1, m1, n1, u1, v1, k1, rfl, hd, ht, hir, hb, -, -, -⟩; have DX := Lib.hid (DX.out.keep hb); have KA := Lib.hid (KBox.new (D := ⟨L, M, nx, bz⟩) hd ht DX.out.below); have I1 : Hid (IntRow _ u1 v1 k1 []) := Lib.hid hir; clear hd ht hir hb z0 z1 z2 z3; dsimp only)
    obtain rfl : v1 = 0 := I1.out.hlen.symm
    obtain ⟨W1, hW1, DX⟩ : ∃ W1, w1.alloc (.cells #[.slice a1 l1 c1, .slice b1 m1 n1, .int .i64 nx, .bool bz] 25) = W1 ∧ Hid (DBox w W1 w.heap.size da dl dc wa wl wq nx bz L M) := ⟨_, rfl, Lib.hid (DX.out.keep (below_desk _ _))⟩
    obtain ⟨g1, hg1⟩ : ∃ g, w1.heap.size = g := ⟨_, rfl⟩
    have KA : Hid (KBox w W1 g1 a1 l1 c1 b1 m1 n1 ⟨L, M, nx, bz⟩) := Lib.hid (by rw [← hW1, ← hg1]; exact KA.out)
    rw [hW1, hg1]
    clear hW1 hg1
    have z0 := DX.out.c0
    have z1 := DX.out.c1
    have z2 := DX.out.c2
    have z3 := DX.out.c3
    go_wp2_with (first
      | (go_at_call 20; (with_reducible refine (MY.out _ DX.out.d DX.out.t).mono ?_); rintro e w5 ⟨rfl, hb⟩; have KA := Lib.hid (KA.out.keep hb); (clear z0 z1 z2 z3; have DX := Lib.hid (DX.out.keep hb); have z0 := DX.out.c0; have z1 := DX.out.c1; have z2 := DX.out.c2; have z3 := DX.out.c3; clear hb); have a0 := KA.out.bx.c0; have a1' := KA.out.bx.c1; have a2' := KA.out.bx.c2; have a3' := KA.out.bx.c3)
      | (go_at_call 22; (with_reducible refine (SM.out _ _ _ _ _ _ _ DX.out.d DX.out.t KA.out.d KA.out.t).mono ?_); rintro e w5 ⟨rfl, hb⟩; (clear z0 z1 z2 z3; have DX := Lib.hid (DX.out.keep hb); have z0 := DX.out.c0; have z1 := DX.out.c1; have z2 := DX.out.c2; have z3 := DX.out.c3; clear hb)))
    go_ret
    exact ⟨rfl, DX.out.below⟩
  · subst hz0
    have MO := Lib.hid (may_ok.1 hz)
    obtain rfl : bz = false := MO.out.idle
    have AD : Hid (∀ V, DefRow V da dl dc L → WaitRow V wa wl wq M → Calls Try.prog 18 #[deskV da dl dc wa wl wq nx false, .int .i64 m, .string s, .string base, .int .i64 c] V (AddPost V (⟨L ++ [newDef s base c], restT M s.toList, nx, false⟩, (dl : Int), toldZ M s.toList, 0))) := Lib.hid (fun V h1 h2 => by
      have h := HF.out.add da dl dc wa wl wq nx false L M m s base c V h1 h2 SZ.out.1 SZ.out.2.1 IN.out (by have := HSH.out.1; omega) (by have := HSH.out.2.1; omega)
      rw [addR_may MO.out] at h
      dsimp only at h
      rw [HDL.out] at h
      exact h)
    obtain ⟨r, hr⟩ : ∃ r, newDef s base c = ⟨s, r, c⟩ := ⟨_, rfl⟩
    have HND := Lib.hid hr
    have RG := Lib.hid MO.out.right
    have EK : Hid (addK ⟨L, M, nx, false⟩ s base c = ⟨L ++ [⟨s, r, c⟩], restT M s.toList, nx, false⟩) := Lib.hid (by unfold addK; rw [hr])
    rw [EK.out] at RG
    rw [hr] at AD
    have RID : Hid (∀ V, DefRow V da dl dc L → WaitRow V wa wl wq M → Calls Try.prog 14 #[deskV da dl dc wa wl wq nx false] V fun e w' => e = .returned (.bool true) ∧ Below V.heap.size V w') := Lib.hid (fun V h1 h2 => by
      have h := HF.out.right da dl dc wa wl wq nx false L M V h1 h2
      rw [rightK_iff.2 MO.out.r] at h
      exact h)
    have RIG : Hid (∀ V a l c' b m' n, DefRow V a l c' (L ++ [⟨s, r, c⟩]) → WaitRow V b m' n (restT M s.toList) → Calls Try.prog 14 #[deskV a l c' b m' n nx false] V fun e w' => e = .returned (.bool true) ∧ Below V.heap.size V w') := Lib.hid (fun V a l c' b m' n h1 h2 => by
      have h := HF.out.right a l c' b m' n nx false _ _ V h1 h2
      rw [rightK_iff.2 RG.out] at h
      exact h)
    have MYG : Hid (∀ V a l c' b m' n, DefRow V a l c' (L ++ [⟨s, r, c⟩]) → WaitRow V b m' n (restT M s.toList) → Calls Try.prog 20 #[deskV a l c' b m' n nx false, .int .i64 m, .string s, .string base, .int .i64 c] V fun e w' => e = .returned (.int .i64 10) ∧ Below V.heap.size V w') := Lib.hid (fun V a l c' b m' n h1 h2 => by
      have h := HF.out.may a l c' b m' n nx false _ _ m s base c V h1 h2 SZ.out.1 SZ.out.2.1
      rw [← EK.out, MO.out.again] at h
      exact h)
    have MYO : Hid (∀ V a l c' b m' n k, k < 26 → DefRow V a l c' (L ++ [⟨s, r, c⟩]) → WaitRow V b m' n (restT M s.toList) → Calls Try.prog 20 #[deskV a l c' b m' n nx false, .int .i64 m, .string (ofL (qL k)), .string base, .int .i64 c] V fun e w' => e = .returned (.int .i64 10) ∧ Below V.heap.size V w') := Lib.hid (fun V a l c' b m' n k hk h1 h2 => by
      have h := HF.out.may a l c' b m' n nx false _ _ m (ofL (qL k)) base c V h1 h2 (by rw [size_ofL]; unfold maxLen qL; simp) SZ.out.2.1
      rw [← EK.out, toList_ofL, MO.out.other (qL_custom hk)] at h
      exact h)
    have NMO : Hid (∀ V a l c' b m' n k, DefRow V a l c' (L ++ [⟨s, r, c⟩]) → WaitRow V b m' n (restT M s.toList) → Calls Try.prog 12 #[deskV a l c' b m' n nx false, .string (ofL (qL k))] V fun e w' => e = .returned (.int .i64 (namedZ (L ++ [⟨s, r, c⟩]) (qL k))) ∧ Below V.heap.size V w') := Lib.hid (fun V a l c' b m' n k h1 h2 => by
      have h := HF.out.named a l c' b m' n nx false _ _ (ofL (qL k)) V h1 h2 (by rw [size_ofL]; unfold maxLen qL; simp)
      rw [toList_ofL, show ifRight ⟨L ++ [⟨s, r, c⟩], restT M s.toList, nx, false⟩ (namedZ (L ++ [⟨s, r, c⟩]) (qL k)) = namedZ (L ++ [⟨s, r, c⟩]) (qL k) by unfold ifRight; rw [if_pos (rightK_iff.2 RG.out)]] at h
      exact h)
    obtain ⟨x, hx⟩ : ∃ x, findZ2 L l.toList i.toList = x := ⟨_, rfl⟩
    obtain ⟨y, hy⟩ : ∃ y, findZ2 (L ++ [⟨s, r, c⟩]) l.toList i.toList = y := ⟨_, rfl⟩
    obtain ⟨fb, hfb⟩ : ∃ f, fits ⟨s, r, c⟩ l.toList i.toList = f := ⟨_, rfl⟩
    have HXY : Hid ((fb = true → x = -1 ∧ y = (dl : Int)) ∧ (fb = false → y = x)) := Lib.hid ⟨fun e => by
      have h := MO.out.find_fits (l := l.toList) (i := i.toList) (by rw [hr, hfb]; exact e)
      rw [EK.out] at h
      dsimp only at h
      rw [hx, hy, HDL.out] at h
      exact h, fun e => by
      have h := MO.out.find_not (l := l.toList) (i := i.toList) (by rw [hr, hfb]; exact e)
      rw [EK.out] at h
      dsimp only at h
      rw [hx, hy] at h
      exact h⟩
    have FD : Hid (∀ V, DefRow V da dl dc L → WaitRow V wa wl wq M → Calls Try.prog 11 #[deskV da dl dc wa wl wq nx false, .string l, .string i] V fun e w' => e = .returned (.int .i64 x) ∧ Below V.heap.size V w') := Lib.hid (fun V h1 h2 => by
      have h := HF.out.find da dl dc wa wl wq nx false L M l i V h1 h2 SZ.out.2.2.1 SZ.out.2.2.2
      rw [show ifRight ⟨L, M, nx, false⟩ (findZ2 L l.toList i.toList) = x by unfold ifRight; rw [if_pos (rightK_iff.2 MO.out.r)]; exact hx] at h
      exact h)
    have FG : Hid (∀ V a l' c' b m' n, DefRow V a l' c' (L ++ [⟨s, r, c⟩]) → WaitRow V b m' n (restT M s.toList) → Calls Try.prog 11 #[deskV a l' c' b m' n nx false, .string l, .string i] V fun e w' => e = .returned (.int .i64 y) ∧ Below V.heap.size V w') := Lib.hid (fun V a l' c' b m' n h1 h2 => by
      have h := HF.out.find a l' c' b m' n nx false _ _ l i V h1 h2 SZ.out.2.2.1 SZ.out.2.2.2
      rw [show ifRight ⟨L ++ [⟨s, r, c⟩], restT M s.toList, nx, false⟩ (findZ2 (L ++ [⟨s, r, c⟩]) l.toList i.toList) = y by unfold ifRight; rw [if_pos (rightK_iff.2 RG.out)]; exact hy] at h
      exact h)
    obtain ⟨q1, hq1⟩ : ∃ e, (r.toList == l.toList) = e := ⟨_, rfl⟩
    obtain ⟨q2, hq2⟩ : ∃ e, (s.toList == l.toList) = e := ⟨_, rfl⟩
    obtain ⟨q3, hq3⟩ : ∃ e, (s.toList == i.toList) = e := ⟨_, rfl⟩
    have HFB : Hid (fb = (q1 && (q2 || q3))) := Lib.hid (by rw [← hfb]; unfold fits; dsimp only; rw [hq1, hq2, hq3])
    have HP := Lib.hid MO.out.r.asc.2
    have DL40 : dl ≤ 40 := by have := HSH.out.1; rw [HDL.out] at this; exact this
    have WL40 : wl ≤ 40 := by have := HSH.out.2.1; rw [HTL.out] at this; exact this
    clear hz hx hy hfb hr
    go_enter Try.func5, Try.ntmps5
    go_upto_region 5 with (first
                              | (go_at_call 8; (with_reducible refine (AW.out _).mono ?_); rintro e w5 ⟨rfl, hb⟩; (clear z0 z1 z2 z3; have DX := Lib.hid (DX.out.keep hb); have z0 := DX.out.c0; have z1 := DX.out.c1; have z2 := DX.out.c2; have z3 := DX.out.c3; clear hb))
                              | (go_at_call 9; (with_reducible refine (SH.out _ DX.out.d DX.out.t).mono ?_); rintro e w5 ⟨rfl, hb⟩; (clear z0 z1 z2 z3; have DX := Lib.hid (DX.out.keep hb); have z0 := DX.out.c0; have z1 := DX.out.c1; have z2 := DX.out.c2; have z3 := DX.out.c3; clear hb)))
    go_upto_region 6 with (go_at_call 18; (refine (AD.out _ DX.out.d DX.out.t).mono ?_); rintro e w1 ⟨a1, l1, c1, b1, m1, n1, u1, v1, k1, rfl, hd, ht, hir, hb, -, -, -⟩; have DX := Lib.hid (DX.out.keep hb); have KA := Lib.hid (KBox.new (D := ⟨L ++ [⟨s, r, c⟩], restT M s.toList, nx, false⟩) hd ht DX.out.below); have I1 : Hid (IntRow _ u1 v1 k1 (toldZ M s.toList)) := Lib.hid (hir.below (below_desk w1 (.cells #[.slice a1 l1 c1, .slice b1 m1 n1, .int .i64 nx, .bool false] 25))); clear hd ht hir hb z0 z1 z2 z3; dsimp only)
    obtain rfl : l1 = dl + 1 := by
      have h9 := KA.out.d.hlen
      rw [List.length_append, HDL.out] at h9
      exact h9.symm
    obtain ⟨W1, hW1, DX⟩ : ∃ W1, w1.alloc (.cells #[.slice a1 (dl + 1) c1, .slice b1 m1 n1, .int .i64 nx, .bool false] 25) = W1 ∧ Hid (DBox w W1 w.heap.size da dl dc wa wl wq nx false L M) := ⟨_, rfl, Lib.hid (DX.out.keep (below_desk _ _))⟩
    obtain ⟨g1, hg1⟩ : ∃ g, w1.heap.size = g := ⟨_, rfl⟩
    have KA : Hid (KBox w W1 g1 a1 (dl + 1) c1 b1 m1 n1 ⟨L ++ [⟨s, r, c⟩], restT M s.toList, nx, false⟩) := Lib.hid (by rw [← hW1, ← hg1]; exact KA.out)
    rw [hW1] at I1
    rw [hW1, hg1]
    clear hW1 hg1
    have z0 := DX.out.c0
    have z1 := DX.out.c1
    have z2 := DX.out.c2
    have z3 := DX.out.c3
    have a0 := KA.out.bx.c0
    have a1' := KA.out.bx.c1
    have a2' := KA.out.bx.c2
    have a3' := KA.out.bx.c3
    go_upto_region 12 with (first
      | (go_at_call 14; (with_reducible refine (RID.out _ DX.out.d DX.out.t).mono ?_); rintro e w5 ⟨rfl, hb⟩; (have KA := Lib.hid (KA.out.keep hb); have I1 := Lib.hid (I1.out.below hb); clear z0 z1 z2 z3 a0 a1' a2' a3'; have DX := Lib.hid (DX.out.keep hb); have z0 := DX.out.c0; have z1 := DX.out.c1; have z2 := DX.out.c2; have z3 := DX.out.c3; have a0 := KA.out.bx.c0; have a1' := KA.out.bx.c1; have a2' := KA.out.bx.c2; have a3' := KA.out.bx.c3; clear hb))
      | (go_at_call 14; (with_reducible refine (RIG.out _ _ _ _ _ _ _ KA.out.d KA.out.t).mono ?_); rintro e w5 ⟨rfl, hb⟩; (have KA := Lib.hid (KA.out.keep hb); have I1 := Lib.hid (I1.out.below hb); clear z0 z1 z2 z3 a0 a1' a2' a3'; have DX := Lib.hid (DX.out.keep hb); have z0 := DX.out.c0; have z1 := DX.out.c1; have z2 := DX.out.c2; have z3 := DX.out.c3; have a0 := KA.out.bx.c0; have a1' := KA.out.bx.c1; have a2' := KA.out.bx.c2; have a3' := KA.out.bx.c3; clear hb))
      | (go_at_call 20; (with_reducible refine (MYG.out _ _ _ _ _ _ _ KA.out.d KA.out.t).mono ?_); rintro e w5 ⟨rfl, hb⟩; (have KA := Lib.hid (KA.out.keep hb); have I1 := Lib.hid (I1.out.below hb); clear z0 z1 z2 z3 a0 a1' a2' a3'; have DX := Lib.hid (DX.out.keep hb); have z0 := DX.out.c0; have z1 := DX.out.c1; have z2 := DX.out.c2; have z3 := DX.out.c3; have a0 := KA.out.bx.c0; have a1' := KA.out.bx.c1; have a2' := KA.out.bx.c2; have a3' := KA.out.bx.c3; clear hb)))
    obtain ⟨wy, rfl⟩ : ∃ wy, wy = w5 := ⟨_, rfl⟩
    have DY := DX
    have KY := KA
    have IY := I1
    go_wp2
    go_loopw [19] (fun iv wr => ∃ k : Nat, k ≤ 26 ∧ iv = .int .i64 k ∧ Hid (Below wy.heap.size wy wr)) (fun iv _ => 26 - (intOf iv).toNat)
    case atStart => exact ⟨0, Nat.zero_le _, rfl, Lib.hid (Below.refl _ _)⟩
    case round =>
      obtain ⟨k, hk, rfl, HB⟩ := hrel
      clear z0 z1 z2 z3 a0 a1' a2' a3' DX KA I1
      have DX := Lib.hid (DY.out.keep HB.out)
      have KA := Lib.hid (KY.out.keep HB.out)
      have I1 := Lib.hid (IY.out.below HB.out)
      have z0 := DX.out.c0
      have z1 := DX.out.c1
      have z2 := DX.out.c2
      have z3 := DX.out.c3
      have a0 := KA.out.bx.c0
      have a1' := KA.out.bx.c1
      have a2' := KA.out.bx.c2
      have a3' := KA.out.bx.c3
      by_cases hlt : k < 26
      · have hk9 : IntKind.u8.wrap (k : Int) = (k : Int) := u8_in9 (by omega) (by omega)
        have hk10 : IntKind.u8.wrap (97 + (k : Int)) = 97 + (k : Int) := u8_in9 (by omega) (by omega)
        have hb3 := three_back 113 45 (97 + UInt8.ofNat k) 113 45 (97 + (k : Int)) rfl rfl (qL_last hlt) wr
        obtain ⟨o, ho⟩ : ∃ o, ofL [113, 45, 97 + UInt8.ofNat k] = o := ⟨_, rfl⟩
        rw [ho] at hb3
        have ho2 : ofL (qL k) = o := ho
        obtain ⟨z9, hz9⟩ : ∃ z9, namedZ (L ++ [⟨s, r, c⟩]) (qL k) = z9 := ⟨_, rfl⟩
        have NK : Hid (∀ V a l c' b m' n, DefRow V a l c' (L ++ [⟨s, r, c⟩]) → WaitRow V b m' n (restT M s.toList) → Calls Try.prog 12 #[deskV a l c' b m' n nx false, .string o] V fun e w' => e = .returned (.int .i64 z9) ∧ Below V.heap.size V w') := Lib.hid (fun V a l c' b m' n h1 h2 => by
          have h := NMO.out V a l c' b m' n k h1 h2
          rw [hz9, ho2] at h
          exact h)
        have MK : Hid (∀ V a l c' b m' n, DefRow V a l c' (L ++ [⟨s, r, c⟩]) → WaitRow V b m' n (restT M s.toList) → Calls Try.prog 20 #[deskV a l c' b m' n nx false, .int .i64 m, .string o, .string base, .int .i64 c] V fun e w' => e = .returned (.int .i64 10) ∧ Below V.heap.size V w') := Lib.hid (fun V a l c' b m' n h1 h2 => by
          have h := MYO.out V a l c' b m' n k hlt h1 h2
          rw [ho2] at h
          exact h)
        clear ho ho2 hz9
        go_upto_region 16 with fail
        obtain ⟨W2, hW2, DX, KA, I1⟩ : ∃ W2, wr.alloc (.cells #[.int .u8 113, .int .u8 45, .int .u8 (97 + (k : Int))] 5) = W2 ∧ Hid (DBox w W2 w.heap.size da dl dc wa wl wq nx false L M) ∧ Hid (KBox w W2 g1 a1 (dl + 1) c1 b1 m1 n1 ⟨L ++ [⟨s, r, c⟩], restT M s.toList, nx, false⟩) ∧ Hid (IntRow W2 u1 v1 k1 (toldZ M s.toList)) := ⟨_, rfl, Lib.hid (DX.out.keep (below_desk _ _)), Lib.hid (KA.out.keep (below_desk _ _)), Lib.hid (I1.out.below (below_desk _ _))⟩
        have HB2 : Hid (Below wy.heap.size wy W2) := Lib.hid (by rw [← hW2]; exact HB.out.alloc HB.out.size _)
        rw [hW2]
        clear hW2 hb3 hk9 hk10 z0 z1 z2 z3 a0 a1' a2' a3'
        have z0 := DX.out.c0
        have z1 := DX.out.c1
        have z2 := DX.out.c2
        have z3 := DX.out.c3
        have a0 := KA.out.bx.c0
        have a1' := KA.out.bx.c1
        have a2' := KA.out.bx.c2
        have a3' := KA.out.bx.c3
        cases e9 : z9 == -1 with
        | false =>
          go_wp2_with (go_at_call 12; (with_reducible refine (NK.out _ _ _ _ _ _ _ KA.out.d KA.out.t).mono ?_); rintro e w6 ⟨rfl, hb⟩; have HB2 := Lib.hid (HB2.out.trans (hb.mono HB2.out.size)); (have KA := Lib.hid (KA.out.keep hb); have I1 := Lib.hid (I1.out.below hb); clear z0 z1 z2 z3 a0 a1' a2' a3'; have DX := Lib.hid (DX.out.keep hb); have z0 := DX.out.c0; have z1 := DX.out.c1; have z2 := DX.out.c2; have z3 := DX.out.c3; have a0 := KA.out.bx.c0; have a1' := KA.out.bx.c1; have a2' := KA.out.bx.c2; have a3' := KA.out.bx.c3; clear hb))
          go_roundw
          case rel => exact ⟨k + 1, by omega, by go_num, HB2⟩
          case measure => simp [intOf]; omega
        | true =>
          go_wp2_with (first
            | (go_at_call 12; (with_reducible refine (NK.out _ _ _ _ _ _ _ KA.out.d KA.out.t).mono ?_); rintro e w6 ⟨rfl, hb⟩; have HB2 := Lib.hid (HB2.out.trans (hb.mono HB2.out.size)); (have KA := Lib.hid (KA.out.keep hb); have I1 := Lib.hid (I1.out.below hb); clear z0 z1 z2 z3 a0 a1' a2' a3'; have DX := Lib.hid (DX.out.keep hb); have z0 := DX.out.c0; have z1 := DX.out.c1; have z2 := DX.out.c2; have z3 := DX.out.c3; have a0 := KA.out.bx.c0; have a1' := KA.out.bx.c1; have a2' := KA.out.bx.c2; have a3' := KA.out.bx.c3; clear hb))
            | (go_at_call 20; (with_reducible refine (MK.out _ _ _ _ _ _ _ KA.out.d KA.out.t).mono ?_); rintro e w6 ⟨rfl, hb⟩; have HB2 := Lib.hid (HB2.out.trans (hb.mono HB2.out.size)); (have KA := Lib.hid (KA.out.keep hb); have I1 := Lib.hid (I1.out.below hb); clear z0 z1 z2 z3 a0 a1' a2' a3'; have DX := Lib.hid (DX.out.keep hb); have z0 := DX.out.c0; have z1 := DX.out.c1; have z2 := DX.out.c2; have z3 := DX.out.c3; have a0 := KA.out.bx.c0; have a1' := KA.out.bx.c1; have a2' := KA.out.bx.c2; have a3' := KA.out.bx.c3; clear hb)))
          go_roundw
          case rel => exact ⟨k + 1, by omega, by go_num, HB2⟩
          case measure => simp [intOf]; omega
      · have hk26 : k = 26 := by omega
        subst hk26
        obtain ⟨bg, og, xg, rfl, hbg, hxg, c0, c1', c2', -⟩ := KA.out.d.get (k := dl) (by omega)
        obtain rfl : xg = ⟨s, r, c⟩ := by
          dsimp only at hxg
          rw [List.getElem?_append_right (by rw [HDL.out]; exact Nat.le_refl _), HDL.out, Nat.sub_self] at hxg
          exact (Option.some.inj hxg).symm
        dsimp only at c0 c1' c2'
        go_upto_region 19 with fail
        obtain ⟨W2, hW2, DX, KA, I1, XX⟩ : ∃ W2, wr.alloc (.cells #[.string s, .string r, .int .i64 c] 46) = W2 ∧ Hid (DBox w W2 w.heap.size da dl dc wa wl wq nx false L M) ∧ Hid (KBox w W2 g1 (some ⟨bg, og, none⟩) (dl + 1) c1 b1 m1 n1 ⟨L ++ [⟨s, r, c⟩], restT M s.toList, nx, false⟩) ∧ Hid (IntRow W2 u1 v1 k1 (toldZ M s.toList)) ∧ Hid (XBox W2 wr.heap.size s r c) := ⟨_, rfl, Lib.hid (DX.out.keep (below_desk _ _)), Lib.hid (KA.out.keep (below_desk _ _)), Lib.hid (I1.out.below (below_desk _ _)), Lib.hid (XBox.new _ _ _ _)⟩
        rw [hW2]
        clear hW2 hxg c0 c1' c2' z0 z1 z2 z3 a0 a1' a2' a3' DY KY IY
        have x0 := XX.out.c0
        have x1 := XX.out.c1
        go_cut [22] (fun c wx => c = .bool fb ∧ wx = W2)
        case first =>
          cases q1 <;> cases q2 <;> cases q3
          all_goals
            go_wp2
            go_meet
            exact ⟨by rw [HFB.out]; rfl, rfl⟩
        case rest =>
          obtain ⟨rfl, rfl⟩ := hcut
          clear x0 x1 XX
          have y0 := Ext.cell DX.out.c0 DX.out.lt
          have y1 := Ext.cell DX.out.c1 DX.out.lt
          have y2' := Ext.cell DX.out.c2 DX.out.lt
          have y3' := Ext.cell DX.out.c3 DX.out.lt
          have u0 := Ext.cell KA.out.bx.c0 KA.out.bx.lt
          have u1' := Ext.cell KA.out.bx.c1 KA.out.bx.lt
          have u2' := Ext.cell KA.out.bx.c2 KA.out.bx.lt
          have u3' := Ext.cell KA.out.bx.c3 KA.out.bx.lt
          have E2 : Hid (∀ x' : Ext wc, Calls Try.prog 11 #[deskV da dl dc wa wl wq nx false, .string l, .string i] x'.v fun e w' => e = .returned (.int .i64 x) ∧ Below x'.v.heap.size x'.v w') := Lib.hid (fun x' => FD.out _ (DX.out.d.below x'.below) (DX.out.t.below x'.below))
          have E4 : Hid (∀ x' : Ext wc, Calls Try.prog 11 #[deskV (some ⟨bg, og, none⟩) (dl + 1) c1 b1 m1 n1 nx false, .string l, .string i] x'.v fun e w' => e = .returned (.int .i64 y) ∧ Below x'.v.heap.size x'.v w') := Lib.hid (fun x' => FG.out _ _ _ _ _ _ _ (KA.out.d.below x'.below) (KA.out.t.below x'.below))
          go_upto_region 20 with fail
          refine wp_region_ext (by kernel_rfl) (by kernel_rfl) ?_
          repeat (go_big_quiet_step (first
            | (go_at_call 11; with_reducible exact Ext.call_below (E2.out _))
            | (go_at_call 11; with_reducible exact Ext.call_below (E4.out _))))
          refine wpQuiet_nil ?_
          intro w' hw'
          obtain ⟨⟨w8, hb8⟩, hw''⟩ := hw'
          dsimp only at hw''
          subst hw''
          have DX := Lib.hid (DX.out.keep hb8)
          have KA := Lib.hid (KA.out.keep hb8)
          have I1 := Lib.hid (I1.out.below hb8)
          clear y0 y1 y2' y3' u0 u1' u2' u3' E2 E4 hb8 FD FG
          go_upto_region 21 with fail
          go_cut [198] (fun c wx => c = .bool false ∧ wx = w')
          case first =>
            cases fb with
            | true =>
              have f1 : (x == -1) = true := beq_iff_eq.2 (HXY.out.1 rfl).1
              have f1' : (x != -1) = false := by unfold bne; rw [f1]; rfl
              have f2 : (y == (dl : Int)) = true := beq_iff_eq.2 (HXY.out.1 rfl).2
              have f2' : (y != (dl : Int)) = false := by unfold bne; rw [f2]; rfl
              go_wp2
              go_meet
              exact ⟨rfl, rfl⟩
            | false =>
              have f1 : (x == y) = true := beq_iff_eq.2 (HXY.out.2 rfl).symm
              have f1' : (x != y) = false := by unfold bne; rw [f1]; rfl
              go_wp2
              go_meet
              exact ⟨rfl, rfl⟩
          case rest =>
            obtain ⟨rfl, rfl⟩ := hcut
            clear HXY HFB
            have z1 := DX.out.c1
            have DW := DX
            have KW := KA
            have IW := I1
            obtain ⟨c26, hc26⟩ : ∃ z : Int, ((26 : Nat) : Int) = z := ⟨_, rfl⟩
            go_wp2
            try rw [hc26]
            clear hc26
            go_loopw [25, 26] (fun mv iv wr => ∃ k : Nat, k ≤ wl ∧ iv = .int .i64 k ∧ (∃ n : Nat, mv = .int .i64 n ∧ Hid (n = (restT (M.take k) s.toList).length)) ∧ Hid (Below wc.heap.size wc wr)) (fun _ iv _ => wl - (intOf iv).toNat)
            case atStart => exact ⟨0, Nat.zero_le _, rfl, ⟨0, rfl, Lib.hid rfl⟩, Lib.hid (Below.refl _ _)⟩
            case round =>
              obtain ⟨k, hk, rfl, ⟨n, rfl, HN⟩, HB⟩ := hrel
              clear z1 DX KA I1
              have DX := Lib.hid (DW.out.keep HB.out)
              have KA := Lib.hid (KW.out.keep HB.out)
              have I1 := Lib.hid (IW.out.below HB.out)
              have z1 := DX.out.c1
              have a1' := KA.out.bx.c1
              have hm64 := KA.out.t.len64
              by_cases hlt : k < wl
              · obtain ⟨b, off, x, rfl, hb, hxm, c0, c1', hok⟩ := DX.out.t.get hlt
                have HX := Lib.hid hxm
                clear hxm hok
                obtain ⟨nm, tk⟩ := x
                dsimp only at c0 c1'
                go_upto_region 28 with fail
                obtain ⟨W2, hW2, DX, KA, I1, XX⟩ : ∃ W2, wr.alloc (.cells #[.string nm, .int .i64 tk] 51) = W2 ∧ Hid (DBox w W2 w.heap.size da dl dc (some ⟨b, off, none⟩) wl wq nx false L M) ∧ Hid (KBox w W2 g1 (some ⟨bg, og, none⟩) (dl + 1) c1 b1 m1 n1 ⟨L ++ [⟨s, r, c⟩], restT M s.toList, nx, false⟩) ∧ Hid (IntRow W2 u1 v1 k1 (toldZ M s.toList)) ∧ Hid (TBox W2 wr.heap.size nm tk) := ⟨_, rfl, Lib.hid (DX.out.keep (below_desk _ _)), Lib.hid (KA.out.keep (below_desk _ _)), Lib.hid (I1.out.below (below_desk _ _)), Lib.hid (TBox.new _ _ _)⟩
                have HB2 : Hid (Below wc.heap.size wc W2) := Lib.hid (by rw [← hW2]; exact HB.out.alloc HB.out.size _)
                rw [hW2]
                clear hW2 c0 c1' z1 a1'
                have x0 := XX.out.c0
                have x1 := XX.out.c1
                have z1 := DX.out.c1
                have a1' := KA.out.bx.c1
                cases e1 : nm.toList == s.toList with
                | true =>
                  have HA : Hid (∀ V, IntRow V u1 v1 k1 (toldZ M s.toList) → Calls Try.prog 26 #[.slice u1 v1 k1, .int .i64 tk] V fun e w' => e = .returned (.int .i64 1) ∧ V = w') := Lib.hid (fun V h => told_has HP.out HX.out e1 u1 v1 k1 V h)
                  have HM : Hid (n = (restT (M.take (k + 1)) s.toList).length) := Lib.hid (rest_gone HX.out e1 HN.out)
                  go_wp2_with (go_at_call 26; (with_reducible refine (HA.out _ I1.out).mono ?_); rintro e w9 ⟨rfl, rfl⟩)
                  go_roundw
                  case rel => exact ⟨k + 1, by omega, by go_num, ⟨n, rfl, HM⟩, HB2⟩
                  case measure => simp [intOf]; omega
                | false =>
                  have hat := rest_at HX.out e1
                  rw [← HN.out] at hat
                  have hnm : n < m1 := by
                    have := (List.getElem?_eq_some_iff.1 hat).1
                    rw [KA.out.t.hlen] at this
                    exact this
                  obtain ⟨bw, ow, xw, rfl, hbw, hgw, j0, j1, -⟩ := KA.out.t.get hnm
                  obtain rfl : xw = ⟨nm, tk⟩ := Option.some.inj (hgw.symm.trans hat)
                  dsimp only at j0 j1
                  have HM : Hid (n + 1 = (restT (M.take (k + 1)) s.toList).length) := Lib.hid (rest_kept HX.out e1 HN.out)
                  have wn := fun W => wait_neq nm tk nm tk W
                  have sd : sameT nm tk nm tk = true := by unfold sameT; simp
                  rw [sd] at wn
                  have hge : ¬ (m1 : Int) ≤ (n : Int) := by omega
                  clear hat hgw
                  go_upto_region 31 with fail
                  go_quiet (fail)
                  go_wp2
                  go_roundw
                  case rel => exact ⟨k + 1, by omega, by go_num, ⟨n + 1, by go_num, HM⟩, Lib.hid (below_dn HB2.out _)⟩
                  case measure => simp [intOf]; omega
              · have hkw : k = wl := by omega
                subst hkw
                have hn1 : n = m1 := by rw [HN.out, List.take_of_length_le (by rw [HTL.out]; exact Nat.le_refl _)]; exact KA.out.t.hlen
                subst hn1
                have hv : v1 + n = k := by
                  have h9 := told_rest M s.toList
                  have h8 := I1.out.hlen
                  have h7 := KA.out.t.hlen
                  dsimp only at h7
                  rw [HTL.out] at h9
                  omega
                have hv2 : ((v1 : Int) + (n : Int) == (k : Int)) = true := beq_iff_eq.2 (by omega)
                have hv3 : -9223372036854775808 ≤ (v1 : Int) + (n : Int) := by omega
                have hv4 : (v1 : Int) + (n : Int) ≤ 9223372036854775807 := by omega
                go_wp2
                go_ret
                exact ⟨rfl, DX.out.below⟩
end Go.Proofs.Ytapfhgimeohmgaa
