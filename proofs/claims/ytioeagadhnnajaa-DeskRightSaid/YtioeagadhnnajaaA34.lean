/- Texts joined in build order: Ref9Same. -/
import Derived.Test.YtioeagadhnnajaaA16
import Derived.Test.YtioeagadhnnajaaA18
/- instarref09's Same. -/
namespace Go.Proofs.Ytioeagadhnnajaa
open Go.RowKit
theorem take_more {α : Type} {L M : List α} {k : Nat} {x : α} (h : L.take k = M.take k) (hx : L[k]? = some x) (hy : M[k]? = some x) : L.take (k + 1) = M.take (k + 1) := by
  obtain ⟨hl1, hg1⟩ := List.getElem?_eq_some_iff.1 hx
  obtain ⟨hl2, hg2⟩ := List.getElem?_eq_some_iff.1 hy
  rw [List.take_succ_eq_append_getElem hl1, List.take_succ_eq_append_getElem hl2, hg1, hg2, h]
theorem take_all {α : Type} {L M : List α} {k : Nat} (h : L.take k = M.take k) (hl : L.length ≤ k) (hm : M.length ≤ k) : L = M := by
  rwa [List.take_of_length_le hl, List.take_of_length_le hm] at h
theorem get_ne {α : Type} {L M : List α} {k : Nat} {x y : α} (hx : L[k]? = some x) (hy : M[k]? = some y) (h : x ≠ y) : L ≠ M := by
  intro e
  rw [e, hy] at hx
  exact h (Option.some.inj hx).symm
/-- Are two desks the same? -/
noncomputable def sameK (L L' : List DefD) (M M' : List WaitD) (nx nx' : Int) (bz bz' : Bool) : Bool := @decide (L = L' ∧ M = M' ∧ nx = nx' ∧ bz = bz') (Classical.propDecidable _)
theorem sameK_yes {L L' : List DefD} {M M' : List WaitD} {nx nx' : Int} {bz bz' : Bool} (h : L = L' ∧ M = M' ∧ nx = nx' ∧ bz = bz') : sameK L L' M M' nx nx' bz bz' = true := @decide_eq_true _ (Classical.propDecidable _) h
theorem sameK_no {L L' : List DefD} {M M' : List WaitD} {nx nx' : Int} {bz bz' : Bool} (h : ¬ (L = L' ∧ M = M' ∧ nx = nx' ∧ bz = bz')) : sameK L L' M M' nx nx' bz bz' = false := @decide_eq_false _ (Classical.propDecidable _) h
set_option maxHeartbeats 8000000 in
set_option maxRecDepth 100000 in
/-- Two desks that are the same. -/
theorem refsame9_any (da : Option Addr) (dl dc : Nat) (wa : Option Addr) (wl wc : Nat) (nx : Int) (bz : Bool) (L : List DefD) (M : List WaitD) (da' : Option Addr) (dl' dc' : Nat) (wa' : Option Addr) (wl' wc' : Nat) (nx' : Int) (bz' : Bool) (L' : List DefD) (M' : List WaitD) (w : World)
    (hd : DefRow w da dl dc L) (ht : WaitRow w wa wl wc M) (hd' : DefRow w da' dl' dc' L') (ht' : WaitRow w wa' wl' wc' M') :
    Calls Try.prog 18 #[deskV da dl dc wa wl wc nx bz, deskV da' dl' dc' wa' wl' wc' nx' bz'] w fun e w' => e = .returned (.bool (sameK L L' M M' nx nx' bz bz')) ∧ Below w.heap.size w w' := by
  have hl := hd.len64
  have hl2 := ht.len64
  have hl3 := hd'.len64
  have hl4 := ht'.len64
  have HLN := Lib.hid hd.hlen
  have HTN := Lib.hid ht.hlen
  have HLN' := Lib.hid hd'.hlen
  have HTN' := Lib.hid ht'.hlen
  obtain ⟨w1, hw1⟩ : ∃ w1, w.alloc (deskB da dl dc wa wl wc nx bz) = w1 := ⟨_, rfl⟩
  obtain ⟨w2, hw2⟩ : ∃ w2, w1.alloc (deskB da' dl' dc' wa' wl' wc' nx' bz') = w2 := ⟨_, rfl⟩
  have DA0 := Lib.hid (DBox.start (nx := nx) (bz := bz) hd ht)
  have b1 : Below w.heap.size w w1 := by rw [← hw1]; exact below_desk _ _
  have DB0 := Lib.hid (DBox.start (nx := nx') (bz := bz') (hd'.below b1) (ht'.below b1))
  rw [hw1] at DA0
  rw [hw2] at DB0
  have DA := Lib.hid (DA0.out.keep DB0.out.below)
  have B1 := Lib.hid b1
  clear hd ht hd' ht' b1
  have z0 := DA.out.c0
  have z1 := DA.out.c1
  have z2 := DA.out.c2
  have z3 := DA.out.c3
  have y0 := DB0.out.c0
  have y1 := DB0.out.c1
  have y2 := DB0.out.c2
  have y3 := DB0.out.c3
  have stop : ¬ (dl = dl' ∧ wl = wl' ∧ nx = nx' ∧ bz = bz') → Calls Try.prog 18 #[deskV da dl dc wa wl wc nx bz, deskV da' dl' dc' wa' wl' wc' nx' bz'] w fun e w' => e = .returned (.bool (sameK L L' M M' nx nx' bz bz')) ∧ Below w.heap.size w w' := by
    intro hne
    have HR : Hid (sameK L L' M M' nx nx' bz bz' = false) := Lib.hid (sameK_no fun h => hne ⟨by rw [← HLN.out, ← HLN'.out, h.1], by rw [← HTN.out, ← HTN'.out, h.2.1], h.2.2.1, h.2.2.2⟩)
    by_cases g1 : dl = dl'
    rotate_left
    · have e1 : ((dl : Int) != (dl' : Int)) = true := bne_iff_ne.2 (by omega)
      clear hne
      go_enter Try.func18, Try.ntmps18
      go_wp2
      go_ret
      exact ⟨ret_bool HR.out.symm, DA.out.below⟩
    have e1 : ((dl : Int) != (dl' : Int)) = false := by rw [g1]; simp
    by_cases g2 : wl = wl'
    rotate_left
    · have e2 : ((wl : Int) != (wl' : Int)) = true := bne_iff_ne.2 (by omega)
      clear hne g1
      go_enter Try.func18, Try.ntmps18
      go_wp2
      go_ret
      exact ⟨ret_bool HR.out.symm, DA.out.below⟩
    have e2 : ((wl : Int) != (wl' : Int)) = false := by rw [g2]; simp
    by_cases g3 : nx = nx'
    rotate_left
    · have e3 : (nx != nx') = true := bne_iff_ne.2 g3
      clear hne g1 g2 g3
      go_enter Try.func18, Try.ntmps18
      go_wp2
      go_ret
      exact ⟨ret_bool HR.out.symm, DA.out.below⟩
    have e3 : (nx != nx') = false := by rw [g3]; simp
    have e4 : (bz == bz') = false := beq_eq_false_iff_ne.2 (fun e => hne ⟨g1, g2, g3, e⟩)
    have e5 : (bz != bz') = true := bne_iff_ne.2 (fun e => hne ⟨g1, g2, g3, e⟩)
    clear hne g1 g2 g3
    go_enter Try.func18, Try.ntmps18
    go_wp2
    go_ret
    exact ⟨ret_bool HR.out.symm, DA.out.below⟩
  by_cases hne : dl = dl' ∧ wl = wl' ∧ nx = nx' ∧ bz = bz'
  rotate_left
  · exact stop hne
  clear stop
  obtain ⟨rfl, rfl, rfl, rfl⟩ := hne
  have e1 : ((dl : Int) != (dl : Int)) = false := by simp
  have e2 : ((wl : Int) != (wl : Int)) = false := by simp
  have e3 : (nx != nx) = false := by simp
  have e4 : (bz == bz) = true := by simp
  have e5 : (bz != bz) = false := by simp
  go_enter Try.func18, Try.ntmps18
  go_wp2
  go_loopw [5] (fun i wr => ∃ k n : Nat, k ≤ dl ∧ i = .int .i64 k ∧ wr = w2.drewN n ∧ Hid (L.take k = L'.take k)) (fun i _ => dl - (intOf i).toNat)
  case atStart => exact ⟨0, 0, Nat.zero_le _, rfl, rfl, Lib.hid rfl⟩
  case round =>
    obtain ⟨k, n, hk, rfl, rfl, HT⟩ := hrel
    by_cases hlt : k < dl
    · obtain ⟨b, off, x, rfl, hb, hx, c0, c1, c2, -⟩ := DA.out.d.get hlt
      obtain ⟨b', off', y, rfl, hb', hy, d0, d1, d2, -⟩ := DB0.out.d.get hlt
      have HX := Lib.hid hx
      have HY := Lib.hid hy
      clear hx hy
      obtain ⟨xn, xo, xc⟩ := x
      obtain ⟨yn, yo, yc⟩ := y
      dsimp only at c0 c1 c2 d0 d1 d2
      have hneq := fun W => def_neq xn xo xc yn yo yc W
      have hgd := def_guard
      cases he : sameD xn xo xc yn yo yc with
      | true =>
        have HE : Hid ((⟨xn, xo, xc⟩ : DefD) = ⟨yn, yo, yc⟩) := Lib.hid (sameD_eq.1 he)
        go_wp2
        go_quiet (fail)
        go_wp2
        go_roundw
        case rel => exact ⟨k + 1, _, by omega, by go_num, by first | rfl | exact World.drewN_drewN _ _ _, Lib.hid (take_more HT.out HX.out (by rw [HE.out]; exact HY.out))⟩
        case measure => simp [intOf]; omega
      | false =>
        have HR : Hid (sameK L L' M M' nx nx bz bz = false) := Lib.hid (sameK_no fun h => get_ne HX.out HY.out (fun e => by rw [sameD_eq.2 e] at he; cases he) h.1)
        go_wp2
        go_quiet (fail)
        go_wp2
        go_ret
        exact ⟨ret_bool HR.out.symm, (by first | exact below_drewN (below_drewN DA.out.below _) _ | exact below_drewN DA.out.below _)⟩
    · have HD : Hid (L = L') := Lib.hid (take_all HT.out (by rw [HLN.out]; omega) (by rw [HLN'.out]; omega))
      go_wp2
      go_loopw [6] (fun i wr => ∃ k n : Nat, k ≤ wl ∧ i = .int .i64 k ∧ wr = w2.drewN n ∧ Hid (M.take k = M'.take k)) (fun i _ => wl - (intOf i).toNat)
      case atStart => exact ⟨0, n, Nat.zero_le _, rfl, rfl, Lib.hid rfl⟩
      case round =>
        obtain ⟨k, n, hk, rfl, rfl, HT⟩ := hrel
        by_cases hlt : k < wl
        · obtain ⟨b, off, x, rfl, hb, hx, c0, c1, -⟩ := DA.out.t.get hlt
          obtain ⟨b', off', y, rfl, hb', hy, d0, d1, -⟩ := DB0.out.t.get hlt
          have HX := Lib.hid hx
          have HY := Lib.hid hy
          clear hx hy
          obtain ⟨xn, xc⟩ := x
          obtain ⟨yn, yc⟩ := y
          dsimp only at c0 c1 d0 d1
          have hneq := fun W => wait_neq xn xc yn yc W
          have hgd := wait_guard
          cases he : sameT xn xc yn yc with
          | true =>
            have HE : Hid ((⟨xn, xc⟩ : WaitD) = ⟨yn, yc⟩) := Lib.hid (sameT_eq.1 he)
            go_wp2
            go_quiet (fail)
            go_wp2
            go_roundw
            case rel => exact ⟨k + 1, _, by omega, by go_num, by first | rfl | exact World.drewN_drewN _ _ _, Lib.hid (take_more HT.out HX.out (by rw [HE.out]; exact HY.out))⟩
            case measure => simp [intOf]; omega
          | false =>
            have HR : Hid (sameK L L' M M' nx nx bz bz = false) := Lib.hid (sameK_no fun h => get_ne HX.out HY.out (fun e => by rw [sameT_eq.2 e] at he; cases he) h.2.1)
            go_wp2
            go_quiet (fail)
            go_wp2
            go_ret
            exact ⟨ret_bool HR.out.symm, (by first | exact below_drewN (below_drewN DA.out.below _) _ | exact below_drewN DA.out.below _)⟩
        · have HR : Hid (sameK L L' M M' nx nx bz bz = true) := Lib.hid (sameK_yes ⟨HD.out, take_all HT.out (by rw [HTN.out]; omega) (by rw [HTN'.out]; omega), rfl, rfl⟩)
          go_wp2
          go_ret
          exact ⟨ret_bool HR.out.symm, (below_drewN DA.out.below _)⟩
end Go.Proofs.Ytioeagadhnnajaa
