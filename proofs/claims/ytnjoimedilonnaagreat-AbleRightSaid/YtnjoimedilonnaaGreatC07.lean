/- Texts joined in build order: ForestShort. -/
import Derived.Test.YtnjoimedilonnaaGreatC06
namespace Go.Proofs.YtnjoimedilonnaaGreat
open Go.RowKit
abbrev forV (a : Option Addr) (len cap : Nat) (m : Int) : Value := .agg #[.slice a len cap, .int .i64 m]
abbrev forB (a : Option Addr) (len cap : Nat) (m : Int) : Obj := .cells #[.slice a len cap, .int .i64 m] 24
def shortN (x : NodeD) : Bool := decide (x.core.kids.length ≤ 60) && decide (x.core.attrs.length ≤ 60) && decide (x.core.name.size ≤ 300)
def shortF (L : List NodeD) : Bool := decide (L.length ≤ 60) && L.all shortN
theorem below_box (w : World) (B : Obj) : Below w.heap.size w (w.alloc B) := (Below.refl _ _).alloc (Nat.le_refl _) B
set_option maxHeartbeats 4000000 in
set_option maxRecDepth 100000 in
theorem refshortF_any (a : Option Addr) (len cap : Nat) (m : Int) (L : List NodeD) (w : World) (h0 : NodeRow w a len cap L) :
    Calls Tryz.prog 5 #[forV a len cap m] w fun e w' => e = .returned (.bool (shortF L)) ∧ Below w.heap.size w w' := by
  have hl := h0.len64
  have HLN := Lib.hid h0.hlen
  have h := h0.below (below_box w (forB a len cap m))
  clear h0
  by_cases h60 : 60 < len
  · have HR : Hid (shortF L = false) := Lib.hid (by unfold shortF; rw [decide_eq_false (by rw [HLN.out]; omega)]; rfl)
    go_enter Tryz.func5, Tryz.ntmps5
    go_wp2
    go_ret
    exact ⟨ret_bool HR.out.symm, below_box _ _⟩
  go_enter Tryz.func5, Tryz.ntmps5
  go_wp2
  go_loop [3] (fun i => ∃ k : Nat, k ≤ len ∧ i = .int .i64 k ∧ Hid (∀ (j : Nat) x, j < k → L[j]? = some x → shortN x = true)) (fun i => len - (intOf i).toNat)
  case atStart => exact ⟨0, Nat.zero_le _, rfl, Lib.hid (fun j x hj _ => absurd hj (by omega))⟩
  case round =>
    obtain ⟨k, hk, rfl, HA⟩ := hrel
    by_cases hlt : k < len
    · obtain ⟨b, off, x, rfl, hb, hx, hc, hok⟩ := h.get hlt
      have hb2 : b < w.heap.size + 1 := by simpa using hb
      have c1 := hc.c1
      have c4 := hc.c4
      have c6 := hc.c6
      have HK := Lib.hid hok.kids.hlen
      have HAN := Lib.hid hok.attrs.hlen
      have hk6 := hok.kids.len64
      have ha6 := hok.attrs.len64
      have hn6 : x.core.name.size ≤ 9223372036854775807 := by have := hok.name; unfold maxLen at this; omega
      have HX := Lib.hid hx
      have stop : shortN x = false → shortF L = false := fun hs => by
        unfold shortF
        have : L.all shortN = false := by rw [List.all_eq_false]; exact ⟨x, List.mem_of_getElem? HX.out, by simp [hs]⟩
        rw [this, Bool.and_false]
      have STOP := Lib.hid stop
      clear hc hok hx stop
      by_cases q1 : (60 : Int) < (x.kN : Int)
      · have HR : Hid (shortF L = false) := Lib.hid (STOP.out (by unfold shortN; rw [decide_eq_false (by rw [HK.out]; omega)]; rfl))
        go_wp2
        go_ret
        exact ⟨ret_bool HR.out.symm, below_box _ _⟩
      by_cases q2 : (60 : Int) < (x.aN : Int)
      · have HR : Hid (shortF L = false) := Lib.hid (STOP.out (by unfold shortN; rw [decide_eq_false (show ¬ x.core.attrs.length ≤ 60 by rw [HAN.out]; omega)]; simp))
        go_wp2
        go_ret
        exact ⟨ret_bool HR.out.symm, below_box _ _⟩
      by_cases q3 : (300 : Int) < (x.core.name.size : Int)
      · have HR : Hid (shortF L = false) := Lib.hid (STOP.out (by unfold shortN; rw [decide_eq_false (show ¬ x.core.name.size ≤ 300 by omega)]; simp))
        go_wp2
        go_ret
        exact ⟨ret_bool HR.out.symm, below_box _ _⟩
      have HS : Hid (shortN x = true) := Lib.hid (by
        unfold shortN
        rw [decide_eq_true (show x.core.kids.length ≤ 60 by rw [HK.out]; omega), decide_eq_true (show x.core.attrs.length ≤ 60 by rw [HAN.out]; omega), decide_eq_true (show x.core.name.size ≤ 300 by omega)]
        rfl)
      go_wp2
      go_round
      case rel =>
        refine ⟨k + 1, by omega, by go_num, Lib.hid (fun j y hj hy => ?_)⟩
        by_cases e : j = k
        · subst e
          rw [HX.out] at hy
          rw [← Option.some.inj hy]
          exact HS.out
        · exact HA.out j y (by omega) hy
      case measure => simp [intOf]; omega
    · have HR : Hid (shortF L = true) := Lib.hid (by
        unfold shortF
        have : L.all shortN = true := by
          rw [List.all_eq_true]
          intro x hx
          obtain ⟨j, hj, he⟩ := List.mem_iff_getElem.1 hx
          exact HA.out j x (by rw [HLN.out] at hj; omega) (by rw [List.getElem?_eq_getElem hj, he])
        rw [this, decide_eq_true (by rw [HLN.out]; omega)]
        rfl)
      go_wp2
      go_ret
      exact ⟨ret_bool HR.out.symm, below_box _ _⟩
end Go.Proofs.YtnjoimedilonnaaGreat
