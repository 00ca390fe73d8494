/- Texts joined in build order: Ref9Short. -/
import Derived.Test.YtioeagadhnnajaaA16
/- instarref09's Short. -/
namespace Go.Proofs.Ytioeagadhnnajaa
open Go.RowKit
def shortD (x : DefD) : Bool := decide (x.name.size ≤ 300) && decide (x.loc.size ≤ 300)
def shortT (x : WaitD) : Bool := decide (x.name.size ≤ 300)
def shortK (L : List DefD) (M : List WaitD) : Bool := decide (L.length ≤ 40) && decide (M.length ≤ 40) && L.all shortD && M.all shortT
theorem shortK_iff {L : List DefD} {M : List WaitD} : shortK L M = true ↔ L.length ≤ 40 ∧ M.length ≤ 40 ∧ (∀ x ∈ L, x.name.size ≤ 300 ∧ x.loc.size ≤ 300) ∧ ∀ x ∈ M, x.name.size ≤ 300 := by
  unfold shortK shortD shortT
  simp only [Bool.and_eq_true, decide_eq_true_eq, List.all_eq_true]
  constructor
  · rintro ⟨⟨⟨h1, h2⟩, h3⟩, h4⟩; exact ⟨h1, h2, h3, h4⟩
  · rintro ⟨h1, h2, h3, h4⟩; exact ⟨⟨⟨h1, h2⟩, h3⟩, h4⟩
theorem short_no {L : List DefD} {M : List WaitD} (h : shortK L M = true → False) : shortK L M = false := by
  cases hs : shortK L M with
  | false => rfl
  | true => exact absurd hs h
theorem short_small {L : List DefD} {M : List WaitD} (h : shortK L M = true) : smallL9 L ∧ smallT9 M :=
  ⟨fun x hx => by have := (shortK_iff.1 h).2.2.1 x hx; omega, fun x hx => by have := (shortK_iff.1 h).2.2.2 x hx; omega⟩
set_option maxHeartbeats 8000000 in
set_option maxRecDepth 100000 in
theorem refshort9_any (da : Option Addr) (dl dc : Nat) (wa : Option Addr) (wl wc : Nat) (nx : Int) (bz : Bool) (L : List DefD) (M : List WaitD) (w : World) (hd0 : DefRow w da dl dc L) (ht0 : WaitRow w wa wl wc M) :
    Calls Try.prog 5 #[deskV da dl dc wa wl wc nx bz] w fun e w' => e = .returned (.bool (shortK L M)) ∧ Below w.heap.size w w' := by
  have hl := hd0.len64
  have hl2 := ht0.len64
  have HLN := Lib.hid hd0.hlen
  have HTN := Lib.hid ht0.hlen
  have hd := hd0.below (below_desk w (deskB da dl dc wa wl wc nx bz))
  have ht := ht0.below (below_desk w (deskB da dl dc wa wl wc nx bz))
  clear hd0 ht0
  by_cases n0 : 40 < (dl : Int)
  · have HR : Hid (shortK L M = false) := Lib.hid (short_no fun h => by have := (shortK_iff.1 h).1; rw [HLN.out] at this; omega)
    go_enter Try.func5, Try.ntmps5
    go_wp2
    go_ret
    exact ⟨ret_bool HR.out.symm, below_desk _ _⟩
  by_cases n1 : 40 < (wl : Int)
  · have HR : Hid (shortK L M = false) := Lib.hid (short_no fun h => by have := (shortK_iff.1 h).2.1; rw [HTN.out] at this; omega)
    go_enter Try.func5, Try.ntmps5
    go_wp2
    go_ret
    exact ⟨ret_bool HR.out.symm, below_desk _ _⟩
  go_enter Try.func5, Try.ntmps5
  go_wp2
  go_loop [3] (fun i => ∃ k : Nat, k ≤ dl ∧ i = .int .i64 k ∧ Hid (∀ (j : Nat) x, j < k → L[j]? = some x → x.name.size ≤ 300 ∧ x.loc.size ≤ 300)) (fun i => dl - (intOf i).toNat)
  case atStart => exact ⟨0, Nat.zero_le _, rfl, Lib.hid (fun j x hj => absurd hj (by omega))⟩
  case round =>
    obtain ⟨k, hk, rfl, HA⟩ := hrel
    by_cases hlt : k < dl
    · obtain ⟨b, off, x, rfl, hb, hx, c0, c1, -, hok⟩ := hd.get hlt
      have hb2 : b < w.heap.size + 1 := by simpa using hb
      have HX := Lib.hid hx
      have hs0 : x.name.size ≤ 9223372036854775807 := by have := hok.1; unfold maxLen at this; omega
      have hs1 : x.loc.size ≤ 9223372036854775807 := by have := hok.2.1; unfold maxLen at this; omega
      clear hx hok
      obtain ⟨n, o, c⟩ := x
      dsimp only at c0 c1 hs0 hs1
      by_cases q1 : (300 : Int) < (n.size : Int)
      · have HR : Hid (shortK L M = false) := Lib.hid (short_no fun h => by have := ((shortK_iff.1 h).2.2.1 _ (List.mem_of_getElem? HX.out)).1; dsimp only at this; omega)
        go_wp2
        go_ret
        exact ⟨ret_bool HR.out.symm, below_desk _ _⟩
      by_cases q2 : (300 : Int) < (o.size : Int)
      · have HR : Hid (shortK L M = false) := Lib.hid (short_no fun h => by have := ((shortK_iff.1 h).2.2.1 _ (List.mem_of_getElem? HX.out)).2; dsimp only at this; omega)
        go_wp2
        go_ret
        exact ⟨ret_bool HR.out.symm, below_desk _ _⟩
      have HG : Hid (∀ (j : Nat) x, j < k + 1 → L[j]? = some x → x.name.size ≤ 300 ∧ x.loc.size ≤ 300) := Lib.hid (fun j x hj hx => by
        by_cases e : j = k
        · subst e
          rw [HX.out] at hx
          obtain rfl := Option.some.inj hx
          dsimp only
          omega
        · exact HA.out j x (by omega) hx)
      go_wp2
      go_round
      case rel => exact ⟨k + 1, by omega, by go_num, HG⟩
      case measure => simp [intOf]; omega
    · have HD : Hid (∀ x ∈ L, x.name.size ≤ 300 ∧ x.loc.size ≤ 300) := Lib.hid (fun x hx => by
        obtain ⟨j, hj⟩ := List.getElem?_of_mem hx
        exact HA.out j x (by obtain ⟨h1, _⟩ := List.getElem?_eq_some_iff.1 hj; rw [HLN.out] at h1; omega) hj)
      go_wp2
      go_loop [4] (fun i => ∃ k : Nat, k ≤ wl ∧ i = .int .i64 k ∧ Hid (∀ (j : Nat) x, j < k → M[j]? = some x → x.name.size ≤ 300)) (fun i => wl - (intOf i).toNat)
      case atStart => exact ⟨0, Nat.zero_le _, rfl, Lib.hid (fun j x hj => absurd hj (by omega))⟩
      case round =>
        obtain ⟨k, hk, rfl, HA⟩ := hrel
        by_cases hlt : k < wl
        · obtain ⟨b, off, x, rfl, hb, hx, c0, -, hok⟩ := ht.get hlt
          have hb2 : b < w.heap.size + 1 := by simpa using hb
          have HX := Lib.hid hx
          have hs0 : x.name.size ≤ 9223372036854775807 := by have := hok.1; unfold maxLen at this; omega
          clear hx hok
          obtain ⟨n, c⟩ := x
          dsimp only at c0 hs0
          by_cases q1 : (300 : Int) < (n.size : Int)
          · have HR : Hid (shortK L M = false) := Lib.hid (short_no fun h => by have := (shortK_iff.1 h).2.2.2 _ (List.mem_of_getElem? HX.out); dsimp only at this; omega)
            go_wp2
            go_ret
            exact ⟨ret_bool HR.out.symm, below_desk _ _⟩
          have HG : Hid (∀ (j : Nat) x, j < k + 1 → M[j]? = some x → x.name.size ≤ 300) := Lib.hid (fun j x hj hx => by
            by_cases e : j = k
            · subst e
              rw [HX.out] at hx
              obtain rfl := Option.some.inj hx
              dsimp only
              omega
            · exact HA.out j x (by omega) hx)
          go_wp2
          go_round
          case rel => exact ⟨k + 1, by omega, by go_num, HG⟩
          case measure => simp [intOf]; omega
        · have HR : Hid (shortK L M = true) := Lib.hid (shortK_iff.2 ⟨by rw [HLN.out]; omega, by rw [HTN.out]; omega, HD.out, fun x hx => by
            obtain ⟨j, hj⟩ := List.getElem?_of_mem hx
            exact HA.out j x (by obtain ⟨h1, _⟩ := List.getElem?_eq_some_iff.1 hj; rw [HTN.out] at h1; omega) hj⟩)
          go_wp2
          go_ret
          exact ⟨ret_bool HR.out.symm, below_desk _ _⟩
end Go.Proofs.Ytioeagadhnnajaa
