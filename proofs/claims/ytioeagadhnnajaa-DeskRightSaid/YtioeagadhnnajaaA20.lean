/- Texts joined in build order: DeskPred. -/
import Derived.Test.YtioeagadhnnajaaA18
import Derived.Deep.CutBlock
import Derived.Shelf.Abstract
/- Package desk's closures, and slices.IndexFunc and ContainsFunc over them. -/
namespace Go.Proofs.Ytioeagadhnnajaa
open Go.RowKit
/-- What is asked of a function value on a definition: it answers p, and makes new memory alone. -/
def PredD (g : Nat) (lb : Array Value) (p : DefD → Bool) (w : World) : Prop :=
  ∀ (W : World) (n o : ByteArray) (c : Int), Below w.heap.size w W → Calls Try.prog g (#[.agg #[.string n, .string o, .int .i64 c]] ++ lb) W fun e W' => e = .returned (.bool (p ⟨n, o, c⟩)) ∧ Below W.heap.size W W'
def PredT (g : Nat) (lb : Array Value) (p : WaitD → Bool) (w : World) : Prop :=
  ∀ (W : World) (n : ByteArray) (c : Int), Below w.heap.size w W → Calls Try.prog g (#[.agg #[.string n, .int .i64 c]] ++ lb) W fun e W' => e = .returned (.bool (p ⟨n, c⟩)) ∧ Below W.heap.size W W'
theorem PredD.later {g : Nat} {lb : Array Value} {p : DefD → Bool} {w W : World} (h : PredD g lb p w) (hb : Below w.heap.size w W) : PredD g lb p W :=
  fun V n o c hv => h V n o c (hb.trans (hv.mono hb.size))
theorem PredT.later {g : Nat} {lb : Array Value} {p : WaitD → Bool} {w W : World} (h : PredT g lb p w) (hb : Below w.heap.size w W) : PredT g lb p W :=
  fun V n c hv => h V n c (hb.trans (hv.mono hb.size))
set_option maxHeartbeats 4000000 in
set_option maxRecDepth 100000 in
theorem indexD_any (g : Nat) (lb : Array Value) (p : DefD → Bool) (eg : ∀ args w, (callFunc g args).run Try.prog w = .ok (.enter g args) w) (a : Option Addr) (len cap : Nat) (L : List DefD) (w : World) (h : DefRow w a len cap L) (hp : PredD g lb p w) :
    Calls Try.prog 54 #[.slice a len cap, .func (.func g) #[] lb] w fun e w' => e = .returned (.int .i64 (firstZ p L)) ∧ Below w.heap.size w w' := by
  have hl := h.len64
  have HLN := Lib.hid h.hlen
  have HH := Lib.hid h
  have HP := Lib.hid hp
  clear h hp
  go_enter Try.func54, Try.ntmps54
  go_wp2
  go_loopw [5, 8] (fun _ i wr => ∃ k : Nat, k ≤ len ∧ i = .int .i64 k ∧ Hid (k ≤ firstN p L) ∧ Hid (Below w.heap.size w wr)) (fun _ i _ => len - (intOf i).toNat)
  case atStart => exact ⟨0, Nat.zero_le _, rfl, Lib.hid (Nat.zero_le _), Lib.hid (Below.refl _ _)⟩
  case round =>
    obtain ⟨k, hk, rfl, HA, HB⟩ := hrel
    by_cases hlt : k < len
    · obtain ⟨b, off, x, rfl, hb, hx, c0, c1, c2, -⟩ := (HH.out.below HB.out).get hlt
      have HX := Lib.hid hx
      clear hx
      obtain ⟨n, o, c⟩ := x
      dsimp only at c0 c1 c2
      have hcall := HP.out wr n o c HB.out
      obtain ⟨q, hq⟩ : ∃ q, p ⟨n, o, c⟩ = q := ⟨_, rfl⟩
      rw [hq] at hcall
      cases q with
      | true =>
        have HR : Hid (firstZ p L = (k : Int)) := Lib.hid (firstZ_here HA.out HX.out hq)
        clear hq
        go_wp2_with (go_at_fn g; refine hcall.mono ?_; rintro e w' ⟨rfl, hb'⟩)
        go_ret
        exact ⟨ret_int HR.out.symm, HB.out.trans (hb'.mono HB.out.size)⟩
      | false =>
        have HR : Hid (k + 1 ≤ firstN p L) := Lib.hid (first_step HA.out HX.out hq)
        clear hq
        go_wp2_with (go_at_fn g; refine hcall.mono ?_; rintro e w' ⟨rfl, hb'⟩)
        go_roundw
        case rel => exact ⟨k + 1, by omega, by go_num, HR, Lib.hid (HB.out.trans (hb'.mono HB.out.size))⟩
        case measure => simp [intOf]; omega
    · have HR : Hid (firstZ p L = -1) := Lib.hid (firstZ_none HA.out (by rw [HLN.out]; omega))
      go_wp2
      go_ret
      exact ⟨ret_int HR.out.symm, HB.out⟩
set_option maxHeartbeats 4000000 in
set_option maxRecDepth 100000 in
theorem indexT_any (g : Nat) (lb : Array Value) (p : WaitD → Bool) (eg : ∀ args w, (callFunc g args).run Try.prog w = .ok (.enter g args) w) (a : Option Addr) (len cap : Nat) (L : List WaitD) (w : World) (h : WaitRow w a len cap L) (hp : PredT g lb p w) :
    Calls Try.prog 48 #[.slice a len cap, .func (.func g) #[] lb] w fun e w' => e = .returned (.int .i64 (firstZ p L)) ∧ Below w.heap.size w w' := by
  have hl := h.len64
  have HLN := Lib.hid h.hlen
  have HH := Lib.hid h
  have HP := Lib.hid hp
  clear h hp
  go_enter Try.func48, Try.ntmps48
  go_wp2
  go_loopw [5, 8] (fun _ i wr => ∃ k : Nat, k ≤ len ∧ i = .int .i64 k ∧ Hid (k ≤ firstN p L) ∧ Hid (Below w.heap.size w wr)) (fun _ i _ => len - (intOf i).toNat)
  case atStart => exact ⟨0, Nat.zero_le _, rfl, Lib.hid (Nat.zero_le _), Lib.hid (Below.refl _ _)⟩
  case round =>
    obtain ⟨k, hk, rfl, HA, HB⟩ := hrel
    by_cases hlt : k < len
    · obtain ⟨b, off, x, rfl, hb, hx, c0, c1, -⟩ := (HH.out.below HB.out).get hlt
      have HX := Lib.hid hx
      clear hx
      obtain ⟨n, c⟩ := x
      dsimp only at c0 c1
      have hcall := HP.out wr n c HB.out
      obtain ⟨q, hq⟩ : ∃ q, p ⟨n, c⟩ = q := ⟨_, rfl⟩
      rw [hq] at hcall
      cases q with
      | true =>
        have HR : Hid (firstZ p L = (k : Int)) := Lib.hid (firstZ_here HA.out HX.out hq)
        clear hq
        go_wp2_with (go_at_fn g; refine hcall.mono ?_; rintro e w' ⟨rfl, hb'⟩)
        go_ret
        exact ⟨ret_int HR.out.symm, HB.out.trans (hb'.mono HB.out.size)⟩
      | false =>
        have HR : Hid (k + 1 ≤ firstN p L) := Lib.hid (first_step HA.out HX.out hq)
        clear hq
        go_wp2_with (go_at_fn g; refine hcall.mono ?_; rintro e w' ⟨rfl, hb'⟩)
        go_roundw
        case rel => exact ⟨k + 1, by omega, by go_num, HR, Lib.hid (HB.out.trans (hb'.mono HB.out.size))⟩
        case measure => simp [intOf]; omega
    · have HR : Hid (firstZ p L = -1) := Lib.hid (firstZ_none HA.out (by rw [HLN.out]; omega))
      go_wp2
      go_ret
      exact ⟨ret_int HR.out.symm, HB.out⟩
set_option maxHeartbeats 4000000 in
set_option maxRecDepth 100000 in
theorem containsD_any (g : Nat) (lb : Array Value) (p : DefD → Bool) (eg : ∀ args w, (callFunc g args).run Try.prog w = .ok (.enter g args) w) (a : Option Addr) (len cap : Nat) (L : List DefD) (w : World) (h : DefRow w a len cap L) (hp : PredD g lb p w) :
    Calls Try.prog 42 #[.slice a len cap, .func (.func g) #[] lb] w fun e w' => e = .returned (.bool (decide (0 ≤ firstZ p L))) ∧ Below w.heap.size w w' := by
  have hcall := indexD_any g lb p eg a len cap L w h hp
  clear h hp
  obtain ⟨q, hq⟩ : ∃ q, firstZ p L = q := ⟨_, rfl⟩
  rw [hq] at hcall ⊢
  clear hq
  go_enter Try.func42, Try.ntmps42
  go_wp2_with (go_at_call 54; refine hcall.mono ?_; rintro e w' ⟨rfl, hb'⟩)
  all_goals (go_ret; exact ⟨rfl, hb'⟩)
end Go.Proofs.Ytioeagadhnnajaa
