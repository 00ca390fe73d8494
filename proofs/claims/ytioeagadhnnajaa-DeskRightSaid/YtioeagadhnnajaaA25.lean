/- Texts joined in build order: DeskPlace. -/
import Derived.Test.YtioeagadhnnajaaA24
/- Package desk's place, Find, Named, Classed. -/
namespace Go.Proofs.Ytioeagadhnnajaa
open Go.RowKit
theorem ifRight_yes {D : DeskD} {z : Int} (h : rightK D = true) : ifRight D z = z := by unfold ifRight; rw [if_pos h]
theorem ifRight_no {D : DeskD} {z : Int} (h : rightK D = false) : ifRight D z = -1 := by unfold ifRight; rw [if_neg (by rw [h]; decide)]
set_option maxHeartbeats 8000000 in
set_option maxRecDepth 100000 in
theorem place_any (g : Nat) (lb : Array Value) (p : DefD → Bool) (eg : ∀ args w, (callFunc g args).run Try.prog w = .ok (.enter g args) w) (da : Option Addr) (dl dc : Nat) (wa : Option Addr) (wl wc : Nat) (nx : Int) (bz : Bool) (L : List DefD) (M : List WaitD) (w : World) (hd : DefRow w da dl dc L) (ht : WaitRow w wa wl wc M) (hp : PredD g lb p w) :
    Calls Try.prog 23 #[deskV da dl dc wa wl wc nx bz, .func (.func g) #[] lb] w fun e w' => e = .returned (.int .i64 (ifRight ⟨L, M, nx, bz⟩ (firstZ p L))) ∧ Below w.heap.size w w' := by
  have hl := hd.len64
  have HLN := Lib.hid hd.hlen
  have DB := Lib.hid (DBox.start (nx := nx) (bz := bz) hd ht)
  have HP := Lib.hid (hp.later (below_desk w (deskB da dl dc wa wl wc nx bz)))
  clear hd ht hp
  have z0 := DB.out.c0
  have z1 := DB.out.c1
  have z2 := DB.out.c2
  have z3 := DB.out.c3
  obtain ⟨q1, hq1⟩ : ∃ q, rightK ⟨L, M, nx, bz⟩ = q := ⟨_, rfl⟩
  have RI : Hid (∀ V, Below (w.alloc (deskB da dl dc wa wl wc nx bz)).heap.size (w.alloc (deskB da dl dc wa wl wc nx bz)) V → Calls Try.prog 10 #[deskV da dl dc wa wl wc nx bz] V fun e w' => e = .returned (.bool q1) ∧ Below V.heap.size V w') := Lib.hid (fun V hb => by
    have h := deskright_any da dl dc wa wl wc nx bz L M V (DB.out.keep hb).d (DB.out.keep hb).t
    rwa [hq1] at h)
  cases q1 with
  | false =>
    have HR : Hid (ifRight ⟨L, M, nx, bz⟩ (firstZ p L) = -1) := Lib.hid (ifRight_no hq1)
    clear hq1
    go_enter Try.func23, Try.ntmps23
    go_wp2_with (go_at_call 10; refine (RI.out _ (Below.refl _ _)).mono ?_; rintro e w5 ⟨rfl, hb⟩)
    go_ret
    exact ⟨ret_int HR.out.symm, DB.out.below.trans (hb.mono DB.out.below.size)⟩
  | true =>
    have HO : Hid (ifRight ⟨L, M, nx, bz⟩ (firstZ p L) = firstZ p L) := Lib.hid (ifRight_yes hq1)
    clear hq1
    go_enter Try.func23, Try.ntmps23
    go_wp2_with (go_at_call 10; refine (RI.out _ (Below.refl _ _)).mono ?_; rintro e w5 ⟨rfl, hb⟩; have HV := Lib.hid hb; clear z0 z1 z2 z3 hb; have z0 := (DB.out.keep HV.out).c0; have z1 := (DB.out.keep HV.out).c1; have z2 := (DB.out.keep HV.out).c2; have z3 := (DB.out.keep HV.out).c3)
    go_loopw [13] (fun i wr => ∃ k : Nat, k ≤ dl ∧ i = .int .i64 k ∧ Hid (k ≤ firstN p L) ∧ Hid (Below w5.heap.size w5 wr)) (fun i _ => dl - (intOf i).toNat)
    case atStart => exact ⟨0, Nat.zero_le _, rfl, Lib.hid (Nat.zero_le _), Lib.hid (Below.refl _ _)⟩
    case round =>
      obtain ⟨k, hk, rfl, HA, HB⟩ := hrel
      clear z0 z1 z2 z3
      have DR := Lib.hid ((DB.out.keep HV.out).keep HB.out)
      by_cases hlt : k < dl
      · obtain ⟨b, off, x, rfl, hb, hx, c0, c1, c2, -⟩ := DR.out.d.get hlt
        have HX := Lib.hid hx
        clear hx
        obtain ⟨n, o, c⟩ := x
        dsimp only at c0 c1 c2
        go_upto_region 6 with fail
        obtain ⟨W, hW, XX⟩ : ∃ W, wr.alloc (.cells #[.string n, .string o, .int .i64 c] 46) = W ∧ Hid (XBox W wr.heap.size n o c) := ⟨_, rfl, Lib.hid (XBox.new _ _ _ _)⟩
        rw [hW]
        have HBW : Hid (Below w5.heap.size w5 W) := Lib.hid (HB.out.trans (by rw [← hW]; exact (below_desk _ _).mono HB.out.size))
        clear hW c0 c1 c2
        have hcall := HP.out W n o c (HV.out.trans (HBW.out.mono HV.out.size))
        have x0 := XX.out.c0
        have x1 := XX.out.c1
        have x2 := XX.out.c2
        obtain ⟨q, hq⟩ : ∃ q, p ⟨n, o, c⟩ = q := ⟨_, rfl⟩
        rw [hq] at hcall
        cases q with
        | true =>
          have HR : Hid (ifRight ⟨L, M, nx, bz⟩ (firstZ p L) = (k : Int)) := Lib.hid (HO.out.trans (firstZ_here HA.out HX.out hq))
          clear hq
          go_wp2_with (go_at_fn g; refine hcall.mono ?_; rintro e w' ⟨rfl, hb'⟩)
          go_ret
          have h5 := DB.out.below.trans (HV.out.mono DB.out.below.size)
          have h6 := h5.trans (HBW.out.mono h5.size)
          exact ⟨ret_int HR.out.symm, h6.trans (hb'.mono h6.size)⟩
        | false =>
          have HR : Hid (k + 1 ≤ firstN p L) := Lib.hid (first_step HA.out HX.out hq)
          clear hq
          go_wp2_with (go_at_fn g; refine hcall.mono ?_; rintro e w' ⟨rfl, hb'⟩)
          go_roundw
          case rel => exact ⟨k + 1, by omega, by go_num, HR, Lib.hid (HBW.out.trans (hb'.mono HBW.out.size))⟩
          case measure => simp [intOf]; omega
      · have HR : Hid (ifRight ⟨L, M, nx, bz⟩ (firstZ p L) = -1) := Lib.hid (HO.out.trans (firstZ_none HA.out (by rw [HLN.out]; omega)))
        go_wp2
        go_ret
        exact ⟨ret_int HR.out.symm, DR.out.below⟩
/-- A number in a box of its own. -/
theorem cell_new (w : World) (v : Value) (t : TypeId) : (w.alloc (.cells #[v] t)).cell? ⟨w.heap.size, 0, none⟩ = some v := cell_of_row _ w.heap.size 0 _ t (0, 0) (heap_alloc_new w _)
/-- A desk in its box, another box behind it. -/
theorem DBox.two {w : World} {da wa : Option Addr} {dl dc wl wc : Nat} {nx : Int} {bz : Bool} {L : List DefD} {M : List WaitD} (hd : DefRow w da dl dc L) (ht : WaitRow w wa wl wc M) (o : Obj) : DBox w ((w.alloc (deskB da dl dc wa wl wc nx bz)).alloc o) w.heap.size da dl dc wa wl wc nx bz L M := (DBox.start hd ht).keep (below_desk _ o)
set_option maxHeartbeats 1000000 in
set_option maxRecDepth 100000 in
theorem named_any (da : Option Addr) (dl dc : Nat) (wa : Option Addr) (wl wc : Nat) (nx : Int) (bz : Bool) (L : List DefD) (M : List WaitD) (s : ByteArray) (w : World) (hd : DefRow w da dl dc L) (ht : WaitRow w wa wl wc M) :
    Calls Try.prog 8 #[deskV da dl dc wa wl wc nx bz, .string s] w fun e w' => e = .returned (.int .i64 (ifRight ⟨L, M, nx, bz⟩ (namedZ L s.toList))) ∧ Below w.heap.size w w' := by
  have eg : ∀ args w, (callFunc 26 args).run Try.prog w = .ok (.enter 26 args) w := enters_of Try.func26 (by kernel_rfl) rfl
  have DX := Lib.hid (DBox.two (nx := nx) (bz := bz) hd ht (.cells #[.string s] 9))
  have HC := Lib.hid (cell_new (w.alloc (deskB da dl dc wa wl wc nx bz)) (.string s) 9)
  have PL := Lib.hid (place_any 26 #[.pointer (some ⟨(w.alloc (deskB da dl dc wa wl wc nx bz)).heap.size, 0, none⟩)] (isName s.toList) eg da dl dc wa wl wc nx bz L M _ DX.out.d DX.out.t (pred_named s _ _ (by simp) HC.out))
  obtain ⟨q, hq⟩ : ∃ q, ifRight ⟨L, M, nx, bz⟩ (firstZ (isName s.toList) L) = q := ⟨_, rfl⟩
  have hq2 : ifRight ⟨L, M, nx, bz⟩ (namedZ L s.toList) = q := hq
  rw [hq] at PL
  rw [hq2]
  clear hq hq2 eg hd ht HC
  have z0 := DX.out.c0
  have z1 := DX.out.c1
  have z2 := DX.out.c2
  have z3 := DX.out.c3
  have hsz : (w.alloc (deskB da dl dc wa wl wc nx bz)).heap.size = w.heap.size + 1 := by simp
  rw [hsz] at PL
  go_enter Try.func8, Try.ntmps8
  go_wp2_with (go_at_call 23; (with_reducible refine PL.out.mono ?_); rintro e w5 ⟨rfl, hb⟩)
  go_ret
  exact ⟨rfl, DX.out.below.trans (hb.mono DX.out.below.size)⟩
end Go.Proofs.Ytioeagadhnnajaa
