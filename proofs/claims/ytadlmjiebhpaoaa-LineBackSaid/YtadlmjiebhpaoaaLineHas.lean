/- Package line's has, Right and Idle. -/
import Derived.Test.YtadlmjiebhpaoaaLineRow
import Derived.Test.YtadlmjiebhpaoaaForestRefs
import Derived.Deep.QuietTactic
import Derived.BigQuiet
import Derived.Deep.CutBlock
import Derived.Shelf.Abstract
namespace Go.Proofs.Ytadlmjiebhpaoaa
open Go.RowKit
theorem below_one (w : World) (B : Obj) : Below w.heap.size w (w.alloc B) := (Below.refl _ _).alloc (Nat.le_refl _) B
theorem retB {a b : Bool} (h : a = b) : Ending.returned (.bool a) = .returned (.bool b) := by rw [h]
/-- A line by value, in its box. -/
structure LBox (W : World) (g : Nat) (v : LnV) : Prop where
  h : W.heap[g]? = some v.obj
  lt : g < W.heap.size
  c0 : W.cell? ⟨g, 0, none⟩ = some (.slice v.ta v.tl v.tc)
  c1 : W.cell? ⟨g, 1, none⟩ = some (.slice v.sa v.sl v.sc)
  c2 : W.cell? ⟨g, 2, none⟩ = some (.slice v.ba v.bl v.bc)
  c3 : W.cell? ⟨g, 3, none⟩ = some (.bool v.bz)
  f : ∀ j, W.frozen? ⟨g, j, none⟩ = false
theorem LBox.of {W : World} {g : Nat} {v : LnV} (h : W.heap[g]? = some v.obj) : LBox W g v :=
  ⟨h, (Array.getElem?_eq_some_iff.1 h).1, cell_of_row W g 0 _ 26 (0, 0) h, cell_of_row W g 1 _ 26 (0, 0) h, cell_of_row W g 2 _ 26 (0, 0) h, cell_of_row W g 3 _ 26 (0, 0) h, fun j => by simp [World.frozen?, h]⟩
theorem LBox.new (W : World) (v : LnV) : LBox (W.alloc v.obj) W.heap.size v := .of (heap_alloc_new W _)
theorem LBox.keep {W V : World} {g : Nat} {v : LnV} (h : LBox W g v) (hb : Below W.heap.size W V) : LBox V g v := .of ((hb.block g h.lt).trans h.h)
theorem LBox.stay {W V : World} {g : Nat} {v : LnV} (h : LBox W g v) {r : Option Nat} (hg : W.grownBy V r) (hr : some g ≠ r) : LBox V g v := .of ((hg.block g h.lt hr).trans h.h)
theorem all_step {α : Type} {L : List α} {p : α → Bool} {k : Nat} {x : α} (h : ∀ (j : Nat) y, j < k → L[j]? = some y → p y = true) (hx : L[k]? = some x) (hp : p x = true) : ∀ (j : Nat) y, j < k + 1 → L[j]? = some y → p y = true := by
  intro j y hj hy
  by_cases e : j = k
  · subst e
    rw [hx] at hy
    obtain rfl := Option.some.inj hy
    exact hp
  · exact h j y (by omega) hy
theorem all_done {α : Type} {L : List α} {p : α → Bool} {k : Nat} (h : ∀ (j : Nat) y, j < k → L[j]? = some y → p y = true) (hk : L.length ≤ k) : L.all p = true := by
  rw [List.all_eq_true]
  intro x hx
  obtain ⟨j, hj⟩ := List.getElem?_of_mem hx
  exact h j x (Nat.lt_of_lt_of_le (List.getElem?_eq_some_iff.1 hj).1 hk) hj
theorem all_not {α : Type} {L : List α} {p : α → Bool} {k : Nat} {x : α} (hx : L[k]? = some x) (hp : p x = false) : L.all p = false := by
  cases h : L.all p with
  | false => rfl
  | true =>
    rw [List.all_eq_true] at h
    rw [h x (List.mem_of_getElem? hx)] at hp
    cases hp
theorem inB_no1 {m : Nat} {z : Int} (h : z < 0) : inB m z = false := by unfold inB; rw [decide_eq_false (by omega)]; rfl
theorem inB_no2 {m : Nat} {z : Int} (h : (m : Int) ≤ z) : inB m z = false := by unfold inB; rw [decide_eq_false (by omega : ¬ z < (m : Int)), Bool.and_false]
set_option maxHeartbeats 2000000 in
theorem has11_any (v : LnV) (a : Option Addr) (len cap : Nat) (L : List Int) (w : World) (ht : LineAt w v) (hi0 : IntRow w a len cap L) :
    Calls Try.prog 32 #[v.val, .slice a len cap] w fun e w' => e = .returned (.bool (L.all (inB v.tl))) ∧ Below w.heap.size w w' := by
  have hi := hi0.below (below_one w v.obj)
  have HL := Lib.hid hi0.hlen
  have h64 := hi0.len64
  have t64 := ht.t.len64
  clear hi0 ht
  go_enter Try.func32, Try.ntmps32
  go_wp2
  go_loop [9] (fun i => ∃ k : Nat, k ≤ len ∧ i = .int .i64 k ∧ Hid (∀ (j : Nat) z, j < k → L[j]? = some z → inB v.tl z = true)) (fun i => len - (intOf i).toNat)
  case atStart => exact ⟨0, Nat.zero_le _, rfl, Lib.hid (fun j _ hj => absurd hj (by omega))⟩
  case round =>
    obtain ⟨k, hk, rfl, HA⟩ := hrel
    by_cases hlt : k < len
    · obtain ⟨b, off, z, rfl, hb, hz, hc, hin⟩ := hi.get hlt
      have HZ := Lib.hid hz
      have i1 := hin.1
      have i2 := hin.2
      clear hz hin
      by_cases q1 : z < 0
      · have HR : Hid (L.all (inB v.tl) = false) := Lib.hid (all_not HZ.out (inB_no1 q1))
        go_wp2
        go_ret
        exact ⟨retB HR.out.symm, below_one _ _⟩
      by_cases q2 : (v.tl : Int) ≤ z
      · have HR : Hid (L.all (inB v.tl) = false) := Lib.hid (all_not HZ.out (inB_no2 q2))
        go_wp2
        go_ret
        exact ⟨retB HR.out.symm, below_one _ _⟩
      have HG := Lib.hid (all_step HA.out HZ.out (inB_iff.2 ⟨by omega, by omega⟩))
      go_wp2
      go_round
      case rel => exact ⟨k + 1, by omega, by go_num, HG⟩
      case measure => simp [intOf]; omega
    · have HR : Hid (L.all (inB v.tl) = true) := Lib.hid (all_done HA.out (by rw [HL.out]; omega))
      go_wp2
      go_ret
      exact ⟨retB HR.out.symm, below_one _ _⟩
set_option maxHeartbeats 2000000 in
theorem right11_any (v : LnV) (w : World) (ht : LineAt w v) :
    Calls Try.prog 15 #[v.val] w fun e w' => e = .returned (.bool (right11 v.dat)) ∧ Below w.heap.size w w' := by
  have HR : Hid (right11 v.dat = (v.S.all (fun x => x.l.all (inB v.tl)) && v.B.all (inB v.tl))) := Lib.hid (by
    unfold right11 LnV.dat
    dsimp only
    rw [ht.t.dlen]
    unfold datL
    rw [List.all_map]
    rfl)
  obtain ⟨R, hRe⟩ : ∃ R, right11 v.dat = R := ⟨_, rfl⟩
  rw [hRe] at HR ⊢
  clear hRe
  obtain ⟨ta, tl, tc, sa, sl, sc, ba, bl, bc, bz, T, S, B⟩ := v
  dsimp only at HR
  have h1 := Lib.hid (ht.below (below_one w (lineB ta tl tc sa sl sc ba bl bc bz)))
  have B1 := Lib.hid (LBox.new w ⟨ta, tl, tc, sa, sl, sc, ba, bl, bc, bz, T, S, B⟩)
  have HBW := Lib.hid (below_one w (lineB ta tl tc sa sl sc ba bl bc bz))
  have HS : Hid (S.length = sl) := Lib.hid ht.s.hlen
  have s64 : sl ≤ 9223372036854775807 := ht.s.len64
  clear ht
  have HH : Hid (∀ (a : Option Addr) (len cap : Nat) (L : List Int) (V : World) (q : Bool), LineAt V ⟨ta, tl, tc, sa, sl, sc, ba, bl, bc, bz, T, S, B⟩ → IntRow V a len cap L → L.all (inB tl) = q → Calls Try.prog 32 #[lineV ta tl tc sa sl sc ba bl bc bz, .slice a len cap] V fun e w' => e = .returned (.bool q) ∧ Below V.heap.size V w') := Lib.hid (fun a len cap L V q h1 h2 hq => by rw [← hq]; exact has11_any ⟨ta, tl, tc, sa, sl, sc, ba, bl, bc, bz, T, S, B⟩ a len cap L V h1 h2)
  go_enter Try.func15, Try.ntmps15
  go_upto_region 1 with fail
  obtain ⟨W, hW⟩ : ∃ W, w.alloc (lineB ta tl tc sa sl sc ba bl bc bz) = W := ⟨_, rfl⟩
  rw [hW] at h1 B1 HBW ⊢
  clear hW
  have z0 : W.cell? ⟨w.heap.size, 0, none⟩ = some (.slice ta tl tc) := B1.out.c0
  have z1 : W.cell? ⟨w.heap.size, 1, none⟩ = some (.slice sa sl sc) := B1.out.c1
  have z2 : W.cell? ⟨w.heap.size, 2, none⟩ = some (.slice ba bl bc) := B1.out.c2
  have z3 : W.cell? ⟨w.heap.size, 3, none⟩ = some (.bool bz) := B1.out.c3
  go_wp2
  go_loopw [8] (fun i wr => ∃ k : Nat, k ≤ sl ∧ i = .int .i64 k ∧ Hid (Below W.heap.size W wr) ∧ Hid (∀ (j : Nat) x, j < k → S[j]? = some x → x.l.all (inB tl) = true)) (fun i _ => sl - (intOf i).toNat)
  case atStart => exact ⟨0, Nat.zero_le _, rfl, Lib.hid (Below.refl _ _), Lib.hid (fun j _ hj => absurd hj (by omega))⟩
  case round =>
    obtain ⟨k, hk, rfl, HB, HA⟩ := hrel
    have hr := h1.out.below HB.out
    have B2 := Lib.hid (B1.out.keep HB.out)
    clear z0 z1 z2 z3
    have z0 : wr.cell? ⟨w.heap.size, 0, none⟩ = some (.slice ta tl tc) := B2.out.c0
    have z1 : wr.cell? ⟨w.heap.size, 1, none⟩ = some (.slice sa sl sc) := B2.out.c1
    have z2 : wr.cell? ⟨w.heap.size, 2, none⟩ = some (.slice ba bl bc) := B2.out.c2
    have z3 : wr.cell? ⟨w.heap.size, 3, none⟩ = some (.bool bz) := B2.out.c3
    by_cases hlt : k < sl
    · obtain ⟨b, off, x, ha, hb, hx, hc, hrow⟩ := hr.s.get hlt
      dsimp only at ha hx
      subst ha
      obtain ⟨xa, xn, xc, xl⟩ := x
      dsimp only at hc hrow
      have HX := Lib.hid hx
      have HRW := Lib.hid hrow
      have HLA := Lib.hid hr
      obtain ⟨q, hq⟩ : ∃ q, xl.all (inB tl) = q := ⟨_, rfl⟩
      have HQ := Lib.hid hq
      clear hx hrow hr hq
      cases q with
      | false =>
        have HF : Hid (R = false) := Lib.hid (by rw [HR.out, all_not (p := fun x : Hd Int => x.l.all (inB tl)) HX.out HQ.out]; rfl)
        go_wp2_with (go_at_call 32; (with_reducible refine (HH.out _ _ _ _ _ _ HLA.out HRW.out.int HQ.out).mono ?_); rintro e w5 ⟨rfl, hb5⟩; have HB5 := Lib.hid hb5; clear hb5)
        go_ret
        exact ⟨retB HF.out.symm, HBW.out.trans ((HB.out.trans (HB5.out.mono HB.out.size)).mono HBW.out.size)⟩
      | true =>
        have HG := Lib.hid (all_step HA.out HX.out HQ.out)
        go_wp2_with (go_at_call 32; (with_reducible refine (HH.out _ _ _ _ _ _ HLA.out HRW.out.int HQ.out).mono ?_); rintro e w5 ⟨rfl, hb5⟩; have HB5 := Lib.hid hb5; clear hb5)
        go_roundw
        case rel => exact ⟨k + 1, by omega, by go_num, Lib.hid (HB.out.trans (HB5.out.mono HB.out.size)), HG⟩
        case measure => simp [intOf]; omega
    · have HT : Hid (S.all (fun x => x.l.all (inB tl)) = true) := Lib.hid (all_done HA.out (by rw [HS.out]; omega))
      have HLA := Lib.hid hr
      obtain ⟨q, hq⟩ : ∃ q, B.all (inB tl) = q := ⟨_, rfl⟩
      have HF : Hid (R = q) := Lib.hid (by rw [HR.out, HT.out, hq]; rfl)
      have HQ := Lib.hid hq
      have HIR : Hid (IntRow wr ba bl bc B) := Lib.hid hr.b
      clear hq hr
      go_wp2_with (go_at_call 32; (with_reducible refine (HH.out _ _ _ _ _ _ HLA.out HIR.out HQ.out).mono ?_); rintro e w5 ⟨rfl, hb5⟩; have HB5 := Lib.hid hb5; clear hb5)
      go_ret
      exact ⟨retB HF.out.symm, HBW.out.trans ((HB.out.trans (HB5.out.mono HB.out.size)).mono HBW.out.size)⟩
end Go.Proofs.Ytadlmjiebhpaoaa
