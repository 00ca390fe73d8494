/- Texts joined in build order: AttrRefSame ForestSame Ext ForestAwake ForestHoldsMath ForestHolds ForestSameF ForestNBox NameBytes NameText NameSmall NameFit NameWords NameKinds AttrStand AttrPlaces AttrRightFn ForestFit1. -/
import Derived.Test.YtbgcpgpkhfbijaaGreatDoorChecked
import Derived.Test.YtbgcpgpkhfbijaaGreatDoorK01
import Derived.WalkLawsBesides
import Derived.WalkSmall
import Derived.Lib.Hide
import Derived.Deep.QuietTactic
import Derived.BigQuiet
import Derived.Below
import Derived.WalkKit
import Derived.Lib.Strings
import Derived.Laws.IdiomStrings
import Derived.WideShapes
import Derived.Lib.Slices
import Derived.Lib.Walk
import Derived.Maps.OwnSet
/- instarref02's Same. -/
namespace Go.Proofs.YtbgcpgpkhfbijaaGreatDoor
open Go.RowKit
def sameL (L M : AL) : Bool := decide (L = M)
theorem refsame_any (a a' : Option Addr) (len cap len' cap' : Nat) (L M : AL) (w : World) (h : AttrRow w a len cap L) (h' : AttrRow w a' len' cap' M) :
    Calls Tryz.prog 110 #[.slice a len cap, .slice a' len' cap'] w fun e w' => e = .returned (.bool (sameL L M)) ∧ ∃ n, w' = w.drewN n := by
  have hl := h.len64
  have hl' := h'.len64
  by_cases hll : len = len'
  rotate_left
  · have hr : Hid (sameL L M = false) := Lib.hid (decide_eq_false (fun e => hll (by rw [← h.hlen, ← h'.hlen, e])))
    have e1 : ((len : Int) == (len' : Int)) = false := beq_eq_false_iff_ne.2 (by omega)
    have e2 : ((len : Int) != (len' : Int)) = true := by unfold bne; rw [e1]; rfl
    clear hll
    go_enter Tryz.func110, Tryz.ntmps110
    go_wp2
    go_ret
    exact ⟨ret_bool hr.out.symm, 0, rfl⟩
  subst hll
  have e1 : ((len : Int) == (len : Int)) = true := beq_iff_eq.2 rfl
  have e2 : ((len : Int) != (len : Int)) = false := by unfold bne; rw [e1]; rfl
  go_enter Tryz.func110, Tryz.ntmps110
  go_wp2
  go_loopw [5] (fun i wr => ∃ k n : Nat, k ≤ len ∧ i = .int .i64 k ∧ wr = w.drewN n ∧ Hid (L.take k = M.take k)) (fun i _ => len - (intOf i).toNat)
  case atStart => exact ⟨0, 0, Nat.zero_le _, rfl, rfl, Lib.hid rfl⟩
  case round =>
    obtain ⟨k, n, hk, rfl, rfl, HT⟩ := hrel
    by_cases hlt : k < len
    · obtain ⟨b, off, xn, xv, rfl, hb, hx, hc1, hc2, _, _⟩ := h.get hlt
      obtain ⟨b', off', yn, yv, rfl, hb', hy, hd1, hd2, _, _⟩ := h'.get hlt
      have HX := Lib.hid hx
      have HY := Lib.hid hy
      have hneq := fun W => attr_neq xn xv yn yv W
      have hgd := attr_guard
      clear hx hy
      by_cases he : pairB (xn, xv) (yn, yv) = true
      · have HE := Lib.hid (pairB_eq.1 he)
        go_wp2
        go_quiet (fail)
        go_wp2
        go_roundw
        case rel =>
          refine ⟨k + 1, _, by omega, by go_num, by first | rfl | exact World.drewN_drewN _ _ _, Lib.hid ?_⟩
          obtain ⟨hl1, hg1⟩ := List.getElem?_eq_some_iff.1 HX.out
          obtain ⟨hl2, hg2⟩ := List.getElem?_eq_some_iff.1 HY.out
          rw [List.take_succ_eq_append_getElem hl1, List.take_succ_eq_append_getElem hl2, hg1, hg2, HT.out, HE.out]
        case measure => simp [intOf]; omega
      · have he : pairB (xn, xv) (yn, yv) = false := by simpa using he
        have HR : Hid (sameL L M = false) := Lib.hid (decide_eq_false (fun e => by
          have h1 := HX.out
          rw [e, HY.out] at h1
          have := Option.some.inj h1
          rw [this, pairB_eq.2 rfl] at he
          cases he))
        go_wp2
        go_quiet (fail)
        go_wp2
        go_ret
        exact ⟨ret_bool HR.out.symm, _, by first | rfl | exact World.drewN_drewN _ _ _⟩
    · have HR : Hid (sameL L M = true) := Lib.hid (decide_eq_true (by
        have h1 := HT.out
        rwa [List.take_of_length_le (by have := h.hlen; omega), List.take_of_length_le (by have := h'.hlen; omega)] at h1))
      go_wp2
      go_ret
      exact ⟨ret_bool HR.out.symm, n, rfl⟩
end Go.Proofs.YtbgcpgpkhfbijaaGreatDoor
/- instarref03's One and Same. -/
namespace Go.Proofs.YtbgcpgpkhfbijaaGreatDoor
open Go.RowKit
abbrev nodV (x : NodeD) : Value := .agg #[.int .i64 x.core.kind, .string x.core.name, .string x.core.is, .string x.core.data, .slice x.aA x.aN x.aC, .int .i64 x.core.parent, .slice x.kA x.kN x.kC, .int .i64 x.core.host, .int .i64 x.core.under, .int .i64 x.core.doc]
theorem ba_ne {a b : ByteArray} (h : (a.toList == b.toList) = true) : a = b := toList_inj (beq_iff_eq.1 h)
set_option maxHeartbeats 8000000 in
set_option maxRecDepth 100000 in
theorem refone_any (x y : NodeD) (w : World) (hx : NodeOk w x) (hy : NodeOk w y) :
    Calls Tryz.prog 53 #[nodV x, nodV y] w fun e w' => e = .returned (.bool (decide (x.core = y.core))) ∧ Below w.heap.size w w' := by
  have BX : Hid (∀ B C, Below w.heap.size w ((w.alloc B).alloc C)) := Lib.hid (fun B C => (below_box w B).alloc (by simp) C)
  have S1 : Hid (∀ B C, Calls Tryz.prog 110 #[.slice x.aA x.aN x.aC, .slice y.aA y.aN y.aC] ((w.alloc B).alloc C) fun e w' => e = .returned (.bool (decide (x.core.attrs = y.core.attrs))) ∧ ∃ n, w' = ((w.alloc B).alloc C).drewN n) := Lib.hid (fun B C => refsame_any _ _ _ _ _ _ _ _ _ (hx.attrs.below (BX.out B C)) (hy.attrs.below (BX.out B C)))
  have S2 : Hid (∀ B C n, Calls Tryz.prog 38 #[.slice x.kA x.kN x.kC, .slice y.kA y.kN y.kC] (((w.alloc B).alloc C).drewN n) fun e w' => e = .returned (.bool (decide (x.core.kids = y.core.kids))) ∧ ∃ n, Below w.heap.size w w' ∧ ((w.alloc B).alloc C).drewN n = w') := Lib.hid (fun B C n =>
    (refints_any _ _ _ _ _ _ _ _ _ ((hx.kids.below (BX.out B C)).drewN n) ((hy.kids.below (BX.out B C)).drewN n)).mono fun e w' ⟨he, m, hw⟩ => ⟨he, n + m, by rw [hw]; exact below_drewN (below_drewN (BX.out B C) n) m, by rw [hw, World.drewN_drewN]⟩)
  clear hx hy
  obtain ⟨⟨k1, n1, i1, d1, A1, p1, K1, h1, u1, o1⟩, aA, aN, aC, kA, kN, kC⟩ := x
  obtain ⟨⟨k2, n2, i2, d2, A2, p2, K2, h2, u2, o2⟩, bA, bN, bC, lA, lN, lC⟩ := y
  dsimp only at S1 S2 ⊢
  obtain ⟨r, hr⟩ : ∃ r, decide ((⟨k1, n1, i1, d1, A1, p1, K1, h1, u1, o1⟩ : Core) = ⟨k2, n2, i2, d2, A2, p2, K2, h2, u2, o2⟩) = r := ⟨_, rfl⟩
  rw [hr]
  have HR : Hid (r = (k1 == k2 && n1.toList == n2.toList && i1.toList == i2.toList && d1.toList == d2.toList && decide (A1 = A2) && p1 == p2 && decide (K1 = K2) && h1 == h2 && u1 == u2 && o1 == o2)) := Lib.hid (by
    rw [← hr, Bool.eq_iff_iff, decide_eq_true_eq, Core.mk.injEq]
    simp only [Bool.and_eq_true, beq_iff_eq, decide_eq_true_eq]
    constructor
    · rintro ⟨rfl, rfl, rfl, rfl, rfl, rfl, rfl, rfl, rfl, rfl⟩
      simp
    · rintro ⟨⟨⟨⟨⟨⟨⟨⟨⟨e1, e2⟩, e3⟩, e4⟩, e5⟩, e6⟩, e7⟩, e8⟩, e9⟩, e10⟩
      exact ⟨e1, toList_inj e2, toList_inj e3, toList_inj e4, e5, e6, e7, e8, e9, e10⟩)
  clear hr
  obtain ⟨sa, hsa⟩ : ∃ z, decide (A1 = A2) = z := ⟨_, rfl⟩
  obtain ⟨sk, hsk⟩ : ∃ z, decide (K1 = K2) = z := ⟨_, rfl⟩
  rw [hsa] at S1 HR
  rw [hsk] at S2 HR
  clear hsa hsk
  cases ek : (k1 == k2)
  · have HZ : Hid (r = false) := Lib.hid (by rw [HR.out, ek]; simp)
    clear HR
    go_enter Tryz.func53, Tryz.ntmps53
    go_wp2_with (first
      | (go_at_call 110; refine (S1.out _ _).mono ?_; rintro e w' ⟨rfl, m, rfl⟩)
      | (go_at_call 38; refine (S2.out _ _ _).mono ?_; rintro e w' ⟨rfl, m, hb, rfl⟩; clear hb))
    go_ret
    exact ⟨ret_bool HZ.out.symm, by first | exact BX.out _ _ | exact below_drewN (BX.out _ _) _⟩
  cases en : (n1.toList == n2.toList)
  · have HZ : Hid (r = false) := Lib.hid (by rw [HR.out, ek, en]; simp)
    clear HR
    go_enter Tryz.func53, Tryz.ntmps53
    go_wp2_with (first
      | (go_at_call 110; refine (S1.out _ _).mono ?_; rintro e w' ⟨rfl, m, rfl⟩)
      | (go_at_call 38; refine (S2.out _ _ _).mono ?_; rintro e w' ⟨rfl, m, hb, rfl⟩; clear hb))
    go_ret
    exact ⟨ret_bool HZ.out.symm, by first | exact BX.out _ _ | exact below_drewN (BX.out _ _) _⟩
  cases ei : (i1.toList == i2.toList)
  · have HZ : Hid (r = false) := Lib.hid (by rw [HR.out, ek, en, ei]; simp)
    clear HR
    go_enter Tryz.func53, Tryz.ntmps53
    go_wp2_with (first
      | (go_at_call 110; refine (S1.out _ _).mono ?_; rintro e w' ⟨rfl, m, rfl⟩)
      | (go_at_call 38; refine (S2.out _ _ _).mono ?_; rintro e w' ⟨rfl, m, hb, rfl⟩; clear hb))
    go_ret
    exact ⟨ret_bool HZ.out.symm, by first | exact BX.out _ _ | exact below_drewN (BX.out _ _) _⟩
  cases ed : (d1.toList == d2.toList)
  · have HZ : Hid (r = false) := Lib.hid (by rw [HR.out, ek, en, ei, ed]; simp)
    clear HR
    go_enter Tryz.func53, Tryz.ntmps53
    go_wp2_with (first
      | (go_at_call 110; refine (S1.out _ _).mono ?_; rintro e w' ⟨rfl, m, rfl⟩)
      | (go_at_call 38; refine (S2.out _ _ _).mono ?_; rintro e w' ⟨rfl, m, hb, rfl⟩; clear hb))
    go_ret
    exact ⟨ret_bool HZ.out.symm, by first | exact BX.out _ _ | exact below_drewN (BX.out _ _) _⟩
  cases sa
  · have HZ : Hid (r = false) := Lib.hid (by rw [HR.out, ek, en, ei, ed]; simp)
    clear HR
    go_enter Tryz.func53, Tryz.ntmps53
    go_wp2_with (first
      | (go_at_call 110; refine (S1.out _ _).mono ?_; rintro e w' ⟨rfl, m, rfl⟩)
      | (go_at_call 38; refine (S2.out _ _ _).mono ?_; rintro e w' ⟨rfl, m, hb, rfl⟩; clear hb))
    go_ret
    exact ⟨ret_bool HZ.out.symm, by first | exact BX.out _ _ | exact below_drewN (BX.out _ _) _⟩
  cases ep : (p1 == p2)
  · have HZ : Hid (r = false) := Lib.hid (by rw [HR.out, ek, en, ei, ed, ep]; simp)
    clear HR
    go_enter Tryz.func53, Tryz.ntmps53
    go_wp2_with (first
      | (go_at_call 110; refine (S1.out _ _).mono ?_; rintro e w' ⟨rfl, m, rfl⟩)
      | (go_at_call 38; refine (S2.out _ _ _).mono ?_; rintro e w' ⟨rfl, m, hb, rfl⟩; clear hb))
    go_ret
    exact ⟨ret_bool HZ.out.symm, by first | exact BX.out _ _ | exact below_drewN (BX.out _ _) _⟩
  cases sk
  · have HZ : Hid (r = false) := Lib.hid (by rw [HR.out, ek, en, ei, ed, ep]; simp)
    clear HR
    go_enter Tryz.func53, Tryz.ntmps53
    go_wp2_with (first
      | (go_at_call 110; refine (S1.out _ _).mono ?_; rintro e w' ⟨rfl, m, rfl⟩)
      | (go_at_call 38; refine (S2.out _ _ _).mono ?_; rintro e w' ⟨rfl, m, hb, rfl⟩; clear hb))
    go_ret
    exact ⟨ret_bool HZ.out.symm, by first | exact BX.out _ _ | exact below_drewN (BX.out _ _) _⟩
  cases eh : (h1 == h2)
  · have HZ : Hid (r = false) := Lib.hid (by rw [HR.out, ek, en, ei, ed, ep, eh]; simp)
    clear HR
    go_enter Tryz.func53, Tryz.ntmps53
    go_wp2_with (first
      | (go_at_call 110; refine (S1.out _ _).mono ?_; rintro e w' ⟨rfl, m, rfl⟩)
      | (go_at_call 38; refine (S2.out _ _ _).mono ?_; rintro e w' ⟨rfl, m, hb, rfl⟩; clear hb))
    go_ret
    exact ⟨ret_bool HZ.out.symm, by first | exact BX.out _ _ | exact below_drewN (BX.out _ _) _⟩
  cases eu : (u1 == u2)
  · have HZ : Hid (r = false) := Lib.hid (by rw [HR.out, ek, en, ei, ed, ep, eh, eu]; simp)
    clear HR
    go_enter Tryz.func53, Tryz.ntmps53
    go_wp2_with (first
      | (go_at_call 110; refine (S1.out _ _).mono ?_; rintro e w' ⟨rfl, m, rfl⟩)
      | (go_at_call 38; refine (S2.out _ _ _).mono ?_; rintro e w' ⟨rfl, m, hb, rfl⟩; clear hb))
    go_ret
    exact ⟨ret_bool HZ.out.symm, by first | exact BX.out _ _ | exact below_drewN (BX.out _ _) _⟩
  cases eo : (o1 == o2)
  · have HZ : Hid (r = false) := Lib.hid (by rw [HR.out, ek, en, ei, ed, ep, eh, eu, eo]; simp)
    clear HR
    go_enter Tryz.func53, Tryz.ntmps53
    go_wp2_with (first
      | (go_at_call 110; refine (S1.out _ _).mono ?_; rintro e w' ⟨rfl, m, rfl⟩)
      | (go_at_call 38; refine (S2.out _ _ _).mono ?_; rintro e w' ⟨rfl, m, hb, rfl⟩; clear hb))
    go_ret
    exact ⟨ret_bool HZ.out.symm, by first | exact BX.out _ _ | exact below_drewN (BX.out _ _) _⟩
  have HZ : Hid (r = true) := Lib.hid (by rw [HR.out, ek, en, ei, ed, ep, eh, eu, eo]; rfl)
  clear HR
  go_enter Tryz.func53, Tryz.ntmps53
  go_wp2_with (first
    | (go_at_call 110; refine (S1.out _ _).mono ?_; rintro e w' ⟨rfl, m, rfl⟩)
    | (go_at_call 38; refine (S2.out _ _ _).mono ?_; rintro e w' ⟨rfl, m, hb, rfl⟩; clear hb))
  go_ret
  exact ⟨ret_bool HZ.out.symm, by first | exact BX.out _ _ | exact below_drewN (BX.out _ _) _⟩
end Go.Proofs.YtbgcpgpkhfbijaaGreatDoor
/- A region that draws its order, whose operations read old memory and whose callees may make new memory: one walk of the text's order serves every order. The class of worlds: all that leave what lay below as it was. -/
namespace Go.Proofs.YtbgcpgpkhfbijaaGreatDoor
open Go.RowKit
/-- A later world, below which all is as it was. -/
structure Ext (w : World) where
  v : World
  below : Below w.heap.size w v
instance extNonempty (w : World) : Nonempty (Ext w) := ⟨⟨w, Below.refl _ _⟩⟩
theorem Ext.cell {w : World} {p : Addr} {v : Option Value} (h : w.cell? p = v) (hp : p.block < w.heap.size) : ∀ x : Ext w, x.v.cell? p = v := fun x => (x.below.cell hp).trans h
theorem Ext.call_same {P : Program} {f : FuncId} {args : Array Value} {w : World} {x : Ext w} {v : Value}
    (h : Calls P f args x.v fun e w' => e = .returned v ∧ x.v = w') : Calls P f args x.v fun e w'' => e = .returned v ∧ ∃ y : Ext w, w'' = y.v :=
  h.mono fun _ _ ⟨he, hm⟩ => ⟨he, x, hm.symm⟩
theorem Ext.call_below {P : Program} {f : FuncId} {args : Array Value} {w : World} {x : Ext w} {v : Value}
    (h : Calls P f args x.v fun e w' => e = .returned v ∧ Below x.v.heap.size x.v w') : Calls P f args x.v fun e w'' => e = .returned v ∧ ∃ y : Ext w, w'' = y.v :=
  h.mono fun _ w' ⟨he, hm⟩ => ⟨he, ⟨w', x.below.trans (hm.mono x.below.size)⟩, rfl⟩
theorem Ext.call_drew {P : Program} {f : FuncId} {args : Array Value} {w : World} {x : Ext w} {v : Value}
    (h : Calls P f args x.v fun e w' => e = .returned v ∧ ∃ n, w' = x.v.drewN n) : Calls P f args x.v fun e w'' => e = .returned v ∧ ∃ y : Ext w, w'' = y.v :=
  h.mono fun _ w' ⟨he, n, hm⟩ => ⟨he, ⟨w', by rw [hm]; exact below_drewN x.below n⟩, rfl⟩
theorem wp_region_ext {P : Program} {id : Nat} {Q : Exit → Act → World → Prop} {a : Act} {w : World} {l : List Oper} (hm : P.follows .mixedOrders = true) (hB : Region.lexB .any l.toArray = true)
    (h : wpQuiet P l.toArray (fun w' => ∃ x : Ext w, w' = x.v) (fun a' => ∀ w', (∃ x : Ext w, w' = x.v) → Q .normal a' w') l a) : (Code.region id l.toArray true).wp P Q a w :=
  wp_region_quiet (C := fun w' => ∃ x : Ext w, w' = x.v) hm hB ⟨⟨_, (Below.refl _ _).drew⟩, rfl⟩ (by simpa using h)
end Go.Proofs.YtbgcpgpkhfbijaaGreatDoor
/- The fixed answers that stage 3's laws begin with are right. -/
namespace Go.Proofs.YtbgcpgpkhfbijaaGreatDoor
open Go.RowKit
def pC (b : UInt8) : Core := ⟨1, ⟨#[b]⟩, ⟨#[]⟩, ⟨#[]⟩, [], 0, [], 0, 0, 0⟩
def pD (b : UInt8) : NodeD := ⟨pC b, none, 0, 0, none, 0, 0⟩
def f2 : List Core := [docC, ⟨1, ⟨#[112]⟩, ⟨#[]⟩, ⟨#[]⟩, [], -1, [], -1, -1, 0⟩]
theorem fa1 : newL 5 = [docC] ∧ newM 5 = 5 ∧ newE 5 = 0 := by decide +kernel
theorem fa2 : makeE 5 [docC] (pC 112) = 0 ∧ makeN 5 [docC] (pC 112) = 1 ∧ makeL 5 [docC] (pC 112) = f2 := by decide +kernel
theorem fa3 : makeE 5 f2 (pC 80) = 1 ∧ makeN 5 f2 (pC 80) = -1 ∧ makeL 5 f2 (pC 80) = f2 := by decide +kernel
theorem fa4 : rightF 5 f2 = true ∧ ordZ 5 f2 1 = [1] ∧ rootZ 5 f2 1 = 1 ∧ holdsZ 5 f2 1 1 = true ∧ holdsZ 5 f2 0 1 = false ∧ placeZ 5 f2 1 = -1 ∧ aheadZ 5 f2 0 1 = false := by decide +kernel
theorem pD_ok (w : World) (b : UInt8) : NodeOk w (pD b) := by
  refine ⟨⟨SRow.nil, (fun z hz => by cases hz), fun _ => rfl⟩, ⟨SRow.nil, (fun z hz => by cases hz), fun _ => rfl⟩, ?_, ?_, ?_, ?_, ?_, ?_, ?_, ?_⟩
  · show 1 ≤ maxLen; decide
  · show 0 ≤ maxLen; decide
  · show 0 ≤ maxLen; decide
  · exact ⟨by show (_ : Int) ≤ 1; decide, by show (1 : Int) ≤ _; decide⟩
  all_goals exact ⟨by show (_ : Int) ≤ 0; decide, by show (0 : Int) ≤ _; decide⟩
theorem pD_small (b : UInt8) : smallX (pD b) := ⟨Nat.zero_le _, by show 1 ≤ 1000; decide⟩
theorem small2 {L : List NodeD} (h : coreL L = f2) : smallF L := by
  unfold coreL f2 at h
  have hl : L.length = 2 := by
    have := congrArg List.length h
    simpa using this
  refine ⟨by omega, fun x hx => ?_⟩
  have hm : x.core ∈ L.map (·.core) := List.mem_map.2 ⟨x, hx, rfl⟩
  rw [h] at hm
  simp at hm
  rcases hm with e | e <;> (unfold smallN; rw [e]; exact ⟨by decide, by decide, by decide⟩)
theorem small1 {L : List NodeD} (h : coreL L = [docC]) : smallF L := by
  unfold coreL at h
  have hl : L.length = 1 := by
    have := congrArg List.length h
    simpa using this
  refine ⟨by omega, fun x hx => ?_⟩
  have hm : x.core ∈ L.map (·.core) := List.mem_map.2 ⟨x, hx, rfl⟩
  rw [h] at hm
  simp at hm
  unfold smallN
  rw [hm]
  exact ⟨by decide, by decide, by decide⟩
abbrev pV (b : UInt8) : Value := .agg #[.int .i64 1, .string ⟨#[b]⟩, .string ⟨#[]⟩, .string ⟨#[]⟩, .slice none 0 0, .int .i64 0, .slice none 0 0, .int .i64 0, .int .i64 0, .int .i64 0]
theorem in5 : In64 5 := ⟨by decide, by decide⟩
theorem in1 : In64 1 := ⟨by decide, by decide⟩
theorem in0 : In64 0 := ⟨by decide, by decide⟩
theorem row_free {w : World} {g : Nat} {cs : Array Value} {t : TypeId} (h : w.heap[g]? = some (.cells cs t (0, 0))) (j : Nat) : w.frozen? ⟨g, j, none⟩ = false := by simp [World.frozen?, h]
/-- No text lies in a forest's box. -/
theorem box_notext {w1 w2 : World} {a : Option Addr} {len cap : Nat} {m : Int} {j : Nat} {s : ByteArray} (hb : Below (w1.alloc (forB a len cap m)).heap.size (w1.alloc (forB a len cap m)) w2) : w2.cell? ⟨w1.heap.size, j, none⟩ ≠ some (.string s) := by
  rw [hb.cell (p := ⟨w1.heap.size, j, none⟩) (by simp), cell_of_row (w1.alloc (forB a len cap m)) w1.heap.size j _ 24 (0, 0) (heap_alloc_new w1 _)]
  match j with
  | 0 => simp
  | 1 => simp
  | j + 2 => simp
/-- A forest whose nodes have no children and no attributes keeps, when a box is written in which it doesn't lie. -/
theorem NodeRow.setBox {w : World} {a : Option Addr} {len cap : Nat} {L : List NodeD} {g o : Nat} (h : NodeRow w a len cap L) (hno : ∀ j s, w.cell? ⟨g, j, none⟩ ≠ some (.string s)) (hk : ∀ x ∈ L, x.core.kids = [] ∧ x.core.attrs = []) (u : Value) : NodeRow (w.setCell ⟨g, o, none⟩ u) a len cap L := by
  have hs : w.heap.size ≤ (w.setCell ⟨g, o, none⟩ u).heap.size := by simp [World.setCell]
  refine ⟨h.row.keep hs (fun b off ha hpos o' => ?_), fun x hx => ?_, h.hnil⟩
  · obtain ⟨b', off', x, ha', _, _, hat, _⟩ := h.get hpos
    rw [ha] at ha'
    injection ha' with ha'
    injection ha' with e1 e2
    subst e1
    refine World.cell?_setCell_other _ _ _ _ (fun e => ?_)
    injection e with e _
    have := hat.c1
    rw [← e] at this
    exact hno _ _ this
  · have hx2 := h.ok x hx
    have h1 := hk x hx
    have k0 : x.kN = 0 := by rw [← hx2.kids.hlen, h1.1]; rfl
    have a0 : x.aN = 0 := by rw [← hx2.attrs.hlen, h1.2]; rfl
    exact ⟨⟨hx2.attrs.row.keep hs (fun _ _ _ hp _ => by omega), hx2.attrs.small, hx2.attrs.hnil⟩, ⟨hx2.kids.row.keep hs (fun _ _ _ hp _ => by omega), hx2.kids.inb, hx2.kids.hnil⟩, hx2.name, hx2.is, hx2.data, hx2.kind, hx2.parent, hx2.host, hx2.under, hx2.doc⟩
theorem bare2 {L : List NodeD} (h : coreL L = f2) : ∀ x ∈ L, x.core.kids = [] ∧ x.core.attrs = [] := fun x hx => by
  have hm : x.core ∈ coreL L := List.mem_map.2 ⟨x, hx, rfl⟩
  rw [h] at hm
  unfold f2 docC at hm
  simp at hm
  rcases hm with e | e <;> rw [e] <;> exact ⟨rfl, rfl⟩
theorem notext_set {w : World} {g o : Nat} {u v : Value} (h : ∀ j s, w.cell? ⟨g, j, none⟩ ≠ some (.string s)) (hc : w.cell? ⟨g, o, none⟩ = some v) (hu : ∀ s, u ≠ .string s) : ∀ j s, (w.setCell ⟨g, o, none⟩ u).cell? ⟨g, j, none⟩ ≠ some (.string s) := fun j s e => by
  by_cases hj : o = j
  · subst hj
    rw [World.cell?_setCell_same _ _ _ hc] at e
    injection e with e
    exact hu s e
  · rw [World.cell?_setCell_other _ _ _ _ (fun e2 => by injection e2 with _ e2; exact hj e2)] at e
    exact h j s e
/-- A forest in a box of the call's own, and its rows. -/
structure Box (w W : World) (g : Nat) (a : Option Addr) (len cap : Nat) (m : Int) (L : List NodeD) (F : List Core) : Prop where
  row : NodeRow W a len cap L
  core : coreL L = F
  low : w.heap.size ≤ g
  lt : g < W.heap.size
  c0 : W.cell? ⟨g, 0, none⟩ = some (.slice a len cap)
  c1 : W.cell? ⟨g, 1, none⟩ = some (.int .i64 m)
  below : Below w.heap.size w W
theorem Box.keep {w W W2 : World} {g : Nat} {a : Option Addr} {len cap : Nat} {m : Int} {L : List NodeD} {F : List Core} (h : Box w W g a len cap m L F) (hb : Below W.heap.size W W2) : Box w W2 g a len cap m L F :=
  ⟨h.row.below hb, h.core, h.low, Nat.lt_of_lt_of_le h.lt hb.size, (hb.cell (p := ⟨g, 0, none⟩) h.lt).trans h.c0, (hb.cell (p := ⟨g, 1, none⟩) h.lt).trans h.c1, h.below.trans (hb.mono h.below.size)⟩
end Go.Proofs.YtbgcpgpkhfbijaaGreatDoor
/- What the law ForestHolds asks, over data: facts of forests that are right. Plain mathematics, no program. -/
namespace Go.Proofs.YtbgcpgpkhfbijaaGreatDoor
open Go.RowKit
theorem thereF_of {m : Int} {F : List Core} (h : rightF m F = true) {n : Nat} (hn : n < F.length) : thereF m F (n : Int) = true := by
  unfold thereF
  rw [h, decide_eq_true (by omega), decide_eq_true (by omega)]
  rfl
theorem holdsZ_iff {m : Int} {F : List Core} (h : rightF m F = true) {a b : Nat} (ha : a < F.length) (hb : b < F.length) : holdsZ m F (a : Int) (b : Int) = true ↔ holdsT (parF F) a b := by
  unfold holdsZ
  rw [thereF_of h ha, thereF_of h hb, Bool.true_and, Bool.true_and]
  unfold holdsF ordF
  rw [decide_eq_true_iff]
  exact (tree_of_right h).mem_ord _ _ ha (by omega) _ hb
theorem rootZ_eq {m : Int} {F : List Core} (h : rightF m F = true) {a : Nat} (ha : a < F.length) : rootZ m F (a : Int) = (rootF F a : Nat) := by
  unfold rootZ
  rw [thereF_of h ha]
  rfl
theorem rootF_lt {m : Int} {F : List Core} (h : rightF m F = true) {a : Nat} (ha : a < F.length) : rootF F a < F.length := (tree_of_right h).root_lt ha
theorem right_len {m : Int} {F : List Core} (h : rightF m F = true) : 0 < F.length := by
  have := ((rightF_iff m F).1 h).1.2.2.2
  cases F with
  | nil => unfold headDoc at this; cases this
  | cons _ _ => simp
theorem right_most {m : Int} {F : List Core} (h : rightF m F = true) : 1 ≤ m ∧ m ≤ 400 ∧ (F.length : Int) ≤ m := by
  have := ((rightF_iff m F).1 h).1
  exact ⟨this.1, this.2.1, this.2.2.1⟩
/-- A child stands among its parent's children. -/
theorem find_at {L : List Int} {n : Int} (h : n ∈ L) : ∃ k : Nat, findZ L n = (k : Int) ∧ L[k]? = some n := by
  have hl : findN L n < L.length := List.findIdx_lt_length_of_exists ⟨n, h, by simp⟩
  refine ⟨findN L n, ?_, ?_⟩
  · unfold findZ
    rw [if_pos hl]
  · have := List.findIdx_getElem (w := hl)
    rw [List.getElem?_eq_getElem hl]
    congr 1
    exact beq_iff_eq.1 this
/-- What is asked of three nodes. -/
structure HoldsFacts (m : Int) (F : List Core) (x y z : Nat) (c : Core) : Prop where
  self : holdsZ m F x x = true
  trans : holdsZ m F x y = true → holdsZ m F y z = true → holdsZ m F x z = true
  anti : x ≠ y → holdsZ m F x y = true → holdsZ m F y x = false
  root : holdsZ m F x y = true → rootZ m F x = rootZ m F y
  top : rootZ m F (rootZ m F x) = rootZ m F x
  held : holdsZ m F (rootZ m F x) x = true
  alone : c.parent = -1 → placeZ m F x = -1 ∧ rootZ m F x = x
  child : c.parent ≠ -1 → ∃ (p : Nat) (pc : Core) (k : Nat), c.parent = p ∧ F[p]? = some pc ∧ placeZ m F x = k ∧ pc.kids[k]? = some (x : Int) ∧ holdsZ m F p x = true
theorem holds_facts {m : Int} {F : List Core} (h : rightF m F = true) {x y z : Nat} {c : Core} (hx : x < F.length) (hy : y < F.length) (hz : z < F.length) (hc : F[x]? = some c) : HoldsFacts m F x y z c := by
  have T := tree_of_right h
  have hr := rootF_lt h hx
  refine ⟨?_, fun h1 h2 => ?_, fun hne h1 => ?_, fun h1 => ?_, ?_, ?_, fun hp => ?_, fun hp => ?_⟩
  · exact (holdsZ_iff h hx hx).2 (holds_refl x)
  · exact (holdsZ_iff h hx hz).2 (holds_trans ((holdsZ_iff h hx hy).1 h1) ((holdsZ_iff h hy hz).1 h2))
  · cases h2 : holdsZ m F y x with
    | false => rfl
    | true => exact absurd (T.holds_anti hx hy ((holdsZ_iff h hx hy).1 h1) ((holdsZ_iff h hy hx).1 h2)) hne
  · rw [rootZ_eq h hx, rootZ_eq h hy]
    unfold rootF
    rw [T.root_held hy (Nat.le_refl _) ((holdsZ_iff h hx hy).1 h1)]
  · rw [rootZ_eq h hx, rootZ_eq h hr]
    unfold rootF
    rw [T.root_root hx (Nat.le_refl _)]
  · rw [rootZ_eq h hx]
    exact (holdsZ_iff h hr hx).2 (rootN_holds _ _)
  · have hn : parF F x = none := by unfold parF; rw [hc]; dsimp only; rw [if_pos hp]
    refine ⟨?_, ?_⟩
    · unfold placeZ placeF
      rw [thereF_of h hx, if_pos rfl, Int.toNat_natCast, hn]
    · rw [rootZ_eq h hx]
      unfold rootF
      rw [rootN_none hn]
  · have hs : parF F x = some c.parent.toNat := by unfold parF; rw [hc]; dsimp only; rw [if_neg hp]
    obtain ⟨hlt, hk⟩ := T.par_kid _ _ hx hs
    obtain ⟨pc, hpc⟩ : ∃ pc, F[c.parent.toNat]? = some pc := ⟨_, List.getElem?_eq_getElem hlt⟩
    have hpos : 0 ≤ c.parent := by
      have g := ((rightF_iff m F).1 h).2.1 x c hc
      unfold nodeOk at g
      simp only [Bool.and_eq_true] at g
      have g := g.1.1.1.1.1.2
      unfold parOk at g
      rw [beq_eq_false_iff_ne.2 hp, Bool.false_or, Bool.and_eq_true] at g
      cases hg : getC F c.parent with
      | none => rw [hg] at g; simp at g
      | some p => exact (getC_some hg).1
    have hm : (x : Int) ∈ pc.kids := by
      unfold kidsF at hk
      rw [hpc] at hk
      obtain ⟨w, hw, e⟩ := List.mem_map.1 hk
      have g := ((rightF_iff m F).1 h).2.1 _ pc hpc
      unfold nodeOk at g
      simp only [Bool.and_eq_true, List.all_eq_true] at g
      have g := g.1.1.1.1.2 w hw
      unfold kidOk at g
      cases hg : getC F w with
      | none => rw [hg] at g; simp at g
      | some p =>
        have := (getC_some hg).1
        have e2 : w = (x : Int) := by omega
        rwa [← e2]
    obtain ⟨k, hk1, hk2⟩ := find_at hm
    refine ⟨c.parent.toNat, pc, k, by omega, hpc, ?_, hk2, (holdsZ_iff h hlt hx).2 (holds_par hs)⟩
    unfold placeZ placeF
    rw [thereF_of h hx, if_pos rfl]
    simp only [Int.toNat_natCast, hs, hpc]
    exact hk1
end Go.Proofs.YtbgcpgpkhfbijaaGreatDoor
/- The walk of the law ForestHolds, over the contracts of package forest. -/
namespace Go.Proofs.YtbgcpgpkhfbijaaGreatDoor
open Go.RowKit
theorem Box.start {w : World} {a : Option Addr} {len cap : Nat} {m : Int} {L : List NodeD} (h : NodeRow w a len cap L) : Box w (w.alloc (forB a len cap m)) w.heap.size a len cap m L (coreL L) :=
  ⟨h.below (below_box _ _), rfl, Nat.le_refl _, by simp, cell_of_row (w.alloc (forB a len cap m)) w.heap.size 0 _ 24 (0, 0) (heap_alloc_new w _), cell_of_row (w.alloc (forB a len cap m)) w.heap.size 1 _ 24 (0, 0) (heap_alloc_new w _), below_box _ _⟩
end Go.Proofs.YtbgcpgpkhfbijaaGreatDoor
/- instarref03's Same, over forests. -/
namespace Go.Proofs.YtbgcpgpkhfbijaaGreatDoor
open Go.RowKit
/-- The second argument's box. -/
theorem Box.next {w : World} {B : Obj} {a : Option Addr} {len cap : Nat} {m : Int} {L : List NodeD} (h : NodeRow w a len cap L) : Box w ((w.alloc B).alloc (forB a len cap m)) (w.heap.size + 1) a len cap m L (coreL L) := by
  have hs : (w.alloc B).heap.size = w.heap.size + 1 := by simp
  have h1 := Box.start (w := w.alloc B) (m := m) (h.below (below_box w B))
  refine ⟨h1.row, rfl, by omega, by simp, ?_, ?_, (below_box w B).alloc (by simp) _⟩
  · have := h1.c0
    rwa [hs] at this
  · have := h1.c1
    rwa [hs] at this
set_option maxHeartbeats 8000000 in
set_option maxRecDepth 100000 in
theorem refsameF_any (a b : Option Addr) (la ca lb cb : Nat) (m n : Int) (L M : List NodeD) (w : World) (hL : NodeRow w a la ca L) (hM : NodeRow w b lb cb M) :
    Calls Tryz.prog 31 #[forV a la ca m, forV b lb cb n] w fun e w' => e = .returned (.bool (decide (m = n) && decide (coreL L = coreL M))) ∧ Below w.heap.size w w' := by
  have BA := Lib.hid ((Box.start (m := m) hL).keep (below_box _ (forB b lb cb n)))
  have BB := Lib.hid (Box.next (B := forB a la ca m) (m := n) hM)
  have hla := hL.len64
  have hlb := hM.len64
  have HLL := Lib.hid hL.hlen
  have HML := Lib.hid hM.hlen
  clear hL hM
  have z0 := BA.out.c0
  have z1 := BA.out.c1
  have y0 := BB.out.c0
  have y1 := BB.out.c1
  by_cases hm : m = n
  rotate_left
  · rw [decide_eq_false hm]
    have e1 : (m != n) = true := bne_iff_ne.2 hm
    have e2 : (m == n) = false := beq_eq_false_iff_ne.2 hm
    go_enter Tryz.func31, Tryz.ntmps31
    go_wp2
    go_ret
    exact ⟨rfl, BA.out.below⟩
  subst hm
  have R0 : ∀ X : Bool, (decide (m = m) && X) = X := fun X => by rw [decide_eq_true rfl, Bool.true_and]
  rw [R0]
  clear R0
  have e1 : (m != m) = false := by simp
  by_cases hn : (la : Int) = lb
  rotate_left
  · have HR : Hid (decide (coreL L = coreL M) = false) := Lib.hid (decide_eq_false (fun e => hn (by
      have := congrArg List.length e
      unfold coreL at this
      rw [List.length_map, List.length_map, HLL.out, HML.out] at this
      rw [this])))
    have e2 : ((la : Int) != lb) = true := bne_iff_ne.2 hn
    have e3 : ((la : Int) == lb) = false := beq_eq_false_iff_ne.2 hn
    go_enter Tryz.func31, Tryz.ntmps31
    go_wp2
    go_ret
    exact ⟨ret_bool HR.out.symm, BA.out.below⟩
  obtain rfl : la = lb := Int.ofNat.inj hn
  clear hn
  have e2 : ((la : Int) != la) = false := by simp
  have GO : Hid (∀ W x y, NodeOk W x → NodeOk W y → Calls Tryz.prog 53 #[nodV x, nodV y] W fun e w' => e = .returned (.bool (decide (x.core = y.core))) ∧ Below W.heap.size W w') := Lib.hid (fun W x y h1 h2 => refone_any x y W h1 h2)
  go_enter Tryz.func31, Tryz.ntmps31
  go_wp2
  go_loopw [5] (fun i wr => ∃ k : Nat, k ≤ la ∧ i = .int .i64 k ∧ Hid (Box w wr w.heap.size a la ca m L (coreL L)) ∧ Hid (Box w wr (w.heap.size + 1) b la cb m M (coreL M)) ∧ Hid ((coreL L).take k = (coreL M).take k)) (fun i _ => la - (intOf i).toNat)
  case atStart => exact ⟨0, Nat.zero_le _, rfl, BA, BB, Lib.hid rfl⟩
  case round =>
    clear BA BB z0 z1 y0 y1
    obtain ⟨k, hk, rfl, BA, BB, HT⟩ := hrel
    have z0 := BA.out.c0
    have z1 := BA.out.c1
    have y0 := BB.out.c0
    have y1 := BB.out.c1
    by_cases hlt : k < la
    · obtain ⟨ba, oa, nx, rfl, hba, hgx, hatx, hokx⟩ := BA.out.row.get hlt
      obtain ⟨bb, ob, ny, rfl, hbb, hgy, haty, hoky⟩ := BB.out.row.get hlt
      have GX := Lib.hid hgx
      have GY := Lib.hid hgy
      have OX := Lib.hid hokx
      have OY := Lib.hid hoky
      obtain ⟨x0, x1, x2, x3, x4, x5, x6, x7, x8, x9⟩ := hatx
      obtain ⟨v0, v1, v2, v3, v4, v5, v6, v7, v8, v9⟩ := haty
      clear hgx hgy hokx hoky
      have E0 := Ext.cell z0 BA.out.lt
      have E1 := Ext.cell y0 BB.out.lt
      have EX0 := Ext.cell x0 hba
      have EY0 := Ext.cell v0 hbb
      have EX1 := Ext.cell x1 hba
      have EY1 := Ext.cell v1 hbb
      have EX2 := Ext.cell x2 hba
      have EY2 := Ext.cell v2 hbb
      have EX3 := Ext.cell x3 hba
      have EY3 := Ext.cell v3 hbb
      have EX4 := Ext.cell x4 hba
      have EY4 := Ext.cell v4 hbb
      have EX5 := Ext.cell x5 hba
      have EY5 := Ext.cell v5 hbb
      have EX6 := Ext.cell x6 hba
      have EY6 := Ext.cell v6 hbb
      have EX7 := Ext.cell x7 hba
      have EY7 := Ext.cell v7 hbb
      have EX8 := Ext.cell x8 hba
      have EY8 := Ext.cell v8 hbb
      have EX9 := Ext.cell x9 hba
      have EY9 := Ext.cell v9 hbb
      clear x0 x1 x2 x3 x4 x5 x6 x7 x8 x9 v0 v1 v2 v3 v4 v5 v6 v7 v8 v9
      have NX : Hid ((coreL L)[k]? = some nx.core) := Lib.hid (by unfold coreL; rw [List.getElem?_map, GX.out]; rfl)
      have NY : Hid ((coreL M)[k]? = some ny.core) := Lib.hid (by unfold coreL; rw [List.getElem?_map, GY.out]; rfl)
      cases hc : decide (nx.core = ny.core) with
      | false =>
        have EO : Hid (∀ x : Ext wr, Calls Tryz.prog 53 #[nodV nx, nodV ny] x.v fun e w' => e = .returned (.bool false) ∧ Below x.v.heap.size x.v w') := Lib.hid (fun x => by
          have := GO.out x.v nx ny (OX.out.below x.below) (OY.out.below x.below)
          rwa [hc] at this)
        have HR : Hid (decide (coreL L = coreL M) = false) := Lib.hid (decide_eq_false (fun e => by
          have h1 := NX.out
          rw [e, NY.out] at h1
          injection h1 with h1
          exact of_decide_eq_false hc h1.symm))
        clear hc
        go_wp2
        refine wp_region_ext (by kernel_rfl) (by kernel_rfl) ?_
        repeat (go_big_quiet_step ((go_at_call 53; exact Ext.call_below (EO.out _))))
        refine wpQuiet_nil ?_
        intro w' hw'
        obtain ⟨⟨w2, hb2⟩, hw''⟩ := hw'
        dsimp only at hw''
        subst hw''
        have BA := Lib.hid (BA.out.keep hb2)
        clear E0 E1
        go_wp2
        go_ret
        exact ⟨ret_bool HR.out.symm, BA.out.below⟩
      | true =>
        have EO : Hid (∀ x : Ext wr, Calls Tryz.prog 53 #[nodV nx, nodV ny] x.v fun e w' => e = .returned (.bool true) ∧ Below x.v.heap.size x.v w') := Lib.hid (fun x => by
          have := GO.out x.v nx ny (OX.out.below x.below) (OY.out.below x.below)
          rwa [hc] at this)
        have HT2 : Hid ((coreL L).take (k + 1) = (coreL M).take (k + 1)) := Lib.hid (by
          rw [List.take_add_one, List.take_add_one, HT.out, NX.out, NY.out, of_decide_eq_true hc])
        clear hc
        go_wp2
        refine wp_region_ext (by kernel_rfl) (by kernel_rfl) ?_
        repeat (go_big_quiet_step ((go_at_call 53; exact Ext.call_below (EO.out _))))
        refine wpQuiet_nil ?_
        intro w' hw'
        obtain ⟨⟨w2, hb2⟩, hw''⟩ := hw'
        dsimp only at hw''
        subst hw''
        have BA := Lib.hid (BA.out.keep hb2)
        have BB := Lib.hid (BB.out.keep hb2)
        clear E0 E1
        go_wp2
        go_roundw
        case rel => exact ⟨k + 1, hlt, by go_num, BA, BB, HT2⟩
        case measure => simp [intOf]; omega
    · have HR : Hid (decide (coreL L = coreL M) = true) := Lib.hid (decide_eq_true (by
        have h1 : (coreL L).length ≤ k := by unfold coreL; rw [List.length_map, HLL.out]; omega
        have h2 : (coreL M).length ≤ k := by unfold coreL; rw [List.length_map, HML.out]; omega
        have h3 := HT.out
        rwa [List.take_of_length_le h1, List.take_of_length_le h2] at h3))
      go_wp2
      go_ret
      exact ⟨ret_bool HR.out.symm, BA.out.below⟩
end Go.Proofs.YtbgcpgpkhfbijaaGreatDoor
/- A node in a box of the call's own. -/
namespace Go.Proofs.YtbgcpgpkhfbijaaGreatDoor
open Go.RowKit
/-- A node in a box of the call's own. -/
structure NBox (w W : World) (g : Nat) (x : NodeD) : Prop where
  lt : g < W.heap.size
  c0 : W.cell? ⟨g, 0, none⟩ = some (.int .i64 x.core.kind)
  c1 : W.cell? ⟨g, 1, none⟩ = some (.string x.core.name)
  c2 : W.cell? ⟨g, 2, none⟩ = some (.string x.core.is)
  c3 : W.cell? ⟨g, 3, none⟩ = some (.string x.core.data)
  c4 : W.cell? ⟨g, 4, none⟩ = some (.slice x.aA x.aN x.aC)
  c5 : W.cell? ⟨g, 5, none⟩ = some (.int .i64 x.core.parent)
  c6 : W.cell? ⟨g, 6, none⟩ = some (.slice x.kA x.kN x.kC)
  c7 : W.cell? ⟨g, 7, none⟩ = some (.int .i64 x.core.host)
  c8 : W.cell? ⟨g, 8, none⟩ = some (.int .i64 x.core.under)
  c9 : W.cell? ⟨g, 9, none⟩ = some (.int .i64 x.core.doc)
  ok : NodeOk W x
theorem NBox.keep {w W W2 : World} {g : Nat} {x : NodeD} (h : NBox w W g x) (hb : Below W.heap.size W W2) : NBox w W2 g x := by
  have e : ∀ o, W2.cell? ⟨g, o, none⟩ = W.cell? ⟨g, o, none⟩ := fun o => hb.cell (p := ⟨g, o, none⟩) h.lt
  exact ⟨Nat.lt_of_lt_of_le h.lt hb.size, (e _).trans h.c0, (e _).trans h.c1, (e _).trans h.c2, (e _).trans h.c3, (e _).trans h.c4, (e _).trans h.c5, (e _).trans h.c6, (e _).trans h.c7, (e _).trans h.c8, (e _).trans h.c9, h.ok.below hb⟩
abbrev nodB (x : NodeD) : Obj := .cells #[.int .i64 x.core.kind, .string x.core.name, .string x.core.is, .string x.core.data, .slice x.aA x.aN x.aC, .int .i64 x.core.parent, .slice x.kA x.kN x.kC, .int .i64 x.core.host, .int .i64 x.core.under, .int .i64 x.core.doc] 53
theorem NBox.next {w : World} {B : Obj} {x : NodeD} (h : NodeOk w x) : NBox w ((w.alloc B).alloc (nodB x)) (w.heap.size + 1) x := by
  have hs : (w.alloc B).heap.size = w.heap.size + 1 := by simp
  have c : ∀ (j : Nat), ((w.alloc B).alloc (nodB x)).cell? ⟨w.heap.size + 1, j, none⟩ = (#[.int .i64 x.core.kind, .string x.core.name, .string x.core.is, .string x.core.data, .slice x.aA x.aN x.aC, .int .i64 x.core.parent, .slice x.kA x.kN x.kC, .int .i64 x.core.host, .int .i64 x.core.under, .int .i64 x.core.doc] : Array Value)[j]? := fun j => by
    have := cell_of_row ((w.alloc B).alloc (nodB x)) (w.alloc B).heap.size j _ 53 (0, 0) (heap_alloc_new _ _)
    rwa [hs] at this
  exact ⟨by simp, c 0, c 1, c 2, c 3, c 4, c 5, c 6, c 7, c 8, c 9, h.below ((below_box w B).alloc (by simp) _)⟩
end Go.Proofs.YtbgcpgpkhfbijaaGreatDoor
/- The byte tests of package name, as the Go text has them, answer what NamePure says. -/
namespace Go.Proofs.YtbgcpgpkhfbijaaGreatDoor
open Go.RowKit
theorem isSmall_any (n : Int) (w : World) : Calls Tryz.prog 174 #[.int .u8 n] w fun e w' => e = .returned (.bool (lowI n)) ∧ w = w' := by
  go_enter Tryz.func174, Tryz.ntmps174
  go_wp2
  all_goals (go_ret; exact ⟨ret_bool (by unfold lowI; rw [Bool.eq_iff_iff]; simp <;> omega), rfl⟩)
theorem isCapital_any (n : Int) (w : World) : Calls Tryz.prog 159 #[.int .u8 n] w fun e w' => e = .returned (.bool (capI n)) ∧ w = w' := by
  go_enter Tryz.func159, Tryz.ntmps159
  go_wp2
  all_goals (go_ret; exact ⟨ret_bool (by unfold capI; rw [Bool.eq_iff_iff]; simp <;> omega), rfl⟩)
theorem isSign_any (n : Int) (w : World) : Calls Tryz.prog 161 #[.int .u8 n] w fun e w' => e = .returned (.bool (signI n)) ∧ w = w' := by
  go_enter Tryz.func161, Tryz.ntmps161
  go_wp2
  all_goals (go_ret; exact ⟨ret_bool (by unfold signI alphI lowI capI digI; rw [Bool.eq_iff_iff]; simp <;> omega), rfl⟩)
theorem mayBegin_any (n : Int) (w : World) : Calls Tryz.prog 160 #[.int .u8 n] w fun e w' => e = .returned (.bool (headI n)) ∧ w = w' := by
  go_enter Tryz.func160, Tryz.ntmps160
  go_wp2
  all_goals (go_ret; exact ⟨ret_bool (by unfold headI alphI lowI capI; rw [Bool.eq_iff_iff]; simp <;> omega), rfl⟩)
end Go.Proofs.YtbgcpgpkhfbijaaGreatDoor
/- Right answers what NamePure says, for every string that fits into memory. -/
namespace Go.Proofs.YtbgcpgpkhfbijaaGreatDoor
open Go.RowKit
set_option maxHeartbeats 1000000 in
theorem right_any (s : ByteArray) (w : World) (hs : s.size ≤ maxLen) :
    Calls Tryz.prog 136 #[.string s] w fun e w' => e = .returned (.bool (rightL s.toList)) ∧ w = w' := by
  unfold maxLen at hs
  have hlen := tl_len s
  by_cases h0 : s.size < 1
  · have H := Lib.hid (rightL_ends s.toList (by omega))
    clear hlen
    go_enter Tryz.func136, Tryz.ntmps136
    go_wp2
    go_ret
    exact ⟨ret_bool H.out.symm, rfl⟩
  by_cases h1 : 40 < s.size
  · have H := Lib.hid (rightL_ends s.toList (by omega))
    clear hlen
    go_enter Tryz.func136, Tryz.ntmps136
    go_wp2
    go_ret
    exact ⟨ret_bool H.out.symm, rfl⟩
  have hp : 0 < s.size := by omega
  have hg0 := tl_get s 0 hp
  by_cases hh : headB (s[0]'hp) = true
  · have HL := Lib.hid hlen
    have HG := Lib.hid hg0
    have hh' : headI ((s[0]'hp).toNat : Int) = true := hh
    have HH := Lib.hid hh
    have HS := Lib.hid (sign_of_head _ hh)
    clear hlen hg0 hh
    go_enter Tryz.func136, Tryz.ntmps136
    go_wp2_with (go_at_call 160; refine (mayBegin_any _ _).mono ?_; rintro e w' ⟨rfl, rfl⟩)
    go_loop [3] (fun i => ∃ k : Nat, 1 ≤ k ∧ k ≤ s.size ∧ i = .int .i64 k ∧ Hid ((s.toList.take k).all signB = true)) (fun i => s.size - (intOf i).toNat)
    case atStart =>
      refine ⟨1, by omega, by omega, rfl, ?_⟩
      have := all_take_succ s.toList 0 _ HG.out rfl
      exact Lib.hid (this.trans HS.out)
    case round =>
      obtain ⟨k, hk1, hk2, rfl, HA⟩ := hrel
      by_cases hlt : k < s.size
      · have HK := Lib.hid (tl_get s k hlt)
        go_wp2_with (go_at_call 161; refine (isSign_any _ _).mono ?_; rintro e w' ⟨rfl, rfl⟩)
        · have hb : signI (s[k].toNat : Int) = false := by first | assumption | (simpa using ‹(!signI (s[k].toNat : Int)) = true›)
          go_ret
          exact ⟨ret_bool (rightL_stop _ k _ HK.out hb).symm, rfl⟩
        · have hb : signI (s[k].toNat : Int) = true := by first | assumption | (simpa using ‹(!signI (s[k].toNat : Int)) = false›)
          go_round
          case rel => exact ⟨k + 1, by omega, by omega, by go_num, Lib.hid ((all_take_succ _ k _ HK.out HA.out).trans hb)⟩
          case measure => simp [intOf]; omega
      · go_wp2
        go_ret
        refine ⟨ret_bool ?_, rfl⟩
        have e : k = s.toList.length := by rw [HL.out]; omega
        have h2 := HA.out
        rw [e] at h2
        exact (rightL_full s.toList _ (by rw [HL.out]; omega) (by rw [HL.out]; omega) HG.out HH.out h2).symm
  · have hh2 : headB (s[0]'hp) = false := by simpa using hh
    have hh' : headI ((s[0]'hp).toNat : Int) = false := hh2
    have HR := Lib.hid (rightL_head _ _ hg0 hh2)
    clear hlen hg0 hh hh2
    go_enter Tryz.func136, Tryz.ntmps136
    go_wp2_with (go_at_call 160; refine (mayBegin_any _ _).mono ?_; rintro e w' ⟨rfl, rfl⟩)
    go_ret
    exact ⟨ret_bool HR.out.symm, rfl⟩
end Go.Proofs.YtbgcpgpkhfbijaaGreatDoor
/- Small answers the list of bytes with A to Z made small, and turns nothing that was there. -/
namespace Go.Proofs.YtbgcpgpkhfbijaaGreatDoor
open Go.RowKit
theorem bytes_made (s : ByteArray) (w : World) : ∃ (cap : Nat) (C : Array Value) (mk : Nat × Nat),
    (convert 9 54 (.string s)).run Tryz.prog w = .ok (.slice (some ⟨w.heap.size, 0, none⟩) s.size cap) (w.drew.alloc (.cells C 5 mk)) ∧
    (∀ j (h : j < s.size), (w.alloc (.cells C 5 mk)).cell? ⟨w.heap.size, j, none⟩ = some (.int .u8 (s[j].toNat : Int))) ∧
    ∀ j, j < s.size → (w.alloc (.cells C 5 mk)).frozen? ⟨w.heap.size, j, none⟩ = false := by
  refine ⟨_, _, _, run_bytes_of_string w 9 54 5 s Tryz.underlying9 Tryz.underlying54 Tryz.underlying5, ?_, ?_⟩
  · intro j h
    rw [World.cell?_alloc_mark]
    exact bytesRow_at s _ j h
  · intro j h
    rw [World.frozen?_alloc_mark]
    have : s.size ≤ (bytesRow s (grownCap w s.size 0 5)).size := by
      simp [bytesRow]
    simp
    omega

structure SmallRow (s : ByteArray) (w wr : World) (k : Nat) : Prop where
  cells : ∀ j (h : j < s.size), wr.cell? ⟨w.heap.size, j, none⟩ = some (.int .u8 ((if j < k then smallB s[j] else s[j]).toNat : Int))
  free : ∀ j, j < s.size → wr.frozen? ⟨w.heap.size, j, none⟩ = false
  below : Below w.heap.size w wr

theorem SmallRow.keep {s : ByteArray} {w wr : World} {k : Nat} (h : SmallRow s w wr k) (hk : k < s.size) (hc : capI (s[k].toNat : Int) = false) : SmallRow s w wr (k + 1) := by
  refine ⟨fun j hj => ?_, h.free, h.below⟩
  rw [h.cells j hj]
  by_cases e : j = k
  · subst e
    rw [if_neg (by omega), if_pos (by omega)]
    unfold smallB
    rw [hc]
    rfl
  · by_cases e2 : j < k
    · rw [if_pos e2, if_pos (by omega)]
    · rw [if_neg e2, if_neg (by omega)]

theorem SmallRow.store {s : ByteArray} {w wr : World} {k : Nat} (h : SmallRow s w wr k) (hk : k < s.size) :
    SmallRow s w (wr.setCell ⟨w.heap.size, k, none⟩ (.int .u8 ((smallB s[k]).toNat : Int))) (k + 1) := by
  refine ⟨fun j hj => ?_, fun j hj => ?_, h.below.setCell (Nat.le_refl _) _⟩
  · by_cases e : j = k
    · subst e
      rw [World.cell?_setCell_same _ _ _ (h.cells j hj), if_pos (by omega)]
    · rw [World.cell?_setCell_other _ _ _ _ (by intro h; injection h; omega), h.cells j hj]
      by_cases e2 : j < k
      · rw [if_pos e2, if_pos (by omega)]
      · rw [if_neg e2, if_neg (by omega)]
  · rw [World.frozen?_setCell]
    exact h.free j hj

theorem smallL_len (l : List UInt8) : (smallL l).length = l.length := by simp [smallL]
theorem smallB_cap (c : UInt8) (h : capI (c.toNat : Int) = true) : ((smallB c).toNat : Int) = (c.toNat : Int) + 32 := by
  have hb := of_decide_eq_true h
  unfold smallB
  rw [h]
  simp [UInt8.toNat_add]
  omega

theorem SmallRow.back {s : ByteArray} {w wr : World} {k : Nat} (h : SmallRow s w wr k) (hk : k = s.size) (cap : Nat) :
    (convert 54 9 (.slice (some ⟨w.heap.size, 0, none⟩) s.size cap)).run Tryz.prog wr = .ok (.string (ofL (smallL s.toList))) wr := by
  have hl : (smallL s.toList).length = s.size := by rw [smallL_len, tl_len]
  have := run_convert_bytes_back (P := Tryz.prog) wr 54 9 5 ⟨w.heap.size, 0, none⟩ cap (smallL s.toList) Tryz.underlying54 Tryz.underlying5 Tryz.underlying9 (fun j hj => by
    have hj' : j < s.size := by omega
    have hg := tl_get s j hj'
    have e : (smallL s.toList)[j] = smallB s[j] := by
      have h1 : (smallL s.toList)[j]? = some (smallB s[j]) := by
        unfold smallL
        rw [List.getElem?_map, hg]
        rfl
      exact (List.getElem?_eq_some_iff.1 h1).2
    have hc := h.cells j hj'
    rw [if_pos (by omega)] at hc
    rw [e]
    have ha : (⟨w.heap.size, 0, none⟩ : Addr).add j = ⟨w.heap.size, j, none⟩ := by rw [Go.WideShapes.add_plain, Nat.zero_add]
    rw [ha]
    exact hc)
  rw [hl] at this
  exact this

set_option maxHeartbeats 2000000 in
set_option maxRecDepth 100000 in
theorem small_any (s : ByteArray) (w : World) (hs : s.size ≤ maxLen) :
    Calls Tryz.prog 135 #[.string s] w fun e w' => e = .returned (.string (ofL (smallL s.toList))) ∧ Below w.heap.size w w' := by
  unfold maxLen at hs
  obtain ⟨cap, C, mk, hconv, hcell, hfree⟩ := bytes_made s w
  have H1 := Lib.hid hcell
  have H2 := Lib.hid hfree
  clear hcell hfree
  go_enter Tryz.func135, Tryz.ntmps135
  go_wp2
  clear hconv
  go_loopw [10] (fun i wr => ∃ k : Nat, k ≤ s.size ∧ i = .int .i64 k ∧ Hid (SmallRow s w wr k)) (fun i _ => s.size - (intOf i).toNat)
  case atStart =>
    refine ⟨0, Nat.zero_le _, rfl, Lib.hid ⟨fun j h => ?_, fun j h => ?_, ((Below.refl _ _).alloc (Nat.le_refl _) _).drew⟩⟩
    · rw [if_neg (by omega)]
      exact H1.out j h
    · exact H2.out j h
  case round =>
    obtain ⟨k, hk, rfl, HR⟩ := hrel
    by_cases hlt : k < s.size
    · have hcell : wr.cell? ⟨w.heap.size, k, none⟩ = some (.int .u8 (s[k].toNat : Int)) := by
        have := HR.out.cells k hlt
        rwa [if_neg (by omega)] at this
      have hfree := HR.out.free k hlt
      by_cases hc : capI (s[k].toNat : Int) = true
      · have hb := of_decide_eq_true hc
        have hb1 : (65 : Int) ≤ (s[k].toNat : Int) := hb.1
        have hb2 : (s[k].toNat : Int) ≤ 90 := hb.2
        have HE := Lib.hid (smallB_cap _ hc)
        clear hb
        go_wp2_with (go_at_call 159; refine (isCapital_any _ _).mono ?_; rintro e w' ⟨rfl, rfl⟩)
        go_roundw
        case rel =>
          refine ⟨k + 1, by omega, by go_num, ?_⟩
          have := HR.out.store hlt
          rw [HE.out] at this
          have e : (s[k].toNat : Int) - 65 + 97 = (s[k].toNat : Int) + 32 := by omega
          first | exact Lib.hid this | (rw [e]; exact Lib.hid this)
        case measure => simp [intOf]; omega
      · have hc' : capI (s[k].toNat : Int) = false := by simpa using hc
        clear hc
        go_wp2_with (go_at_call 159; refine (isCapital_any _ _).mono ?_; rintro e w' ⟨rfl, rfl⟩)
        go_roundw
        case rel => exact ⟨k + 1, by omega, by go_num, Lib.hid (HR.out.keep hlt hc')⟩
        case measure => simp [intOf]; omega
    · have hback := HR.out.back (by omega) cap
      go_wp2
      go_ret
      exact ⟨rfl, HR.out.below⟩
end Go.Proofs.YtbgcpgpkhfbijaaGreatDoor
/- Fit answers what NamePure says. -/
namespace Go.Proofs.YtbgcpgpkhfbijaaGreatDoor
open Go.RowKit
def fitL (l : List UInt8) : List UInt8 := if rightL l then smallL l else []
def fitE (l : List UInt8) : Int := if rightL l then 0 else 4
set_option maxHeartbeats 2000000 in
theorem fit_any (s : ByteArray) (w : World) (hs : s.size ≤ maxLen) :
    Calls Tryz.prog 75 #[.string s] w fun e w' => e = .returned (.tuple #[.string (ofL (fitL s.toList)), .int .i64 (fitE s.toList)]) ∧ Below w.heap.size w w' := by
  have HB : Below w.heap.size w w := Below.refl _ _
  by_cases hr : rightL s.toList = true
  · have e1 := Lib.hid (show fitL s.toList = smallL s.toList by unfold fitL; rw [if_pos hr])
    have e2 := Lib.hid (show fitE s.toList = 0 by unfold fitE; rw [if_pos hr])
    go_enter Tryz.func75, Tryz.ntmps75
    go_wp2_with (first
      | (go_at_call 136; refine (right_any _ _ hs).mono ?_; rintro e w' ⟨rfl, rfl⟩)
      | (go_at_call 135; refine (small_any _ _ hs).mono ?_; rintro e w' ⟨rfl, hb⟩; have HB := HB.trans (hb.mono HB.size); clear hb))
    go_ret2
    exact ⟨by rw [e1.out, e2.out]; rfl, by assumption⟩
  · have hr' : rightL s.toList = false := by simpa using hr
    have e1 := Lib.hid (show fitL s.toList = [] by unfold fitL; rw [if_neg hr])
    have e2 := Lib.hid (show fitE s.toList = 4 by unfold fitE; rw [if_neg hr])
    clear hr
    go_enter Tryz.func75, Tryz.ntmps75
    go_wp2_with (first
      | (go_at_call 136; refine (right_any _ _ hs).mono ?_; rintro e w' ⟨rfl, rfl⟩))
    go_ret2
    exact ⟨by rw [e1.out, e2.out]; rfl, by assumption⟩
end Go.Proofs.YtbgcpgpkhfbijaaGreatDoor
/- Known, isReserved and strings.Contains at "-" answer what NamePure says. -/
namespace Go.Proofs.YtbgcpgpkhfbijaaGreatDoor
open Go.RowKit
set_option maxHeartbeats 1000000 in
set_option maxRecDepth 100000 in
theorem indexByte_any (s : ByteArray) (c : Int) (w : World) :
    Calls Tryz.prog 187 #[.string s, .int .u8 c] w fun e w' => e = .returned (.int .i64 (Lib.indexByte s.data.toList c.toNat.toUInt8)) ∧ w' = w := by
  go_enter Tryz.func187, Tryz.ntmps187
  go_wp2
  rw [run_callFunc_extern Tryz.func191 (by kernel_rfl) (by kernel_rfl) (by kernel_rfl) (e := Extern.BytealgIndexByte.indexByte) (by kernel_rfl), Lib.run_indexByteString]
  simp only [Result.andThen]
  rw [Oper.upon_value]
  go_wp2
  go_ret
  exact ⟨rfl, rfl⟩

theorem has_indexByte (c : UInt8) : ∀ l : List UInt8, l.contains c = decide (0 ≤ Lib.indexByte l c)
  | [] => by simp [Lib.indexByte]
  | b :: l => by
    have ih := has_indexByte c l
    have hg := Lib.indexByte_ge l c
    unfold Lib.indexByte
    rw [List.contains_cons, ih]
    by_cases h : b = c
    · subst h; simp
    · have h1 : (c == b) = false := by simp; exact fun e => h e.symm
      have h2 : (b == c) = false := by simp [h]
      rw [h1, h2]
      by_cases h3 : Lib.indexByte l c = -1
      · simp [h3]
      · have h4 : (Lib.indexByte l c == -1) = false := by simp [h3]
        simp only [h4, Bool.false_or, Bool.false_eq_true, if_false]
        rw [decide_eq_decide]
        omega

set_option maxHeartbeats 2000000 in
set_option maxRecDepth 100000 in
theorem dash_any (s : ByteArray) (w : World) :
    Calls Tryz.prog 175 #[.string s, .string ⟨#[45]⟩] w fun e w' => e = .returned (.bool (dashL s.toList)) ∧ w = w' := by
  go_enter Tryz.func175, Tryz.ntmps175
  go_wp2_with (first | (go_at_call 187; refine (indexByte_any _ _ _).mono ?_; rintro e w' ⟨rfl, rfl⟩) | go_in)
  · have h : ([45] == s.toList) = true := by assumption
    go_ret
    refine ⟨ret_bool ?_, rfl⟩
    have e : s.toList = [45] := (beq_iff_eq.1 h).symm
    rw [e]; rfl
  · go_ret
    refine ⟨ret_bool ?_, rfl⟩
    unfold dashL
    rw [has_indexByte, tl]
    rfl

set_option maxHeartbeats 1000000 in
theorem reserved_any (s : ByteArray) (w : World) :
    Calls Tryz.prog 176 #[.string s] w fun e w' => e = .returned (.bool (reservedL s.toList)) ∧ w = w' := by
  go_enter Tryz.func176, Tryz.ntmps176
  go_wp2
  all_goals (go_ret; exact ⟨ret_bool (by unfold reservedL; simp_all), rfl⟩)

end Go.Proofs.YtbgcpgpkhfbijaaGreatDoor
/- Custom and Kind answer what NamePure says. -/
namespace Go.Proofs.YtbgcpgpkhfbijaaGreatDoor
open Go.RowKit
theorem headD_get (s : ByteArray) (h : 0 < s.size) : s.toList.headD 0 = s[0] := by
  have := tl_get s 0 h
  cases e : s.toList with
  | nil => rw [e] at this; simp at this
  | cons b r => rw [e] at this; simpa using this
theorem rightL_pos (s : ByteArray) (h : rightL s.toList = true) : 0 < s.size := by
  by_cases h0 : 0 < s.size
  · exact h0
  · rw [rightL_ends _ (by rw [tl_len]; omega)] at h
    cases h
theorem customL_no (l : List UInt8) (h : rightL l = false) : customL l = false := by unfold customL; rw [h]; rfl
theorem customL_eq (s : ByteArray) (h : rightL s.toList = true) (hp : 0 < s.size) :
    customL s.toList = ((smallL s.toList == s.toList) && lowI (s[0].toNat : Int) && dashL s.toList && !reservedL s.toList) := by
  unfold customL
  rw [h, headD_get s hp, Bool.true_and]

set_option maxHeartbeats 2000000 in
theorem custom_any (s : ByteArray) (w : World) (hs : s.size ≤ maxLen) :
    Calls Tryz.prog 163 #[.string s] w fun e w' => e = .returned (.bool (customL s.toList)) ∧ Below w.heap.size w w' := by
  have HB : Below w.heap.size w w := Below.refl _ _
  by_cases hr : rightL s.toList = true
  · have hp := rightL_pos s hr
    have HC := Lib.hid (customL_eq s hr hp)
    go_enter Tryz.func163, Tryz.ntmps163
    go_wp2_with (first
      | (go_at_call 136; refine (right_any _ _ hs).mono ?_; rintro e w' ⟨rfl, rfl⟩)
      | (go_at_call 135; refine (small_any _ _ hs).mono ?_; rintro e w' ⟨rfl, hb⟩; have HB := HB.trans (hb.mono HB.size); clear hb)
      | (go_at_call 174; refine (isSmall_any _ _).mono ?_; rintro e w' ⟨rfl, rfl⟩)
      | (go_at_call 175; refine (dash_any _ _).mono ?_; rintro e w' ⟨rfl, rfl⟩)
      | (go_at_call 176; refine (reserved_any _ _).mono ?_; rintro e w' ⟨rfl, rfl⟩))
    all_goals (go_ret; exact ⟨ret_bool (by rw [HC.out]; simp [*]), by assumption⟩)
  · have hr' : rightL s.toList = false := by simpa using hr
    have HC := Lib.hid (customL_no _ hr')
    clear hr
    go_enter Tryz.func163, Tryz.ntmps163
    go_wp2_with (go_at_call 136; refine (right_any _ _ hs).mono ?_; rintro e w' ⟨rfl, rfl⟩)
    go_ret
    exact ⟨ret_bool HC.out.symm, HB⟩

end Go.Proofs.YtbgcpgpkhfbijaaGreatDoor
/- Package attr's mayStand: may an attribute, by itself, stand in a list that is right? -/
namespace Go.Proofs.YtbgcpgpkhfbijaaGreatDoor
open Go.RowKit
def standB (x : ByteArray × ByteArray) : Bool := rightL x.1.toList && (smallL x.1.toList == x.1.toList) && decide (x.2.size ≤ 200)
theorem box2 {w w' : World} {x y : Value} {t : TypeId} (hb : Below (w.alloc (.cells #[x, y] t)).heap.size (w.alloc (.cells #[x, y] t)) w') :
    w'.cell? ⟨w.heap.size, 0, none⟩ = some x ∧ w'.cell? ⟨w.heap.size, 1, none⟩ = some y ∧ Below w.heap.size w w' := by
  refine ⟨?_, ?_, ((Below.refl _ _).alloc (Nat.le_refl _) _).trans (hb.mono (by simp))⟩
  · rw [hb.cell (p := ⟨w.heap.size, 0, none⟩) (by simp), cell_of_row (w.alloc (.cells #[x, y] t)) w.heap.size 0 _ t (0, 0) (heap_alloc_new w _)]
    rfl
  · rw [hb.cell (p := ⟨w.heap.size, 1, none⟩) (by simp), cell_of_row (w.alloc (.cells #[x, y] t)) w.heap.size 1 _ t (0, 0) (heap_alloc_new w _)]
    rfl
set_option maxHeartbeats 2000000 in
theorem stand_any (xn xv : ByteArray) (w : World) (h1 : xn.size ≤ maxLen) (h2 : xv.size ≤ maxLen) :
    Calls Tryz.prog 171 #[.agg #[.string xn, .string xv]] w fun e w' => e = .returned (.bool (standB (xn, xv))) ∧ Below w.heap.size w w' := by
  have hv64 : xv.size ≤ 9223372036854775807 := by unfold maxLen at h2; omega
  have HN := Lib.hid h1
  clear h1 h2
  by_cases hr : rightL xn.toList = true
  rotate_left
  · have hr : rightL xn.toList = false := by simpa using hr
    have HR : Hid (standB (xn, xv) = false) := Lib.hid (by unfold standB; rw [hr]; rfl)
    have e1 : fitE xn.toList = 4 := by unfold fitE; rw [hr]; rfl
    have C1 : Hid (∀ W, Calls Tryz.prog 75 #[.string xn] W fun e w' => e = .returned (.tuple #[.string (ofL (fitL xn.toList)), .int .i64 4]) ∧ Below W.heap.size W w') := Lib.hid (fun W => by
      have := fit_any xn W HN.out
      rwa [e1] at this)
    clear hr e1
    go_enter Tryz.func171, Tryz.ntmps171
    go_wp2_with (first
      | (go_at_call 75; refine (C1.out _).mono ?_; rintro e w' ⟨rfl, hb⟩; obtain ⟨c1, c2, HB⟩ := box2 hb))
    go_ret
    exact ⟨ret_bool HR.out.symm, by assumption⟩
  have e1 : fitE xn.toList = 0 := by unfold fitE; rw [hr]; rfl
  have e2 : fitL xn.toList = smallL xn.toList := by unfold fitL; rw [hr]; rfl
  have C1 : Hid (∀ W, Calls Tryz.prog 75 #[.string xn] W fun e w' => e = .returned (.tuple #[.string (ofL (smallL xn.toList)), .int .i64 0]) ∧ Below W.heap.size W w') := Lib.hid (fun W => by
    have := fit_any xn W HN.out
    rwa [e1, e2] at this)
  have HRT := Lib.hid hr
  clear hr e1 e2
  by_cases hsm : smallL xn.toList = xn.toList
  rotate_left
  · have s1 : (smallL xn.toList == xn.toList) = false := beq_eq_false_iff_ne.2 hsm
    have HR : Hid (standB (xn, xv) = false) := Lib.hid (by unfold standB; rw [s1]; simp)
    clear hsm
    go_enter Tryz.func171, Tryz.ntmps171
    go_wp2_with (first
      | (go_at_call 75; refine (C1.out _).mono ?_; rintro e w' ⟨rfl, hb⟩; obtain ⟨c1, c2, HB⟩ := box2 hb))
    go_ret
    exact ⟨ret_bool HR.out.symm, by assumption⟩
  have s1 : (smallL xn.toList == xn.toList) = true := beq_iff_eq.2 hsm
  have HR : Hid (standB (xn, xv) = decide ((xv.size : Int) ≤ 200)) := Lib.hid (by unfold standB; rw [s1, HRT.out]; simp; omega)
  clear hsm
  go_enter Tryz.func171, Tryz.ntmps171
  go_wp2_with (first
    | (go_at_call 75; refine (C1.out _).mono ?_; rintro e w' ⟨rfl, hb⟩; obtain ⟨c1, c2, HB⟩ := box2 hb))
  go_ret
  exact ⟨ret_bool HR.out.symm, by assumption⟩
end Go.Proofs.YtbgcpgpkhfbijaaGreatDoor
/- Package attr's places: a map from each name to its place, if the list is right. -/
namespace Go.Proofs.YtbgcpgpkhfbijaaGreatDoor
open Go.RowKit Go.Maps Go.WideMaps
theorem isK (l : List UInt8) : WideAt.IsKeyLit (.string l) := trivial
theorem makeMap_len (n : Nat) (w : World) : (Instr.makeMap 173 (some (.int .i64 (n : Int)))).run Tryz.prog w = .ok (.map (some w.heap.size)) (w.alloc (.map #[] 0)) := by
  simp [Instr.makeMap, run_underlying Tryz.underlying173, asInt, newObj, Result.andThen]
  rfl
/-- The map behind k rounds. -/
def plD (L : AL) : Nat → DataW Unit
  | 0 => .map []
  | k + 1 => match L[k]? with
    | some x => (plD L k).put (.string x.1.data.toList) (.lit (.int .i64 k))
    | none => plD L k
theorem plD_succ {L : AL} {k : Nat} {x : ByteArray × ByteArray} (h : L[k]? = some x) : plD L (k + 1) = (plD L k).put (.string x.1.data.toList) (.lit (.int .i64 k)) := by
  show (match L[k]? with | some x => _ | none => _) = _
  rw [h]
theorem plD_tidy (L : AL) : ∀ k, Tidy (plD L k)
  | 0 => tidy_empty
  | k + 1 => by
    show Tidy (match L[k]? with | some x => _ | none => _)
    cases L[k]? with
    | none => exact plD_tidy L k
    | some x => exact (plD_tidy L k).put (isK _) _
theorem str_ne {a b : List UInt8} (h : a ≠ b) : (Lit.string a) ≠ Lit.string b := fun e => h (by injection e)
theorem plD_has {L : AL} (n : List UInt8) : ∀ k, k ≤ L.length → Maps.has (plD L k) (.string n) = decide (atN L n < k)
  | 0, _ => by rw [decide_eq_false (by omega)]; rfl
  | k + 1, hk => by
    have hkl : k < L.length := by omega
    have hx : L[k]? = some (L[k]'hkl) := List.getElem?_eq_getElem hkl
    have ih := plD_has (L := L) n k (by omega)
    rw [plD_succ hx]
    by_cases e : (L[k]'hkl).1.toList = n
    · rw [← e, tl, has_put_same (plD_tidy L k).isMap (isK _)]
      symm
      rw [decide_eq_true_eq]
      rcases Nat.lt_or_ge k (atN L (L[k]'hkl).1.data.toList) with h | h
      · have := atN_here (L := L) (n := (L[k]'hkl).1.data.toList) (Nat.le_of_lt h) hx (show keyIs _ (L[k]'hkl) = true by unfold keyIs; rw [tl]; simp)
        omega
      · omega
    · rw [has_put_other (str_ne (fun h => e (by rw [tl, ← h]))), ih]
      have hf : keyIs n (L[k]'hkl) = false := by unfold keyIs; exact beq_eq_false_iff_ne.2 e
      rcases Nat.lt_or_ge (atN L n) k with h | h
      · rw [decide_eq_true h, decide_eq_true (by omega)]
      · have := atN_step h hx hf
        rw [decide_eq_false (by omega), decide_eq_false (by omega)]
/-- Names ahead of k stand where they are first found. -/
def firstK (L : AL) (k : Nat) : Prop := ∀ (j : Nat) x, j < k → L[j]? = some x → atN L x.1.toList = j
theorem plD_at {L : AL} (n : List UInt8) (z : DataW Unit) : ∀ k, k ≤ L.length → firstK L k → atN L n < k → (plD L k).atKey (.string n) z = .lit (.int .i64 (atN L n))
  | 0, _, _, h => absurd h (by omega)
  | k + 1, hk, hf, h => by
    have hkl : k < L.length := by omega
    have hx : L[k]? = some (L[k]'hkl) := List.getElem?_eq_getElem hkl
    rw [plD_succ hx]
    by_cases e : (L[k]'hkl).1.toList = n
    · have h1 := hf k _ (by omega) hx
      rw [e] at h1
      rw [h1, ← e, tl, atKey_put_same (plD_tidy L k).isMap (isK _)]
    · rw [atKey_put_other (str_ne (fun h => e (by rw [tl, ← h])))]
      refine plD_at n z k (by omega) (fun j x hj hx => hf j x (by omega) hx) ?_
      have hff : keyIs n (L[k]'hkl) = false := by unfold keyIs; exact beq_eq_false_iff_ne.2 e
      rcases Nat.lt_or_ge (atN L n) k with h1 | h1
      · exact h1
      · have := atN_step h1 hx hff
        omega
theorem plD_size {L : AL} : ∀ k, k ≤ L.length → firstK L k → Maps.size (plD L k) = k
  | 0, _, _ => rfl
  | k + 1, hk, hf => by
    have hkl : k < L.length := by omega
    have hx : L[k]? = some (L[k]'hkl) := List.getElem?_eq_getElem hkl
    rw [plD_succ hx, size_put (plD_tidy L k), ← tl, plD_has _ k (by omega), hf k _ (by omega) hx, decide_eq_false (by omega), plD_size k (by omega) (fun j x hj hx => hf j x (by omega) hx)]
    rfl
theorem okAt_eq (L : AL) (k : Nat) (x : ByteArray × ByteArray) : okAt L k x = (standB x && decide (atN L x.1.toList = k)) := rfl
theorem atN_here_le {L : AL} {k : Nat} {x : ByteArray × ByteArray} (h : L[k]? = some x) : atN L x.1.toList ≤ k := by
  rcases Nat.lt_or_ge k (atN L x.1.toList) with h1 | h1
  · have := atN_here (Nat.le_of_lt h1) h (show keyIs x.1.toList x = true by unfold keyIs; simp)
    omega
  · exact h1
theorem lawS : Keyed Tryz.prog 9 := string_keyed Tryz.underlying9
theorem zeroI (w : World) : (zeroValue 3).run Tryz.prog w = .ok (.int .i64 0) w := by kernel_rfl
abbrev ownsPl (w : World) (b n : Nat) (D : DataW Unit) : Prop := w.ownsMap Tryz.prog 9 (plainElem Tryz.prog 3) b n D
/-- What places hands back. -/
def PlacesPost (w : World) (L : AL) (e : Ending) (w' : World) : Prop :=
  if rightA L then ∃ b, e = .returned (.tuple #[.map (some b), .bool true]) ∧ w.heap.size ≤ b ∧ ownsPl w' b L.length (plD L L.length) ∧ Below w.heap.size w w'
  else e = .returned (.tuple #[.map none, .bool false]) ∧ Below w.heap.size w w'
theorem PlacesPost.no {w w' : World} {L : AL} (h : rightA L = false) (hb : Below w.heap.size w w') : PlacesPost w L (.returned (.tuple #[.map none, .bool false])) w' := by
  unfold PlacesPost
  rw [h]
  exact ⟨rfl, hb⟩
theorem PlacesPost.yes {w w' : World} {L : AL} {b : Nat} (h : rightA L = true) (h1 : w.heap.size ≤ b) (h2 : ownsPl w' b L.length (plD L L.length)) (hb : Below w.heap.size w w') : PlacesPost w L (.returned (.tuple #[.map (some b), .bool true])) w' := by
  unfold PlacesPost
  rw [h]
  exact ⟨b, rfl, h1, h2, hb⟩
theorem keyS {s : ByteArray} (h : s.size ≤ maxLen) : keyOf Tryz.prog 9 (.string s) = some (.string s.data.toList) := keyOf_string_mk Tryz.underlying9 h
theorem own_belowM {w w' : World} {b n : Nat} {D : DataW Unit} (h : ownsPl w b n D) (hb : Below w.heap.size w w') : ownsPl w' b n D := by
  have hlt := h.lt
  obtain ⟨es, clock, h1, F, hs, hD⟩ := h
  exact ⟨es, clock, (hb.block b hlt).trans h1, F, hs, hD⟩
set_option maxHeartbeats 16000000 in
set_option maxRecDepth 100000 in
theorem places_any (a : Option Addr) (len cap : Nat) (L : AL) (w : World) (h : AttrRow w a len cap L) :
    Calls Tryz.prog 158 #[.slice a len cap] w (PlacesPost w L) := by
  have hmm := makeMap_len
  have hl := h.len64
  have HL := Lib.hid h.hlen
  by_cases h40 : 40 < len
  · have HR := Lib.hid (rightA_long (L := L) (by rw [h.hlen]; exact h40))
    go_enter Tryz.func158, Tryz.ntmps158
    go_wp2
    go_ret2
    exact PlacesPost.no HR.out (Below.refl _ _)
  go_enter Tryz.func158, Tryz.ntmps158
  go_wp2
  go_loopw [17] (fun i wr => ∃ k : Nat, k ≤ len ∧ i = .int .i64 k ∧ Below w.heap.size w wr ∧ Hid (ownsPl wr w.heap.size k (plD L k)) ∧ Hid (∀ (j : Nat) x, j < k → L[j]? = some x → okAt L j x = true)) (fun i _ => len - (intOf i).toNat)
  case atStart => exact ⟨0, Nat.zero_le _, rfl, (Below.refl _ _).alloc (Nat.le_refl _) _, Lib.hid (World.ownsMap_made _ _ _ _), Lib.hid (fun j x hj _ => absurd hj (by omega))⟩
  case round =>
    obtain ⟨k, hk, rfl, HB, HM, HA⟩ := hrel
    by_cases hlt : k < len
    · have h2 := h.below HB
      obtain ⟨b, off, xn, xv, rfl, hblt, hx, hc1, hc2, hn1, hn2⟩ := h2.get hlt
      have HX := Lib.hid hx
      have HN1 := Lib.hid hn1
      have HN2 := Lib.hid hn2
      have HB2 := Lib.hid HB
      have HF : Hid (firstK L k) := Lib.hid (fun j x hj hx => by
        have := HA.out j x hj hx
        rw [okAt_eq] at this
        simp at this
        exact this.2)
      have HH : Hid (Maps.has (plD L k) (.string xn.data.toList) = decide (atN L xn.toList < k)) := Lib.hid (by
        have := plD_has (L := L) xn.toList k (by rw [HL.out]; omega)
        rw [← tl]; exact this)
      have hkey := Lib.hid (keyS hn1)
      have hlt0 := HM.out.lt
      clear hx hn1 hn2
      by_cases htw : atN L xn.toList < k
      · have HHt : Hid (Maps.has (plD L k) (.string xn.data.toList) = true) := Lib.hid (by rw [HH.out, decide_eq_true htw])
        have HR := Lib.hid (rightA_stop HX.out (show okAt L k (xn, xv) = false by rw [okAt_eq, decide_eq_false (by show ¬ atN L xn.toList = k; omega)]; simp))
        clear htw
        go_wp2_with (first
          | (at_lookup; refine wpList_lookup_own_ok_int _ rfl _ _ 173 rfl 9 3 .i64 lawS Tryz.underlying173 Tryz.underlying3 (zeroI _) w.heap.size k (plD L k) rfl (HM.out.alloc _) _ _ rfl hkey.out ?_; intro c hat hwc; simp only [HHt.out]; clear hat hwc))
        go_ret2
        exact PlacesPost.no HR.out (HB.alloc HB.size _)
      · have HHt : Hid (Maps.has (plD L k) (.string xn.data.toList) = false) := Lib.hid (by rw [HH.out, decide_eq_false htw])
        have HAT : Hid (atN L xn.toList = k) := Lib.hid (by have := atN_here_le HX.out; dsimp only at this; omega)
        clear htw
        by_cases hs : standB (xn, xv) = true
        · have C1 : Hid (∀ W, Calls Tryz.prog 171 #[.agg #[.string xn, .string xv]] W fun e w' => e = .returned (.bool true) ∧ Below W.heap.size W w') := Lib.hid (fun W => by
            have := stand_any xn xv W HN1.out HN2.out
            rwa [hs] at this)
          have HO : Hid (okAt L k (xn, xv) = true) := Lib.hid (by rw [okAt_eq, hs, decide_eq_true (show atN L (xn, xv).1.toList = k from HAT.out)]; rfl)
          clear hs
          go_wp2_with (first
            | (at_lookup; refine wpList_lookup_own_ok_int _ rfl _ _ 173 rfl 9 3 .i64 lawS Tryz.underlying173 Tryz.underlying3 (zeroI _) w.heap.size k (plD L k) rfl (HM.out.alloc _) _ _ rfl hkey.out ?_; intro c hat hwc; simp only [HHt.out]; clear hat hwc)
            | (go_at_call 171; refine (C1.out _).mono ?_; rintro e w1 ⟨rfl, hb⟩; obtain ⟨d1, d2, hb1⟩ := box2 hb; clear hb; have HM1 := Lib.hid (own_belowM HM.out hb1); have hz1 : wr.heap.size ≤ w1.heap.size := hb1.size; have HB1 := Lib.hid hb1; clear hb1)
            | (at_mapUpdate; refine wpList_mapUpdate_own _ rfl _ _ _ 173 rfl 9 3 lawS Tryz.underlying173 _ w.heap.size k _ rfl HM1.out (by unfold maxLen; omega) _ _ _ rfl rfl hkey.out _ [] (plainElem_int Tryz.underlying3 (WalkArith.wf_i64 (by omega))) ?_; intro w2 hown2 hgrow2; have HM2 := Lib.hid hown2; have HG2 := Lib.hid hgrow2; clear hown2 hgrow2))
          have HB2 := HB.trans (HB1.out.mono HB.size)
          have hz0 := HB.size
          go_roundw
          case rel =>
            refine ⟨k + 1, by omega, by go_num, HB2.grown HG2.out HB2.size (fun j hj => by injection hj with hj; omega), Lib.hid ?_, Lib.hid (fun j x hj hx => ?_)⟩
            · rw [plD_succ HX.out]
              exact HM2.out
            · by_cases e : j = k
              · subst e
                rw [HX.out] at hx
                rw [← Option.some.inj hx]
                exact HO.out
              · exact HA.out j x (by omega) hx
          case measure => simp [intOf]; omega
        · have hs : standB (xn, xv) = false := by simpa using hs
          have C1 : Hid (∀ W, Calls Tryz.prog 171 #[.agg #[.string xn, .string xv]] W fun e w' => e = .returned (.bool false) ∧ Below W.heap.size W w') := Lib.hid (fun W => by
            have := stand_any xn xv W HN1.out HN2.out
            rwa [hs] at this)
          have HR := Lib.hid (rightA_stop HX.out (show okAt L k (xn, xv) = false by rw [okAt_eq, hs]; rfl))
          clear hs
          go_wp2_with (first
            | (at_lookup; refine wpList_lookup_own_ok_int _ rfl _ _ 173 rfl 9 3 .i64 lawS Tryz.underlying173 Tryz.underlying3 (zeroI _) w.heap.size k (plD L k) rfl (HM.out.alloc _) _ _ rfl hkey.out ?_; intro c hat hwc; simp only [HHt.out]; clear hat hwc)
            | (go_at_call 171; refine (C1.out _).mono ?_; rintro e w1 ⟨rfl, hb⟩; obtain ⟨d1, d2, hb1⟩ := box2 hb; clear hb; have HB1 := Lib.hid hb1; clear hb1))
          go_ret2
          exact PlacesPost.no HR.out (HB.trans (HB1.out.mono HB.size))
    · have HR := Lib.hid ((rightA_iff L).2 ⟨by rw [h.hlen]; omega, fun j x hx => HA.out j x (by
        obtain ⟨hl1, _⟩ := List.getElem?_eq_some_iff.1 hx
        have := h.hlen
        omega) hx⟩)
      have hkl : k = len := by omega
      have HM2 : Hid (ownsPl wr w.heap.size L.length (plD L L.length)) := Lib.hid (by
        rw [HL.out, ← hkl]
        exact HM.out)
      clear hkl
      go_wp2
      go_ret2
      exact PlacesPost.yes HR.out (Nat.le_refl _) HM2.out HB
end Go.Proofs.YtbgcpgpkhfbijaaGreatDoor
/- Package attr's Right. -/
namespace Go.Proofs.YtbgcpgpkhfbijaaGreatDoor
open Go.RowKit Go.Maps Go.WideMaps
/-- A list that is right: the map in hand has each name at its place. -/
theorem right_first {L : AL} (h : rightA L = true) : firstK L L.length := fun j x _ hx => by
  have := ((rightA_iff L).1 h).2 j x hx
  rw [okAt_eq] at this
  simp at this
  exact this.2
theorem placesRight_any (a : Option Addr) (len cap : Nat) (L : AL) (w : World) (h : AttrRow w a len cap L) (hr : rightA L = true) :
    Calls Tryz.prog 158 #[.slice a len cap] w fun e w' => ∃ b, e = .returned (.tuple #[.map (some b), .bool true]) ∧ w.heap.size ≤ b ∧ ownsPl w' b L.length (plD L L.length) ∧ Below w.heap.size w w' :=
  (places_any a len cap L w h).mono fun e w' hp => by
    unfold PlacesPost at hp
    rw [hr] at hp
    exact hp
theorem placesWrong_any (a : Option Addr) (len cap : Nat) (L : AL) (w : World) (h : AttrRow w a len cap L) (hr : rightA L = false) :
    Calls Tryz.prog 158 #[.slice a len cap] w fun e w' => e = .returned (.tuple #[.map none, .bool false]) ∧ Below w.heap.size w w' :=
  (places_any a len cap L w h).mono fun e w' hp => by
    unfold PlacesPost at hp
    rw [hr] at hp
    exact hp
theorem right_any' (a : Option Addr) (len cap : Nat) (L : AL) (w : World) (h : AttrRow w a len cap L) :
    Calls Tryz.prog 164 #[.slice a len cap] w fun e w' => e = .returned (.bool (rightA L)) ∧ Below w.heap.size w w' := by
  by_cases hr : rightA L = true
  · have C1 := Lib.hid (placesRight_any a len cap L w h hr)
    rw [hr]
    clear h hr
    go_enter Tryz.func164, Tryz.ntmps164
    go_wp2_with (first
      | (go_at_call 158; refine C1.out.mono ?_; rintro e w' ⟨b, rfl, _, _, HB⟩))
    go_ret
    exact ⟨rfl, HB⟩
  · have hr : rightA L = false := by simpa using hr
    have C1 := Lib.hid (placesWrong_any a len cap L w h hr)
    rw [hr]
    clear h hr
    go_enter Tryz.func164, Tryz.ntmps164
    go_wp2_with (first
      | (go_at_call 158; refine C1.out.mono ?_; rintro e w' ⟨rfl, HB⟩))
    go_ret
    exact ⟨rfl, HB⟩
end Go.Proofs.YtbgcpgpkhfbijaaGreatDoor
/- Package forest's is, docFits, isElemName, fieldsFit, up: one node's own rules. -/
namespace Go.Proofs.YtbgcpgpkhfbijaaGreatDoor
open Go.RowKit
/-- Is n the number of a node of the kind k? -/
def isKd (F : List Core) (n k : Int) : Bool := match getC F n with | some c => c.kind == k | none => false
theorem getC_len {F : List Core} {n : Int} (h0 : 0 ≤ n) (h1 : n < F.length) : ∃ c, getC F n = some c ∧ F[n.toNat]? = some c := by
  have hl : n.toNat < F.length := by omega
  refine ⟨F[n.toNat], ?_, List.getElem?_eq_getElem hl⟩
  unfold getC
  rw [if_pos h0, List.getElem?_eq_getElem hl]
theorem getC_not {F : List Core} {n : Int} (h : n < 0 ∨ (F.length : Int) ≤ n) : getC F n = none := by
  unfold getC
  by_cases h0 : 0 ≤ n
  · rw [if_pos h0]
    exact List.getElem?_eq_none_iff.2 (by omega)
  · rw [if_neg h0]
theorem coreL_len (L : List NodeD) : (coreL L).length = L.length := by unfold coreL; rw [List.length_map]
theorem coreL_get {L : List NodeD} {k : Nat} {x : NodeD} (h : L[k]? = some x) : (coreL L)[k]? = some x.core := by unfold coreL; rw [List.getElem?_map, h]; rfl
set_option maxHeartbeats 2000000 in
theorem is_any (a : Option Addr) (len cap : Nat) (L : List NodeD) (n k : Int) (w : World) (h : NodeRow w a len cap L) (hn : In64 n) :
    Calls Tryz.prog 85 #[.slice a len cap, .int .i64 n, .int .i64 k] w fun e w' => e = .returned (.bool (isKd (coreL L) n k)) ∧ w = w' := by
  have hl := h.len64
  have HL := Lib.hid h.hlen
  by_cases h0 : 0 ≤ n
  rotate_left
  · have HR : Hid (isKd (coreL L) n k = false) := Lib.hid (by unfold isKd; rw [getC_not (.inl (by omega))])
    clear h
    go_enter Tryz.func85, Tryz.ntmps85
    go_wp2
    go_ret
    exact ⟨ret_bool HR.out.symm, rfl⟩
  by_cases h1 : n < len
  rotate_left
  · have HR : Hid (isKd (coreL L) n k = false) := Lib.hid (by unfold isKd; rw [getC_not (.inr (by rw [coreL_len, HL.out]; omega))])
    clear h
    go_enter Tryz.func85, Tryz.ntmps85
    go_wp2
    go_ret
    exact ⟨ret_bool HR.out.symm, rfl⟩
  obtain ⟨m, rfl⟩ : ∃ m : Nat, n = m := ⟨n.toNat, by omega⟩
  obtain ⟨b, off, x, rfl, hb, hx, hc, hok⟩ := h.get (show m < len by omega)
  have HR : Hid (isKd (coreL L) (m : Int) k = (x.core.kind == k)) := Lib.hid (by unfold isKd; rw [getC_nat, coreL_get hx])
  have c0 := hc.c0
  clear h hc hok hx
  go_enter Tryz.func85, Tryz.ntmps85
  go_wp2
  go_ret
  exact ⟨ret_bool HR.out.symm, rfl⟩
def docB (F : List Core) (i : Int) (x : Core) : Bool := isKd F x.doc 0 && (x.kind != 0 || x.doc == i)
set_option maxHeartbeats 2000000 in
theorem docFits_any (a : Option Addr) (len cap : Nat) (L : List NodeD) (n : Nat) (x : NodeD) (w : World) (h : NodeRow w a len cap L) (hx : L[n]? = some x) :
    Calls Tryz.prog 140 #[.slice a len cap, .int .i64 n] w fun e w' => e = .returned (.bool (docB (coreL L) n x.core)) ∧ w = w' := by
  have hl := h.len64
  have hnl : n < len := by rw [← h.hlen]; exact (List.getElem?_eq_some_iff.1 hx).1
  obtain ⟨b, off, x', rfl, hb, hx', hc, hok⟩ := h.get hnl
  obtain rfl : x = x' := Option.some.inj (hx.symm.trans hx')
  have c0 := hc.c0
  have c9 := hc.c9
  have C1 := Lib.hid (is_any (some ⟨b, off, none⟩) len cap L x.core.doc 0 w h hok.doc)
  have HX := Lib.hid hx
  clear h hc hx hx' hok
  by_cases q1 : isKd (coreL L) x.core.doc 0 = true
  rotate_left
  · have q1 : isKd (coreL L) x.core.doc 0 = false := by simpa using q1
    have HR : Hid (docB (coreL L) n x.core = false) := Lib.hid (by unfold docB; rw [q1]; rfl)
    rw [q1] at C1
    clear q1
    go_enter Tryz.func140, Tryz.ntmps140
    go_wp2_with (go_at_call 85; refine C1.out.mono ?_; rintro e w' ⟨rfl, rfl⟩)
    go_ret
    exact ⟨ret_bool HR.out.symm, rfl⟩
  have HR : Hid (docB (coreL L) n x.core = (x.core.kind != 0 || x.core.doc == (n : Int))) := Lib.hid (by unfold docB; rw [q1]; rfl)
  rw [q1] at C1
  clear q1
  by_cases q2 : x.core.kind = 0
  · have e1 : (x.core.kind != 0) = false := by rw [q2]; rfl
    have HR : Hid (docB (coreL L) n x.core = (x.core.doc == (n : Int))) := Lib.hid (by rw [HR.out, e1]; rfl)
    clear q2
    go_enter Tryz.func140, Tryz.ntmps140
    go_wp2_with (go_at_call 85; refine C1.out.mono ?_; rintro e w' ⟨rfl, rfl⟩)
    go_ret
    exact ⟨ret_bool HR.out.symm, rfl⟩
  · have e1 : (x.core.kind != 0) = true := bne_iff_ne.2 q2
    have HR : Hid (docB (coreL L) n x.core = true) := Lib.hid (by rw [HR.out, e1]; rfl)
    clear q2
    go_enter Tryz.func140, Tryz.ntmps140
    go_wp2_with (go_at_call 85; refine C1.out.mono ?_; rintro e w' ⟨rfl, rfl⟩)
    go_ret
    exact ⟨ret_bool HR.out.symm, rfl⟩
end Go.Proofs.YtbgcpgpkhfbijaaGreatDoor
