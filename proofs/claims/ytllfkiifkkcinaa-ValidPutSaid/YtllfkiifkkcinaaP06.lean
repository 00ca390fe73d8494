/- Texts joined in build order: AttrRight AttrOps AttrRef2 AttrSet AttrRem AttrFind AttrClone AttrDelete AttrMath AttrSet2 ForestClone ForestCopy AppendKeep. -/
import Derived.Test.YtllfkiifkkcinaaP05
import Derived.Test.YtllfkiifkkcinaaP01
import Derived.Test.YtllfkiifkkcinaaP02
import Derived.OwnWalk
import Derived.Laws.OwnMore
import Derived.Test.YtllfkiifkkcinaaP04
import Derived.Lib.SliceRun
import Derived.Deep.RegionLaw
import Derived.Laws.IdiomCopy
import Derived.Deep.MidRow
import Derived.Deep.RegionHeld3
import Derived.Deep.DrawnRows
import Derived.Deep.AppendLies
/- instarref02's Right. -/
namespace Go.Proofs.Ytllfkiifkkcinaa
open Go.RowKit
theorem keepS {w W w1 : World} {b o1 o2 : Nat} {v1 v2 : Value} (hlt : b < w.heap.size) (h : W.cell? ⟨b, o1, none⟩ = some v1 ∧ W.cell? ⟨b, o2, none⟩ = some v2 ∧ Below w.heap.size w W) (hb : Below W.heap.size W w1) :
    w1.cell? ⟨b, o1, none⟩ = some v1 ∧ w1.cell? ⟨b, o2, none⟩ = some v2 ∧ Below w.heap.size w w1 := by
  have hl : b < W.heap.size := Nat.lt_of_lt_of_le hlt h.2.2.size
  refine ⟨?_, ?_, h.2.2.trans (hb.mono h.2.2.size)⟩
  · rw [hb.cell (p := ⟨b, o1, none⟩) hl]; exact h.1
  · rw [hb.cell (p := ⟨b, o2, none⟩) hl]; exact h.2.1

set_option maxHeartbeats 16000000 in
set_option maxRecDepth 100000 in
theorem refrightA_any (a : Option Addr) (len cap : Nat) (L : AL) (w : World) (h : AttrRow w a len cap L) :
    Calls Try.prog 81 #[.slice a len cap] w fun e w' => e = .returned (.bool (rightA L)) ∧ Below w.heap.size w w' := by
  have hl := h.len64
  by_cases h40 : 40 < len
  · have HR := Lib.hid (rightA_long (L := L) (by rw [h.hlen]; exact h40))
    go_enter Try.func81, Try.ntmps81
    go_wp2
    go_ret
    exact ⟨ret_bool HR.out.symm, Below.refl _ _⟩
  go_enter Try.func81, Try.ntmps81
  go_wp2
  go_loopw [3] (fun i wr => ∃ k : Nat, k ≤ len ∧ i = .int .i64 k ∧ Below w.heap.size w wr ∧ Hid (∀ (j : Nat) x, j < k → L[j]? = some x → okAt L j x = true)) (fun i _ => len - (intOf i).toNat)
  case atStart => exact ⟨0, Nat.zero_le _, rfl, Below.refl _ _, Lib.hid (fun j x hj _ => absurd hj (by omega))⟩
  case round =>
    obtain ⟨k, hk, rfl, HB, HA⟩ := hrel
    by_cases hlt : k < len
    · have h2 := h.below HB
      obtain ⟨b, off, xn, xv, rfl, hblt, hx, hc1, hc2, hn1, hn2⟩ := h2.get hlt
      have hbw : b < w.heap.size := by
        obtain ⟨b', off', _, _, ha, hb', _⟩ := h.get hlt
        injection ha with ha; injection ha with ha; rw [ha]; exact hb'
      have HX := Lib.hid hx
      have HN1 := Lib.hid hn1
      have HN2 := Lib.hid hn2
      clear hx hn1 hn2
      have E1 := Ext.cell hc1 hblt
      have E2 := Ext.cell hc2 hblt
      obtain ⟨z, hz⟩ : ∃ z, atL L xn.toList = z := ⟨_, rfl⟩
      have HZ := Lib.hid hz
      have C3 : Hid (∀ x : Ext wr, Calls Try.prog 92 #[.slice (some ⟨b, off, none⟩) len cap, .string xn] x.v fun e w' => e = .returned (.int .i64 z) ∧ x.v = w') := Lib.hid (fun x => by
        have := refat_any (some ⟨b, off, none⟩) len cap L xn x.v (h2.below x.below)
        rwa [hz] at this)
      clear hz
      by_cases hr : rightL xn.toList = true
      rotate_left
      · have hr : rightL xn.toList = false := by simpa using hr
        have HR := Lib.hid (rightA_stop HX.out (show okAt L k (xn, xv) = false by unfold okAt; rw [hr]; rfl))
        have C1 : Hid (∀ W, Calls Try.prog 79 #[.string xn] W fun e w' => e = .returned (.bool false) ∧ W = w') := Lib.hid (fun W => by
          have := refright_any xn W HN1.out
          rwa [hr] at this)
        have C2 : Hid True := trivial
        clear hr
        go_wp2
        refine wp_region_ext (by kernel_rfl) (by kernel_rfl) ?_
        repeat (go_big_quiet_step (first
          | (go_at_call 79; exact Ext.call_same (C1.out _))
          | (go_at_call 92; exact Ext.call_same (C3.out _))))
        refine wpQuiet_nil ?_
        intro w' hw'
        obtain ⟨⟨w1, hb1⟩, hw''⟩ := hw'
        dsimp only at hw''
        subst hw''
        go_wp2
        go_ret
        exact ⟨ret_bool HR.out.symm, HB.trans (hb1.mono HB.size)⟩
      have C1 : Hid (∀ W, Calls Try.prog 79 #[.string xn] W fun e w' => e = .returned (.bool true) ∧ W = w') := Lib.hid (fun W => by
        have := refright_any xn W HN1.out
        rwa [hr] at this)
      have C2 : Hid (∀ W, Calls Try.prog 80 #[.string xn] W fun e w' => e = .returned (.string (ofL (smallL xn.toList))) ∧ Below W.heap.size W w') := Lib.hid (fun W => by
        have h40' : xn.toList.length ≤ 40 := rightL_len hr
        rw [tl_len] at h40'
        exact refsmall_any xn W (by omega))
      have HRT := Lib.hid hr
      clear hr
      by_cases hsm : smallL xn.toList = xn.toList
      rotate_left
      · have s1 : (smallL xn.toList == xn.toList) = false := beq_eq_false_iff_ne.2 hsm
        have HR := Lib.hid (rightA_stop HX.out (show okAt L k (xn, xv) = false by unfold okAt; rw [s1]; simp))
        clear hsm
        go_wp2
        refine wp_region_ext (by kernel_rfl) (by kernel_rfl) ?_
        repeat (go_big_quiet_step (first
          | (go_at_call 79; exact Ext.call_same (C1.out _))
          | (go_at_call 80; exact Ext.call_below (C2.out _))
          | (go_at_call 92; exact Ext.call_same (C3.out _))))
        refine wpQuiet_nil ?_
        intro w' hw'
        obtain ⟨⟨w1, hb1⟩, hw''⟩ := hw'
        dsimp only at hw''
        subst hw''
        go_wp2
        go_ret
        exact ⟨ret_bool HR.out.symm, HB.trans (hb1.mono HB.size)⟩
      have s1 : (smallL xn.toList == xn.toList) = true := beq_iff_eq.2 hsm
      clear hsm
      by_cases hv : (200 : Int) < (xv.size : Int)
      · have HR := Lib.hid (rightA_stop HX.out (show okAt L k (xn, xv) = false by
          unfold okAt
          rw [decide_eq_false (show ¬ xv.size ≤ 200 by omega)]
          simp))
        have v1 : decide ((200 : Int) < (xv.size : Int)) = true := decide_eq_true hv
        clear hv
        go_wp2
        refine wp_region_ext (by kernel_rfl) (by kernel_rfl) ?_
        repeat (go_big_quiet_step (first
          | (go_at_call 79; exact Ext.call_same (C1.out _))
          | (go_at_call 80; exact Ext.call_below (C2.out _))
          | (go_at_call 92; exact Ext.call_same (C3.out _))))
        refine wpQuiet_nil ?_
        intro w' hw'
        obtain ⟨⟨w1, hb1⟩, hw''⟩ := hw'
        dsimp only at hw''
        subst hw''
        go_wp2
        go_ret
        exact ⟨ret_bool HR.out.symm, HB.trans (hb1.mono HB.size)⟩
      have v1 : decide ((200 : Int) < (xv.size : Int)) = false := decide_eq_false hv
      have HV := Lib.hid (show xv.size ≤ 200 by omega)
      clear hv
      by_cases hzk : z = (k : Int)
      · have z1 : (z == (k : Int)) = true := beq_iff_eq.2 hzk
        have z2 : (z != (k : Int)) = false := by unfold bne; rw [z1]; rfl
        have HO : Hid (okAt L k (xn, xv) = true) := Lib.hid (by
          unfold okAt
          have hk2 : atN L xn.toList = k := atL_nat (HZ.out.trans hzk)
          rw [HRT.out, s1, decide_eq_true HV.out, decide_eq_true hk2]
          rfl)
        clear hzk
        go_wp2
        refine wp_region_ext (by kernel_rfl) (by kernel_rfl) ?_
        repeat (go_big_quiet_step (first
          | (go_at_call 79; exact Ext.call_same (C1.out _))
          | (go_at_call 80; exact Ext.call_below (C2.out _))
          | (go_at_call 92; exact Ext.call_same (C3.out _))))
        refine wpQuiet_nil ?_
        intro w' hw'
        obtain ⟨⟨w1, hb1⟩, hw''⟩ := hw'
        dsimp only at hw''
        subst hw''
        go_wp2
        go_roundw
        case rel =>
          refine ⟨k + 1, by omega, by go_num, HB.trans (hb1.mono HB.size), Lib.hid (fun j x hj hx => ?_)⟩
          by_cases e : j = k
          · subst e
            rw [HX.out] at hx
            rw [← Option.some.inj hx]
            exact HO.out
          · exact HA.out j x (by omega) hx
        case measure => simp [intOf]; omega
      · have z1 : (z == (k : Int)) = false := beq_eq_false_iff_ne.2 hzk
        have z2 : (z != (k : Int)) = true := by unfold bne; rw [z1]; rfl
        have HR := Lib.hid (rightA_stop HX.out (show okAt L k (xn, xv) = false by
          unfold okAt
          have hk2 : ¬ atN L xn.toList = k := fun e => hzk (HZ.out.symm.trans (atL_of_nat e (by rw [h2.hlen]; exact hlt)))
          rw [decide_eq_false hk2]
          simp))
        clear hzk
        go_wp2
        refine wp_region_ext (by kernel_rfl) (by kernel_rfl) ?_
        repeat (go_big_quiet_step (first
          | (go_at_call 79; exact Ext.call_same (C1.out _))
          | (go_at_call 80; exact Ext.call_below (C2.out _))
          | (go_at_call 92; exact Ext.call_same (C3.out _))))
        refine wpQuiet_nil ?_
        intro w' hw'
        obtain ⟨⟨w1, hb1⟩, hw''⟩ := hw'
        dsimp only at hw''
        subst hw''
        go_wp2
        go_ret
        exact ⟨ret_bool HR.out.symm, HB.trans (hb1.mono HB.size)⟩
    · have HR := Lib.hid ((rightA_iff L).2 ⟨by rw [h.hlen]; omega, fun j x hx => HA.out j x (by
        obtain ⟨hl1, _⟩ := List.getElem?_eq_some_iff.1 hx
        have := h.hlen
        omega) hx⟩)
      go_wp2
      go_ret
      exact ⟨ret_bool HR.out.symm, HB⟩
end Go.Proofs.Ytllfkiifkkcinaa
/- What is got of a list of attributes, and what is set, removed, toggled: said over lists. -/
namespace Go.Proofs.Ytllfkiifkkcinaa
open Go.RowKit
/-- The place of the name's small form. -/
def placeA (L : AL) (n : List UInt8) : Nat := atN L (smallL n)
def hasA (L : AL) (n : List UInt8) : Bool := rightA L && rightL n && decide (placeA L n < L.length)
def valA (L : AL) (n : List UInt8) : ByteArray := if hasA L n then (L[placeA L n]?.getD default).2 else ofL []
def longA (L : AL) (n : List UInt8) (v : ByteArray) : Bool := decide (200 < v.size) || (decide (L.length ≤ placeA L n) && decide (40 ≤ L.length))
def setL (L : AL) (n : List UInt8) (v : ByteArray) : AL := if placeA L n < L.length then L.set (placeA L n) (ofL (smallL n), v) else L ++ [(ofL (smallL n), v)]
def setE (L : AL) (n : List UInt8) (v : ByteArray) : Int := if rightA L then (if rightL n then (if longA L n v then 3 else 0) else 4) else 1
def setA (L : AL) (n : List UInt8) (v : ByteArray) : AL := if setE L n v = 0 then setL L n v else L
def remA (L : AL) (n : List UInt8) : AL := if hasA L n then L.filter (fun x => !keyIs (smallL n) x) else L
theorem place_key {L : AL} {n : List UInt8} (h : placeA L n < L.length) : ∃ x, L[placeA L n]? = some x ∧ x.1 = ofL (smallL n) := by
  have h2 : keyIs (smallL n) (L[placeA L n]'h) = true := List.findIdx_getElem (w := h)
  refine ⟨_, List.getElem?_eq_getElem h, toList_inj ?_⟩
  rw [toList_ofL]
  exact beq_iff_eq.1 h2
theorem atL_place {L : AL} {n : List UInt8} (h : placeA L n < L.length) : atL L (smallL n) = (placeA L n : Int) := by
  unfold placeA at *
  unfold atL
  rw [if_pos h]
theorem atL_noplace {L : AL} {n : List UInt8} (h : ¬ placeA L n < L.length) : atL L (smallL n) = -1 := by
  unfold placeA at h
  unfold atL
  rw [if_neg h]
end Go.Proofs.Ytllfkiifkkcinaa
/- instarref02's Get and Set. -/
namespace Go.Proofs.Ytllfkiifkkcinaa
open Go.RowKit
theorem small40 {n : ByteArray} (h : rightL n.toList = true) : n.size ≤ 1000000 := by
  have := rightL_len h
  rw [tl_len] at this
  omega
end Go.Proofs.Ytllfkiifkkcinaa
/- instarref02's Set: it hands back what setA says, in new memory or in the list's own, and an error's number. -/
namespace Go.Proofs.Ytllfkiifkkcinaa
open Go.RowKit
/-- A call that hands back a list of attributes and a number. -/
def SetPost (w : World) (M : AL) (z : Int) (e : Ending) (w' : World) : Prop := ∃ a len cap, e = .returned (.tuple #[.slice a len cap, .int .i64 z]) ∧ AttrRow w' a len cap M ∧ Below w.heap.size w w'
theorem SetPost.mk {w w' : World} {M : AL} {z : Int} {e : Ending} {a : Option Addr} {len cap : Nat} (he : e = .returned (.tuple #[.slice a len cap, .int .i64 z])) (h : AttrRow w' a len cap M) (hb : Below w.heap.size w w') : SetPost w M z e w' := ⟨a, len, cap, he, h, hb⟩
theorem attr_info : (Try.prog.info? 82).map (fun i => (i.zero, i.size, i.bytes)) = some (some (.agg #[.string ⟨#[]⟩, .string ⟨#[]⟩]), 2, 32) := by kernel_rfl
/-- A row that the call owns, as a list of attributes. -/
theorem AttrRow.of_own {w : World} {base : Nat} {v : Value} {n : Nat} {M : AL} (hl : M.length = n) (h : w.ownsRow base 82 2 v n (M.flatMap encA)) (hs : ∀ x ∈ M, x.1.size ≤ maxLen ∧ x.2.size ≤ maxLen) :
    ∃ a cap, v = .slice a n cap ∧ AttrRow w a n cap M := by
  rcases h.2 with ⟨rfl, h0⟩ | ⟨g, cap, cur, rfl, _⟩
  · subst h0
    have hL : M = [] := List.eq_nil_of_length_eq_zero hl
    subst hL
    exact ⟨none, 0, rfl, SRow.nil, hs, fun _ => rfl⟩
  · obtain ⟨a, cap', he, hr, _⟩ := SRow.of_own (fun x _ => encA_len x) hl h
    injection he with h1 h2 h3
    subst h1; subst h3
    exact ⟨_, _, rfl, hr, hs, fun h => by cases h⟩
theorem set_flat {M : AL} {p : Nat} {x y : ByteArray × ByteArray} (hx : M[p]? = some x) (hn : y.1 = x.1) : (M.set p y).flatMap encA = (M.flatMap encA).set (p * 2 + 1) (.string y.2) := by
  induction M generalizing p with
  | nil => simp at hx
  | cons z r ih =>
    cases p with
    | zero =>
      simp at hx; subst hx
      simp [encA, hn]
    | succ p =>
      have := ih (p := p) (by simpa using hx)
      have e : (p + 1) * 2 + 1 = p * 2 + 1 + 1 + 1 := by omega
      rw [List.set_cons_succ, List.flatMap_cons, List.flatMap_cons, this, e]
      simp [encA]

end Go.Proofs.Ytllfkiifkkcinaa
/- instarref02's Remove and Toggle. -/
namespace Go.Proofs.Ytllfkiifkkcinaa
open Go.RowKit
/-- A call that hands back a list of attributes and a truth. -/
def RemPost (w : World) (M : AL) (z : Bool) (e : Ending) (w' : World) : Prop := ∃ a len cap, e = .returned (.tuple #[.slice a len cap, .bool z]) ∧ AttrRow w' a len cap M ∧ Below w.heap.size w w'
theorem RemPost.mk {w w' : World} {M : AL} {z : Bool} {e : Ending} {a : Option Addr} {len cap : Nat} (he : e = .returned (.tuple #[.slice a len cap, .bool z])) (h : AttrRow w' a len cap M) (hb : Below w.heap.size w w') : RemPost w M z e w' := ⟨a, len, cap, he, h, hb⟩
def offQ (n : List UInt8) (x : ByteArray × ByteArray) : Bool := !keyIs (smallL n) x
theorem remA_yes {L : AL} {n : List UInt8} (h : hasA L n = true) : remA L n = L.filter (offQ n) := by unfold remA; rw [if_pos h]; rfl
theorem remA_no {L : AL} {n : List UInt8} (h : hasA L n = false) : remA L n = L := by unfold remA; rw [if_neg (by rw [h]; decide)]
theorem filter_step {α : Type} {L : List α} {q : α → Bool} {k : Nat} {x : α} (hx : L[k]? = some x) : (L.take (k + 1)).filter q = (L.take k).filter q ++ (if q x then [x] else []) := by
  obtain ⟨hl, hg⟩ := List.getElem?_eq_some_iff.1 hx
  rw [List.take_succ_eq_append_getElem hl, hg, List.filter_append]
  congr 1
  rw [List.filter_cons]
  rfl
theorem hasA_right {L : AL} {n : List UInt8} (h : hasA L n = true) : rightA L = true ∧ rightL n = true ∧ placeA L n < L.length := by
  unfold hasA at h
  simpa [and_assoc] using h

/-- A call that hands back a list of attributes, a truth and a number. -/
def TogPost (w : World) (M : AL) (t : Bool) (z : Int) (e : Ending) (w' : World) : Prop := ∃ a len cap, e = .returned (.tuple #[.slice a len cap, .bool t, .int .i64 z]) ∧ AttrRow w' a len cap M ∧ Below w.heap.size w w'
theorem TogPost.mk {w w' : World} {M : AL} {t : Bool} {z : Int} {e : Ending} {a : Option Addr} {len cap : Nat} (he : e = .returned (.tuple #[.slice a len cap, .bool t, .int .i64 z])) (h : AttrRow w' a len cap M) (hb : Below w.heap.size w w') : TogPost w M t z e w' := ⟨a, len, cap, he, h, hb⟩
/-- What Toggle hands back: the list, whether it is there then, the error's number. -/
def togA (L : AL) (n : List UInt8) (f : Int) : AL :=
  if rightA L && rightL n then (if hasA L n then (if 0 < f then L else remA L n) else (if f < 0 then L else setA L n (ofL []))) else L
def togB (L : AL) (n : List UInt8) (f : Int) : Bool :=
  if rightA L && rightL n then (if hasA L n then decide (0 < f) else (if f < 0 then false else (setE L n (ofL []) == 0))) else false
def togE (L : AL) (n : List UInt8) (f : Int) : Int :=
  if rightA L then (if rightL n then (if hasA L n then 0 else (if f < 0 then 0 else setE L n (ofL []))) else 4) else 1
end Go.Proofs.Ytllfkiifkkcinaa
/- Package attr's find and fits. -/
namespace Go.Proofs.Ytllfkiifkkcinaa
open Go.RowKit Go.Maps Go.WideMaps
/-- What find answers. -/
def findI (L : AL) (n : List UInt8) : Int := if rightA L && rightL n then atL L (smallL n) else -1
def findS (L : AL) (n : List UInt8) : List UInt8 := if rightA L && rightL n then smallL n else []
def findE (L : AL) (n : List UInt8) : Int := if rightA L then (if rightL n then 0 else 4) else 1
end Go.Proofs.Ytllfkiifkkcinaa
/- slices.Clone on attributes, and package attr's Get. -/
namespace Go.Proofs.Ytllfkiifkkcinaa
open Go.RowKit
/-- A slice that the call made itself, and that reads as L. -/
def OwnPost (w : World) (L : AL) (e : Ending) (w' : World) : Prop := ∃ v, e = .returned v ∧ w'.ownsRow w.heap.size 82 2 v L.length (L.flatMap encA) ∧ Below w.heap.size w w'
set_option maxHeartbeats 4000000 in
theorem clone_any (a : Option Addr) (len cap : Nat) (L : AL) (w : World) (h : AttrRow w a len cap L) (h40 : len ≤ 1000000) :
    Calls Try.prog 82 #[.slice a len cap] w (OwnPost w L) := by
  obtain ⟨i0, hi0, hz0, hz1, hz2⟩ := info_parts attr_info
  have HL := Lib.hid h.hlen
  have q22 : ∀ (w : World) (a : Option Addr) (n c n' c' : Nat), (binOp .eql 25 (.slice a n c) (.slice none n' c')).run Try.prog w = .ok (.bool a.isNone) w := fun w a n c n' c' => Lib.run_eql_slice_nil w _ _ a n c n' c' Try.underlying25
  rcases a with _ | ad
  · have hc : cap = 0 := h.hnil rfl
    have h0 : len = 0 := by have := h.row.hcap; omega
    have hLn : L = [] := List.eq_nil_of_length_eq_zero (by rw [h.hlen, h0])
    subst hc; subst h0; subst hLn
    clear h
    go_enter Try.func82, Try.ntmps82
    go_wp2
    go_ret
    exact ⟨_, rfl, World.ownsRow_nil _ _ _ _, Below.refl _ _⟩
  · have H := Lib.hid h
    have hE := own_empty (α := ByteArray × ByteArray) (enc := encA) (size := 2) w w.heap.size 82 (Nat.le_refl _)
    have HE := Lib.hid hE
    clear h hE
    go_enter Try.func82, Try.ntmps82
    go_wp2_with (first
      | (at_builtin
         refine wpList_append_rows rfl (.tmp 5) (.tmp 6) 25 rfl 82 i0 _ 2 32 Try.underlying25 hi0 hz0 hz1 hz2 rfl (by decide) w.heap.size _ 0 _ L rfl HE.out (some ad) len cap rfl (H.out.below ((Below.refl _ _).alloc (Nat.le_refl _) _)).row (fun x _ => encA_one x) (by unfold maxLen; omega) (by omega) (by simp) (fun h => by cases h) ?_
         intro v2 w2 hown2 hg2 hat2
         have HB2 := below_new (Below.refl _ _) hg2
         have HO2 := Lib.hid hown2
         clear hown2 hg2 hat2))
    go_ret
    refine ⟨_, rfl, ?_, HB2⟩
    have := HO2.out
    rw [HL.out]
    simpa using this
end Go.Proofs.Ytllfkiifkkcinaa
/- slices.Delete of one attribute of a slice that the call made itself. -/
namespace Go.Proofs.Ytllfkiifkkcinaa
open Go.RowKit
theorem below_setCells {B g : Nat} {a : World} (hg : B ≤ g) : ∀ (vs : List Value) (o : Nat) (w : World), Below B a w → Below B a (w.setCells g o vs)
  | [], _, _, h => h
  | v :: r, o, w, h => below_setCells hg r (o + 1) (w.setCell ⟨g, o, none⟩ v) (h.setCell hg v)
theorem size_setCells (g : Nat) : ∀ (vs : List Value) (o : Nat) (w : World), (w.setCells g o vs).heap.size = w.heap.size
  | [], _, _ => rfl
  | v :: r, o, w => by
    show ((w.setCell ⟨g, o, none⟩ v).setCells g (o + 1) r).heap.size = _
    rw [size_setCells g r]
    simp [World.setCell]
/-- clear of a slice of attributes. -/
theorem run_clear_attrs (w : World) (ty : TypeId) (b o n c : Nat) (hn : 0 < n) (hc : ∀ j, j < n * 2 → (w.cell? ⟨b, o + j, none⟩).isSome = true) (hf : ∀ j, j < n * 2 → w.frozen? ⟨b, o + j, none⟩ = false) :
    (Builtin.clear_ #[25] ty #[.slice (some ⟨b, o, none⟩) n c]).run Try.prog w = .ok (.tuple #[]) (w.setCells b o (List.replicate (n * 2) (.string ⟨#[]⟩))) := by
  have hzc : (Builtin.zeroCells #[Value.string ⟨#[]⟩, .string ⟨#[]⟩] n).toList = List.replicate (n * 2) (.string ⟨#[]⟩) := by
    simp [Builtin.zeroCells]
    apply List.ext_getElem
    · simp
    · intro i h1 h2
      have : i % 2 = 0 ∨ i % 2 = 1 := by omega
      rcases this with h | h <;> simp [h]
  have hst := run_storeCells_cells (P := Try.prog) b o (List.replicate (n * 2) (.string ⟨#[]⟩)) 0 w (by simpa using hc) (by simpa using hf) (by intro v hv'; rw [List.eq_of_mem_replicate hv']; rfl)
  simp only [Nat.add_zero] at hst
  obtain ⟨m, rfl⟩ : ∃ m, n = m + 1 := ⟨n - 1, by omega⟩
  have hz2 : (Value.agg #[.string ⟨#[]⟩, .string ⟨#[]⟩]).cells = #[Value.string ⟨#[]⟩, .string ⟨#[]⟩] := by simp [Value.cells]
  simp [Builtin.clear_, run_underlying Try.underlying25, hz2, hzc, hst]
theorem eraseIdx_cells {L : AL} {i : Nat} (k : Nat) : (L.eraseIdx i)[k]? = if k < i then L[k]? else L[k + 1]? := by
  rw [List.getElem?_eraseIdx]
/-- What a list without its i-th attribute reads as, where i's cells and what stood behind have been laid anew. -/
theorem delete_row {w w' : World} {g n cap i : Nat} {L : AL} (hL : L.length = n) (hi : i < n) (hcap : n ≤ cap) (hmax : cap ≤ maxLen) (hs : ∀ x ∈ L, x.1.size ≤ maxLen ∧ x.2.size ≤ maxLen) (hg : g < w'.heap.size)
    (h : ∀ k u, (L.flatMap encA)[k]? = some u → w.cell? ⟨g, k, none⟩ = some u)
    (hlo : ∀ k, k < i * 2 → w'.cell? ⟨g, k, none⟩ = w.cell? ⟨g, k, none⟩) (hhi : ∀ k, i * 2 ≤ k → k < (n - 1) * 2 → w'.cell? ⟨g, k, none⟩ = w.cell? ⟨g, k + 2, none⟩) :
    AttrRow w' (some ⟨g, 0, none⟩) (n - 1) cap (L.eraseIdx i) := by
  have hlen : (L.eraseIdx i).length = n - 1 := by rw [List.length_eraseIdx, hL, if_pos hi]
  refine ⟨⟨hlen, by omega, hmax, fun x _ => encA_len x, .inr ⟨g, 0, rfl, hg, fun k x j v hx hv => ?_⟩⟩, fun x hx => hs x (List.mem_of_mem_eraseIdx hx), fun h => by cases h⟩
  have hj : j < 2 := (List.getElem?_eq_some_iff.1 hv).1
  have hk : k < n - 1 := by rw [← hlen]; exact (List.getElem?_eq_some_iff.1 hx).1
  rw [eraseIdx_cells] at hx
  rw [Nat.zero_add]
  by_cases hki : k < i
  · rw [if_pos hki] at hx
    rw [hlo _ (by omega)]
    exact h _ _ ((flat_get (fun x _ => encA_len x) hx hj).trans hv)
  · rw [if_neg hki] at hx
    rw [hhi _ (by omega) (by omega), show k * 2 + j + 2 = (k + 1) * 2 + j by omega]
    exact h _ _ ((flat_get (fun x _ => encA_len x) hx hj).trans hv)
/-- What slices.Delete leaves. -/
def DelPost (base g n cap : Nat) (L : AL) (i : Nat) (w : World) (e : Ending) (w' : World) : Prop := e = .returned (.slice (some ⟨g, 0, none⟩) (n - 1) cap) ∧ AttrRow w' (some ⟨g, 0, none⟩) (n - 1) cap (L.eraseIdx i) ∧ Below base w w'
end Go.Proofs.Ytllfkiifkkcinaa
/- Plain facts on lists of attributes: right lists have no name twice; what is got behind setting and removing. -/
namespace Go.Proofs.Ytllfkiifkkcinaa
def keyA (x : ByteArray × ByteArray) : List UInt8 := x.1.toList
def fineA (x : ByteArray × ByteArray) : Prop := rightL (keyA x) = true ∧ smallL (keyA x) = keyA x ∧ x.2.size ≤ 200
def lookA (L : AL) (k : List UInt8) : Option ByteArray := (L.find? (keyIs k)).map (·.2)
theorem keyIs_iff {n : List UInt8} {x : ByteArray × ByteArray} : keyIs n x = true ↔ keyA x = n := by unfold keyIs keyA; simp
theorem atN_get (L : AL) (n : List UInt8) : L[atN L n]? = L.find? (keyIs n) := by
  unfold atN
  induction L with
  | nil => rfl
  | cons x r ih =>
    by_cases h : keyIs n x = true
    · rw [List.findIdx_cons, List.find?_cons]; simp [h]
    · rw [List.findIdx_cons, List.find?_cons]; simp [h, ih]
theorem nodup_at (L : AL) : (∀ (k : Nat) x, L[k]? = some x → atN L (keyA x) = k) ↔ (L.map keyA).Nodup := by
  unfold List.Nodup
  rw [List.pairwise_iff_getElem]
  constructor
  · intro h i j hi hj hij he
    simp only [List.length_map] at hi hj
    simp only [List.getElem_map] at he
    have h1 := h i _ (List.getElem?_eq_getElem hi)
    have h2 := h j _ (List.getElem?_eq_getElem hj)
    rw [he] at h1
    omega
  · intro h k x hx
    obtain ⟨hl, hg⟩ := List.getElem?_eq_some_iff.1 hx
    have hle : atN L (keyA x) ≤ k := by
      rcases Nat.lt_or_ge k (atN L (keyA x)) with h1 | h1
      · have := List.not_of_lt_findIdx h1
        rw [hg, keyIs_iff.2 rfl] at this
        cases this
      · exact h1
    rcases Nat.lt_or_ge (atN L (keyA x)) k with h1 | h1
    · have hl1 : atN L (keyA x) < L.length := by omega
      have h2 : keyIs (keyA x) (L[atN L (keyA x)]'hl1) = true := List.findIdx_getElem (w := hl1)
      have h3 := h (atN L (keyA x)) k (by simpa using hl1) (by simpa using hl) h1
      simp only [List.getElem_map] at h3
      rw [keyIs_iff.1 h2, hg] at h3
      exact absurd rfl h3
    · omega
theorem right_iff (L : AL) : rightA L = true ↔ L.length ≤ 40 ∧ (∀ x ∈ L, fineA x) ∧ (L.map keyA).Nodup := by
  rw [rightA_iff, ← nodup_at]
  constructor
  · rintro ⟨h1, h2⟩
    refine ⟨h1, fun x hx => ?_, fun k x hx => ?_⟩
    · obtain ⟨k, hk, he⟩ := List.mem_iff_getElem.1 hx
      have := h2 k x (by rw [List.getElem?_eq_getElem hk, he])
      unfold okAt at this
      simp at this
      exact ⟨this.1.1.1, this.1.1.2, this.1.2⟩
    · have := h2 k x hx
      unfold okAt at this
      simp at this
      exact this.2
  · rintro ⟨h1, h2, h3⟩
    refine ⟨h1, fun k x hx => ?_⟩
    obtain ⟨f1, f2, f3⟩ := h2 x (List.mem_of_getElem? hx)
    have f4 := h3 k x hx
    unfold keyA at *
    unfold okAt
    rw [f1, f2, decide_eq_true f3, decide_eq_true f4]
    simp
theorem place_none {L : AL} {n : List UInt8} (h : ¬ placeA L n < L.length) : ∀ x ∈ L, keyA x ≠ smallL n := by
  intro x hx he
  have : atN L (smallL n) < L.length := List.findIdx_lt_length_of_exists ⟨x, hx, keyIs_iff.2 he⟩
  exact h this
theorem has_iff (L : AL) (n : List UInt8) : hasA L n = (rightA L && rightL n && (lookA L (smallL n)).isSome) := by
  unfold hasA
  congr 1
  have h := atN_get L (smallL n)
  unfold lookA
  rw [← h]
  unfold placeA
  by_cases hp : atN L (smallL n) < L.length
  · rw [decide_eq_true hp, List.getElem?_eq_getElem hp]; rfl
  · rw [decide_eq_false hp, List.getElem?_eq_none (by omega)]; rfl
theorem val_iff (L : AL) (n : List UInt8) : valA L n = if hasA L n then (lookA L (smallL n)).getD (ofL []) else ofL [] := by
  unfold valA
  by_cases h : hasA L n = true
  · rw [if_pos h, if_pos h]
    unfold lookA
    rw [← atN_get]
    have hp := (hasA_right h).2.2
    unfold placeA at *
    rw [List.getElem?_eq_getElem hp]
    rfl
  · rw [if_neg h, if_neg h]
theorem set_parts {L : AL} {n : List UInt8} {v : ByteArray} (h : setE L n v = 0) : rightA L = true ∧ rightL n = true ∧ longA L n v = false := by
  unfold setE at h
  by_cases h1 : rightA L = true
  · rw [if_pos h1] at h
    by_cases h2 : rightL n = true
    · rw [if_pos h2] at h
      by_cases h3 : longA L n v = true
      · rw [if_pos h3] at h; cases h
      · exact ⟨h1, h2, by simpa using h3⟩
    · rw [if_neg h2] at h; cases h
  · rw [if_neg h1] at h; cases h
theorem setA_eq {L : AL} {n : List UInt8} {v : ByteArray} (h : setE L n v = 0) : setA L n v = setL L n v := by unfold setA; rw [if_pos h]
theorem setA_ne {L : AL} {n : List UInt8} {v : ByteArray} (h : ¬ setE L n v = 0) : setA L n v = L := by unfold setA; rw [if_neg h]
theorem key_ofL (k : List UInt8) (v : ByteArray) : keyA (ofL k, v) = k := toList_ofL k
theorem set_keys {L : AL} {n : List UInt8} (v : ByteArray) (hp : placeA L n < L.length) : (L.set (placeA L n) (ofL (smallL n), v)).map keyA = L.map keyA := by
  obtain ⟨x, hx, hk⟩ := place_key hp
  obtain ⟨hl, hg⟩ := List.getElem?_eq_some_iff.1 hx
  rw [List.map_set, key_ofL]
  apply List.ext_getElem (by simp)
  intro i h1 h2
  by_cases e : placeA L n = i
  · subst e
    simp [hg]
    rw [show keyA x = x.1.toList from rfl, hk, toList_ofL]
  · simp [e]
theorem setL_right {L : AL} {n : List UInt8} {v : ByteArray} (h : setE L n v = 0) : rightA (setL L n v) = true := by
  obtain ⟨h1, h2, h3⟩ := set_parts h
  obtain ⟨g1, g2, g3⟩ := (right_iff L).1 h1
  have hf : fineA (ofL (smallL n), v) := by
    refine ⟨by rw [key_ofL, right_small]; exact h2, by rw [key_ofL, smallL_twice], ?_⟩
    unfold longA at h3
    simp at h3
    show v.size ≤ 200
    omega
  rw [right_iff]
  unfold setL
  by_cases hp : placeA L n < L.length
  · rw [if_pos hp]
    refine ⟨by rw [List.length_set]; exact g1, fun x hx => ?_, by rw [set_keys v hp]; exact g3⟩
    rcases List.mem_or_eq_of_mem_set hx with hx | rfl
    · exact g2 x hx
    · exact hf
  · rw [if_neg hp]
    have h40 : L.length < 40 := by
      unfold longA at h3
      simp at h3
      omega
    refine ⟨by rw [List.length_append]; simp; omega, fun x hx => ?_, ?_⟩
    · rcases List.mem_append.1 hx with hx | hx
      · exact g2 x hx
      · simp at hx; subst hx; exact hf
    · rw [List.map_append, List.nodup_append]
      refine ⟨g3, by simp, fun a ha b hb => ?_⟩
      simp at hb
      subst hb
      obtain ⟨x, hx, rfl⟩ := List.mem_map.1 ha
      rw [show keyA (ofL (smallL n), v) = smallL n from key_ofL _ _]
      exact place_none hp x hx
theorem look_set_same {L : AL} {n : List UInt8} (v : ByteArray) : lookA (setL L n v) (smallL n) = some v := by
  unfold setL lookA
  have hk : keyIs (smallL n) (ofL (smallL n), v) = true := keyIs_iff.2 (key_ofL _ _)
  by_cases hp : placeA L n < L.length
  · rw [if_pos hp, ← atN_get]
    have : atN (L.set (placeA L n) (ofL (smallL n), v)) (smallL n) = placeA L n := by
      refine atN_here ?_ (x := (ofL (smallL n), v)) (by rw [List.getElem?_set_self hp]) hk
      rcases Nat.lt_or_ge (atN (L.set (placeA L n) (ofL (smallL n), v)) (smallL n)) (placeA L n) with h1 | h1
      · have hl : atN (L.set (placeA L n) (ofL (smallL n), v)) (smallL n) < (L.set (placeA L n) (ofL (smallL n), v)).length := by rw [List.length_set]; omega
        have h2 : keyIs (smallL n) ((L.set (placeA L n) (ofL (smallL n), v))[atN (L.set (placeA L n) (ofL (smallL n), v)) (smallL n)]'hl) = true := List.findIdx_getElem (w := hl)
        rw [List.getElem_set_ne (by omega)] at h2
        have h3 := List.not_of_lt_findIdx (xs := L) (p := keyIs (smallL n)) (i := atN (L.set (placeA L n) (ofL (smallL n), v)) (smallL n)) h1
        rw [h2] at h3
        cases h3
      · exact h1
    rw [this, List.getElem?_set_self hp]
    rfl
  · rw [if_neg hp, List.find?_append]
    have : L.find? (keyIs (smallL n)) = none := by
      rw [List.find?_eq_none]
      intro x hx h
      exact place_none hp x hx (keyIs_iff.1 h)
    rw [this]
    simp [hk]
theorem look_set_other {L : AL} {n k : List UInt8} (v : ByteArray) (hk : k ≠ smallL n) : lookA (setL L n v) k = lookA L k := by
  have hno : keyIs k (ofL (smallL n), v) = false := by
    by_cases h : keyIs k (ofL (smallL n), v) = true
    · have := keyIs_iff.1 h
      rw [key_ofL] at this
      exact absurd this.symm hk
    · simpa using h
  unfold setL lookA
  by_cases hp : placeA L n < L.length
  · rw [if_pos hp]
    obtain ⟨x, hx, hxk⟩ := place_key hp
    have hxno : keyIs k x = false := by
      by_cases h : keyIs k x = true
      · have := keyIs_iff.1 h
        rw [show keyA x = x.1.toList from rfl, hxk, toList_ofL] at this
        exact absurd this.symm hk
      · simpa using h
    generalize placeA L n = p at hp hx
    induction L generalizing p with
    | nil => simp at hx
    | cons y r ih =>
      cases p with
      | zero =>
        simp at hx; subst hx
        rw [List.set_cons_zero, List.find?_cons, List.find?_cons, hno, hxno]
      | succ p =>
        rw [List.set_cons_succ, List.find?_cons, List.find?_cons]
        by_cases hy : keyIs k y = true
        · simp [hy]
        · have hy : keyIs k y = false := by simpa using hy
          simp only [hy]
          exact ih p (by simpa using hp) (by simpa using hx)
  · rw [if_neg hp, List.find?_append]
    simp [hno]
theorem look_filter {L : AL} {n k : List UInt8} (hk : k ≠ smallL n) : lookA (L.filter (offQ n)) k = lookA L k := by
  unfold lookA
  rw [List.find?_filter]
  congr 2
  funext x
  unfold offQ
  by_cases h : keyIs k x = true
  · have h1 := keyIs_iff.1 h
    have h2 : keyIs (smallL n) x = false := by
      by_cases h2 : keyIs (smallL n) x = true
      · exact absurd (h1.symm.trans (keyIs_iff.1 h2)) hk
      · simpa using h2
    rw [h, h2]
    rfl
  · have h : keyIs k x = false := by simpa using h
    rw [h]
    simp
theorem filter_right {L : AL} (q : ByteArray × ByteArray → Bool) (h : rightA L = true) : rightA (L.filter q) = true := by
  obtain ⟨g1, g2, g3⟩ := (right_iff L).1 h
  rw [right_iff]
  refine ⟨Nat.le_trans (List.length_filter_le _ _) g1, fun x hx => g2 x (List.mem_filter.1 hx).1, ?_⟩
  exact List.Nodup.sublist (List.Sublist.map _ List.filter_sublist) g3
end Go.Proofs.Ytllfkiifkkcinaa
/- Package attr's Set. -/
namespace Go.Proofs.Ytllfkiifkkcinaa
open Go.RowKit
/-- As SetPost, and the list handed back lies in new memory. -/
def SetNew (w : World) (M : AL) (z : Int) (e : Ending) (w' : World) : Prop := ∃ a len cap, e = .returned (.tuple #[.slice a len cap, .int .i64 z]) ∧ AttrRow w' a len cap M ∧ Below w.heap.size w w' ∧ ∀ b off, a = some ⟨b, off, none⟩ → w.heap.size ≤ b
theorem SetNew.post {w w' : World} {M : AL} {z : Int} {e : Ending} (h : SetNew w M z e w') : SetPost w M z e w' := by
  obtain ⟨a, len, cap, h1, h2, h3, _⟩ := h
  exact ⟨a, len, cap, h1, h2, h3⟩
/-- A row that the call owns, as a list of attributes in new memory. -/
theorem AttrRow.of_own_new {w : World} {base : Nat} {v : Value} {n : Nat} {M : AL} (hl : M.length = n) (h : w.ownsRow base 82 2 v n (M.flatMap encA)) (hs : ∀ x ∈ M, x.1.size ≤ maxLen ∧ x.2.size ≤ maxLen) :
    ∃ a cap, v = .slice a n cap ∧ AttrRow w a n cap M ∧ ∀ b off, a = some ⟨b, off, none⟩ → base ≤ b := by
  rcases h.2 with ⟨rfl, h0⟩ | ⟨g, cap, cur, rfl, _⟩
  · subst h0
    have hL : M = [] := List.eq_nil_of_length_eq_zero hl
    subst hL
    exact ⟨none, 0, rfl, ⟨SRow.nil, hs, fun _ => rfl⟩, fun b off h => by cases h⟩
  · obtain ⟨a, cap', he, hr, hb⟩ := SRow.of_own (fun x _ => encA_len x) hl h
    injection he with h1 h2 h3
    subst h1; subst h3
    exact ⟨_, _, rfl, ⟨hr, hs, fun h => by cases h⟩, hb⟩
theorem SetNew.mk {w w' : World} {M : AL} {z : Int} {e : Ending} {v : Value} {n : Nat} (he : e = .returned (.tuple #[v, .int .i64 z])) (hl : M.length = n) (h : w'.ownsRow w.heap.size 82 2 v n (M.flatMap encA)) (hs : ∀ x ∈ M, x.1.size ≤ maxLen ∧ x.2.size ≤ maxLen) (hb : Below w.heap.size w w') : SetNew w M z e w' := by
  obtain ⟨a, cap, rfl, h1, h2⟩ := AttrRow.of_own_new hl h hs
  exact ⟨a, n, cap, he, h1, hb, h2⟩
theorem clone_own (a : Option Addr) (len cap : Nat) (L : AL) (w W : World) (h : AttrRow w a len cap L) (h40 : len ≤ 1000000) (hb : Below w.heap.size w W) :
    Calls Try.prog 82 #[.slice a len cap] W fun e w' => ∃ v, e = .returned v ∧ w'.ownsRow w.heap.size 82 2 v len (L.flatMap encA) ∧ Below w.heap.size w w' :=
  (clone_any a len cap L W (h.below hb) h40).mono fun e w' ⟨v, he, hown, hb2⟩ => ⟨v, he, by
    rw [h.hlen] at hown
    refine ⟨hown.1, ?_⟩
    rcases hown.2 with h | ⟨g, cap, cur, h1, h2, h3⟩
    · exact .inl h
    · exact .inr ⟨g, cap, cur, h1, Nat.le_trans hb.size h2, h3⟩, hb.trans (hb2.mono hb.size)⟩
theorem find_ok {L : AL} {n : List UInt8} (hr : rightA L = true) (hn : rightL n = true) : findI L n = atL L (smallL n) ∧ findS L n = smallL n ∧ findE L n = 0 := by
  unfold findI findS findE
  rw [hr, hn]
  exact ⟨rfl, rfl, rfl⟩
end Go.Proofs.Ytllfkiifkkcinaa
/- slices.Clone over numbers and nodes; package forest's alone. -/
namespace Go.Proofs.Ytllfkiifkkcinaa
open Go.RowKit
attribute [local go_sem ↓] Go.wp_at_zero Go.wp_at_succ
theorem node_info : (Try.prog.info? 28).map (fun i => (i.zero, i.size, i.bytes)) = some (some (.agg #[.int .i64 0, .string ⟨#[]⟩, .string ⟨#[]⟩, .string ⟨#[]⟩, .slice none 0 0, .int .i64 0, .slice none 0 0, .int .i64 0, .int .i64 0, .int .i64 0]), 10, 136) := by kernel_rfl
def OwnPostI (w : World) (L : List Int) (e : Ending) (w' : World) : Prop := ∃ v, e = .returned v ∧ w'.ownsRow w.heap.size 3 1 v L.length (L.flatMap encZ) ∧ Below w.heap.size w w'
def OwnPostN (w : World) (L : List NodeD) (e : Ending) (w' : World) : Prop := ∃ v, e = .returned v ∧ w'.ownsRow w.heap.size 28 10 v L.length (L.flatMap encN) ∧ Below w.heap.size w w'
set_option maxHeartbeats 4000000 in
theorem cloneI_any (a : Option Addr) (len cap : Nat) (L : List Int) (w : World) (h : IntRow w a len cap L) (h40 : len ≤ 1000000) :
    Calls Try.prog 78 #[.slice a len cap] w (OwnPostI w L) := by
  obtain ⟨i0, hi0, hz0, hz1, hz2⟩ := info_parts int_info
  have HL := Lib.hid h.hlen
  have q22 : ∀ (w : World) (a : Option Addr) (n c n' c' : Nat), (binOp .eql 26 (.slice a n c) (.slice none n' c')).run Try.prog w = .ok (.bool a.isNone) w := fun w a n c n' c' => Lib.run_eql_slice_nil w _ _ a n c n' c' Try.underlying26
  rcases a with _ | ad
  · have hc : cap = 0 := h.hnil rfl
    have h0 : len = 0 := by have := h.row.hcap; omega
    have hLn : L = [] := List.eq_nil_of_length_eq_zero (by rw [h.hlen, h0])
    subst hc; subst h0; subst hLn
    clear h
    go_enter Try.func78, Try.ntmps78
    go_wp2
    go_ret
    exact ⟨_, rfl, World.ownsRow_nil _ _ _ _, Below.refl _ _⟩
  · have H := Lib.hid h
    have HE := Lib.hid (own_empty (α := Int) (enc := encZ) (size := 1) w w.heap.size 3 (Nat.le_refl _))
    clear h
    go_enter Try.func78, Try.ntmps78
    go_wp2_with (first
      | (at_builtin
         refine wpList_append_rows rfl (.tmp 5) (.tmp 6) 26 rfl 3 i0 _ 1 8 Try.underlying26 hi0 hz0 hz1 hz2 rfl (by decide) w.heap.size _ 0 _ L rfl HE.out (some ad) len cap rfl (H.out.below ((Below.refl _ _).alloc (Nat.le_refl _) _)).row (fun x _ => encZ_one x) (by unfold maxLen; omega) (by omega) (by simp) (fun h => by cases h) ?_
         intro v2 w2 hown2 hg2 hat2
         have HB2 := below_new (Below.refl _ _) hg2
         have HO2 := Lib.hid hown2
         clear hown2 hg2 hat2))
    go_ret
    refine ⟨_, rfl, ?_, HB2⟩
    have := HO2.out
    rw [HL.out]
    simpa using this
set_option maxHeartbeats 4000000 in
theorem cloneN_any (a : Option Addr) (len cap : Nat) (L : List NodeD) (w : World) (h : NodeRow w a len cap L) (h40 : len ≤ 1000000) :
    Calls Try.prog 83 #[.slice a len cap] w (OwnPostN w L) := by
  obtain ⟨i0, hi0, hz0, hz1, hz2⟩ := info_parts node_info
  have HL := Lib.hid h.hlen
  have q22 : ∀ (w : World) (a : Option Addr) (n c n' c' : Nat), (binOp .eql 22 (.slice a n c) (.slice none n' c')).run Try.prog w = .ok (.bool a.isNone) w := fun w a n c n' c' => Lib.run_eql_slice_nil w _ _ a n c n' c' Try.underlying22
  rcases a with _ | ad
  · have hc : cap = 0 := h.hnil rfl
    have h0 : len = 0 := by have := h.row.hcap; omega
    have hLn : L = [] := List.eq_nil_of_length_eq_zero (by rw [h.hlen, h0])
    subst hc; subst h0; subst hLn
    clear h
    go_enter Try.func83, Try.ntmps83
    go_wp2
    go_ret
    exact ⟨_, rfl, World.ownsRow_nil _ _ _ _, Below.refl _ _⟩
  · have H := Lib.hid h
    have HE := Lib.hid (own_empty (α := NodeD) (enc := encN) (size := 10) w w.heap.size 28 (Nat.le_refl _))
    clear h
    go_enter Try.func83, Try.ntmps83
    go_wp2_with (first
      | (at_builtin
         refine wpList_append_rows rfl (.tmp 5) (.tmp 6) 22 rfl 28 i0 _ 10 136 Try.underlying22 hi0 hz0 hz1 hz2 rfl (by decide) w.heap.size _ 0 _ L rfl HE.out (some ad) len cap rfl (H.out.below ((Below.refl _ _).alloc (Nat.le_refl _) _)).row (fun x _ => encN_one x) (by unfold maxLen; omega) (by omega) (by simp) (fun h => by cases h) ?_
         intro v2 w2 hown2 hg2 hat2
         have HB2 := below_new (Below.refl _ _) hg2
         have HO2 := Lib.hid hown2
         clear hown2 hg2 hat2))
    go_ret
    refine ⟨_, rfl, ?_, HB2⟩
    have := HO2.out
    rw [HL.out]
    simpa using this
/-- Numbers in memory of the call's own. -/
theorem IntRow.of_own_new {w : World} {base : Nat} {v : Value} {n : Nat} {M : List Int} (hl : M.length = n) (h : w.ownsRow base 3 1 v n (M.flatMap encZ)) (hs : ∀ x ∈ M, In64 x) :
    ∃ a cap, v = .slice a n cap ∧ IntRow w a n cap M ∧ ∀ b off, a = some ⟨b, off, none⟩ → base ≤ b := by
  rcases h.2 with ⟨rfl, h0⟩ | ⟨g, cap, cur, rfl, _⟩
  · subst h0
    have hL : M = [] := List.eq_nil_of_length_eq_zero hl
    subst hL
    exact ⟨none, 0, rfl, ⟨SRow.nil, hs, fun _ => rfl⟩, fun b off h => by cases h⟩
  · obtain ⟨a, cap', he, hr, hb⟩ := SRow.of_own (fun x _ => encZ_len x) hl h
    injection he with h1 h2 h3
    subst h1; subst h3
    exact ⟨_, _, rfl, ⟨hr, hs, fun h => by cases h⟩, hb⟩
/-- A node's lists lie in no cell of a block. -/
def NodeAway (g : Nat) (x : NodeD) : Prop := (∀ b off, x.aA = some ⟨b, off, none⟩ → 0 < x.aN → b ≠ g) ∧ (∀ b off, x.kA = some ⟨b, off, none⟩ → 0 < x.kN → b ≠ g)
theorem NodeOk.away {w : World} {x : NodeD} {g : Nat} (h : NodeOk w x) (hg : w.heap.size ≤ g) : NodeAway g x := by
  refine ⟨fun b off ha hp e => ?_, fun b off ha hp e => ?_⟩
  · rcases h.attrs.row.cells with h0 | ⟨b', off', ha', hlt, _⟩
    · omega
    · rw [ha] at ha'
      injection ha' with ha'
      injection ha' with e1
      omega
  · rcases h.kids.row.cells with h0 | ⟨b', off', ha', hlt, _⟩
    · omega
    · rw [ha] at ha'
      injection ha' with ha'
      injection ha' with e1
      omega
theorem NodeOk.setCell {w : World} {x : NodeD} {g o : Nat} (h : NodeOk w x) (ha : NodeAway g x) (u : Value) : NodeOk (w.setCell ⟨g, o, none⟩ u) x := by
  have hs : w.heap.size ≤ (w.setCell ⟨g, o, none⟩ u).heap.size := by simp [World.setCell]
  have far : ∀ b o', b ≠ g → (w.setCell ⟨g, o, none⟩ u).cell? ⟨b, o', none⟩ = w.cell? ⟨b, o', none⟩ := fun b o' hne => World.cell?_setCell_other _ _ _ _ (fun e => hne (by injection e with e _; exact e.symm))
  exact ⟨⟨h.attrs.row.keep hs (fun b off he hp o' => far b o' (ha.1 b off he hp)), h.attrs.small, h.attrs.hnil⟩, ⟨h.kids.row.keep hs (fun b off he hp o' => far b o' (ha.2 b off he hp)), h.kids.inb, h.kids.hnil⟩, h.name, h.is, h.data, h.kind, h.parent, h.host, h.under, h.doc⟩
/-- The node that alone answers. -/
def aloneC (x : Core) (n : Int) : Core := ⟨x.kind, x.name, x.is, x.data, x.attrs, -1, [], -1, -1, if x.kind = 0 then n else x.doc⟩
def AlonePost (w : World) (x : Core) (n : Int) (e : Ending) (w' : World) : Prop := ∃ y : NodeD, e = .returned (nodVal y) ∧ y.core = aloneC x n ∧ NodeOk w' y ∧ Below w.heap.size w w' ∧ (∀ b off, y.aA = some ⟨b, off, none⟩ → w.heap.size ≤ b) ∧ y.kA = none
abbrev zeroNB : Obj := .cells #[.int .i64 0, .string ⟨#[]⟩, .string ⟨#[]⟩, .string ⟨#[]⟩, .slice none 0 0, .int .i64 0, .slice none 0 0, .int .i64 0, .int .i64 0, .int .i64 0] 28
/-- An empty node, just made. -/
structure Zero10 (W : World) (g : Nat) : Prop where
  lt : g < W.heap.size
  c : ∀ j v, (#[.int .i64 0, .string ⟨#[]⟩, .string ⟨#[]⟩, .string ⟨#[]⟩, .slice none 0 0, .int .i64 0, .slice none 0 0, .int .i64 0, .int .i64 0, .int .i64 0] : Array Value)[j]? = some v → W.cell? ⟨g, j, none⟩ = some v
  f : ∀ j, W.frozen? ⟨g, j, none⟩ = false
theorem Zero10.keep {W W2 : World} {g : Nat} (h : Zero10 W g) (hb : Below W.heap.size W W2) : Zero10 W2 g :=
  ⟨Nat.lt_of_lt_of_le h.lt hb.size, fun j v hv => (hb.cell (p := ⟨g, j, none⟩) h.lt).trans (h.c j v hv), fun j => (hb.frozen (p := ⟨g, j, none⟩) h.lt).trans (h.f j)⟩
theorem Zero10.new (W : World) : Zero10 (W.alloc zeroNB) W.heap.size :=
  ⟨by simp, fun j v hv => by rw [cell_of_row (W.alloc zeroNB) W.heap.size j _ 28 (0, 0) (heap_alloc_new W _), hv], fun j => row_free (heap_alloc_new W zeroNB) j⟩
/-- The two boxes that alone begins with. -/
structure AloneSt (w W : World) (x : NodeD) : Prop where
  a : NBox w W w.heap.size x
  z : Zero10 W (w.heap.size + 1)
  below : Below w.heap.size w W
theorem AloneSt.keep {w W W2 : World} {x : NodeD} (h : AloneSt w W x) (hb : Below W.heap.size W W2) : AloneSt w W2 x := ⟨h.a.keep hb, h.z.keep hb, h.below.trans (hb.mono h.below.size)⟩
theorem AloneSt.start {w : World} {x : NodeD} (h : NodeOk w x) : AloneSt w ((w.alloc (nodB x)).alloc zeroNB) x := by
  refine ⟨(NKeep.start h).box.keep (below_box _ _), ?_, (below_box w _).alloc (by simp) _⟩
  have := Zero10.new (w.alloc (nodB x))
  rwa [World.size_alloc] at this
theorem inM1 : In64 (-1) := ⟨by decide, by decide⟩
/-- Behind a clone of attributes: the new list. -/
theorem OwnPost.row {w w' : World} {L : AL} {e : Ending} (h : OwnPost w L e w') (hs : ∀ x ∈ L, x.1.size ≤ maxLen ∧ x.2.size ≤ maxLen) : ∃ a cap, e = .returned (.slice a L.length cap) ∧ AttrRow w' a L.length cap L ∧ (∀ b off, a = some ⟨b, off, none⟩ → w.heap.size ≤ b) ∧ Below w.heap.size w w' := by
  obtain ⟨v, he, hown, hb⟩ := h
  obtain ⟨a, cap, hv, hr, hl⟩ := AttrRow.of_own_new (M := L) (n := L.length) rfl hown hs
  exact ⟨a, cap, by rw [he, hv], hr, hl, hb⟩
theorem OwnPostI.row {w w' : World} {L : List Int} {e : Ending} (h : OwnPostI w L e w') (hs : ∀ x ∈ L, In64 x) : ∃ a cap, e = .returned (.slice a L.length cap) ∧ IntRow w' a L.length cap L ∧ (∀ b off, a = some ⟨b, off, none⟩ → w.heap.size ≤ b) ∧ Below w.heap.size w w' := by
  obtain ⟨v, he, hown, hb⟩ := h
  obtain ⟨a, cap, hv, hr, hl⟩ := IntRow.of_own_new (M := L) (n := L.length) rfl hown hs
  exact ⟨a, cap, by rw [he, hv], hr, hl, hb⟩
set_option maxHeartbeats 8000000 in
set_option maxRecDepth 100000 in
theorem alone_any (x : NodeD) (n : Int) (w : World) (h : NodeOk w x) (hn : In64 n) (ha : x.core.attrs.length ≤ 1000) :
    Calls Try.prog 57 #[nodVal x, .int .i64 n] w (AlonePost w x.core n) := by
  obtain ⟨⟨kind, name, is, data, attrs, parent, kids, host, under, doc⟩, aA, aN, aC, kA, kN, kC⟩ := x
  have HAN : Hid (aN ≤ 1000) := Lib.hid (by have : attrs.length = aN := h.attrs.hlen; dsimp only at ha; omega)
  have HN := Lib.hid hn
  by_cases k0 : kind = 0
  · subst k0
    obtain ⟨W0, hW0, ST⟩ : ∃ W0, (w.alloc (nodB ⟨⟨0, name, is, data, attrs, parent, kids, host, under, doc⟩, aA, aN, aC, kA, kN, kC⟩)).alloc zeroNB = W0 ∧ AloneSt w W0 ⟨⟨0, name, is, data, attrs, parent, kids, host, under, doc⟩, aA, aN, aC, kA, kN, kC⟩ := ⟨_, rfl, AloneSt.start h⟩
    have ST := Lib.hid ST
    have HW := Lib.hid hW0
    have HZ : Hid (w.heap.size + 1 < W0.heap.size) := Lib.hid ST.out.z.lt
    have HH := Lib.hid h
    have CA : Hid (∀ W, AttrRow W aA aN aC attrs → Calls Try.prog 82 #[.slice aA aN aC] W (OwnPost W attrs)) := Lib.hid (fun W h => clone_any aA aN aC attrs W h (by have := HAN.out; omega))
    have HSM := Lib.hid h.attrs.small
    clear h hn ha hW0
    go_enter Try.func57, Try.ntmps57
    go_wp2
    rw [HW.out]
    obtain ⟨-, x0, x1, x2, x3, x4, x5, x6, x7, x8, x9, -⟩ := ST.out.a
    dsimp only at x0 x1 x2 x3 x4
    go_region_held3 (fun w' => w'.cell? ⟨w.heap.size, 0, none⟩ = some (.int .i64 0) ∧ w'.cell? ⟨w.heap.size, 1, none⟩ = some (.string name) ∧ w'.cell? ⟨w.heap.size, 2, none⟩ = some (.string is) ∧ w'.cell? ⟨w.heap.size, 3, none⟩ = some (.string data) ∧ w'.cell? ⟨w.heap.size, 4, none⟩ = some (.slice aA aN aC)) (go_keep)
      (first | (go_at_call 82; refine (CA.out _ ST.out.a.ok.attrs.drew).mono ?_; intro e w1 hp; obtain ⟨a2, c2, rfl, hrw, hlow, hb⟩ := hp.row HSM.out; have HRW := Lib.hid hrw; have HLW := Lib.hid hlow; have ST := Lib.hid (ST.out.keep ((Below.refl _ _).drew.trans hb)); obtain ⟨-, x0, x1, x2, x3, x4, x5, x6, x7, x8, x9, -⟩ := ST.out.a; dsimp only at x0 x1 x2 x3 x4; have d0 := ST.out.z.c 0 _ rfl; have d1 := ST.out.z.c 1 _ rfl; have d2 := ST.out.z.c 2 _ rfl; have d3 := ST.out.z.c 3 _ rfl; have d4 := ST.out.z.c 4 _ rfl; have d5 := ST.out.z.c 5 _ rfl; have d6 := ST.out.z.c 6 _ rfl; have d7 := ST.out.z.c 7 _ rfl; have d8 := ST.out.z.c 8 _ rfl; have d9 := ST.out.z.c 9 _ rfl; have f0 := ST.out.z.f 0; have f1 := ST.out.z.f 1; have f2 := ST.out.z.f 2; have f3 := ST.out.z.f 3; have f4 := ST.out.z.f 4; have f5 := ST.out.z.f 5; have f6 := ST.out.z.f 6; have f7 := ST.out.z.f 7; have f8 := ST.out.z.f 8; have f9 := ST.out.z.f 9; clear x5 x6 x7 x8 x9 hb hp hrw hlow))
    go_wp2
    have HG : w.heap.size + 1 < W0.heap.size := HZ.out
    have hk : NodeOk w1 ⟨⟨0, name, is, data, attrs, -1, [], -1, -1, n⟩, a2, attrs.length, c2, none, 0, 0⟩ := ⟨HRW.out, ⟨SRow.nil, (fun z hz => by cases hz), fun _ => rfl⟩, HH.out.name, HH.out.is, HH.out.data, HH.out.kind, inM1, inM1, inM1, HN.out⟩
    have haw : NodeAway (w.heap.size + 1) ⟨⟨0, name, is, data, attrs, -1, [], -1, -1, n⟩, a2, attrs.length, c2, none, 0, 0⟩ := ⟨fun b off hb _ e => by have := HLW.out b off hb; simp at this; omega, fun b off hb => by cases hb⟩
    refine bodyPost_ret (v := nodVal ⟨⟨0, name, is, data, attrs, -1, [], -1, -1, n⟩, a2, attrs.length, c2, none, 0, 0⟩) ?_ rfl ⟨_, rfl, rfl, ((((((((((hk.setCell haw _).setCell haw _).setCell haw _).setCell haw _).setCell haw _).setCell haw _).setCell haw _).setCell haw _).setCell haw _).setCell haw _), ?_, fun b off hb => ?_, rfl⟩
    · simp [results, Try.results57, go_sem, d0, d1, d2, d3, d4, d5, d6, d7, d8, d9]
    · exact (((((((((ST.out.below.setCell (p := ⟨w.heap.size + 1, 0, none⟩) (by simp) _).setCell (p := ⟨w.heap.size + 1, 1, none⟩) (by simp) _).setCell (p := ⟨w.heap.size + 1, 2, none⟩) (by simp) _).setCell (p := ⟨w.heap.size + 1, 3, none⟩) (by simp) _).setCell (p := ⟨w.heap.size + 1, 4, none⟩) (by simp) _).setCell (p := ⟨w.heap.size + 1, 5, none⟩) (by simp) _).setCell (p := ⟨w.heap.size + 1, 6, none⟩) (by simp) _).setCell (p := ⟨w.heap.size + 1, 7, none⟩) (by simp) _).setCell (p := ⟨w.heap.size + 1, 8, none⟩) (by simp) _).setCell (p := ⟨w.heap.size + 1, 9, none⟩) (by simp) _
    · have := HLW.out b off hb
      simp at this
      omega
  · have HAC : Hid ((⟨kind, name, is, data, attrs, -1, [], -1, -1, doc⟩ : Core) = aloneC ⟨kind, name, is, data, attrs, parent, kids, host, under, doc⟩ n) := Lib.hid (by unfold aloneC; dsimp only; rw [if_neg k0])
    have f0 : (kind == 0) = false := beq_eq_false_iff_ne.2 k0
    clear k0
    obtain ⟨W0, hW0, ST⟩ : ∃ W0, (w.alloc (nodB ⟨⟨kind, name, is, data, attrs, parent, kids, host, under, doc⟩, aA, aN, aC, kA, kN, kC⟩)).alloc zeroNB = W0 ∧ AloneSt w W0 ⟨⟨kind, name, is, data, attrs, parent, kids, host, under, doc⟩, aA, aN, aC, kA, kN, kC⟩ := ⟨_, rfl, AloneSt.start h⟩
    have ST := Lib.hid ST
    have HW := Lib.hid hW0
    have HZ : Hid (w.heap.size + 1 < W0.heap.size) := Lib.hid ST.out.z.lt
    have HH := Lib.hid h
    have CA : Hid (∀ W, AttrRow W aA aN aC attrs → Calls Try.prog 82 #[.slice aA aN aC] W (OwnPost W attrs)) := Lib.hid (fun W h => clone_any aA aN aC attrs W h (by have := HAN.out; omega))
    have HSM := Lib.hid h.attrs.small
    clear h hn ha hW0
    go_enter Try.func57, Try.ntmps57
    go_wp2
    rw [HW.out]
    obtain ⟨-, x0, x1, x2, x3, x4, x5, x6, x7, x8, x9, -⟩ := ST.out.a
    dsimp only at x0 x1 x2 x3 x4
    go_region_held3 (fun w' => w'.cell? ⟨w.heap.size, 0, none⟩ = some (.int .i64 kind) ∧ w'.cell? ⟨w.heap.size, 1, none⟩ = some (.string name) ∧ w'.cell? ⟨w.heap.size, 2, none⟩ = some (.string is) ∧ w'.cell? ⟨w.heap.size, 3, none⟩ = some (.string data) ∧ w'.cell? ⟨w.heap.size, 4, none⟩ = some (.slice aA aN aC)) (go_keep)
      (first | (go_at_call 82; refine (CA.out _ ST.out.a.ok.attrs.drew).mono ?_; intro e w1 hp; obtain ⟨a2, c2, rfl, hrw, hlow, hb⟩ := hp.row HSM.out; have HRW := Lib.hid hrw; have HLW := Lib.hid hlow; have ST := Lib.hid (ST.out.keep ((Below.refl _ _).drew.trans hb)); obtain ⟨-, x0, x1, x2, x3, x4, x5, x6, x7, x8, x9, -⟩ := ST.out.a; dsimp only at x0 x1 x2 x3 x4; have d0 := ST.out.z.c 0 _ rfl; have d1 := ST.out.z.c 1 _ rfl; have d2 := ST.out.z.c 2 _ rfl; have d3 := ST.out.z.c 3 _ rfl; have d4 := ST.out.z.c 4 _ rfl; have d5 := ST.out.z.c 5 _ rfl; have d6 := ST.out.z.c 6 _ rfl; have d7 := ST.out.z.c 7 _ rfl; have d8 := ST.out.z.c 8 _ rfl; have d9 := ST.out.z.c 9 _ rfl; have f0 := ST.out.z.f 0; have f1 := ST.out.z.f 1; have f2 := ST.out.z.f 2; have f3 := ST.out.z.f 3; have f4 := ST.out.z.f 4; have f5 := ST.out.z.f 5; have f6 := ST.out.z.f 6; have f7 := ST.out.z.f 7; have f8 := ST.out.z.f 8; have f9 := ST.out.z.f 9; clear x5 x6 x7 x8 x9 hb hp hrw hlow))
    go_wp2
    have HG : w.heap.size + 1 < W0.heap.size := HZ.out
    have hk : NodeOk w1 ⟨⟨kind, name, is, data, attrs, -1, [], -1, -1, doc⟩, a2, attrs.length, c2, none, 0, 0⟩ := ⟨HRW.out, ⟨SRow.nil, (fun z hz => by cases hz), fun _ => rfl⟩, HH.out.name, HH.out.is, HH.out.data, HH.out.kind, inM1, inM1, inM1, HH.out.doc⟩
    have haw : NodeAway (w.heap.size + 1) ⟨⟨kind, name, is, data, attrs, -1, [], -1, -1, doc⟩, a2, attrs.length, c2, none, 0, 0⟩ := ⟨fun b off hb _ e => by have := HLW.out b off hb; simp at this; omega, fun b off hb => by cases hb⟩
    refine bodyPost_ret (v := nodVal ⟨⟨kind, name, is, data, attrs, -1, [], -1, -1, doc⟩, a2, attrs.length, c2, none, 0, 0⟩) ?_ rfl ⟨_, rfl, HAC.out, ((((((((((hk.setCell haw _).setCell haw _).setCell haw _).setCell haw _).setCell haw _).setCell haw _).setCell haw _).setCell haw _).setCell haw _).setCell haw _), ?_, fun b off hb => ?_, rfl⟩
    · simp [results, Try.results57, go_sem, d0, d1, d2, d3, d4, d5, d6, d7, d8, d9]
    · exact (((((((((ST.out.below.setCell (p := ⟨w.heap.size + 1, 0, none⟩) (by simp) _).setCell (p := ⟨w.heap.size + 1, 1, none⟩) (by simp) _).setCell (p := ⟨w.heap.size + 1, 2, none⟩) (by simp) _).setCell (p := ⟨w.heap.size + 1, 3, none⟩) (by simp) _).setCell (p := ⟨w.heap.size + 1, 4, none⟩) (by simp) _).setCell (p := ⟨w.heap.size + 1, 5, none⟩) (by simp) _).setCell (p := ⟨w.heap.size + 1, 6, none⟩) (by simp) _).setCell (p := ⟨w.heap.size + 1, 7, none⟩) (by simp) _).setCell (p := ⟨w.heap.size + 1, 8, none⟩) (by simp) _).setCell (p := ⟨w.heap.size + 1, 9, none⟩) (by simp) _
    · have := HLW.out b off hb
      simp at this
      omega
end Go.Proofs.Ytllfkiifkkcinaa
/- Package forest's clone. -/
namespace Go.Proofs.Ytllfkiifkkcinaa
open Go.RowKit
attribute [local go_sem ↓] Go.wp_at_zero Go.wp_at_succ
/-- What the call owns, behind a store into it. -/
theorem own_setCell {w : World} {base : Nat} {e : TypeId} {size g n cap : Nat} {xs : List Value} (h : w.ownsRow base e size (.slice (some ⟨g, 0, none⟩) n cap) n xs) {j : Nat} (hj : j < n * size) (u : Value) :
    (w.setCell ⟨g, j, none⟩ u).ownsRow base e size (.slice (some ⟨g, 0, none⟩) n cap) n (xs.set j u) := by
  refine ⟨by rw [List.length_set]; exact h.1, ?_⟩
  rcases h.2 with ⟨hv, _⟩ | ⟨g', cap', cur, hv, hb, hg, h1, h2, h3, h4⟩
  · cases hv
  · injection hv with hv1 hv2 hv3
    injection hv1 with hv1
    injection hv1 with hv1
    subst hv1
    subst hv3
    obtain ⟨hlt, hk⟩ := Array.getElem?_eq_some_iff.1 hg
    have hjc : j < cur.size := by
      rw [h3]
      exact Nat.lt_of_lt_of_le hj (Nat.mul_le_mul_right _ h1)
    refine .inr ⟨g, cap, cur.set j u hjc, rfl, hb, ?_, h1, h2, by rw [Array.size_set]; exact h3, ?_⟩
    · show (w.heap.modify g _)[g]? = _
      rw [Array.getElem?_eq_getElem (by rw [Array.size_modify]; exact hlt), Array.getElem_modify_self, hk]
      simp [Array.setIfInBounds, hjc]
    · rw [Array.toList_set, List.take_set, h4]
theorem flat_set {α : Type} {enc : α → List Value} {size : Nat} : ∀ {L : List α}, (∀ x ∈ L, (enc x).length = size) → ∀ {i j : Nat} {y : α} {u : Value} {x : α}, L[i]? = some x → (enc y) = (enc x).set j u → j < size → (L.flatMap enc).set (i * size + j) u = (L.set i y).flatMap enc
  | [], _, _, _, _, _, _, hx, _, _ => by simp at hx
  | a :: r, h, 0, j, y, u, x, hx, he, hj => by
    simp at hx
    subst hx
    have hl := h a (by simp)
    rw [List.flatMap_cons, Nat.zero_mul, Nat.zero_add, List.set_append_left _ _ (by omega), List.set_cons_zero, List.flatMap_cons, he]
  | a :: r, h, i + 1, j, y, u, x, hx, he, hj => by
    have hl := h a (by simp)
    have ih := flat_set (L := r) (fun z hz => h z (by simp [hz])) (i := i) (j := j) (y := y) (u := u) (x := x) (by simpa using hx) he hj
    have e1 : (i + 1) * size + j - (enc a).length = i * size + j := by rw [hl, Nat.add_mul]; omega
    rw [List.flatMap_cons, List.set_append_right _ _ (by rw [hl, Nat.add_mul]; omega), List.set_cons_succ, List.flatMap_cons, ← ih, e1]
/-- The copy in hand: a row of the call's own, whose nodes' lists lie elsewhere. -/
structure Copy (lo : Nat) (w W : World) (v : Value) (n : Nat) (M : List NodeD) (F : List Core) : Prop where
  own : W.ownsRow w.heap.size 28 10 v n (M.flatMap encN)
  hl : M.length = n
  core : coreL M = F
  ok : ∀ x ∈ M, NodeOk W x
  away : ∀ g, (lo ≤ g ∧ g < w.heap.size) ∨ v.ownBlock = some g → ∀ x ∈ M, NodeAway g x
  below : Below w.heap.size w W
theorem Copy.keep {lo : Nat} {w W W2 : World} {v : Value} {n : Nat} {M : List NodeD} {F : List Core} (h : Copy lo w W v n M F) (hb : Below W.heap.size W W2) : Copy lo w W2 v n M F :=
  ⟨own_below h.own hb, h.hl, h.core, fun x hx => (h.ok x hx).below hb, h.away, h.below.trans (hb.mono h.below.size)⟩
theorem Copy.row {lo : Nat} {w W : World} {v : Value} {n : Nat} {M : List NodeD} {F : List Core} (h : Copy lo w W v n M F) : ∃ a cap, v = .slice a n cap ∧ NodeRow W a n cap M ∧ ∀ b off, a = some ⟨b, off, none⟩ → w.heap.size ≤ b ∧ off = 0 := by
  rcases h.own.2 with ⟨rfl, h0⟩ | ⟨g, cap, cur, rfl, hb, _⟩
  · have hM : M = [] := List.eq_nil_of_length_eq_zero (by rw [h.hl, h0])
    subst hM
    subst h0
    exact ⟨none, 0, rfl, ⟨SRow.nil, (fun x hx => by cases hx), fun _ => rfl⟩, fun b off h => by cases h⟩
  · obtain ⟨a, cap', he, hr, hl⟩ := SRow.of_own (fun x _ => encN_len x) h.hl h.own
    injection he with h1 h2 h3
    subst h1; subst h3
    exact ⟨_, _, rfl, ⟨hr, h.ok, fun h => by cases h⟩, fun b off h => by injection h with h; injection h with h1 h2; exact ⟨by omega, h2.symm⟩⟩
/-- A node of the copy has new lists. -/
theorem Copy.set {lo : Nat} {w W : World} {g n cap : Nat} {M : List NodeD} {F : List Core} (h : Copy lo w W (.slice (some ⟨g, 0, none⟩) n cap) n M F) (hg : w.heap.size ≤ g) {k : Nat} {x : NodeD} (hk : M[k]? = some x) {aA kA : Option Addr} {aC kC : Nat}
    (ha : AttrRow W aA x.core.attrs.length aC x.core.attrs) (hkk : IntRow W kA x.core.kids.length kC x.core.kids) (hw : ∀ g', (lo ≤ g' ∧ g' < w.heap.size) ∨ g' = g → NodeAway g' ⟨x.core, aA, x.core.attrs.length, aC, kA, x.core.kids.length, kC⟩) :
    Copy lo w ((W.setCell ⟨g, k * 10 + 4, none⟩ (.slice aA x.core.attrs.length aC)).setCell ⟨g, k * 10 + 6, none⟩ (.slice kA x.core.kids.length kC)) (.slice (some ⟨g, 0, none⟩) n cap) n (M.set k ⟨x.core, aA, x.core.attrs.length, aC, kA, x.core.kids.length, kC⟩) F := by
  obtain ⟨hl, he⟩ := List.getElem?_eq_some_iff.1 hk
  have hxm := List.mem_of_getElem? hk
  have hox := h.ok x hxm
  have hkn : k < n := by have := h.hl; omega
  have o1 := own_setCell h.own (j := k * 10 + 4) (by omega) (.slice aA x.core.attrs.length aC)
  rw [flat_set (L := M) (fun z _ => encN_len z) (i := k) (j := 4) (y := ⟨x.core, aA, x.core.attrs.length, aC, x.kA, x.kN, x.kC⟩) hk rfl (by omega)] at o1
  have o2 := own_setCell o1 (j := k * 10 + 6) (by omega) (.slice kA x.core.kids.length kC)
  rw [flat_set (L := M.set k ⟨x.core, aA, x.core.attrs.length, aC, x.kA, x.kN, x.kC⟩) (fun z _ => encN_len z) (i := k) (j := 6) (y := ⟨x.core, aA, x.core.attrs.length, aC, kA, x.core.kids.length, kC⟩) (u := .slice kA x.core.kids.length kC) (x := ⟨x.core, aA, x.core.attrs.length, aC, x.kA, x.kN, x.kC⟩) (List.getElem?_set_self hl) rfl (by omega), List.set_set] at o2
  refine ⟨o2, by rw [List.length_set]; exact h.hl, ?_, fun y hy => ?_, fun g' hg' y hy => ?_, (h.below.setCell (p := ⟨g, k * 10 + 4, none⟩) hg _).setCell (p := ⟨g, k * 10 + 6, none⟩) hg _⟩
  · rw [← h.core]
    unfold coreL
    rw [List.map_set]
    have : (M.map (·.core))[k]? = some x.core := by rw [List.getElem?_map, hk]; rfl
    obtain ⟨hl2, he2⟩ := List.getElem?_eq_some_iff.1 this
    show (M.map (·.core)).set k x.core = _
    rw [← he2, List.set_getElem_self]
  · have haw := h.away g (.inr rfl)
    have hw := hw g (.inr rfl)
    rcases List.mem_or_eq_of_mem_set hy with hy | rfl
    · exact ((h.ok y hy).setCell (haw y hy) _).setCell (haw y hy) _
    · have hq : NodeOk W ⟨x.core, aA, x.core.attrs.length, aC, kA, x.core.kids.length, kC⟩ := ⟨ha, hkk, hox.name, hox.is, hox.data, hox.kind, hox.parent, hox.host, hox.under, hox.doc⟩
      exact (hq.setCell hw _).setCell hw _
  · rcases List.mem_or_eq_of_mem_set hy with hy | rfl
    · exact h.away g' hg' y hy
    · refine hw g' ?_
      rcases hg' with h | h
      · exact .inl h
      · injection h with h
        exact .inr h.symm
theorem own_otherCell {w : World} {base : Nat} {e : TypeId} {size n g o : Nat} {v : Value} {xs : List Value} (h : w.ownsRow base e size v n xs) (hg : g < base) (u : Value) : (w.setCell ⟨g, o, none⟩ u).ownsRow base e size v n xs := by
  refine ⟨h.1, ?_⟩
  rcases h.2 with h0 | ⟨g', cap, cur, hv, hb, hg', h3⟩
  · exact .inl h0
  · exact .inr ⟨g', cap, cur, hv, hb, (Below.heap_setCell _ _ _ g' (by show g' ≠ g; omega)).trans hg', h3⟩
theorem own_base {w : World} {b1 b2 : Nat} {e : TypeId} {size n : Nat} {v : Value} {xs : List Value} (h : w.ownsRow b2 e size v n xs) (hb : b1 ≤ b2) : w.ownsRow b1 e size v n xs := by
  refine ⟨h.1, ?_⟩
  rcases h.2 with h | ⟨g, cap, cur, h1, h2, h3⟩
  · exact .inl h
  · exact .inr ⟨g, cap, cur, h1, Nat.le_trans hb h2, h3⟩
/-- The copy, behind two stores into a box that lay ahead of it. -/
theorem Copy.finish {w w0 W : World} {v : Value} {n : Nat} {M : List NodeD} {F : List Core} (h : Copy w.heap.size w0 W v n M F) (hb : Below w.heap.size w w0) {g : Nat} (h1 : w.heap.size ≤ g) (h2 : g < w0.heap.size) (o1 o2 : Nat) (u1 u2 : Value) :
    Copy w.heap.size w ((W.setCell ⟨g, o1, none⟩ u1).setCell ⟨g, o2, none⟩ u2) v n M F := by
  refine ⟨own_base (own_otherCell (own_otherCell h.own h2 u1) h2 u2) hb.size, h.hl, h.core, fun x hx => ?_, fun g' hg' => ?_, ((hb.trans (h.below.mono hb.size)).setCell (p := ⟨g, o1, none⟩) h1 u1).setCell (p := ⟨g, o2, none⟩) h1 u2⟩
  · have ha := h.away g (.inl ⟨h1, h2⟩) x hx
    exact ((h.ok x hx).setCell ha u1).setCell ha u2
  · rcases hg' with hg' | hg'
    · omega
    · exact h.away g' (.inr hg')
/-- A node's lists lie in new memory. -/
def newLists (B : Nat) (x : NodeD) : Prop := (∀ b off, x.aA = some ⟨b, off, none⟩ → B ≤ b) ∧ (∀ b off, x.kA = some ⟨b, off, none⟩ → B ≤ b)
theorem newLists.away {B g : Nat} {x : NodeD} (h : newLists B x) (hg : g < B) : NodeAway g x := ⟨fun b off ha _ e => by have := h.1 b off ha; omega, fun b off ha _ e => by have := h.2 b off ha; omega⟩
def CopyPost (w : World) (n : Nat) (F : List Core) (m : Int) (e : Ending) (w' : World) : Prop := ∃ v M, e = .returned (.agg #[v, .int .i64 m]) ∧ Copy w.heap.size w w' v n M F ∧ ∀ x ∈ M, newLists w.heap.size x
theorem own_free {w : World} {base : Nat} {e : TypeId} {size g n cap : Nat} {xs : List Value} (h : w.ownsRow base e size (.slice (some ⟨g, 0, none⟩) n cap) n xs) (j : Nat) : w.frozen? ⟨g, j, none⟩ = false := by
  rcases h.2 with ⟨hv, _⟩ | ⟨g', cap', cur, hv, hb, hg, _⟩
  · cases hv
  · injection hv with hv1
    injection hv1 with hv1
    injection hv1 with hv1
    subst hv1
    exact row_free hg j
theorem Copy.start {w w0 W : World} {v : Value} {n : Nat} {L : List NodeD} (hl : L.length = n) (hok : ∀ x ∈ L, NodeOk w x) (hb : Below w.heap.size w w0) (hb2 : Below w0.heap.size w0 W) (h : W.ownsRow w0.heap.size 28 10 v L.length (L.flatMap encN)) : Copy w.heap.size w0 W v n L (coreL L) := by
  refine ⟨hl ▸ h, hl, rfl, fun x hx => ((hok x hx).below hb).below hb2, fun g hg x hx => ?_, hb2⟩
  rcases hg with hg | hg
  · exact (hok x hx).away hg.1
  rcases h.2 with ⟨rfl, _⟩ | ⟨g', cap, cur, rfl, hlo, _⟩
  · cases hg
  · injection hg with hg
    have hg2 : g' = g := hg
    subst hg2
    exact (hok x hx).away (Nat.le_trans hb.size hlo)
/-- Within a round: the copy, and the node at hand in its box. -/
structure CopyIn (lo : Nat) (w W : World) (g n cap k : Nat) (M : List NodeD) (F : List Core) (b : Nat) (x : NodeD) : Prop where
  copy : Copy lo w W (.slice (some ⟨g, 0, none⟩) n cap) n M F
  low : w.heap.size ≤ g
  hx : M[k]? = some x
  lt : b < W.heap.size
  c4 : W.cell? ⟨b, 4, none⟩ = some (.slice x.aA x.aN x.aC)
  c6 : W.cell? ⟨b, 6, none⟩ = some (.slice x.kA x.kN x.kC)
theorem CopyIn.keep {lo : Nat} {w W W2 : World} {g n cap k : Nat} {M : List NodeD} {F : List Core} {b : Nat} {x : NodeD} (h : CopyIn lo w W g n cap k M F b x) (hb : Below W.heap.size W W2) : CopyIn lo w W2 g n cap k M F b x :=
  ⟨h.copy.keep hb, h.low, h.hx, Nat.lt_of_lt_of_le h.lt hb.size, (hb.cell (p := ⟨b, 4, none⟩) h.lt).trans h.c4, (hb.cell (p := ⟨b, 6, none⟩) h.lt).trans h.c6⟩
theorem CopyIn.ok {lo : Nat} {w W : World} {g n cap k : Nat} {M : List NodeD} {F : List Core} {b : Nat} {x : NodeD} (h : CopyIn lo w W g n cap k M F b x) : NodeOk W x := h.copy.ok x (List.mem_of_getElem? h.hx)
theorem CopyIn.at {lo : Nat} {w W : World} {g n cap k : Nat} {M : List NodeD} {F : List Core} {b : Nat} {x : NodeD} (h : CopyIn lo w W g n cap k M F b x) : NodeAt W g (k * 10) x := by
  obtain ⟨a, cap', he, hr, _⟩ := h.copy.row
  injection he with e1 e2 e3
  subst e1
  have hk : k < n := by
    have := (List.getElem?_eq_some_iff.1 h.hx).1
    rw [h.copy.hl] at this
    exact this
  obtain ⟨b', off, y, hab, _, hy, hat, _⟩ := hr.get hk
  injection hab with hab
  injection hab with e1 e2
  subst e1 e2
  obtain rfl : x = y := Option.some.inj (h.hx.symm.trans hy)
  rwa [Nat.zero_add] at hat
/-- The result's box. -/
structure ForBox (w W : World) (g a : Nat) (m : Int) : Prop where
  lt : g < W.heap.size
  c0 : W.cell? ⟨g, 0, none⟩ = some (.slice none 0 0)
  c1 : W.cell? ⟨g, 1, none⟩ = some (.int .i64 0)
  f0 : W.frozen? ⟨g, 0, none⟩ = false
  f1 : W.frozen? ⟨g, 1, none⟩ = false
  d1 : W.cell? ⟨a, 1, none⟩ = some (.int .i64 m)
theorem ForBox.keep {w W W2 : World} {g a : Nat} {m : Int} (h : ForBox w W g a m) (ha : a < W.heap.size) (hb : Below W.heap.size W W2) : ForBox w W2 g a m :=
  ⟨Nat.lt_of_lt_of_le h.lt hb.size, (hb.cell (p := ⟨g, 0, none⟩) h.lt).trans h.c0, (hb.cell (p := ⟨g, 1, none⟩) h.lt).trans h.c1, (hb.frozen (p := ⟨g, 0, none⟩) h.lt).trans h.f0, (hb.frozen (p := ⟨g, 1, none⟩) h.lt).trans h.f1, (hb.cell (p := ⟨a, 1, none⟩) ha).trans h.d1⟩
set_option maxHeartbeats 16000000 in
set_option maxRecDepth 100000 in
theorem cloneF_any (a : Option Addr) (len cap : Nat) (m : Int) (L : List NodeD) (w : World) (h : NodeRow w a len cap L) (hs : smallF L) :
    Calls Try.prog 58 #[forV a len cap m] w (CopyPost w len (coreL L) m) := by
  have HL := Lib.hid h.hlen
  have hlen : len ≤ 1000 := by rw [← h.hlen]; exact hs.1
  have HSM : Hid (∀ c ∈ coreL L, c.kids.length ≤ 1000 ∧ c.attrs.length ≤ 1000) := Lib.hid (fun c hc => by
    obtain ⟨x, hx, rfl⟩ := List.mem_map.1 hc
    exact ⟨(hs.2 x hx).1, (hs.2 x hx).2.1⟩)
  obtain ⟨w0, hw0, BX, FB⟩ : ∃ w0, (w.alloc (forB a len cap m)).alloc (.cells #[.slice none 0 0, .int .i64 0] 24) = w0 ∧ Box w w0 w.heap.size a len cap m L (coreL L) ∧ ForBox w w0 (w.heap.size + 1) w.heap.size m := by
    refine ⟨_, rfl, (Box.start (m := m) h).keep (below_box _ _), ?_⟩
    have e1 : (w.alloc (forB a len cap m)).heap.size = w.heap.size + 1 := by simp
    have c : ∀ j, ((w.alloc (forB a len cap m)).alloc (.cells #[.slice none 0 0, .int .i64 0] 24)).cell? ⟨w.heap.size + 1, j, none⟩ = (#[.slice none 0 0, .int .i64 0] : Array Value)[j]? := fun j => by
      have := cell_of_row ((w.alloc (forB a len cap m)).alloc (.cells #[.slice none 0 0, .int .i64 0] 24)) (w.alloc (forB a len cap m)).heap.size j _ 24 (0, 0) (heap_alloc_new _ _)
      rwa [e1] at this
    have f : ∀ j, ((w.alloc (forB a len cap m)).alloc (.cells #[.slice none 0 0, .int .i64 0] 24)).frozen? ⟨w.heap.size + 1, j, none⟩ = false := fun j => by
      have := row_free (heap_alloc_new (w.alloc (forB a len cap m)) (.cells #[.slice none 0 0, .int .i64 0] 24)) j
      rwa [e1] at this
    exact ⟨by simp, c 0, c 1, f 0, f 1, ((Box.start (m := m) h).keep (below_box _ _)).c1⟩
  have BX := Lib.hid BX
  have FB := Lib.hid FB
  have HW := Lib.hid hw0
  have HH := Lib.hid h
  have CN : Hid (∀ W, NodeRow W a len cap L → Calls Try.prog 83 #[.slice a len cap] W (OwnPostN W L)) := Lib.hid (fun W h => cloneN_any a len cap L W h (by omega))
  have z0 : ((w.alloc (forB a len cap m)).alloc (.cells #[.slice none 0 0, .int .i64 0] 24)).cell? ⟨w.heap.size, 0, none⟩ = some (.slice a len cap) := by rw [hw0]; exact BX.out.c0
  clear h hs hw0
  go_enter Try.func58, Try.ntmps58
  go_wp2_with (go_at_call 83; rw [HW.out]; refine (CN.out _ BX.out.row).mono ?_; intro e w1 hp; obtain ⟨v, rfl, hown, hb⟩ := hp; have CP := Lib.hid (Copy.start HL.out HH.out.ok BX.out.below hb hown); obtain ⟨a2, cap2, rfl, hr2, hlo2⟩ := CP.out.row; have FB1 := Lib.hid (FB.out.keep BX.out.lt hb); clear hown hb hr2 hlo2 z0)
  go_loopw [11] (fun i wr => ∃ (k : Nat) (M : List NodeD), k ≤ len ∧ i = .int .i64 k ∧ Hid (Copy w.heap.size w0 wr (.slice a2 len cap2) len M (coreL L)) ∧ Hid (∀ (j : Nat) x, j < k → M[j]? = some x → newLists w.heap.size x)) (fun i _ => len - (intOf i).toNat)
  case atStart => exact ⟨0, L, Nat.zero_le _, rfl, CP, Lib.hid (fun j x hj => absurd hj (by omega))⟩
  case round =>
    clear CP FB1
    obtain ⟨k, M, hk, rfl, CP, NL⟩ := hrel
    by_cases hlt : k < len
    · obtain ⟨a3, cap3, he3, hr3, hlo3⟩ := CP.out.row
      injection he3 with e1 e2 e3
      subst e1 e3
      obtain ⟨g, off, x, rfl, hg, hx, hat, hok⟩ := hr3.get hlt
      obtain ⟨hlo, rfl⟩ := hlo3 g off rfl
      rw [Nat.zero_add] at hat
      obtain ⟨W1, hW1, CI, hgl⟩ : ∃ W1, wr.alloc (nodB x) = W1 ∧ CopyIn w.heap.size w0 W1 g len cap2 k M (coreL L) wr.heap.size x ∧ g < W1.heap.size := by
        have hbx := (NKeep.start hok).box
        exact ⟨_, rfl, ⟨CP.out.keep (below_box _ _), hlo, hx, by simp, hbx.c4, hbx.c6⟩, by simp; omega⟩
      have CI := Lib.hid CI
      have HW1 := Lib.hid hW1
      have HGL := Lib.hid hgl
      have HGW := Lib.hid hg
      clear hW1 hgl
      obtain ⟨c0, c1, c2, c3, c4, c5, c6, c7, c8, c9⟩ := hat
      have hn3 : x.core.data.size ≤ 9223372036854775807 := by have := hok.data; unfold maxLen at this; omega
      have HXC : Hid (x.core ∈ coreL L) := Lib.hid (by rw [← CP.out.core]; exact List.mem_map.2 ⟨x, List.mem_of_getElem? hx, rfl⟩)
      have HAL := Lib.hid hok.attrs.hlen
      have HKL := Lib.hid hok.kids.hlen
      have CA : Hid (∀ W, AttrRow W x.aA x.aN x.aC x.core.attrs → Calls Try.prog 82 #[.slice x.aA x.aN x.aC] W (OwnPost W x.core.attrs)) := Lib.hid (fun W h => clone_any _ _ _ _ W h (by have := (HSM.out _ HXC.out).2; rw [HAL.out] at this; omega))
      have CK : Hid (∀ W, IntRow W x.kA x.kN x.kC x.core.kids → Calls Try.prog 78 #[.slice x.kA x.kN x.kC] W (OwnPostI W x.core.kids)) := Lib.hid (fun W h => cloneI_any _ _ _ _ W h (by have := (HSM.out _ HXC.out).1; rw [HKL.out] at this; omega))
      have HS1 := Lib.hid hok.attrs.small
      have HS2 := Lib.hid hok.kids.inb
      clear CP hr3 hlo3 hok hx
      go_wp2
      rw [HW1.out]
      clear c0 c1 c2 c3 c4 c5 c6 c7 c8 c9 hn3
      have x4 := CI.out.c4
      have x6 := CI.out.c6
      have hne1 : g ≠ wr.heap.size := Nat.ne_of_lt HGW.out
      have hne2 : wr.heap.size ≠ g := Nat.ne_of_gt HGW.out
      go_region_held3 (fun w' => w'.cell? ⟨wr.heap.size, 4, none⟩ = some (.slice x.aA x.aN x.aC) ∧ w'.cell? ⟨wr.heap.size, 6, none⟩ = some (.slice x.kA x.kN x.kC)) (go_keep)
        (first
          | (go_at_call 82; refine (CA.out _ CI.out.ok.attrs.drew).mono ?_; intro e w2 hp; obtain ⟨a4, c4, rfl, hrw, hlow, hb⟩ := hp.row HS1.out; have RA := Lib.hid hrw; have LA := Lib.hid hlow; have CI := Lib.hid (CI.out.keep ((Below.refl _ _).drew.trans hb)); have x4 := CI.out.c4; have x6 := CI.out.c6; have HG2 := Lib.hid (Nat.lt_of_lt_of_le HGL.out hb.size); clear hp hrw hlow hb)
          | (go_at_call 78; refine (CK.out _ CI.out.ok.kids).mono ?_; intro e w3 hp; obtain ⟨a6, c6, rfl, hrw, hlow, hb⟩ := hp.row HS2.out; have RK := Lib.hid hrw; have LK := Lib.hid hlow; have RA := Lib.hid (RA.out.below hb); have CI := Lib.hid (CI.out.keep hb); have x4 := CI.out.c4; have x6 := CI.out.c6; have d4 := CI.out.at.c4; have d6 := CI.out.at.c6; have f4 := own_free CI.out.copy.own (k * 10 + 4); have f6 := own_free CI.out.copy.own (k * 10 + 6); clear hp hrw hlow hb))
      have HW0 : Hid (w0.heap.size ≤ W1.heap.size) := Lib.hid (Nat.le_trans (Nat.le_of_lt (Nat.lt_of_le_of_lt CI.out.low HGL.out)) (Nat.le_refl _))
      have CP2 := Lib.hid (CI.out.copy.set CI.out.low CI.out.hx RA.out RK.out (fun g' hg' => ⟨fun b off hb _ => by
        have h1 : W1.drew.heap.size ≤ b := LA.out b off hb
        have h2 : W1.drew.heap.size = W1.heap.size := rfl
        have h3 := HGL.out
        have h4 := HW0.out
        rcases hg' with h | h <;> omega, fun b off hb _ => by
        have h1 := LK.out b off hb
        have h2 := HG2.out
        have h3 := CI.out.low
        rcases hg' with h | h <;> omega⟩))
      have NL2 : Hid (∀ (j : Nat) y, j < k + 1 → (M.set k ⟨x.core, a4, x.core.attrs.length, c4, a6, x.core.kids.length, c6⟩)[j]? = some y → newLists w.heap.size y) := Lib.hid (fun j y hj hy => by
        by_cases e : k = j
        · subst e
          rw [List.getElem?_set_self (List.getElem?_eq_some_iff.1 CI.out.hx).1] at hy
          rw [← Option.some.inj hy]
          have h0 := BX.out.below.size
          have h2 := HG2.out
          have h3 := CI.out.low
          refine ⟨fun b off hb => ?_, fun b off hb => ?_⟩
          · have h1 : W1.drew.heap.size ≤ b := LA.out b off hb
            have h4 : W1.drew.heap.size = W1.heap.size := rfl
            have h5 := HW0.out
            omega
          · have h1 := LK.out b off hb
            omega
        · rw [List.getElem?_set_ne e] at hy
          exact NL.out j y (by omega) hy)
      go_wp2
      go_roundw
      case rel => exact ⟨k + 1, _, by omega, by go_num, CP2, NL2⟩
      case measure => simp [intOf]; omega
    · have hkk : k = len := by omega
      subst hkk
      have FB2 := Lib.hid (FB.out.keep BX.out.lt CP.out.below)
      have d0 := FB2.out.c0
      have d1 := FB2.out.c1
      have f0 := FB2.out.f0
      have f1 := FB2.out.f1
      have z1 := FB2.out.d1
      go_wp2
      refine bodyPost_ret (v := .agg #[.slice a2 k cap2, .int .i64 m]) ?_ rfl ⟨_, M, rfl, CP.out.finish BX.out.below (by omega) FB.out.lt 0 1 _ _, fun x hx => ?_⟩
      · simp [results, Try.results58, go_sem, d0, d1]
      · obtain ⟨j, hj, he⟩ := List.mem_iff_getElem.1 hx
        exact NL.out j x (by rw [CP.out.hl] at hj; exact hj) (by rw [List.getElem?_eq_getElem hj, he])
end Go.Proofs.Ytllfkiifkkcinaa
/- append onto a slice of the call's own: the old slice reads as before, too. No program. -/
namespace Go.Proofs.Ytllfkiifkkcinaa
open Go.RowKit
section
variable {P : Program}
/-- Whatever append has done, the slice that it was given reads as it did. -/
theorem append_keeps {w w' : World} {v' : Value} {t ty : TypeId} {base : Nat} {e : TypeId} {i : TypeInfo} {z : Value} {size bytes : Nat} (ht : P.underlying t = some (.slice e)) (hi : P.info? e = some i) (hz : i.zero = some z)
    (hsize : i.size = size) (hby : i.bytes = bytes) {v : Value} {n : Nat} {xs : List Value} (hown : w.ownsRow base e size v n xs)
    {ad : Addr} {m c : Nat} {news : List Value} (hl : news.length = m * size) (hnews : ∀ j u, news[j]? = some u → w.cell? (ad.add j) = some u) (h1 : ∀ u ∈ news, u.oneCell' = true)
    (h63 : n + m ≤ maxLen) (hbytes : (n + m) * bytes ≤ 140737488355328)
    (hr : (Builtin.append_ #[t, t] ty #[v, .slice (some ad) m c]).run P w = .ok v' w') : w'.ownsRow base e size v n xs := by
  subst hsize
  subst hby
  have hsmall : n + m ≤ 9223372036854775807 := by simp only [maxLen] at h63; omega
  rcases hown.2 with ⟨rfl, rfl⟩ | ⟨g, cap, cur, rfl, hbg, hg, hnc, hcm, hcs, htake⟩
  · exact ⟨hown.1, .inl ⟨rfl, rfl⟩⟩
  · by_cases hroom : n + m ≤ cap
    · have hfit : n * i.size + news.length ≤ cur.size := by rw [hl, hcs, ← Nat.add_mul]; exact Nat.mul_le_mul_right _ hroom
      have hr2 := run_append_room (P := P) w t ty e i ht hi g n cap cur hg ad m c news hl hnews h1 hroom hfit
      rw [hr] at hr2
      injection hr2 with _ hw
      subst hw
      refine ⟨hown.1, .inr ⟨g, cap, _, rfl, hbg, setRow_heap w g cur _ e _ hg, hnc, hcm, ?_, ?_⟩⟩
      · simp only [List.size_toArray, List.length_append, List.length_take, List.length_drop, Array.length_toList]
        omega
      · have hlen : xs.length = n * i.size := hown.1
        rw [htake, List.append_assoc, ← hlen]
        exact List.take_left
    · have holds : ∀ j u, xs[j]? = some u → w.cell? ((⟨g, 0, none⟩ : Addr).add j) = some u := hown.cells (g := g) rfl
      have hr2 := run_append_grow (P := P) w t ty e i z ht hi hz ⟨g, 0, none⟩ n cap xs hown.1 holds ad m c news hl hnews (by omega) (by omega) (growslice_fits (by omega) hbytes)
      rw [hr] at hr2
      injection hr2 with _ hw
      subst hw
      exact World.ownsRow.alloc (w := w.drew) hown _
theorem run_append_keep (w : World) (t ty : TypeId) (base : Nat) (e : TypeId) (i : TypeInfo) (z : Value) (size bytes : Nat) (ht : P.underlying t = some (.slice e)) (hi : P.info? e = some i) (hz : i.zero = some z)
    (hsize : i.size = size) (hby : i.bytes = bytes) (hzs : z.cells.size = size) (hsz : 0 < size)
    (v : Value) (n : Nat) (xs : List Value) (hown : w.ownsRow base e size v n xs)
    (ad : Addr) (m c : Nat) (news : List Value) (hl : news.length = m * size) (hnews : ∀ j u, news[j]? = some u → w.cell? (ad.add j) = some u) (h1 : ∀ u ∈ news, u.oneCell' = true)
    (hm : 0 < m) (h63 : n + m ≤ maxLen) (hbytes : (n + m) * bytes ≤ 140737488355328) (hbase : base ≤ w.heap.size) :
    ∃ g cap w', (Builtin.append_ #[t, t] ty #[v, .slice (some ad) m c]).run P w = .ok (.slice (some ⟨g, 0, none⟩) (n + m) cap) w' ∧
      w'.ownsRow base e size (.slice (some ⟨g, 0, none⟩) (n + m) cap) (n + m) (xs ++ news) ∧ w'.ownsRow base e size v n xs ∧ w.grownBy w' v.ownBlock ∧ (v.ownBlock = some g ∨ g = w.heap.size) ∧ g < w'.heap.size := by
  obtain ⟨g, cap, w', hr, h2, h3, h4, h5⟩ := run_append_lies (P := P) w t ty base e i z size bytes ht hi hz hsize hby hzs hsz v n xs hown ad m c news hl hnews h1 hm h63 hbytes hbase w.heap.size rfl
  exact ⟨g, cap, w', hr, h2, append_keeps ht hi hz hsize hby hown hl hnews h1 h63 hbytes hr, h3, h4, h5⟩
/-- At a step of a region that draws its order. -/
theorem step_append_keep {w : World} {ops : Array Oper} {o : Oper} {a : Act} {K : Act → World → Prop} {Q : Exit → Act → World → Prop} {E : Prop} (hgd : o.guard = none) (s x : Operand) (t : TypeId)
    (ho : o.op = .call { callee := .builtin .append, args := #[s, x], argTypes := #[t, t] })
    (base : Nat) (e : TypeId) (i : TypeInfo) (z : Value) (size bytes : Nat) (ht : P.underlying t = some (.slice e)) (hi : P.info? e = some i) (hz : i.zero = some z)
    (hsize : i.size = size) (hby : i.bytes = bytes) (hzs : z.cells.size = size) (hsz : 0 < size)
    (v : Value) (n : Nat) (xs : List Value) (hs : a.eval s = v) (hown : w.ownsRow base e size v n xs)
    (ad : Addr) (m c : Nat) (news : List Value) (hx : a.eval x = .slice (some ad) m c) (hl : news.length = m * size) (hnews : ∀ j u, news[j]? = some u → w.cell? (ad.add j) = some u) (h1 : ∀ u ∈ news, u.oneCell' = true)
    (hm : 0 < m) (h63 : n + m ≤ maxLen) (hbytes : (n + m) * bytes ≤ 140737488355328) (hbase : base ≤ w.heap.size)
    (h : ∀ g cap w', w'.ownsRow base e size (.slice (some ⟨g, 0, none⟩) (n + m) cap) (n + m) (xs ++ news) → w'.ownsRow base e size v n xs → w.grownBy w' v.ownBlock → (v.ownBlock = some g ∨ g = w.heap.size) → g < w'.heap.size → K (a.put o.dst (.slice (some ⟨g, 0, none⟩) (n + m) cap)) w') :
    if Region.wanted o (yielded ops a.tmps) = true then Oper.wp P o a w K Q else E := by
  have hw : Region.wanted o (yielded ops a.tmps) = true := by simp [Region.wanted, hgd]
  rw [if_pos hw]
  obtain ⟨g, cap, w', hr, h2, h3, h4, h5, h6⟩ := run_append_keep (P := P) w t o.type base e i z size bytes ht hi hz hsize hby hzs hsz v n xs hown ad m c news hl hnews h1 hm h63 hbytes hbase
  unfold Oper.wp execOp
  simp only [ho, resolve, invoke, builtin, Sem.run_bind, Sem.run_pure, Result.andThen_ok, List.map_toArray, List.map_cons, List.map_nil, hs, hx, hr]
  exact h g cap w' h2 h3 h4 h5 h6
end
end Go.Proofs.Ytllfkiifkkcinaa
