/- Texts joined in build order: ForestFit4 AttrSet AttrRem AttrFind AttrMath OwnRows. -/
import Derived.Test.YtnjoimedilonnaaGreatDoorA08
import Derived.Test.YtnjoimedilonnaaGreatDoorA07
import Derived.Laws.OwnMore
import Derived.Test.YtnjoimedilonnaaGreatDoorA05
import Derived.Test.YtnjoimedilonnaaGreatDoorA06
import Derived.Deep.SlicePairs
import Derived.Laws.IdiomCopy
namespace Go.Proofs.YtnjoimedilonnaaGreatDoor
open Go.RowKit
def elemNameB (l : List UInt8) : Bool := rightL l && (smallL l == l)
set_option maxHeartbeats 2000000 in
theorem elemName_any (s : ByteArray) (w : World) (hs : s.size ≤ maxLen) :
    Calls Tryz.prog 71 #[.string s] w fun e w' => e = .returned (.bool (elemNameB s.toList)) ∧ Below w.heap.size w w' := by
  have C1 := Lib.hid (fit_any s w hs)
  by_cases hr : rightL s.toList = true
  rotate_left
  · have hr : rightL s.toList = false := by simpa using hr
    have HR : Hid (elemNameB s.toList = false) := Lib.hid (by unfold elemNameB; rw [hr]; rfl)
    have e1 : fitE s.toList = 4 := by unfold fitE; rw [hr]; rfl
    rw [e1] at C1
    clear hr e1
    go_enter Tryz.func71, Tryz.ntmps71
    go_wp2_with (go_at_call 38; refine C1.out.mono ?_; rintro e w' ⟨rfl, hb⟩)
    go_ret
    exact ⟨ret_bool HR.out.symm, by assumption⟩
  have e1 : fitE s.toList = 0 := by unfold fitE; rw [hr]; rfl
  have e2 : fitL s.toList = smallL s.toList := by unfold fitL; rw [hr]; rfl
  rw [e1, e2] at C1
  have HR : Hid (elemNameB s.toList = (smallL s.toList == s.toList)) := Lib.hid (by unfold elemNameB; rw [hr]; rfl)
  clear hr e1 e2
  cases hsm : (smallL s.toList == s.toList) with
  | false =>
    rw [hsm] at HR
    go_enter Tryz.func71, Tryz.ntmps71
    go_wp2_with (go_at_call 38; refine C1.out.mono ?_; rintro e w' ⟨rfl, hb⟩)
    go_ret
    exact ⟨ret_bool HR.out.symm, by assumption⟩
  | true =>
    rw [hsm] at HR
    go_enter Tryz.func71, Tryz.ntmps71
    go_wp2_with (go_at_call 38; refine C1.out.mono ?_; rintro e w' ⟨rfl, hb⟩)
    go_ret
    exact ⟨ret_bool HR.out.symm, by assumption⟩
def fieldsB (x : Core) : Bool :=
  if x.kind = 1 then elemNameB x.name.toList && (x.is.toList == [] || customL x.is.toList) && (x.data.toList == []) && rightA x.attrs
  else if x.kind = 0 ∨ x.kind = 3 ∨ x.kind = 4 then (x.data.toList == []) && (x.name.toList == []) && (x.is.toList == []) && decide (x.attrs.length = 0)
  else if x.kind = 2 then (x.name.toList == []) && (x.is.toList == []) && decide (x.data.size ≤ 200) && decide (x.attrs.length = 0)
  else false
structure NKeep (w W : World) (x : NodeD) : Prop where
  box : NBox w W w.heap.size x
  below : Below w.heap.size w W
theorem NKeep.start {w : World} {x : NodeD} (h : NodeOk w x) : NKeep w (w.alloc (nodB x)) x := by
  have c : ∀ (j : Nat), (w.alloc (nodB x)).cell? ⟨w.heap.size, j, none⟩ = (#[.int .i64 x.core.kind, .string x.core.name, .string x.core.is, .string x.core.data, .slice x.aA x.aN x.aC, .int .i64 x.core.parent, .slice x.kA x.kN x.kC, .int .i64 x.core.host, .int .i64 x.core.under, .int .i64 x.core.doc] : Array Value)[j]? := fun j =>
    cell_of_row (w.alloc (nodB x)) w.heap.size j _ 35 (0, 0) (heap_alloc_new _ _)
  exact ⟨⟨by simp, c 0, c 1, c 2, c 3, c 4, c 5, c 6, c 7, c 8, c 9, h.below (below_box w _)⟩, below_box w _⟩
theorem NKeep.keep {w W W2 : World} {x : NodeD} (h : NKeep w W x) (hb : Below W.heap.size W W2) : NKeep w W2 x := ⟨h.box.keep hb, h.below.trans (hb.mono h.below.size)⟩
set_option maxHeartbeats 8000000 in
set_option maxRecDepth 100000 in
theorem fieldsFit_any (x : NodeD) (w : World) (h : NodeOk w x) :
    Calls Tryz.prog 44 #[nodVal x] w fun e w' => e = .returned (.bool (fieldsB x.core)) ∧ Below w.heap.size w w' := by
  obtain ⟨⟨kind, name, is, data, attrs, parent, kids, host, under, doc⟩, aA, aN, aC, kA, kN, kC⟩ := x
  have HN1 : Hid (name.size ≤ maxLen) := Lib.hid h.name
  have HN2 : Hid (is.size ≤ maxLen) := Lib.hid h.is
  have hal : aN ≤ 9223372036854775807 := h.attrs.len64
  have hdl : data.size ≤ 9223372036854775807 := by have : data.size ≤ maxLen := h.data; unfold maxLen at this; omega
  have HAL : Hid (attrs.length = aN) := Lib.hid h.attrs.hlen
  have HH := Lib.hid h
  clear h
  by_cases k1 : kind = 1
  · subst k1
    have NK := Lib.hid (NKeep.start HH.out)
    clear HH
    have HR : Hid (fieldsB ⟨1, name, is, data, attrs, parent, kids, host, under, doc⟩ = (elemNameB name.toList && (is.toList == [] || customL is.toList) && (data.toList == []) && rightA attrs)) := Lib.hid rfl
    obtain ⟨-, x0, x1, x2, x3, x4, x5, x6, x7, x8, x9, -⟩ := NK.out.box
    go_enter Tryz.func44, Tryz.ntmps44
    go_wp2_with (first
                    | (go_at_call 71; (refine (elemName_any _ _ HN1.out).mono ?_); rintro e w1 ⟨rfl, hb⟩; have NK := Lib.hid (NK.out.keep hb); obtain ⟨-, x0, x1, x2, x3, x4, x5, x6, x7, x8, x9, -⟩ := NK.out.box; clear hb)
                    | (go_at_call 72; (refine (custom_any _ _ HN2.out).mono ?_); rintro e w1 ⟨rfl, hb⟩; have NK := Lib.hid (NK.out.keep hb); obtain ⟨-, x0, x1, x2, x3, x4, x5, x6, x7, x8, x9, -⟩ := NK.out.box; clear hb)
                    | (go_at_call 73; (refine (right_any' _ _ _ _ _ NK.out.box.ok.attrs).mono ?_); rintro e w1 ⟨rfl, hb⟩; have NK := Lib.hid (NK.out.keep hb); obtain ⟨-, x0, x1, x2, x3, x4, x5, x6, x7, x8, x9, -⟩ := NK.out.box; clear hb))
    all_goals (go_ret; exact ⟨ret_bool (by rw [HR.out]; first | (simp [*]; done) | (rw [Bool.eq_iff_iff]; simp [*])), by first | exact NK.out.below | assumption⟩)
  by_cases k2 : kind = 2
  · subst k2
    clear HH
    have HR : Hid (fieldsB ⟨2, name, is, data, attrs, parent, kids, host, under, doc⟩ = ((name.toList == []) && (is.toList == []) && decide (data.size ≤ 200) && decide (aN = 0))) := Lib.hid (by rw [← HAL.out]; rfl)
    clear k1
    go_enter Tryz.func44, Tryz.ntmps44
    go_wp2
    all_goals (go_ret; exact ⟨ret_bool (by rw [HR.out]; first | (simp [*]; done) | (rw [Bool.eq_iff_iff]; simp [*]; done) | (rw [Bool.eq_iff_iff]; simp [*]; omega)), below_box _ _⟩)
  by_cases k3 : kind = 0 ∨ kind = 3 ∨ kind = 4
  · have HR : Hid (fieldsB ⟨kind, name, is, data, attrs, parent, kids, host, under, doc⟩ = ((data.toList == []) && (name.toList == []) && (is.toList == []) && decide (aN = 0))) := Lib.hid (by
      unfold fieldsB
      rw [if_neg k1]
      dsimp only
      rw [if_pos k3, HAL.out])
    clear k1 k2 HH
    by_cases d0 : data.toList = []
    · have hd : (data.size : Int) ≤ 200 := by
        have : data.size = 0 := by rw [← tl_len, d0]; rfl
        omega
      have hd2 : (!data.toList.isEmpty) = false := by rw [d0]; rfl
      have hd3 : data.toList.isEmpty = true := by rw [d0]; rfl
      rcases k3 with k3 | k3 | k3
      all_goals
        subst k3
        go_enter Tryz.func44, Tryz.ntmps44
        go_wp2
        all_goals (go_ret; exact ⟨ret_bool (by rw [HR.out]; first | (simp [*]; done) | (rw [Bool.eq_iff_iff]; simp [*]; done) | (rw [Bool.eq_iff_iff]; simp [*]; omega)), below_box _ _⟩)
    · have hd3 : data.toList.isEmpty = false := by
        cases hh : data.toList with
        | nil => exact absurd hh d0
        | cons _ _ => rfl
      have hd2 : (!data.toList.isEmpty) = true := by rw [hd3]; rfl
      rcases k3 with k3 | k3 | k3
      all_goals
        subst k3
        go_enter Tryz.func44, Tryz.ntmps44
        go_wp2
        all_goals (go_ret; exact ⟨ret_bool (by rw [HR.out]; simp [*]), below_box _ _⟩)
  have HR : Hid (fieldsB ⟨kind, name, is, data, attrs, parent, kids, host, under, doc⟩ = false) := Lib.hid (by unfold fieldsB; dsimp only; rw [if_neg k1, if_neg k3, if_neg k2])
  have f0 : (kind == 0) = false := beq_eq_false_iff_ne.2 (fun e => k3 (.inl e))
  have f1 : (kind == 1) = false := beq_eq_false_iff_ne.2 k1
  have f2 : (kind == 2) = false := beq_eq_false_iff_ne.2 k2
  have f3 : (kind == 3) = false := beq_eq_false_iff_ne.2 (fun e => k3 (.inr (.inl e)))
  have f4 : (kind == 4) = false := beq_eq_false_iff_ne.2 (fun e => k3 (.inr (.inr e)))
  clear k1 k2 k3 HH
  go_enter Tryz.func44, Tryz.ntmps44
  go_wp2
  go_ret
  exact ⟨ret_bool HR.out.symm, below_box _ _⟩
end Go.Proofs.YtnjoimedilonnaaGreatDoor
namespace Go.Proofs.YtnjoimedilonnaaGreatDoor
open Go.RowKit
def SetPost (w : World) (M : AL) (z : Int) (e : Ending) (w' : World) : Prop := ∃ a len cap, e = .returned (.tuple #[.slice a len cap, .int .i64 z]) ∧ AttrRow w' a len cap M ∧ Below w.heap.size w w'
theorem SetPost.mk {w w' : World} {M : AL} {z : Int} {e : Ending} {a : Option Addr} {len cap : Nat} (he : e = .returned (.tuple #[.slice a len cap, .int .i64 z])) (h : AttrRow w' a len cap M) (hb : Below w.heap.size w w') : SetPost w M z e w' := ⟨a, len, cap, he, h, hb⟩
theorem attr_info : (Tryz.prog.info? 70).map (fun i => (i.zero, i.size, i.bytes)) = some (some (.agg #[.string ⟨#[]⟩, .string ⟨#[]⟩]), 2, 32) := by kernel_rfl
theorem AttrRow.of_own {w : World} {base : Nat} {v : Value} {n : Nat} {M : AL} (hl : M.length = n) (h : w.ownsRow base 70 2 v n (M.flatMap encA)) (hs : ∀ x ∈ M, x.1.size ≤ maxLen ∧ x.2.size ≤ maxLen) :
    ∃ a cap, v = .slice a n cap ∧ AttrRow w a n cap M := by
  rcases h.2 with ⟨rfl, h0⟩ | ⟨g, cap, cur, rfl, _⟩
  · subst h0
    have hL : M = [] := List.eq_nil_of_length_eq_zero hl
    subst hL
    exact ⟨none, 0, rfl, SRow.nil, hs, fun _ => rfl⟩
  · obtain ⟨a, cap', he, hr, _⟩ := SRow.of_own (fun x _ => encA_len x) hl h
    injection he with h1 h2 h3
    subst h1; subst h3
    exact ⟨_, _, rfl, hr, hs, fun h => by cases h⟩
theorem set_flat {M : AL} {p : Nat} {x y : ByteArray × ByteArray} (hx : M[p]? = some x) (hn : y.1 = x.1) : (M.set p y).flatMap encA = (M.flatMap encA).set (p * 2 + 1) (.string y.2) := by
  induction M generalizing p with
  | nil => simp at hx
  | cons z r ih =>
    cases p with
    | zero =>
      simp at hx; subst hx
      simp [encA, hn]
    | succ p =>
      have := ih (p := p) (by simpa using hx)
      have e : (p + 1) * 2 + 1 = p * 2 + 1 + 1 + 1 := by omega
      rw [List.set_cons_succ, List.flatMap_cons, List.flatMap_cons, this, e]
      simp [encA]
end Go.Proofs.YtnjoimedilonnaaGreatDoor
namespace Go.Proofs.YtnjoimedilonnaaGreatDoor
open Go.RowKit
def RemPost (w : World) (M : AL) (z : Bool) (e : Ending) (w' : World) : Prop := ∃ a len cap, e = .returned (.tuple #[.slice a len cap, .bool z]) ∧ AttrRow w' a len cap M ∧ Below w.heap.size w w'
theorem RemPost.mk {w w' : World} {M : AL} {z : Bool} {e : Ending} {a : Option Addr} {len cap : Nat} (he : e = .returned (.tuple #[.slice a len cap, .bool z])) (h : AttrRow w' a len cap M) (hb : Below w.heap.size w w') : RemPost w M z e w' := ⟨a, len, cap, he, h, hb⟩
def offQ (n : List UInt8) (x : ByteArray × ByteArray) : Bool := !keyIs (smallL n) x
theorem remA_yes {L : AL} {n : List UInt8} (h : hasA L n = true) : remA L n = L.filter (offQ n) := by unfold remA; rw [if_pos h]; rfl
theorem remA_no {L : AL} {n : List UInt8} (h : hasA L n = false) : remA L n = L := by unfold remA; rw [if_neg (by rw [h]; decide)]
theorem hasA_right {L : AL} {n : List UInt8} (h : hasA L n = true) : rightA L = true ∧ rightL n = true ∧ placeA L n < L.length := by
  unfold hasA at h
  simpa [and_assoc] using h
def TogPost (w : World) (M : AL) (t : Bool) (z : Int) (e : Ending) (w' : World) : Prop := ∃ a len cap, e = .returned (.tuple #[.slice a len cap, .bool t, .int .i64 z]) ∧ AttrRow w' a len cap M ∧ Below w.heap.size w w'
theorem TogPost.mk {w w' : World} {M : AL} {t : Bool} {z : Int} {e : Ending} {a : Option Addr} {len cap : Nat} (he : e = .returned (.tuple #[.slice a len cap, .bool t, .int .i64 z])) (h : AttrRow w' a len cap M) (hb : Below w.heap.size w w') : TogPost w M t z e w' := ⟨a, len, cap, he, h, hb⟩
end Go.Proofs.YtnjoimedilonnaaGreatDoor
namespace Go.Proofs.YtnjoimedilonnaaGreatDoor
open Go.RowKit Go.Maps Go.WideMaps
def findI (L : AL) (n : List UInt8) : Int := if rightA L && rightL n then atL L (smallL n) else -1
def findS (L : AL) (n : List UInt8) : List UInt8 := if rightA L && rightL n then smallL n else []
def findE (L : AL) (n : List UInt8) : Int := if rightA L then (if rightL n then 0 else 4) else 1
set_option maxHeartbeats 4000000 in
set_option maxRecDepth 100000 in
theorem find_any (a : Option Addr) (len cap : Nat) (L : AL) (n : ByteArray) (w : World) (h : AttrRow w a len cap L) (hn : n.size ≤ maxLen) :
    Calls Tryz.prog 33 #[.slice a len cap, .string n] w fun e w' => e = .returned (.tuple #[.int .i64 (findI L n.toList), .string (ofL (findS L n.toList)), .int .i64 (findE L n.toList)]) ∧ Below w.heap.size w w' := by
  have HN := Lib.hid hn
  by_cases hr : rightA L = true
  rotate_left
  · have hr : rightA L = false := by simpa using hr
    have C1 := Lib.hid (placesWrong_any a len cap L w h hr)
    have E1 : findI L n.toList = -1 := by unfold findI; rw [hr]; rfl
    have E2 : findS L n.toList = [] := by unfold findS; rw [hr]; rfl
    have E3 : findE L n.toList = 1 := by unfold findE; rw [hr]; rfl
    rw [E1, E2, E3]
    clear h hr hn E1 E2 E3
    go_enter Tryz.func33, Tryz.ntmps33
    go_wp2_with (first
      | (go_at_call 55; refine C1.out.mono ?_; rintro e w' ⟨rfl, HB⟩))
    go_ret3
    exact ⟨rfl, HB⟩
  have C1 := Lib.hid (placesRight_any a len cap L w h hr)
  have HF := Lib.hid (right_first hr)
  by_cases hnr : rightL n.toList = true
  rotate_left
  · have hnr : rightL n.toList = false := by simpa using hnr
    have E1 : findI L n.toList = -1 := by unfold findI; rw [hr, hnr]; rfl
    have E2 : findS L n.toList = [] := by unfold findS; rw [hr, hnr]; rfl
    have E3 : findE L n.toList = 4 := by unfold findE; rw [hr, hnr]; rfl
    have e1 : fitE n.toList = 4 := by unfold fitE; rw [hnr]; rfl
    have C2 : Hid (∀ W, Calls Tryz.prog 38 #[.string n] W fun e w' => e = .returned (.tuple #[.string (ofL (fitL n.toList)), .int .i64 4]) ∧ Below W.heap.size W w') := Lib.hid (fun W => by
      have := fit_any n W HN.out
      rwa [e1] at this)
    rw [E1, E2, E3]
    clear h hr hn E1 E2 E3 e1 hnr HF
    go_enter Tryz.func33, Tryz.ntmps33
    go_wp2_with (first
      | (go_at_call 55; refine C1.out.mono ?_; rintro e w1 ⟨b, rfl, _, _, HB⟩)
      | (go_at_call 38; refine (C2.out _).mono ?_; rintro e w' ⟨rfl, hb⟩; have HB := HB.trans (hb.mono HB.size); clear hb))
    go_ret3
    exact ⟨rfl, HB⟩
  have E1 : findI L n.toList = atL L (smallL n.toList) := by unfold findI; rw [hr, hnr]; rfl
  have E2 : findS L n.toList = smallL n.toList := by unfold findS; rw [hr, hnr]; rfl
  have E3 : findE L n.toList = 0 := by unfold findE; rw [hr, hnr]; rfl
  have e1 : fitE n.toList = 0 := by unfold fitE; rw [hnr]; rfl
  have e2 : fitL n.toList = smallL n.toList := by unfold fitL; rw [hnr]; rfl
  have C2 : Hid (∀ W, Calls Tryz.prog 38 #[.string n] W fun e w' => e = .returned (.tuple #[.string (ofL (smallL n.toList)), .int .i64 0]) ∧ Below W.heap.size W w') := Lib.hid (fun W => by
    have := fit_any n W HN.out
    rwa [e1, e2] at this)
  have hkey : Hid (keyOf Tryz.prog 9 (.string (ofL (smallL n.toList))) = some (.string (smallL n.toList))) := Lib.hid (by
    have := keyS (s := ofL (smallL n.toList)) (by rw [size_ofL, smallL_length, tl_len]; exact hn)
    rwa [← tl, toList_ofL] at this)
  have HH := Lib.hid (plD_has (L := L) (smallL n.toList) L.length (Nat.le_refl _))
  rw [E1, E2, E3]
  by_cases hp : atN L (smallL n.toList) < L.length
  · have HH1 : Hid (Maps.has (plD L L.length) (.string (smallL n.toList)) = true) := Lib.hid (by rw [HH.out, decide_eq_true hp])
    have HA := Lib.hid (plD_at (L := L) (smallL n.toList) (.lit (.int .i64 0)) L.length (Nat.le_refl _) HF.out hp)
    have HE : atL L (smallL n.toList) = (atN L (smallL n.toList) : Int) := by unfold atL; rw [if_pos hp]
    rw [HE]
    clear h hr hn E1 E2 E3 e1 e2 hnr HF HE hp HH
    go_enter Tryz.func33, Tryz.ntmps33
    go_wp2_with (first
      | (go_at_call 55; refine C1.out.mono ?_; rintro e w1 ⟨b, rfl, _, hown, HB⟩; have HM := Lib.hid hown; clear hown)
      | (go_at_call 38; refine (C2.out _).mono ?_; rintro e w' ⟨rfl, hb⟩; have HM := Lib.hid (own_belowM HM.out hb); have HB := HB.trans (hb.mono HB.size); clear hb)
      | (at_lookup; refine wpList_lookup_own_ok_int _ rfl _ _ 98 rfl 9 3 .i64 lawS Tryz.underlying98 Tryz.underlying3 (zeroI _) b L.length (plD L L.length) rfl HM.out _ _ rfl hkey.out ?_; intro c hat hwc; simp only [HH1.out]; obtain rfl : (atN L (smallL n.toList) : Int) = c := (by rw [HA.out] at hat; injection hat with hat; injection hat); clear hat hwc))
    go_ret3
    exact ⟨rfl, HB⟩
  · have HH1 : Hid (Maps.has (plD L L.length) (.string (smallL n.toList)) = false) := Lib.hid (by rw [HH.out, decide_eq_false hp])
    have HE : atL L (smallL n.toList) = -1 := by unfold atL; rw [if_neg hp]
    rw [HE]
    clear h hr hn E1 E2 E3 e1 e2 hnr HF HE hp HH
    go_enter Tryz.func33, Tryz.ntmps33
    go_wp2_with (first
      | (go_at_call 55; refine C1.out.mono ?_; rintro e w1 ⟨b, rfl, _, hown, HB⟩; have HM := Lib.hid hown; clear hown)
      | (go_at_call 38; refine (C2.out _).mono ?_; rintro e w' ⟨rfl, hb⟩; have HM := Lib.hid (own_belowM HM.out hb); have HB := HB.trans (hb.mono HB.size); clear hb)
      | (at_lookup; refine wpList_lookup_own_ok_int _ rfl _ _ 98 rfl 9 3 .i64 lawS Tryz.underlying98 Tryz.underlying3 (zeroI _) b L.length (plD L L.length) rfl HM.out _ _ rfl hkey.out ?_; intro c hat hwc; simp only [HH1.out]; clear hat hwc))
    go_ret3
    exact ⟨rfl, HB⟩
theorem afits_any (a : Option Addr) (len cap : Nat) (p : Int) (v : ByteArray) (w : World) (hv : v.size ≤ maxLen) :
    Calls Tryz.prog 51 #[.slice a len cap, .int .i64 p, .string v] w fun e w' => e = .returned (.bool (decide ((v.size : Int) ≤ 200) && (p != -1 || decide ((len : Int) < 40)))) ∧ w = w' := by
  have hv64 : v.size ≤ 9223372036854775807 := by unfold maxLen at hv; omega
  clear hv
  go_enter Tryz.func51, Tryz.ntmps51
  go_wp2
  all_goals
    go_ret
    refine ⟨ret_bool ?_, rfl⟩
    first | (simp_all; done) | (simp_all; omega)
end Go.Proofs.YtnjoimedilonnaaGreatDoor
namespace Go.Proofs.YtnjoimedilonnaaGreatDoor
def keyA (x : ByteArray × ByteArray) : List UInt8 := x.1.toList
def fineA (x : ByteArray × ByteArray) : Prop := rightL (keyA x) = true ∧ smallL (keyA x) = keyA x ∧ x.2.size ≤ 200
def lookA (L : AL) (k : List UInt8) : Option ByteArray := (L.find? (keyIs k)).map (·.2)
theorem keyIs_iff {n : List UInt8} {x : ByteArray × ByteArray} : keyIs n x = true ↔ keyA x = n := by unfold keyIs keyA; simp
theorem atN_get (L : AL) (n : List UInt8) : L[atN L n]? = L.find? (keyIs n) := by
  unfold atN
  induction L with
  | nil => rfl
  | cons x r ih =>
    by_cases h : keyIs n x = true
    · rw [List.findIdx_cons, List.find?_cons]; simp [h]
    · rw [List.findIdx_cons, List.find?_cons]; simp [h, ih]
theorem nodup_at (L : AL) : (∀ (k : Nat) x, L[k]? = some x → atN L (keyA x) = k) ↔ (L.map keyA).Nodup := by
  unfold List.Nodup
  rw [List.pairwise_iff_getElem]
  constructor
  · intro h i j hi hj hij he
    simp only [List.length_map] at hi hj
    simp only [List.getElem_map] at he
    have h1 := h i _ (List.getElem?_eq_getElem hi)
    have h2 := h j _ (List.getElem?_eq_getElem hj)
    rw [he] at h1
    omega
  · intro h k x hx
    obtain ⟨hl, hg⟩ := List.getElem?_eq_some_iff.1 hx
    have hle : atN L (keyA x) ≤ k := by
      rcases Nat.lt_or_ge k (atN L (keyA x)) with h1 | h1
      · have := List.not_of_lt_findIdx h1
        rw [hg, keyIs_iff.2 rfl] at this
        cases this
      · exact h1
    rcases Nat.lt_or_ge (atN L (keyA x)) k with h1 | h1
    · have hl1 : atN L (keyA x) < L.length := by omega
      have h2 : keyIs (keyA x) (L[atN L (keyA x)]'hl1) = true := List.findIdx_getElem (w := hl1)
      have h3 := h (atN L (keyA x)) k (by simpa using hl1) (by simpa using hl) h1
      simp only [List.getElem_map] at h3
      rw [keyIs_iff.1 h2, hg] at h3
      exact absurd rfl h3
    · omega
theorem right_iff (L : AL) : rightA L = true ↔ L.length ≤ 40 ∧ (∀ x ∈ L, fineA x) ∧ (L.map keyA).Nodup := by
  rw [rightA_iff, ← nodup_at]
  constructor
  · rintro ⟨h1, h2⟩
    refine ⟨h1, fun x hx => ?_, fun k x hx => ?_⟩
    · obtain ⟨k, hk, he⟩ := List.mem_iff_getElem.1 hx
      have := h2 k x (by rw [List.getElem?_eq_getElem hk, he])
      unfold okAt at this
      simp at this
      exact ⟨this.1.1.1, this.1.1.2, this.1.2⟩
    · have := h2 k x hx
      unfold okAt at this
      simp at this
      exact this.2
  · rintro ⟨h1, h2, h3⟩
    refine ⟨h1, fun k x hx => ?_⟩
    obtain ⟨f1, f2, f3⟩ := h2 x (List.mem_of_getElem? hx)
    have f4 := h3 k x hx
    unfold keyA at *
    unfold okAt
    rw [f1, f2, decide_eq_true f3, decide_eq_true f4]
    simp
theorem place_none {L : AL} {n : List UInt8} (h : ¬ placeA L n < L.length) : ∀ x ∈ L, keyA x ≠ smallL n := by
  intro x hx he
  have : atN L (smallL n) < L.length := List.findIdx_lt_length_of_exists ⟨x, hx, keyIs_iff.2 he⟩
  exact h this
theorem has_iff (L : AL) (n : List UInt8) : hasA L n = (rightA L && rightL n && (lookA L (smallL n)).isSome) := by
  unfold hasA
  congr 1
  have h := atN_get L (smallL n)
  unfold lookA
  rw [← h]
  unfold placeA
  by_cases hp : atN L (smallL n) < L.length
  · rw [decide_eq_true hp, List.getElem?_eq_getElem hp]; rfl
  · rw [decide_eq_false hp, List.getElem?_eq_none (by omega)]; rfl
theorem val_iff (L : AL) (n : List UInt8) : valA L n = if hasA L n then (lookA L (smallL n)).getD (ofL []) else ofL [] := by
  unfold valA
  by_cases h : hasA L n = true
  · rw [if_pos h, if_pos h]
    unfold lookA
    rw [← atN_get]
    have hp := (hasA_right h).2.2
    unfold placeA at *
    rw [List.getElem?_eq_getElem hp]
    rfl
  · rw [if_neg h, if_neg h]
theorem set_parts {L : AL} {n : List UInt8} {v : ByteArray} (h : setE L n v = 0) : rightA L = true ∧ rightL n = true ∧ longA L n v = false := by
  unfold setE at h
  by_cases h1 : rightA L = true
  · rw [if_pos h1] at h
    by_cases h2 : rightL n = true
    · rw [if_pos h2] at h
      by_cases h3 : longA L n v = true
      · rw [if_pos h3] at h; cases h
      · exact ⟨h1, h2, by simpa using h3⟩
    · rw [if_neg h2] at h; cases h
  · rw [if_neg h1] at h; cases h
theorem setA_eq {L : AL} {n : List UInt8} {v : ByteArray} (h : setE L n v = 0) : setA L n v = setL L n v := by unfold setA; rw [if_pos h]
theorem setA_ne {L : AL} {n : List UInt8} {v : ByteArray} (h : ¬ setE L n v = 0) : setA L n v = L := by unfold setA; rw [if_neg h]
theorem key_ofL (k : List UInt8) (v : ByteArray) : keyA (ofL k, v) = k := toList_ofL k
theorem set_keys {L : AL} {n : List UInt8} (v : ByteArray) (hp : placeA L n < L.length) : (L.set (placeA L n) (ofL (smallL n), v)).map keyA = L.map keyA := by
  obtain ⟨x, hx, hk⟩ := place_key hp
  obtain ⟨hl, hg⟩ := List.getElem?_eq_some_iff.1 hx
  rw [List.map_set, key_ofL]
  apply List.ext_getElem (by simp)
  intro i h1 h2
  by_cases e : placeA L n = i
  · subst e
    simp [hg]
    rw [show keyA x = x.1.toList from rfl, hk, toList_ofL]
  · simp [e]
theorem setL_right {L : AL} {n : List UInt8} {v : ByteArray} (h : setE L n v = 0) : rightA (setL L n v) = true := by
  obtain ⟨h1, h2, h3⟩ := set_parts h
  obtain ⟨g1, g2, g3⟩ := (right_iff L).1 h1
  have hf : fineA (ofL (smallL n), v) := by
    refine ⟨by rw [key_ofL, right_small]; exact h2, by rw [key_ofL, smallL_twice], ?_⟩
    unfold longA at h3
    simp at h3
    show v.size ≤ 200
    omega
  rw [right_iff]
  unfold setL
  by_cases hp : placeA L n < L.length
  · rw [if_pos hp]
    refine ⟨by rw [List.length_set]; exact g1, fun x hx => ?_, by rw [set_keys v hp]; exact g3⟩
    rcases List.mem_or_eq_of_mem_set hx with hx | rfl
    · exact g2 x hx
    · exact hf
  · rw [if_neg hp]
    have h40 : L.length < 40 := by
      unfold longA at h3
      simp at h3
      omega
    refine ⟨by rw [List.length_append]; simp; omega, fun x hx => ?_, ?_⟩
    · rcases List.mem_append.1 hx with hx | hx
      · exact g2 x hx
      · simp at hx; subst hx; exact hf
    · rw [List.map_append, List.nodup_append]
      refine ⟨g3, by simp, fun a ha b hb => ?_⟩
      simp at hb
      subst hb
      obtain ⟨x, hx, rfl⟩ := List.mem_map.1 ha
      rw [show keyA (ofL (smallL n), v) = smallL n from key_ofL _ _]
      exact place_none hp x hx
theorem look_set_same {L : AL} {n : List UInt8} (v : ByteArray) : lookA (setL L n v) (smallL n) = some v := by
  unfold setL lookA
  have hk : keyIs (smallL n) (ofL (smallL n), v) = true := keyIs_iff.2 (key_ofL _ _)
  by_cases hp : placeA L n < L.length
  · rw [if_pos hp, ← atN_get]
    have : atN (L.set (placeA L n) (ofL (smallL n), v)) (smallL n) = placeA L n := by
      refine atN_here ?_ (x := (ofL (smallL n), v)) (by rw [List.getElem?_set_self hp]) hk
      rcases Nat.lt_or_ge (atN (L.set (placeA L n) (ofL (smallL n), v)) (smallL n)) (placeA L n) with h1 | h1
      · have hl : atN (L.set (placeA L n) (ofL (smallL n), v)) (smallL n) < (L.set (placeA L n) (ofL (smallL n), v)).length := by rw [List.length_set]; omega
        have h2 : keyIs (smallL n) ((L.set (placeA L n) (ofL (smallL n), v))[atN (L.set (placeA L n) (ofL (smallL n), v)) (smallL n)]'hl) = true := List.findIdx_getElem (w := hl)
        rw [List.getElem_set_ne (by omega)] at h2
        have h3 := List.not_of_lt_findIdx (xs := L) (p := keyIs (smallL n)) (i := atN (L.set (placeA L n) (ofL (smallL n), v)) (smallL n)) h1
        rw [h2] at h3
        cases h3
      · exact h1
    rw [this, List.getElem?_set_self hp]
    rfl
  · rw [if_neg hp, List.find?_append]
    have : L.find? (keyIs (smallL n)) = none := by
      rw [List.find?_eq_none]
      intro x hx h
      exact place_none hp x hx (keyIs_iff.1 h)
    rw [this]
    simp [hk]
theorem filter_right {L : AL} (q : ByteArray × ByteArray → Bool) (h : rightA L = true) : rightA (L.filter q) = true := by
  obtain ⟨g1, g2, g3⟩ := (right_iff L).1 h
  rw [right_iff]
  refine ⟨Nat.le_trans (List.length_filter_le _ _) g1, fun x hx => g2 x (List.mem_filter.1 hx).1, ?_⟩
  exact List.Nodup.sublist (List.Sublist.map _ List.filter_sublist) g3
end Go.Proofs.YtnjoimedilonnaaGreatDoor
namespace Go.Proofs.YtnjoimedilonnaaGreatDoor
open Go.RowKit
theorem own_stay {w V : World} {base : Nat} {e : TypeId} {size n : Nat} {v : Value} {xs : List Value} {r : Option Nat} (h : w.ownsRow base e size v n xs) (hg : w.grownBy V r) (hr : ∀ k, v.ownBlock = some k → some k ≠ r) : V.ownsRow base e size v n xs := by
  refine ⟨h.1, ?_⟩
  rcases h.2 with h0 | ⟨g, cap, cur, hv, hb, hh, h1, h2, h3, h4⟩
  · exact .inl h0
  · have hlt : g < w.heap.size := by
      rcases Nat.lt_or_ge g w.heap.size with h | h
      · exact h
      · rw [Array.getElem?_eq_none h] at hh; cases hh
    exact .inr ⟨g, cap, cur, hv, hb, (hg.block g hlt (hr g (by rw [hv]; rfl))).trans hh, h1, h2, h3, h4⟩
theorem grown_refl (w : World) (r : Option Nat) : w.grownBy w r := ⟨rfl, rfl, rfl, Nat.le_refl _, fun _ _ _ => rfl⟩
theorem grown_by {w V : World} (hb : Below w.heap.size w V) (r : Option Nat) : w.grownBy V r := ⟨hb.os, hb.tape, hb.output, hb.size, fun k hk _ => hb.block k hk⟩
theorem grown_then {w W V : World} {r : Option Nat} (h : w.grownBy W r) (hb : Below W.heap.size W V) : w.grownBy V r :=
  ⟨hb.os.trans h.os, hb.tape.trans h.tape, hb.output.trans h.output, Nat.le_trans h.size hb.size, fun k hk hr => (hb.block k (Nat.lt_of_lt_of_le hk h.size)).trans (h.block k hk hr)⟩
theorem own_n {α : Type} {enc : α → List Value} {size : Nat} (henc : ∀ x, (enc x).length = size) (hpos : 0 < size) {w : World} {base : Nat} {e : TypeId} {v : Value} {n : Nat} {L : List α} (h : w.ownsRow base e size v n (L.flatMap enc)) : L.length = n := by
  have h1 := h.1
  rw [flat_len (fun x _ => henc x)] at h1
  exact Nat.eq_of_mul_eq_mul_right hpos h1
theorem LRow.of_own {α : Type} {enc : α → List Value} {size : Nat} {ok : α → Prop} (henc : ∀ x, (enc x).length = size) (hpos : 0 < size) {w : World} {base : Nat} {e : TypeId} {a : Option Addr} {n c : Nat} {L : List α} (h : w.ownsRow base e size (.slice a n c) n (L.flatMap enc)) (hok : ∀ x ∈ L, ok x) :
    LRow enc size ok w a n c L ∧ (∀ b o, a = some ⟨b, o, none⟩ → base ≤ b ∧ o = 0) := by
  obtain ⟨a', c', e', h2, h3⟩ := SRow.of_own (fun x _ => henc x) (own_n henc hpos h) h
  injection e' with e1 _ e3
  subst e1; subst e3
  rcases h.2 with ⟨hv, _⟩ | ⟨g, cap', cur, hv, _⟩
  · injection hv with e1 e2 e3
    subst e1; subst e2; subst e3
    exact ⟨⟨h2, hok, fun _ => rfl⟩, fun b o e => by cases e⟩
  · injection hv with e1 e2 e3
    subst e1
    exact ⟨⟨h2, hok, fun e => by cases e⟩, fun b o e => ⟨h3 b o e, by injection e with e; injection e with _ e; exact e.symm⟩⟩
def SHd.own {α : Type} (x : SHd α) : Option Nat := (Value.slice x.a x.n x.c).ownBlock
structure OwnRows {α : Type} (enc : α → List Value) (size : Nat) (ok : α → Prop) (base : Nat) (th te : TypeId) (W : World) (a : Option Addr) (n c : Nat) (T : List (SHd α)) : Prop where
  row : W.ownsRow base th 1 (.slice a n c) n (T.flatMap encH)
  each : ∀ x ∈ T, W.ownsRow base te size (.slice x.a x.n x.c) x.n (x.l.flatMap enc)
  ok : ∀ x ∈ T, ∀ y ∈ x.l, ok y
  apart : ∀ (i j : Nat) (x y : SHd α), i ≠ j → T[i]? = some x → T[j]? = some y → ∀ k, x.own = some k → some k ≠ y.own
section
variable {α : Type} {enc : α → List Value} {size : Nat} {ok : α → Prop} {base : Nat} {th te : TypeId} {W V : World} {a : Option Addr} {n c : Nat} {T : List (SHd α)}
theorem OwnRows.stay (h : OwnRows enc size ok base th te W a n c T) {r : Option Nat} (hg : W.grownBy V r) (h1 : ∀ k, (Value.slice a n c).ownBlock = some k → some k ≠ r) (h2 : ∀ x ∈ T, ∀ k, x.own = some k → some k ≠ r) : OwnRows enc size ok base th te V a n c T :=
  ⟨own_stay h.row hg h1, fun x hx => own_stay (h.each x hx) hg (h2 x hx), h.ok, h.apart⟩
theorem OwnRows.keep (h : OwnRows enc size ok base th te W a n c T) (hb : Below W.heap.size W V) : OwnRows enc size ok base th te V a n c T :=
  h.stay (grown_by hb none) (fun _ _ e => by cases e) (fun _ _ _ _ e => by cases e)
theorem OwnRows.hlen (h : OwnRows enc size ok base th te W a n c T) : T.length = n := own_n (fun x => encH_len x) (by decide) h.row
theorem OwnRows.hrow (h : OwnRows enc size ok base th te W a n c T) (henc : ∀ x, (enc x).length = size) (hpos : 0 < size) : HRow enc size ok W a n c T ∧ (∀ b o, a = some ⟨b, o, none⟩ → base ≤ b ∧ o = 0) ∧ ∀ x ∈ T, ∀ b o, x.a = some ⟨b, o, none⟩ → base ≤ b ∧ o = 0 := by
  have h1 := LRow.of_own (ok := fun _ : SHd α => True) (fun x => encH_len x) (by decide) h.row (fun _ _ => trivial)
  exact ⟨⟨h1.1.row, fun x hx => (LRow.of_own henc hpos (h.each x hx) (h.ok x hx)).1, h1.1.hnil⟩, h1.2, fun x hx => (LRow.of_own henc hpos (h.each x hx) (h.ok x hx)).2⟩
theorem OwnRows.lt (h : OwnRows enc size ok base th te W a n c T) {x : SHd α} (hx : x ∈ T) {k : Nat} (hk : x.own = some k) : base ≤ k ∧ k < W.heap.size := (h.each x hx).lt k hk
end
end Go.Proofs.YtnjoimedilonnaaGreatDoor
