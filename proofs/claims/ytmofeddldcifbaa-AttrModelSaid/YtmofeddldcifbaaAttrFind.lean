/- Package attr's find, fits, Right, Get. -/
import Derived.Test.YtmofeddldcifbaaAttrPlaces
namespace Go.Proofs.Ytmofeddldcifbaa
open Go.RowKit Go.Maps Go.WideMaps
/-- What find answers. -/
def findI (L : AL) (n : List UInt8) : Int := if rightA L && rightL n then atL L (smallL n) else -1
def findS (L : AL) (n : List UInt8) : List UInt8 := if rightA L && rightL n then smallL n else []
def findE (L : AL) (n : List UInt8) : Int := if rightA L then (if rightL n then 0 else 4) else 1
/-- A list that is right: the map in hand has each name at its place. -/
theorem right_first {L : AL} (h : rightA L = true) : firstK L L.length := fun j x _ hx => by
  have := ((rightA_iff L).1 h).2 j x hx
  rw [okAt_eq] at this
  simp at this
  exact this.2
theorem placesRight_any (a : Option Addr) (len cap : Nat) (L : AL) (w : World) (h : AttrRow w a len cap L) (hr : rightA L = true) :
    Calls Try.prog 30 #[.slice a len cap] w fun e w' => ∃ b, e = .returned (.tuple #[.map (some b), .bool true]) ∧ w.heap.size ≤ b ∧ ownsPl w' b L.length (plD L L.length) ∧ Below w.heap.size w w' :=
  (places_any a len cap L w h).mono fun e w' hp => by
    unfold PlacesPost at hp
    rw [hr] at hp
    exact hp
theorem placesWrong_any (a : Option Addr) (len cap : Nat) (L : AL) (w : World) (h : AttrRow w a len cap L) (hr : rightA L = false) :
    Calls Try.prog 30 #[.slice a len cap] w fun e w' => e = .returned (.tuple #[.map none, .bool false]) ∧ Below w.heap.size w w' :=
  (places_any a len cap L w h).mono fun e w' hp => by
    unfold PlacesPost at hp
    rw [hr] at hp
    exact hp
theorem right_any' (a : Option Addr) (len cap : Nat) (L : AL) (w : World) (h : AttrRow w a len cap L) :
    Calls Try.prog 18 #[.slice a len cap] w fun e w' => e = .returned (.bool (rightA L)) ∧ Below w.heap.size w w' := by
  by_cases hr : rightA L = true
  · have C1 := Lib.hid (placesRight_any a len cap L w h hr)
    rw [hr]
    clear h hr
    go_enter Try.func18, Try.ntmps18
    go_wp2_with (first
      | (go_at_call 30; refine C1.out.mono ?_; rintro e w' ⟨b, rfl, _, _, HB⟩))
    go_ret
    exact ⟨rfl, HB⟩
  · have hr : rightA L = false := by simpa using hr
    have C1 := Lib.hid (placesWrong_any a len cap L w h hr)
    rw [hr]
    clear h hr
    go_enter Try.func18, Try.ntmps18
    go_wp2_with (first
      | (go_at_call 30; refine C1.out.mono ?_; rintro e w' ⟨rfl, HB⟩))
    go_ret
    exact ⟨rfl, HB⟩
set_option maxHeartbeats 4000000 in
theorem find_any (a : Option Addr) (len cap : Nat) (L : AL) (n : ByteArray) (w : World) (h : AttrRow w a len cap L) (hn : n.size ≤ maxLen) :
    Calls Try.prog 24 #[.slice a len cap, .string n] w fun e w' => e = .returned (.tuple #[.int .i64 (findI L n.toList), .string (ofL (findS L n.toList)), .int .i64 (findE L n.toList)]) ∧ Below w.heap.size w w' := by
  have HN := Lib.hid hn
  by_cases hr : rightA L = true
  rotate_left
  · have hr : rightA L = false := by simpa using hr
    have C1 := Lib.hid (placesWrong_any a len cap L w h hr)
    have E1 : findI L n.toList = -1 := by unfold findI; rw [hr]; rfl
    have E2 : findS L n.toList = [] := by unfold findS; rw [hr]; rfl
    have E3 : findE L n.toList = 1 := by unfold findE; rw [hr]; rfl
    rw [E1, E2, E3]
    clear h hr hn E1 E2 E3
    go_enter Try.func24, Try.ntmps24
    go_wp2_with (first
      | (go_at_call 30; refine C1.out.mono ?_; rintro e w' ⟨rfl, HB⟩))
    go_ret3
    exact ⟨rfl, HB⟩
  have C1 := Lib.hid (placesRight_any a len cap L w h hr)
  have HF := Lib.hid (right_first hr)
  by_cases hnr : rightL n.toList = true
  rotate_left
  · have hnr : rightL n.toList = false := by simpa using hnr
    have E1 : findI L n.toList = -1 := by unfold findI; rw [hr, hnr]; rfl
    have E2 : findS L n.toList = [] := by unfold findS; rw [hr, hnr]; rfl
    have E3 : findE L n.toList = 4 := by unfold findE; rw [hr, hnr]; rfl
    have e1 : fitE n.toList = 4 := by unfold fitE; rw [hnr]; rfl
    have C2 : Hid (∀ W, Calls Try.prog 32 #[.string n] W fun e w' => e = .returned (.tuple #[.string (ofL (fitL n.toList)), .int .i64 4]) ∧ Below W.heap.size W w') := Lib.hid (fun W => by
      have := fit_any n W HN.out
      rwa [e1] at this)
    rw [E1, E2, E3]
    clear h hr hn E1 E2 E3 e1 hnr HF
    go_enter Try.func24, Try.ntmps24
    go_wp2_with (first
      | (go_at_call 30; refine C1.out.mono ?_; rintro e w1 ⟨b, rfl, _, _, HB⟩)
      | (go_at_call 32; refine (C2.out _).mono ?_; rintro e w' ⟨rfl, hb⟩; have HB := HB.trans (hb.mono HB.size); clear hb))
    go_ret3
    exact ⟨rfl, HB⟩
  have E1 : findI L n.toList = atL L (smallL n.toList) := by unfold findI; rw [hr, hnr]; rfl
  have E2 : findS L n.toList = smallL n.toList := by unfold findS; rw [hr, hnr]; rfl
  have E3 : findE L n.toList = 0 := by unfold findE; rw [hr, hnr]; rfl
  have e1 : fitE n.toList = 0 := by unfold fitE; rw [hnr]; rfl
  have e2 : fitL n.toList = smallL n.toList := by unfold fitL; rw [hnr]; rfl
  have C2 : Hid (∀ W, Calls Try.prog 32 #[.string n] W fun e w' => e = .returned (.tuple #[.string (ofL (smallL n.toList)), .int .i64 0]) ∧ Below W.heap.size W w') := Lib.hid (fun W => by
    have := fit_any n W HN.out
    rwa [e1, e2] at this)
  have hkey : Hid (keyOf Try.prog 9 (.string (ofL (smallL n.toList))) = some (.string (smallL n.toList))) := Lib.hid (by
    have := keyS (s := ofL (smallL n.toList)) (by rw [size_ofL, smallL_length, tl_len]; exact hn)
    rwa [← tl, toList_ofL] at this)
  have HH := Lib.hid (plD_has (L := L) (smallL n.toList) L.length (Nat.le_refl _))
  rw [E1, E2, E3]
  by_cases hp : atN L (smallL n.toList) < L.length
  · have HH1 : Hid (Maps.has (plD L L.length) (.string (smallL n.toList)) = true) := Lib.hid (by rw [HH.out, decide_eq_true hp])
    have HA := Lib.hid (plD_at (L := L) (smallL n.toList) (.lit (.int .i64 0)) L.length (Nat.le_refl _) HF.out hp)
    have HE : atL L (smallL n.toList) = (atN L (smallL n.toList) : Int) := by unfold atL; rw [if_pos hp]
    rw [HE]
    clear h hr hn E1 E2 E3 e1 e2 hnr HF HE hp HH
    go_enter Try.func24, Try.ntmps24
    go_wp2_with (first
      | (go_at_call 30; refine C1.out.mono ?_; rintro e w1 ⟨b, rfl, _, hown, HB⟩; have HM := Lib.hid hown; clear hown)
      | (go_at_call 32; refine (C2.out _).mono ?_; rintro e w' ⟨rfl, hb⟩; have HM := Lib.hid (own_belowM HM.out hb); have HB := HB.trans (hb.mono HB.size); clear hb)
      | (at_lookup; refine wpList_lookup_own_ok_int _ rfl _ _ 61 rfl 9 3 .i64 lawS Try.underlying61 Try.underlying3 (zeroI _) b L.length (plD L L.length) rfl HM.out _ _ rfl hkey.out ?_; intro c hat hwc; simp only [HH1.out]; obtain rfl : (atN L (smallL n.toList) : Int) = c := (by rw [HA.out] at hat; injection hat with hat; injection hat); clear hat hwc))
    go_ret3
    exact ⟨rfl, HB⟩
  · have HH1 : Hid (Maps.has (plD L L.length) (.string (smallL n.toList)) = false) := Lib.hid (by rw [HH.out, decide_eq_false hp])
    have HE : atL L (smallL n.toList) = -1 := by unfold atL; rw [if_neg hp]
    rw [HE]
    clear h hr hn E1 E2 E3 e1 e2 hnr HF HE hp HH
    go_enter Try.func24, Try.ntmps24
    go_wp2_with (first
      | (go_at_call 30; refine C1.out.mono ?_; rintro e w1 ⟨b, rfl, _, hown, HB⟩; have HM := Lib.hid hown; clear hown)
      | (go_at_call 32; refine (C2.out _).mono ?_; rintro e w' ⟨rfl, hb⟩; have HM := Lib.hid (own_belowM HM.out hb); have HB := HB.trans (hb.mono HB.size); clear hb)
      | (at_lookup; refine wpList_lookup_own_ok_int _ rfl _ _ 61 rfl 9 3 .i64 lawS Try.underlying61 Try.underlying3 (zeroI _) b L.length (plD L L.length) rfl HM.out _ _ rfl hkey.out ?_; intro c hat hwc; simp only [HH1.out]; clear hat hwc))
    go_ret3
    exact ⟨rfl, HB⟩
/-- fits, when the value is too long; when the name is there; when it isn't. -/
theorem fits_any (a : Option Addr) (len cap : Nat) (p : Int) (v : ByteArray) (w : World) (hv : v.size ≤ maxLen) :
    Calls Try.prog 27 #[.slice a len cap, .int .i64 p, .string v] w fun e w' => e = .returned (.bool (decide ((v.size : Int) ≤ 200) && (p != -1 || decide ((len : Int) < 40)))) ∧ w = w' := by
  have hv64 : v.size ≤ 9223372036854775807 := by unfold maxLen at hv; omega
  clear hv
  go_enter Try.func27, Try.ntmps27
  go_wp2
  all_goals
    go_ret
    refine ⟨ret_bool ?_, rfl⟩
    first | (simp_all; done) | (simp_all; omega)
end Go.Proofs.Ytmofeddldcifbaa
