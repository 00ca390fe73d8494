/- Texts joined in build order: NameText NameSmall NameFit AttrStand DeskPure. -/
import Derived.Test.YtkfmengdffpcnaaGreatDoorA01
import Derived.Lib.Strings
import Derived.Laws.IdiomStrings
import Derived.Below
import Derived.WideShapes
namespace Go.Proofs.YtkfmengdffpcnaaGreatDoor
open Go.RowKit
set_option maxHeartbeats 1000000 in
theorem right_any (s : ByteArray) (w : World) (hs : s.size ≤ maxLen) :
    Calls Tryz.prog 106 #[.string s] w fun e w' => e = .returned (.bool (rightL s.toList)) ∧ w = w' := by
  unfold maxLen at hs
  have hlen := tl_len s
  by_cases h0 : s.size < 1
  · have H := Lib.hid (rightL_ends s.toList (by omega))
    clear hlen
    go_enter Tryz.func106, Tryz.ntmps106
    go_wp2
    go_ret
    exact ⟨ret_bool H.out.symm, rfl⟩
  by_cases h1 : 40 < s.size
  · have H := Lib.hid (rightL_ends s.toList (by omega))
    clear hlen
    go_enter Tryz.func106, Tryz.ntmps106
    go_wp2
    go_ret
    exact ⟨ret_bool H.out.symm, rfl⟩
  have hp : 0 < s.size := by omega
  have hg0 := tl_get s 0 hp
  by_cases hh : headB (s[0]'hp) = true
  · have HL := Lib.hid hlen
    have HG := Lib.hid hg0
    have hh' : headI ((s[0]'hp).toNat : Int) = true := hh
    have HH := Lib.hid hh
    have HS := Lib.hid (sign_of_head _ hh)
    clear hlen hg0 hh
    go_enter Tryz.func106, Tryz.ntmps106
    go_wp2_with (go_at_call 124; refine (mayBegin_any _ _).mono ?_; rintro e w' ⟨rfl, rfl⟩)
    go_loop [3] (fun i => ∃ k : Nat, 1 ≤ k ∧ k ≤ s.size ∧ i = .int .i64 k ∧ Hid ((s.toList.take k).all signB = true)) (fun i => s.size - (intOf i).toNat)
    case atStart =>
      refine ⟨1, by omega, by omega, rfl, ?_⟩
      have := all_take_succ s.toList 0 _ HG.out rfl
      exact Lib.hid (this.trans HS.out)
    case round =>
      obtain ⟨k, hk1, hk2, rfl, HA⟩ := hrel
      by_cases hlt : k < s.size
      · have HK := Lib.hid (tl_get s k hlt)
        go_wp2_with (go_at_call 125; refine (isSign_any _ _).mono ?_; rintro e w' ⟨rfl, rfl⟩)
        · have hb : signI (s[k].toNat : Int) = false := by first | assumption | (simpa using ‹(!signI (s[k].toNat : Int)) = true›)
          go_ret
          exact ⟨ret_bool (rightL_stop _ k _ HK.out hb).symm, rfl⟩
        · have hb : signI (s[k].toNat : Int) = true := by first | assumption | (simpa using ‹(!signI (s[k].toNat : Int)) = false›)
          go_round
          case rel => exact ⟨k + 1, by omega, by omega, by go_num, Lib.hid ((all_take_succ _ k _ HK.out HA.out).trans hb)⟩
          case measure => simp [intOf]; omega
      · go_wp2
        go_ret
        refine ⟨ret_bool ?_, rfl⟩
        have e : k = s.toList.length := by rw [HL.out]; omega
        have h2 := HA.out
        rw [e] at h2
        exact (rightL_full s.toList _ (by rw [HL.out]; omega) (by rw [HL.out]; omega) HG.out HH.out h2).symm
  · have hh2 : headB (s[0]'hp) = false := by simpa using hh
    have hh' : headI ((s[0]'hp).toNat : Int) = false := hh2
    have HR := Lib.hid (rightL_head _ _ hg0 hh2)
    clear hlen hg0 hh hh2
    go_enter Tryz.func106, Tryz.ntmps106
    go_wp2_with (go_at_call 124; refine (mayBegin_any _ _).mono ?_; rintro e w' ⟨rfl, rfl⟩)
    go_ret
    exact ⟨ret_bool HR.out.symm, rfl⟩
end Go.Proofs.YtkfmengdffpcnaaGreatDoor
namespace Go.Proofs.YtkfmengdffpcnaaGreatDoor
open Go.RowKit
theorem bytes_made (s : ByteArray) (w : World) : ∃ (cap : Nat) (C : Array Value) (mk : Nat × Nat),
    (convert 9 184 (.string s)).run Tryz.prog w = .ok (.slice (some ⟨w.heap.size, 0, none⟩) s.size cap) (w.drew.alloc (.cells C 5 mk)) ∧
    (∀ j (h : j < s.size), (w.alloc (.cells C 5 mk)).cell? ⟨w.heap.size, j, none⟩ = some (.int .u8 (s[j].toNat : Int))) ∧
    ∀ j, j < s.size → (w.alloc (.cells C 5 mk)).frozen? ⟨w.heap.size, j, none⟩ = false := by
  refine ⟨_, _, _, run_bytes_of_string w 9 184 5 s Tryz.underlying9 Tryz.underlying184 Tryz.underlying5, ?_, ?_⟩
  · intro j h
    rw [World.cell?_alloc_mark]
    exact bytesRow_at s _ j h
  · intro j h
    rw [World.frozen?_alloc_mark]
    have : s.size ≤ (bytesRow s (grownCap w s.size 0 5)).size := by
      simp [bytesRow]
    simp
    omega
structure SmallRow (s : ByteArray) (w wr : World) (k : Nat) : Prop where
  cells : ∀ j (h : j < s.size), wr.cell? ⟨w.heap.size, j, none⟩ = some (.int .u8 ((if j < k then smallB s[j] else s[j]).toNat : Int))
  free : ∀ j, j < s.size → wr.frozen? ⟨w.heap.size, j, none⟩ = false
  below : Below w.heap.size w wr
theorem SmallRow.keep {s : ByteArray} {w wr : World} {k : Nat} (h : SmallRow s w wr k) (hk : k < s.size) (hc : capI (s[k].toNat : Int) = false) : SmallRow s w wr (k + 1) := by
  refine ⟨fun j hj => ?_, h.free, h.below⟩
  rw [h.cells j hj]
  by_cases e : j = k
  · subst e
    rw [if_neg (by omega), if_pos (by omega)]
    unfold smallB
    rw [hc]
    rfl
  · by_cases e2 : j < k
    · rw [if_pos e2, if_pos (by omega)]
    · rw [if_neg e2, if_neg (by omega)]
theorem SmallRow.store {s : ByteArray} {w wr : World} {k : Nat} (h : SmallRow s w wr k) (hk : k < s.size) :
    SmallRow s w (wr.setCell ⟨w.heap.size, k, none⟩ (.int .u8 ((smallB s[k]).toNat : Int))) (k + 1) := by
  refine ⟨fun j hj => ?_, fun j hj => ?_, h.below.setCell (Nat.le_refl _) _⟩
  · by_cases e : j = k
    · subst e
      rw [World.cell?_setCell_same _ _ _ (h.cells j hj), if_pos (by omega)]
    · rw [World.cell?_setCell_other _ _ _ _ (by intro h; injection h; omega), h.cells j hj]
      by_cases e2 : j < k
      · rw [if_pos e2, if_pos (by omega)]
      · rw [if_neg e2, if_neg (by omega)]
  · rw [World.frozen?_setCell]
    exact h.free j hj
theorem smallL_len (l : List UInt8) : (smallL l).length = l.length := by simp [smallL]
theorem smallB_cap (c : UInt8) (h : capI (c.toNat : Int) = true) : ((smallB c).toNat : Int) = (c.toNat : Int) + 32 := by
  have hb := of_decide_eq_true h
  unfold smallB
  rw [h]
  simp [UInt8.toNat_add]
  omega
theorem SmallRow.back {s : ByteArray} {w wr : World} {k : Nat} (h : SmallRow s w wr k) (hk : k = s.size) (cap : Nat) :
    (convert 184 9 (.slice (some ⟨w.heap.size, 0, none⟩) s.size cap)).run Tryz.prog wr = .ok (.string (ofL (smallL s.toList))) wr := by
  have hl : (smallL s.toList).length = s.size := by rw [smallL_len, tl_len]
  have := run_convert_bytes_back (P := Tryz.prog) wr 184 9 5 ⟨w.heap.size, 0, none⟩ cap (smallL s.toList) Tryz.underlying184 Tryz.underlying5 Tryz.underlying9 (fun j hj => by
    have hj' : j < s.size := by omega
    have hg := tl_get s j hj'
    have e : (smallL s.toList)[j] = smallB s[j] := by
      have h1 : (smallL s.toList)[j]? = some (smallB s[j]) := by
        unfold smallL
        rw [List.getElem?_map, hg]
        rfl
      exact (List.getElem?_eq_some_iff.1 h1).2
    have hc := h.cells j hj'
    rw [if_pos (by omega)] at hc
    rw [e]
    have ha : (⟨w.heap.size, 0, none⟩ : Addr).add j = ⟨w.heap.size, j, none⟩ := by rw [Go.WideShapes.add_plain, Nat.zero_add]
    rw [ha]
    exact hc)
  rw [hl] at this
  exact this
set_option maxHeartbeats 2000000 in
set_option maxRecDepth 100000 in
theorem small_any (s : ByteArray) (w : World) (hs : s.size ≤ maxLen) :
    Calls Tryz.prog 107 #[.string s] w fun e w' => e = .returned (.string (ofL (smallL s.toList))) ∧ Below w.heap.size w w' := by
  unfold maxLen at hs
  obtain ⟨cap, C, mk, hconv, hcell, hfree⟩ := bytes_made s w
  have H1 := Lib.hid hcell
  have H2 := Lib.hid hfree
  clear hcell hfree
  go_enter Tryz.func107, Tryz.ntmps107
  go_wp2
  clear hconv
  go_loopw [10] (fun i wr => ∃ k : Nat, k ≤ s.size ∧ i = .int .i64 k ∧ Hid (SmallRow s w wr k)) (fun i _ => s.size - (intOf i).toNat)
  case atStart =>
    refine ⟨0, Nat.zero_le _, rfl, Lib.hid ⟨fun j h => ?_, fun j h => ?_, ((Below.refl _ _).alloc (Nat.le_refl _) _).drew⟩⟩
    · rw [if_neg (by omega)]
      exact H1.out j h
    · exact H2.out j h
  case round =>
    obtain ⟨k, hk, rfl, HR⟩ := hrel
    by_cases hlt : k < s.size
    · have hcell : wr.cell? ⟨w.heap.size, k, none⟩ = some (.int .u8 (s[k].toNat : Int)) := by
        have := HR.out.cells k hlt
        rwa [if_neg (by omega)] at this
      have hfree := HR.out.free k hlt
      by_cases hc : capI (s[k].toNat : Int) = true
      · have hb := of_decide_eq_true hc
        have hb1 : (65 : Int) ≤ (s[k].toNat : Int) := hb.1
        have hb2 : (s[k].toNat : Int) ≤ 90 := hb.2
        have HE := Lib.hid (smallB_cap _ hc)
        clear hb
        go_wp2_with (go_at_call 126; refine (isCapital_any _ _).mono ?_; rintro e w' ⟨rfl, rfl⟩)
        go_roundw
        case rel =>
          refine ⟨k + 1, by omega, by go_num, ?_⟩
          have := HR.out.store hlt
          rw [HE.out] at this
          have e : (s[k].toNat : Int) - 65 + 97 = (s[k].toNat : Int) + 32 := by omega
          first | exact Lib.hid this | (rw [e]; exact Lib.hid this)
        case measure => simp [intOf]; omega
      · have hc' : capI (s[k].toNat : Int) = false := by simpa using hc
        clear hc
        go_wp2_with (go_at_call 126; refine (isCapital_any _ _).mono ?_; rintro e w' ⟨rfl, rfl⟩)
        go_roundw
        case rel => exact ⟨k + 1, by omega, by go_num, Lib.hid (HR.out.keep hlt hc')⟩
        case measure => simp [intOf]; omega
    · have hback := HR.out.back (by omega) cap
      go_wp2
      go_ret
      exact ⟨rfl, HR.out.below⟩
end Go.Proofs.YtkfmengdffpcnaaGreatDoor
namespace Go.Proofs.YtkfmengdffpcnaaGreatDoor
open Go.RowKit
def fitL (l : List UInt8) : List UInt8 := if rightL l then smallL l else []
def fitE (l : List UInt8) : Int := if rightL l then 0 else 4
set_option maxHeartbeats 2000000 in
theorem fit_any (s : ByteArray) (w : World) (hs : s.size ≤ maxLen) :
    Calls Tryz.prog 122 #[.string s] w fun e w' => e = .returned (.tuple #[.string (ofL (fitL s.toList)), .int .i64 (fitE s.toList)]) ∧ Below w.heap.size w w' := by
  have HB : Below w.heap.size w w := Below.refl _ _
  by_cases hr : rightL s.toList = true
  · have e1 := Lib.hid (show fitL s.toList = smallL s.toList by unfold fitL; rw [if_pos hr])
    have e2 := Lib.hid (show fitE s.toList = 0 by unfold fitE; rw [if_pos hr])
    go_enter Tryz.func122, Tryz.ntmps122
    go_wp2_with (first
      | (go_at_call 106; refine (right_any _ _ hs).mono ?_; rintro e w' ⟨rfl, rfl⟩)
      | (go_at_call 107; refine (small_any _ _ hs).mono ?_; rintro e w' ⟨rfl, hb⟩; have HB := HB.trans (hb.mono HB.size); clear hb))
    go_ret2
    exact ⟨by rw [e1.out, e2.out]; rfl, by assumption⟩
  · have hr' : rightL s.toList = false := by simpa using hr
    have e1 := Lib.hid (show fitL s.toList = [] by unfold fitL; rw [if_neg hr])
    have e2 := Lib.hid (show fitE s.toList = 4 by unfold fitE; rw [if_neg hr])
    clear hr
    go_enter Tryz.func122, Tryz.ntmps122
    go_wp2_with (first
      | (go_at_call 106; refine (right_any _ _ hs).mono ?_; rintro e w' ⟨rfl, rfl⟩))
    go_ret2
    exact ⟨by rw [e1.out, e2.out]; rfl, by assumption⟩
end Go.Proofs.YtkfmengdffpcnaaGreatDoor
namespace Go.Proofs.YtkfmengdffpcnaaGreatDoor
open Go.RowKit
def standB (x : ByteArray × ByteArray) : Bool := rightL x.1.toList && (smallL x.1.toList == x.1.toList) && decide (x.2.size ≤ 200)
theorem box2 {w w' : World} {x y : Value} {t : TypeId} (hb : Below (w.alloc (.cells #[x, y] t)).heap.size (w.alloc (.cells #[x, y] t)) w') :
    w'.cell? ⟨w.heap.size, 0, none⟩ = some x ∧ w'.cell? ⟨w.heap.size, 1, none⟩ = some y ∧ Below w.heap.size w w' := by
  refine ⟨?_, ?_, ((Below.refl _ _).alloc (Nat.le_refl _) _).trans (hb.mono (by simp))⟩
  · rw [hb.cell (p := ⟨w.heap.size, 0, none⟩) (by simp), cell_of_row (w.alloc (.cells #[x, y] t)) w.heap.size 0 _ t (0, 0) (heap_alloc_new w _)]
    rfl
  · rw [hb.cell (p := ⟨w.heap.size, 1, none⟩) (by simp), cell_of_row (w.alloc (.cells #[x, y] t)) w.heap.size 1 _ t (0, 0) (heap_alloc_new w _)]
    rfl
set_option maxHeartbeats 2000000 in
theorem stand_any (xn xv : ByteArray) (w : World) (h1 : xn.size ≤ maxLen) (h2 : xv.size ≤ maxLen) :
    Calls Tryz.prog 141 #[.agg #[.string xn, .string xv]] w fun e w' => e = .returned (.bool (standB (xn, xv))) ∧ Below w.heap.size w w' := by
  have hv64 : xv.size ≤ 9223372036854775807 := by unfold maxLen at h2; omega
  have HN := Lib.hid h1
  clear h1 h2
  by_cases hr : rightL xn.toList = true
  rotate_left
  · have hr : rightL xn.toList = false := by simpa using hr
    have HR : Hid (standB (xn, xv) = false) := Lib.hid (by unfold standB; rw [hr]; rfl)
    have e1 : fitE xn.toList = 4 := by unfold fitE; rw [hr]; rfl
    have C1 : Hid (∀ W, Calls Tryz.prog 122 #[.string xn] W fun e w' => e = .returned (.tuple #[.string (ofL (fitL xn.toList)), .int .i64 4]) ∧ Below W.heap.size W w') := Lib.hid (fun W => by
      have := fit_any xn W HN.out
      rwa [e1] at this)
    clear hr e1
    go_enter Tryz.func141, Tryz.ntmps141
    go_wp2_with (first
      | (go_at_call 122; refine (C1.out _).mono ?_; rintro e w' ⟨rfl, hb⟩; obtain ⟨c1, c2, HB⟩ := box2 hb))
    go_ret
    exact ⟨ret_bool HR.out.symm, by assumption⟩
  have e1 : fitE xn.toList = 0 := by unfold fitE; rw [hr]; rfl
  have e2 : fitL xn.toList = smallL xn.toList := by unfold fitL; rw [hr]; rfl
  have C1 : Hid (∀ W, Calls Tryz.prog 122 #[.string xn] W fun e w' => e = .returned (.tuple #[.string (ofL (smallL xn.toList)), .int .i64 0]) ∧ Below W.heap.size W w') := Lib.hid (fun W => by
    have := fit_any xn W HN.out
    rwa [e1, e2] at this)
  have HRT := Lib.hid hr
  clear hr e1 e2
  by_cases hsm : smallL xn.toList = xn.toList
  rotate_left
  · have s1 : (smallL xn.toList == xn.toList) = false := beq_eq_false_iff_ne.2 hsm
    have HR : Hid (standB (xn, xv) = false) := Lib.hid (by unfold standB; rw [s1]; simp)
    clear hsm
    go_enter Tryz.func141, Tryz.ntmps141
    go_wp2_with (first
      | (go_at_call 122; refine (C1.out _).mono ?_; rintro e w' ⟨rfl, hb⟩; obtain ⟨c1, c2, HB⟩ := box2 hb))
    go_ret
    exact ⟨ret_bool HR.out.symm, by assumption⟩
  have s1 : (smallL xn.toList == xn.toList) = true := beq_iff_eq.2 hsm
  have HR : Hid (standB (xn, xv) = decide ((xv.size : Int) ≤ 200)) := Lib.hid (by unfold standB; rw [s1, HRT.out]; simp; omega)
  clear hsm
  go_enter Tryz.func141, Tryz.ntmps141
  go_wp2_with (first
    | (go_at_call 122; refine (C1.out _).mono ?_; rintro e w' ⟨rfl, hb⟩; obtain ⟨c1, c2, HB⟩ := box2 hb))
  go_ret
  exact ⟨ret_bool HR.out.symm, by assumption⟩
end Go.Proofs.YtkfmengdffpcnaaGreatDoor
namespace Go.Proofs.YtkfmengdffpcnaaGreatDoor
open Go.RowKit
def firstN {α : Type} (p : α → Bool) (L : List α) : Nat := L.findIdx p
def firstZ {α : Type} (p : α → Bool) (L : List α) : Int := if firstN p L < L.length then (firstN p L : Int) else -1
section
variable {α : Type} {p : α → Bool} {L : List α} {k : Nat} {x : α}
theorem first_step (h : k ≤ firstN p L) (hk : L[k]? = some x) (hx : p x = false) : k + 1 ≤ firstN p L := by
  obtain ⟨hl, hg⟩ := List.getElem?_eq_some_iff.1 hk
  by_cases e : k = firstN p L
  · have h1 : firstN p L < L.length := by omega
    have h2 : p (L[firstN p L]'h1) = true := List.findIdx_getElem (w := h1)
    have h3 : (L[firstN p L]'h1) = x := by
      rw [← hg]; congr 1; exact e.symm
    rw [h3, hx] at h2
    cases h2
  · omega
theorem first_here (h : k ≤ firstN p L) (hk : L[k]? = some x) (hx : p x = true) : firstN p L = k := by
  obtain ⟨hl, hg⟩ := List.getElem?_eq_some_iff.1 hk
  by_cases e : k < firstN p L
  · have := List.not_of_lt_findIdx e
    rw [hg, hx] at this
    cases this
  · omega
theorem firstZ_here (h : k ≤ firstN p L) (hk : L[k]? = some x) (hx : p x = true) : firstZ p L = (k : Int) := by
  have := first_here h hk hx
  obtain ⟨hl, hg⟩ := List.getElem?_eq_some_iff.1 hk
  unfold firstZ
  rw [this, if_pos hl]
theorem firstZ_none (h : k ≤ firstN p L) (hk : L.length ≤ k) : firstZ p L = -1 := by
  unfold firstZ
  rw [if_neg (by omega)]
theorem firstZ_cases (p : α → Bool) (L : List α) : (firstZ p L = -1 ∧ ∀ x ∈ L, p x = false) ∨ ∃ (k : Nat) (x : α), firstZ p L = (k : Int) ∧ L[k]? = some x ∧ p x = true ∧ ∀ (j : Nat) (y : α), j < k → L[j]? = some y → p y = false := by
  by_cases h : firstN p L < L.length
  · refine .inr ⟨firstN p L, L[firstN p L]'h, ?_, List.getElem?_eq_getElem h, List.findIdx_getElem (w := h), fun j y hj hy => ?_⟩
    · unfold firstZ; rw [if_pos h]
    · obtain ⟨hl, hg⟩ := List.getElem?_eq_some_iff.1 hy
      have := List.not_of_lt_findIdx hj
      rw [hg] at this
      simpa using this
  · refine .inl ⟨?_, fun x hx => ?_⟩
    · unfold firstZ; rw [if_neg h]
    · cases hp : p x with
      | false => rfl
      | true => exact absurd (List.findIdx_lt_length_of_exists ⟨x, hx, hp⟩) h
theorem firstZ_is (hk : L[k]? = some x) (hx : p x = true) (hb : ∀ j y, j < k → L[j]? = some y → p y = false) : firstZ p L = (k : Int) := by
  rcases firstZ_cases p L with ⟨_, h2⟩ | ⟨j, y, h1, h2, h3, h4⟩
  · rw [h2 x (List.mem_of_getElem? hk)] at hx; cases hx
  · rcases Nat.lt_trichotomy j k with h | h | h
    · rw [hb j y h h2] at h3; cases h3
    · rw [h1, h]
    · rw [h4 k x h hk] at hx; cases hx
theorem firstZ_no (h : ∀ x ∈ L, p x = false) : firstZ p L = -1 := by
  rcases firstZ_cases p L with ⟨h1, _⟩ | ⟨j, y, _, h2, h3, _⟩
  · exact h1
  · rw [h y (List.mem_of_getElem? h2)] at h3; cases h3
theorem firstZ_lt (p : α → Bool) (L : List α) : -1 ≤ firstZ p L ∧ firstZ p L < (L.length : Int) := by
  unfold firstZ
  split
  · omega
  · omega
end
structure DefD where
  name : ByteArray
  loc : ByteArray
  cls : Int
structure WaitD where
  name : ByteArray
  ticket : Int
def encD (x : DefD) : List Value := [.string x.name, .string x.loc, .int .i64 x.cls]
def encT9 (x : WaitD) : List Value := [.string x.name, .int .i64 x.ticket]
structure DefRow (w : World) (a : Option Addr) (len cap : Nat) (L : List DefD) : Prop where
  row : SRow encD 3 w a len cap L
  ok : ∀ x ∈ L, x.name.size ≤ maxLen ∧ x.loc.size ≤ maxLen ∧ In64 x.cls
  hnil : a = none → cap = 0
structure WaitRow (w : World) (a : Option Addr) (len cap : Nat) (L : List WaitD) : Prop where
  row : SRow encT9 2 w a len cap L
  ok : ∀ x ∈ L, x.name.size ≤ maxLen ∧ In64 x.ticket
  hnil : a = none → cap = 0
section
variable {w w' : World} {a : Option Addr} {len cap : Nat}
theorem DefRow.hlen {L : List DefD} (h : DefRow w a len cap L) : L.length = len := h.row.hlen
theorem DefRow.len64 {L : List DefD} (h : DefRow w a len cap L) : len ≤ 9223372036854775807 := h.row.len64
theorem DefRow.below {L : List DefD} (h : DefRow w a len cap L) (hb : Below w.heap.size w w') : DefRow w' a len cap L := ⟨h.row.below hb, h.ok, h.hnil⟩
theorem DefRow.drewN {L : List DefD} (h : DefRow w a len cap L) (n : Nat) : DefRow (w.drewN n) a len cap L := ⟨h.row.drewN n, h.ok, h.hnil⟩
theorem DefRow.nil (w : World) : DefRow w none 0 0 [] := ⟨SRow.nil, (fun x hx => by cases hx), fun _ => rfl⟩
theorem DefRow.get {L : List DefD} (h : DefRow w a len cap L) {k : Nat} (hk : k < len) :
    ∃ b off x, a = some ⟨b, off, none⟩ ∧ b < w.heap.size ∧ L[k]? = some x ∧ w.cell? ⟨b, off + k * 3, none⟩ = some (.string x.name) ∧ w.cell? ⟨b, off + k * 3 + 1, none⟩ = some (.string x.loc) ∧ w.cell? ⟨b, off + k * 3 + 2, none⟩ = some (.int .i64 x.cls) ∧ (x.name.size ≤ maxLen ∧ x.loc.size ≤ maxLen ∧ In64 x.cls) := by
  obtain ⟨b, off, x, ha, hlt, hg, _, hc⟩ := h.row.get hk
  exact ⟨b, off, x, ha, hlt, hg, hc 0 _ rfl, hc 1 _ rfl, hc 2 _ rfl, h.ok _ (List.mem_of_getElem? hg)⟩
theorem WaitRow.hlen {L : List WaitD} (h : WaitRow w a len cap L) : L.length = len := h.row.hlen
theorem WaitRow.len64 {L : List WaitD} (h : WaitRow w a len cap L) : len ≤ 9223372036854775807 := h.row.len64
theorem WaitRow.below {L : List WaitD} (h : WaitRow w a len cap L) (hb : Below w.heap.size w w') : WaitRow w' a len cap L := ⟨h.row.below hb, h.ok, h.hnil⟩
theorem WaitRow.drewN {L : List WaitD} (h : WaitRow w a len cap L) (n : Nat) : WaitRow (w.drewN n) a len cap L := ⟨h.row.drewN n, h.ok, h.hnil⟩
theorem WaitRow.nil (w : World) : WaitRow w none 0 0 [] := ⟨SRow.nil, (fun x hx => by cases hx), fun _ => rfl⟩
theorem WaitRow.get {L : List WaitD} (h : WaitRow w a len cap L) {k : Nat} (hk : k < len) :
    ∃ b off x, a = some ⟨b, off, none⟩ ∧ b < w.heap.size ∧ L[k]? = some x ∧ w.cell? ⟨b, off + k * 2, none⟩ = some (.string x.name) ∧ w.cell? ⟨b, off + k * 2 + 1, none⟩ = some (.int .i64 x.ticket) ∧ (x.name.size ≤ maxLen ∧ In64 x.ticket) := by
  obtain ⟨b, off, x, ha, hlt, hg, _, hc⟩ := h.row.get hk
  exact ⟨b, off, x, ha, hlt, hg, hc 0 _ rfl, hc 1 _ rfl, h.ok _ (List.mem_of_getElem? hg)⟩
end
abbrev deskV (da : Option Addr) (dl dc : Nat) (wa : Option Addr) (wl wc : Nat) (nx : Int) (bz : Bool) : Value := .agg #[.slice da dl dc, .slice wa wl wc, .int .i64 nx, .bool bz]
structure DeskD where
  defs : List DefD
  waits : List WaitD
  next : Int
  busy : Bool
structure DeskAt (w : World) (da : Option Addr) (dl dc : Nat) (wa : Option Addr) (wl wc : Nat) (D : DeskD) : Prop where
  d : DefRow w da dl dc D.defs
  t : WaitRow w wa wl wc D.waits
  n : In64 D.next
section
variable {w w' : World} {da wa : Option Addr} {dl dc wl wc : Nat} {D : DeskD}
theorem DeskAt.below (h : DeskAt w da dl dc wa wl wc D) (hb : Below w.heap.size w w') : DeskAt w' da dl dc wa wl wc D := ⟨h.d.below hb, h.t.below hb, h.n⟩
theorem DeskAt.drewN (h : DeskAt w da dl dc wa wl wc D) (n : Nat) : DeskAt (w.drewN n) da dl dc wa wl wc D := ⟨h.d.drewN n, h.t.drewN n, h.n⟩
end
def isName (s : List UInt8) (x : DefD) : Bool := x.name.toList == s
def isCls (c : Int) (x : DefD) : Bool := x.cls == c
def namedZ (L : List DefD) (s : List UInt8) : Int := firstZ (isName s) L
def classedZ (L : List DefD) (c : Int) : Int := firstZ (isCls c) L
def okD (L : List DefD) (i : Nat) (x : DefD) : Bool := customL x.name.toList && (x.loc.toList == x.name.toList || knownL x.loc.toList) && decide (0 ≤ x.cls) && decide (x.cls ≤ 11) && (namedZ L x.name.toList == (i : Int)) && (classedZ L x.cls == (i : Int))
def okT (L : List DefD) (last next : Int) (x : WaitD) : Bool := customL x.name.toList && (namedZ L x.name.toList == -1) && decide (last < x.ticket) && decide (x.ticket < next)
def defsOk (L : List DefD) : Nat → List DefD → Bool
  | _, [] => true
  | i, x :: r => okD L i x && defsOk L (i + 1) r
def waitsOk (L : List DefD) (next : Int) : Int → List WaitD → Bool
  | _, [] => true
  | last, x :: r => okT L last next x && waitsOk L next x.ticket r
def rightK (D : DeskD) : Bool := decide (0 ≤ D.next) && decide (D.next ≤ 100000) && defsOk D.defs 0 D.defs && waitsOk D.defs D.next (-1) D.waits
def lastT (L : List WaitD) (k : Nat) : Int := match k with | 0 => -1 | k + 1 => (L[k]?.map (·.ticket)).getD (-1)
theorem defsOk_drop {L : List DefD} : ∀ {M : List DefD} {i : Nat}, defsOk L i M = true ↔ ∀ k x, M[k]? = some x → okD L (i + k) x = true
  | [], i => by simp [defsOk]
  | y :: r, i => by
    unfold defsOk
    rw [Bool.and_eq_true, defsOk_drop]
    constructor
    · rintro ⟨h1, h2⟩ k x hx
      cases k with
      | zero => simp at hx; subst hx; simpa using h1
      | succ k => have := h2 k x (by simpa using hx); rwa [show i + 1 + k = i + (k + 1) by omega] at this
    · intro h
      refine ⟨by simpa using h 0 y rfl, fun k x hx => ?_⟩
      have := h (k + 1) x (by simpa using hx)
      rwa [show i + 1 + k = i + (k + 1) by omega]
theorem defsOk_iff {L : List DefD} : defsOk L 0 L = true ↔ ∀ k x, L[k]? = some x → okD L k x = true := by
  rw [defsOk_drop]
  constructor
  · intro h k x hx; simpa using h k x hx
  · intro h k x hx; simpa using h k x hx
theorem waitsOk_iff {L : List DefD} {next : Int} : ∀ {M : List WaitD} {last : Int}, waitsOk L next last M = true ↔ ∀ k x, M[k]? = some x → okT L (match k with | 0 => last | k + 1 => lastT M (k + 1)) next x = true
  | [], last => by simp [waitsOk]
  | y :: r, last => by
    unfold waitsOk
    rw [Bool.and_eq_true, waitsOk_iff]
    constructor
    · rintro ⟨h1, h2⟩ k x hx
      cases k with
      | zero => simp at hx; subst hx; exact h1
      | succ k =>
        have := h2 k x (by simpa using hx)
        cases k with
        | zero => simpa [lastT] using this
        | succ k => simpa [lastT] using this
    · intro h
      refine ⟨h 0 y rfl, fun k x hx => ?_⟩
      have := h (k + 1) x (by simpa using hx)
      cases k with
      | zero => simpa [lastT] using this
      | succ k => simpa [lastT] using this
theorem waitsOk_all {L : List DefD} {next : Int} {M : List WaitD} : waitsOk L next (-1) M = true ↔ ∀ k x, M[k]? = some x → okT L (lastT M k) next x = true := by
  rw [waitsOk_iff]
  constructor
  · intro h k x hx
    have := h k x hx
    cases k <;> exact this
  · intro h k x hx
    have := h k x hx
    cases k <;> exact this
theorem okD_iff {L : List DefD} {i : Nat} {x : DefD} : okD L i x = true ↔ customL x.name.toList = true ∧ (x.loc.toList = x.name.toList ∨ knownL x.loc.toList = true) ∧ 0 ≤ x.cls ∧ x.cls ≤ 11 ∧ namedZ L x.name.toList = (i : Int) ∧ classedZ L x.cls = (i : Int) := by
  unfold okD
  simp only [Bool.and_eq_true, Bool.or_eq_true, beq_iff_eq, decide_eq_true_eq]
  constructor
  · rintro ⟨⟨⟨⟨⟨h1, h2⟩, h3⟩, h4⟩, h5⟩, h6⟩; exact ⟨h1, h2, h3, h4, h5, h6⟩
  · rintro ⟨h1, h2, h3, h4, h5, h6⟩; exact ⟨⟨⟨⟨⟨h1, h2⟩, h3⟩, h4⟩, h5⟩, h6⟩
theorem okT_iff {L : List DefD} {last next : Int} {x : WaitD} : okT L last next x = true ↔ customL x.name.toList = true ∧ namedZ L x.name.toList = -1 ∧ last < x.ticket ∧ x.ticket < next := by
  unfold okT
  simp only [Bool.and_eq_true, beq_iff_eq, decide_eq_true_eq]
  constructor
  · rintro ⟨⟨⟨h1, h2⟩, h3⟩, h4⟩; exact ⟨h1, h2, h3, h4⟩
  · rintro ⟨h1, h2, h3, h4⟩; exact ⟨⟨⟨h1, h2⟩, h3⟩, h4⟩
structure RightK (D : DeskD) : Prop where
  n0 : 0 ≤ D.next
  n1 : D.next ≤ 100000
  d : ∀ (k : Nat) (x : DefD), D.defs[k]? = some x → customL x.name.toList = true ∧ (x.loc.toList = x.name.toList ∨ knownL x.loc.toList = true) ∧ 0 ≤ x.cls ∧ x.cls ≤ 11 ∧ namedZ D.defs x.name.toList = (k : Int) ∧ classedZ D.defs x.cls = (k : Int)
  t : ∀ (k : Nat) (x : WaitD), D.waits[k]? = some x → customL x.name.toList = true ∧ namedZ D.defs x.name.toList = -1 ∧ lastT D.waits k < x.ticket ∧ x.ticket < D.next
theorem rightK_iff {D : DeskD} : rightK D = true ↔ RightK D := by
  unfold rightK
  simp only [Bool.and_eq_true, decide_eq_true_eq, defsOk_iff, waitsOk_all, okD_iff, okT_iff]
  constructor
  · rintro ⟨⟨⟨h1, h2⟩, h3⟩, h4⟩; exact ⟨h1, h2, h3, h4⟩
  · rintro ⟨h1, h2, h3, h4⟩; exact ⟨⟨⟨h1, h2⟩, h3⟩, h4⟩
def isOwn (l : List UInt8) (x : DefD) : Bool := x.loc.toList == l && x.name.toList == l
def isIs (l s : List UInt8) (x : DefD) : Bool := x.loc.toList == l && x.name.toList == s
def findZ2 (L : List DefD) (l s : List UInt8) : Int := if 0 ≤ firstZ (isOwn l) L then firstZ (isOwn l) L else firstZ (isIs l s) L
def mayE (D : DeskD) (classes : Int) (s base : List UInt8) (c : Int) : Int :=
  if rightK D = false ∨ c < 0 ∨ classes ≤ c ∨ 11 < c then 1
  else if customL s = false then 4
  else if 0 ≤ namedZ D.defs s ∨ 0 ≤ classedZ D.defs c then 10
  else if base ≠ [] ∧ knownL base = false then 6
  else if D.busy = true then 7 else 0
def newDef (s base : ByteArray) (c : Int) : DefD := ⟨s, if base.toList = [] then s else base, c⟩
def toldZ (L : List WaitD) (s : List UInt8) : List Int := (L.filter (fun x => x.name.toList == s)).map (·.ticket)
def restT (L : List WaitD) (s : List UInt8) : List WaitD := L.filter (fun x => !(x.name.toList == s))
def addK (D : DeskD) (s base : ByteArray) (c : Int) : DeskD := ⟨D.defs ++ [newDef s base c], restT D.waits s.toList, D.next, false⟩
end Go.Proofs.YtkfmengdffpcnaaGreatDoor
