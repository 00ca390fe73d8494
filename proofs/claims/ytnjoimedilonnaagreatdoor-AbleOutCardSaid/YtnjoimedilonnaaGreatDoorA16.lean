/- Texts joined in build order: AttrSet2 AttrRem2. -/
import Derived.Test.YtnjoimedilonnaaGreatDoorA15
import Derived.Test.YtnjoimedilonnaaGreatDoorA10
namespace Go.Proofs.YtnjoimedilonnaaGreatDoor
open Go.RowKit
def SetNew (w : World) (M : AL) (z : Int) (e : Ending) (w' : World) : Prop := ∃ a len cap, e = .returned (.tuple #[.slice a len cap, .int .i64 z]) ∧ AttrRow w' a len cap M ∧ Below w.heap.size w w' ∧ ∀ b off, a = some ⟨b, off, none⟩ → w.heap.size ≤ b
theorem SetNew.post {w w' : World} {M : AL} {z : Int} {e : Ending} (h : SetNew w M z e w') : SetPost w M z e w' := by
  obtain ⟨a, len, cap, h1, h2, h3, _⟩ := h
  exact ⟨a, len, cap, h1, h2, h3⟩
theorem AttrRow.of_own_new {w : World} {base : Nat} {v : Value} {n : Nat} {M : AL} (hl : M.length = n) (h : w.ownsRow base 70 2 v n (M.flatMap encA)) (hs : ∀ x ∈ M, x.1.size ≤ maxLen ∧ x.2.size ≤ maxLen) :
    ∃ a cap, v = .slice a n cap ∧ AttrRow w a n cap M ∧ ∀ b off, a = some ⟨b, off, none⟩ → base ≤ b := by
  rcases h.2 with ⟨rfl, h0⟩ | ⟨g, cap, cur, rfl, _⟩
  · subst h0
    have hL : M = [] := List.eq_nil_of_length_eq_zero hl
    subst hL
    exact ⟨none, 0, rfl, ⟨SRow.nil, hs, fun _ => rfl⟩, fun b off h => by cases h⟩
  · obtain ⟨a, cap', he, hr, hb⟩ := SRow.of_own (fun x _ => encA_len x) hl h
    injection he with h1 h2 h3
    subst h1; subst h3
    exact ⟨_, _, rfl, ⟨hr, hs, fun h => by cases h⟩, hb⟩
theorem SetNew.mk {w w' : World} {M : AL} {z : Int} {e : Ending} {v : Value} {n : Nat} (he : e = .returned (.tuple #[v, .int .i64 z])) (hl : M.length = n) (h : w'.ownsRow w.heap.size 70 2 v n (M.flatMap encA)) (hs : ∀ x ∈ M, x.1.size ≤ maxLen ∧ x.2.size ≤ maxLen) (hb : Below w.heap.size w w') : SetNew w M z e w' := by
  obtain ⟨a, cap, rfl, h1, h2⟩ := AttrRow.of_own_new hl h hs
  exact ⟨a, n, cap, he, h1, hb, h2⟩
theorem clone_own (a : Option Addr) (len cap : Nat) (L : AL) (w W : World) (h : AttrRow w a len cap L) (h40 : len ≤ 1000000) (hb : Below w.heap.size w W) :
    Calls Tryz.prog 52 #[.slice a len cap] W fun e w' => ∃ v, e = .returned v ∧ w'.ownsRow w.heap.size 70 2 v len (L.flatMap encA) ∧ Below w.heap.size w w' :=
  (clone_any a len cap L W (h.below hb) h40).mono fun e w' ⟨v, he, hown, hb2⟩ => ⟨v, he, by
    rw [h.hlen] at hown
    refine ⟨hown.1, ?_⟩
    rcases hown.2 with h | ⟨g, cap, cur, h1, h2, h3⟩
    · exact .inl h
    · exact .inr ⟨g, cap, cur, h1, Nat.le_trans hb.size h2, h3⟩, hb.trans (hb2.mono hb.size)⟩
theorem find_ok {L : AL} {n : List UInt8} (hr : rightA L = true) (hn : rightL n = true) : findI L n = atL L (smallL n) ∧ findS L n = smallL n ∧ findE L n = 0 := by
  unfold findI findS findE
  rw [hr, hn]
  exact ⟨rfl, rfl, rfl⟩
set_option maxHeartbeats 16000000 in
set_option maxRecDepth 100000 in
theorem attrset_any (a : Option Addr) (len cap : Nat) (L : AL) (n v : ByteArray) (w : World) (h : AttrRow w a len cap L) (hn : n.size ≤ maxLen) (hv : v.size ≤ maxLen) (hlen : L.length ≤ 1000) :
    Calls Tryz.prog 28 #[.slice a len cap, .string n, .string v] w (SetNew w (setA L n.toList v) (setE L n.toList v)) := by
  have H := Lib.hid h
  have HN := Lib.hid hn
  have HV := Lib.hid hv
  have HL := Lib.hid h.hlen
  have hl40 : len ≤ 1000 := by rw [← h.hlen]; exact hlen
  have C1 := Lib.hid (find_any a len cap L n w h hn)
  have CC : Hid (∀ W, Below w.heap.size w W → Calls Tryz.prog 52 #[.slice a len cap] W fun e w' => ∃ v, e = .returned v ∧ w'.ownsRow w.heap.size 70 2 v len (L.flatMap encA) ∧ Below w.heap.size w w') := Lib.hid (fun W hb => clone_own a len cap L w W h (by omega) hb)
  have CF : Hid (∀ W p, Calls Tryz.prog 51 #[.slice a len cap, .int .i64 p, .string v] W fun e w' => e = .returned (.bool (decide ((v.size : Int) ≤ 200) && (p != -1 || decide ((len : Int) < 40)))) ∧ W = w') := Lib.hid (fun W p => afits_any a len cap p v W hv)
  by_cases hg : (rightA L && rightL n.toList) = true
  rotate_left
  · have hg : (rightA L && rightL n.toList) = false := by simpa using hg
    have EE : Hid (findE L n.toList = setE L n.toList v ∧ ¬ setE L n.toList v = 0) := Lib.hid (by
      unfold findE setE
      revert hg
      cases rightA L <;> cases rightL n.toList <;> simp)
    have EM : Hid (setA L n.toList v = L) := Lib.hid (setA_ne EE.out.2)
    obtain ⟨z, hz⟩ : ∃ z, setE L n.toList v = z := ⟨_, rfl⟩
    have C2 := C1.out
    rw [EE.out.1, hz] at C2
    have C3 := Lib.hid C2
    have z0 : ¬ z = 0 := by rw [← hz]; exact EE.out.2
    have z1 : (z == 0) = false := beq_eq_false_iff_ne.2 z0
    have z2 : (z != 0) = true := by unfold bne; rw [z1]; rfl
    have HZ := Lib.hid hz
    clear h hn hv hg hlen C1 C2 z0 hz
    go_enter Tryz.func28, Tryz.ntmps28
    go_wp2_with (first
      | (go_at_call 33; refine C3.out.mono ?_; rintro e w' ⟨rfl, HB⟩)
      | (go_at_call 52; refine (CC.out _ HB).mono ?_; rintro e w' ⟨v2, rfl, hown, HB2⟩; have HO := Lib.hid hown; clear hown))
    go_ret2
    rw [EM.out, HZ.out]
    exact SetNew.mk rfl HL.out HO.out H.out.small HB2
  obtain ⟨hr, hnr⟩ : rightA L = true ∧ rightL n.toList = true := by simpa using hg
  obtain ⟨F1, F2, F3⟩ := find_ok hr hnr
  have C2 := C1.out
  rw [F1, F2, F3] at C2
  have hk40 : L.length ≤ 40 := ((rightA_iff L).1 hr).1
  by_cases hlg : longA L n.toList v = true
  · have HE : Hid (setE L n.toList v = 3) := Lib.hid (by unfold setE; rw [hr, hnr, hlg]; rfl)
    have HM : Hid (setA L n.toList v = L) := Lib.hid (by unfold setA; rw [HE.out]; rfl)
    have hfit : (decide ((v.size : Int) ≤ 200) && (atL L (smallL n.toList) != -1 || decide ((len : Int) < 40))) = false := by
      unfold longA at hlg
      by_cases hp : placeA L n.toList < L.length
      · rw [atL_place hp]
        rw [decide_eq_false (show ¬ L.length ≤ placeA L n.toList by omega)] at hlg
        simp at hlg
        rw [decide_eq_false (by omega)]
        rfl
      · rw [atL_noplace hp]
        rw [decide_eq_true (show L.length ≤ placeA L n.toList by omega), h.hlen] at hlg
        simp at hlg
        rcases hlg with hlg | hlg
        · rw [decide_eq_false (by omega)]; rfl
        · rw [decide_eq_false (show ¬ (len : Int) < 40 by omega)]; simp
    obtain ⟨p, hp⟩ : ∃ p, atL L (smallL n.toList) = p := ⟨_, rfl⟩
    rw [hp] at C2 hfit
    have C3 := Lib.hid C2
    have CF2 : Hid (∀ W, Calls Tryz.prog 51 #[.slice a len cap, .int .i64 p, .string v] W fun e w' => e = .returned (.bool false) ∧ W = w') := Lib.hid (fun W => by
      have := CF.out W p
      rwa [hfit] at this)
    clear h hn hv hg hlen C1 C2 hp hfit hlg hr hnr F1 F2 F3 hk40 CF
    go_enter Tryz.func28, Tryz.ntmps28
    go_wp2_with (first
      | (go_at_call 33; refine C3.out.mono ?_; rintro e w' ⟨rfl, HB⟩)
      | (go_at_call 51; refine (CF2.out _).mono ?_; rintro e w' ⟨rfl, rfl⟩)
      | (go_at_call 52; refine (CC.out _ HB).mono ?_; rintro e w' ⟨v2, rfl, hown, HB2⟩; have HO := Lib.hid hown; clear hown))
    go_ret2
    rw [HM.out, HE.out]
    exact SetNew.mk rfl HL.out HO.out H.out.small HB2
  have hlg : longA L n.toList v = false := by simpa using hlg
  have HE : Hid (setE L n.toList v = 0) := Lib.hid (by unfold setE; rw [hr, hnr, hlg]; rfl)
  have HM : Hid (setA L n.toList v = setL L n.toList v) := Lib.hid (setA_eq HE.out)
  have hfit : (decide ((v.size : Int) ≤ 200) && (atL L (smallL n.toList) != -1 || decide ((len : Int) < 40))) = true := by
    unfold longA at hlg
    simp at hlg
    rw [decide_eq_true (by omega)]
    by_cases hp : placeA L n.toList < L.length
    · rw [atL_place hp, show ((placeA L n.toList : Int) != -1) = true from by unfold bne; rw [beq_eq_false_iff_ne.2 (by omega)]; rfl]
      rfl
    · rw [decide_eq_true (show (len : Int) < 40 by rw [← h.hlen]; omega)]
      simp
  by_cases hp : placeA L n.toList < L.length
  · have hat := atL_place hp
    have hp' : placeA L n.toList < len := by rw [← h.hlen]; exact hp
    obtain ⟨x, hx, hx1⟩ := place_key hp
    have HSL : Hid (setL L n.toList v = L.set (placeA L n.toList) (ofL (smallL n.toList), v)) := Lib.hid (by unfold setL; rw [if_pos hp])
    have HX := Lib.hid hx
    have HX1 := Lib.hid hx1
    obtain ⟨p, hpp⟩ : ∃ p, placeA L n.toList = p := ⟨_, rfl⟩
    rw [hpp] at hat hp' HX HSL
    rw [hat] at C2 hfit
    have C3 := Lib.hid C2
    have CF2 : Hid (∀ W, Calls Tryz.prog 51 #[.slice a len cap, .int .i64 p, .string v] W fun e w' => e = .returned (.bool true) ∧ W = w') := Lib.hid (fun W => by
      have := CF.out W p
      rwa [hfit] at this)
    have z1 : ((p : Int) == -1) = false := beq_eq_false_iff_ne.2 (by omega)
    clear h hn hv hg hlen C1 C2 hp hfit hlg hr hnr F1 F2 F3 hk40 CF hat hpp hx hx1
    go_enter Tryz.func28, Tryz.ntmps28
    go_wp2_with (first
      | (go_at_call 33; refine C3.out.mono ?_; rintro e w' ⟨rfl, HB⟩)
      | (go_at_call 51; refine (CF2.out _).mono ?_; rintro e w' ⟨rfl, rfl⟩)
      | (go_at_call 52; refine (CC.out _ HB).mono ?_; rintro e w1 ⟨v2, rfl, hown, HB2⟩
         obtain ⟨g, cap1, rfl, hgb, hglt⟩ := World.ownsRow.form hown (by omega)
         have hcell : w1.cell? ⟨g, p * 2 + 1, none⟩ = some (.string x.2) := by
           rw [hown.cellAt (p * 2 + 1) (by omega), flat_get (fun x _ => encA_len x) HX.out (by decide)]
           rfl
         have hfree := hown.frozenAt (p * 2 + 1)
         have HO := Lib.hid hown
         clear hown))
    go_ret2
    rw [HE.out, HM.out, HSL.out]
    have hst := (HO.out.stored (p * 2 + 1) (.string v)).1
    rw [← set_flat (y := (ofL (smallL n.toList), v)) HX.out HX1.out.symm] at hst
    refine SetNew.mk rfl (by rw [List.length_set]; exact HL.out) hst (fun y hy => ?_) (HB2.setCell hgb _)
    rcases List.mem_or_eq_of_mem_set hy with hy | rfl
    · exact H.out.small y hy
    · refine ⟨?_, HV.out⟩
      rw [size_ofL, smallL_length, tl_len]
      exact HN.out
  · have hat := atL_noplace hp
    have HSL : Hid (setL L n.toList v = L ++ [(ofL (smallL n.toList), v)]) := Lib.hid (by unfold setL; rw [if_neg hp])
    obtain ⟨i0, hi0, hz0, hz1, hz2⟩ := info_parts attr_info
    rw [hat] at C2 hfit
    have C3 := Lib.hid C2
    have CF2 : Hid (∀ W, Calls Tryz.prog 51 #[.slice a len cap, .int .i64 (-1), .string v] W fun e w' => e = .returned (.bool true) ∧ W = w') := Lib.hid (fun W => by
      have := CF.out W (-1)
      rwa [hfit] at this)
    clear h hn hv hg hlen C1 C2 hp hfit hlg hr hnr F1 F2 F3 hk40 CF hat
    go_enter Tryz.func28, Tryz.ntmps28
    go_wp2_with (first
      | (go_at_call 33; refine C3.out.mono ?_; rintro e w' ⟨rfl, HB⟩)
      | (go_at_call 51; refine (CF2.out _).mono ?_; rintro e w' ⟨rfl, rfl⟩)
      | (go_at_call 52; refine (CC.out _ HB).mono ?_; rintro e w1 ⟨v2, rfl, hown, HB2⟩; have HO := Lib.hid hown; clear hown)
      | (at_builtin
         refine wpList_append_rows rfl (.tmp 38) (.tmp 42) 32 rfl 70 i0 _ 2 32 Tryz.underlying32 hi0 hz0 hz1 hz2 rfl (by decide) w.heap.size _ len L [(ofL (smallL n.toList), v)] rfl (HO.out.alloc _) _ 1 1 rfl (own_one _ _ _ _ rfl rfl) (fun x _ => encA_one x) (by unfold maxLen; omega) (by omega) (by have := HB2.size; simp; omega) (fun h => by cases h) ?_
         intro v3 w3 hown3 hg3 hat3
         have HB3 := below_own HB2 HO.out hg3
         have HO3 := Lib.hid hown3
         clear hown3 hg3 hat3))
    go_ret2
    rw [HE.out, HM.out, HSL.out]
    refine SetNew.mk rfl (by rw [List.length_append, HL.out]; rfl) HO3.out (fun y hy => ?_) HB3
    rcases List.mem_append.1 hy with hy | hy
    · exact H.out.small y hy
    · simp at hy; subst hy
      refine ⟨?_, HV.out⟩
      rw [size_ofL, smallL_length, tl_len]
      exact HN.out
end Go.Proofs.YtnjoimedilonnaaGreatDoor
namespace Go.Proofs.YtnjoimedilonnaaGreatDoor
open Go.RowKit
def RemNew (w : World) (M : AL) (z : Bool) (e : Ending) (w' : World) : Prop := ∃ a len cap, e = .returned (.tuple #[.slice a len cap, .bool z]) ∧ AttrRow w' a len cap M ∧ Below w.heap.size w w' ∧ ∀ b off, a = some ⟨b, off, none⟩ → w.heap.size ≤ b
def TogNew (w : World) (M : AL) (t : Bool) (z : Int) (e : Ending) (w' : World) : Prop := ∃ a len cap, e = .returned (.tuple #[.slice a len cap, .bool t, .int .i64 z]) ∧ AttrRow w' a len cap M ∧ Below w.heap.size w w' ∧ ∀ b off, a = some ⟨b, off, none⟩ → w.heap.size ≤ b
theorem RemNew.post {w w' : World} {M : AL} {z : Bool} {e : Ending} (h : RemNew w M z e w') : RemPost w M z e w' := by
  obtain ⟨a, len, cap, h1, h2, h3, _⟩ := h
  exact ⟨a, len, cap, h1, h2, h3⟩
theorem TogNew.post {w w' : World} {M : AL} {t : Bool} {z : Int} {e : Ending} (h : TogNew w M t z e w') : TogPost w M t z e w' := by
  obtain ⟨a, len, cap, h1, h2, h3, _⟩ := h
  exact ⟨a, len, cap, h1, h2, h3⟩
theorem RemNew.mk {w w' : World} {M : AL} {z : Bool} {e : Ending} {v : Value} {n : Nat} (he : e = .returned (.tuple #[v, .bool z])) (hl : M.length = n) (h : w'.ownsRow w.heap.size 70 2 v n (M.flatMap encA)) (hs : ∀ x ∈ M, x.1.size ≤ maxLen ∧ x.2.size ≤ maxLen) (hb : Below w.heap.size w w') : RemNew w M z e w' := by
  obtain ⟨a, cap, rfl, h1, h2⟩ := AttrRow.of_own_new hl h hs
  exact ⟨a, n, cap, he, h1, hb, h2⟩
theorem TogNew.mk {w w' : World} {M : AL} {t : Bool} {z : Int} {e : Ending} {v : Value} {n : Nat} (he : e = .returned (.tuple #[v, .bool t, .int .i64 z])) (hl : M.length = n) (h : w'.ownsRow w.heap.size 70 2 v n (M.flatMap encA)) (hs : ∀ x ∈ M, x.1.size ≤ maxLen ∧ x.2.size ≤ maxLen) (hb : Below w.heap.size w w') : TogNew w M t z e w' := by
  obtain ⟨a, cap, rfl, h1, h2⟩ := AttrRow.of_own_new hl h hs
  exact ⟨a, n, cap, he, h1, hb, h2⟩
theorem rem_erase {L : AL} {n : List UInt8} (h : hasA L n = true) : remA L n = L.eraseIdx (placeA L n) := by
  obtain ⟨hr, hn, hp⟩ := hasA_right h
  rw [remA_yes h]
  have hf := ((rightA_iff L).1 hr).2
  have hkey : ∀ (k : Nat) x, L[k]? = some x → (offQ n x = false ↔ k = placeA L n) := fun k x hx => by
    have h1 := hf k x hx
    rw [okAt_eq] at h1
    simp at h1
    unfold offQ keyIs placeA
    constructor
    · intro h2
      have h3 : x.1.toList = smallL n := by simpa using h2
      rw [← h3]
      exact h1.2.symm
    · intro h2
      obtain ⟨y, hy, hy1⟩ := place_key hp
      have : x = y := by
        unfold placeA at hy
        rw [h2, hy] at hx
        exact (Option.some.inj hx).symm
      rw [this, hy1, toList_ofL]
      simp
  generalize placeA L n = p at hp hkey
  clear hf hr hn h
  induction L generalizing p with
  | nil => simp at hp
  | cons y r ih =>
    cases p with
    | zero =>
      have h0 := (hkey 0 y rfl).2 rfl
      rw [List.filter_cons, if_neg (by rw [h0]; decide), List.eraseIdx_cons_zero]
      refine List.filter_eq_self.2 (fun x hx => ?_)
      obtain ⟨k, hk, he⟩ := List.mem_iff_getElem.1 hx
      have h1 := hkey (k + 1) x (by simp [List.getElem?_eq_getElem hk, he])
      by_cases h2 : offQ n x = true
      · exact h2
      · have := h1.1 (by simpa using h2)
        omega
    | succ p =>
      have h0 : offQ n y = true := by
        by_cases h2 : offQ n y = true
        · exact h2
        · have := (hkey 0 y rfl).1 (by simpa using h2)
          omega
      rw [List.filter_cons, if_pos h0, List.eraseIdx_cons_succ, ih p (by simpa using hp) (fun k x hx => by
        have := hkey (k + 1) x (by simpa using hx)
        exact this.trans ⟨fun h => by omega, fun h => by omega⟩)]
set_option maxHeartbeats 16000000 in
set_option maxRecDepth 100000 in
theorem attrrem_any (a : Option Addr) (len cap : Nat) (L : AL) (n : ByteArray) (w : World) (h : AttrRow w a len cap L) (hn : n.size ≤ maxLen) (hlen : L.length ≤ 1000) :
    Calls Tryz.prog 39 #[.slice a len cap, .string n] w (RemNew w (remA L n.toList) (hasA L n.toList)) := by
  have H := Lib.hid h
  have HL := Lib.hid h.hlen
  have hl40 : len ≤ 1000 := by rw [← h.hlen]; exact hlen
  have C1 := Lib.hid (find_any a len cap L n w h hn)
  have CC : Hid (∀ W, Below w.heap.size w W → Calls Tryz.prog 52 #[.slice a len cap] W fun e w' => ∃ v, e = .returned v ∧ w'.ownsRow w.heap.size 70 2 v len (L.flatMap encA) ∧ Below w.heap.size w w') := Lib.hid (fun W hb => clone_own a len cap L w W h (by omega) hb)
  by_cases hg : (rightA L && rightL n.toList) = true
  rotate_left
  · have hg : (rightA L && rightL n.toList) = false := by simpa using hg
    have HR : hasA L n.toList = false := by unfold hasA; rw [hg]; rfl
    have HM := Lib.hid (remA_no HR)
    have EE : Hid (¬ findE L n.toList = 0) := Lib.hid (by
      unfold findE
      revert hg
      cases rightA L <;> cases rightL n.toList <;> simp)
    rw [HR]
    obtain ⟨z, hz⟩ : ∃ z, findE L n.toList = z := ⟨_, rfl⟩
    have C2 := C1.out
    rw [hz] at C2
    have C3 := Lib.hid C2
    have z0 : ¬ z = 0 := by rw [← hz]; exact EE.out
    have z1 : (z == 0) = false := beq_eq_false_iff_ne.2 z0
    have z2 : (z != 0) = true := by unfold bne; rw [z1]; rfl
    clear h hn hg hlen C1 C2 z0 hz HR
    go_enter Tryz.func39, Tryz.ntmps39
    go_wp2_with (first
      | (go_at_call 33; refine C3.out.mono ?_; rintro e w' ⟨rfl, HB⟩)
      | (go_at_call 52; refine (CC.out _ HB).mono ?_; rintro e w' ⟨v2, rfl, hown, HB2⟩; have HO := Lib.hid hown; clear hown))
    go_ret2
    rw [HM.out]
    exact RemNew.mk rfl HL.out HO.out H.out.small HB2
  obtain ⟨hr, hnr⟩ : rightA L = true ∧ rightL n.toList = true := by simpa using hg
  obtain ⟨F1, F2, F3⟩ := find_ok hr hnr
  have C2 := C1.out
  rw [F1, F2, F3] at C2
  by_cases hp : placeA L n.toList < L.length
  · have HR : hasA L n.toList = true := by unfold hasA; rw [hr, hnr, decide_eq_true hp]; rfl
    have HM := Lib.hid (rem_erase HR)
    rw [HR]
    have hat := atL_place hp
    have hp' : placeA L n.toList < len := by rw [← h.hlen]; exact hp
    rw [hat] at C2
    have HLP : Hid ((L.eraseIdx (placeA L n.toList)).length = len - 1) := Lib.hid (by rw [List.length_eraseIdx, h.hlen, if_pos hp'])
    obtain ⟨p, hpp⟩ : ∃ p, placeA L n.toList = p := ⟨_, rfl⟩
    rw [hpp] at C2 hp' HM HLP
    have C3 := Lib.hid C2
    have z1 : ((p : Int) == -1) = false := beq_eq_false_iff_ne.2 (by omega)
    clear h hn hg hlen C1 C2 hr hnr F1 F2 F3 hp HR hat hpp
    go_enter Tryz.func39, Tryz.ntmps39
    go_wp2_with (first
      | (go_at_call 33; refine C3.out.mono ?_; rintro e w' ⟨rfl, HB⟩)
      | (go_at_call 52; refine (CC.out _ HB).mono ?_; rintro e w1 ⟨v2, rfl, hown, HB2⟩
         obtain ⟨g, cap1, rfl, hgb, hglt⟩ := World.ownsRow.form hown (by omega)
         have CD := Lib.hid (delete_any w1 w.heap.size g len cap1 L p hown HL.out H.out.small hp' hl40)
         clear hown)
      | (go_at_call 66; refine CD.out.mono ?_; rintro e w2 ⟨rfl, hrow, HB3⟩; have HROW := Lib.hid hrow; clear hrow))
    go_ret2
    rw [HM.out]
    exact ⟨_, _, _, rfl, HROW.out, HB2.trans HB3, fun b off hb => by injection hb with hb; injection hb with hb; omega⟩
  · have HR : hasA L n.toList = false := by unfold hasA; rw [decide_eq_false hp]; simp
    have HM := Lib.hid (remA_no HR)
    rw [HR]
    have hat := atL_noplace hp
    rw [hat] at C2
    have C3 := Lib.hid C2
    clear h hn hg hlen C1 C2 hr hnr F1 F2 F3 hp HR hat
    go_enter Tryz.func39, Tryz.ntmps39
    go_wp2_with (first
      | (go_at_call 33; refine C3.out.mono ?_; rintro e w' ⟨rfl, HB⟩)
      | (go_at_call 52; refine (CC.out _ HB).mono ?_; rintro e w' ⟨v2, rfl, hown, HB2⟩; have HO := Lib.hid hown; clear hown))
    go_ret2
    rw [HM.out]
    exact RemNew.mk rfl HL.out HO.out H.out.small HB2
end Go.Proofs.YtnjoimedilonnaaGreatDoor
