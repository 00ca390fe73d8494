/- Package attr's Remove and Toggle. -/
import Derived.Test.YtmofeddldcifbaaAttrSet2
namespace Go.Proofs.Ytmofeddldcifbaa
open Go.RowKit
/-- As RemPost, TogPost, and the list handed back lies in new memory. -/
def RemNew (w : World) (M : AL) (z : Bool) (e : Ending) (w' : World) : Prop := ∃ a len cap, e = .returned (.tuple #[.slice a len cap, .bool z]) ∧ AttrRow w' a len cap M ∧ Below w.heap.size w w' ∧ ∀ b off, a = some ⟨b, off, none⟩ → w.heap.size ≤ b
def TogNew (w : World) (M : AL) (t : Bool) (z : Int) (e : Ending) (w' : World) : Prop := ∃ a len cap, e = .returned (.tuple #[.slice a len cap, .bool t, .int .i64 z]) ∧ AttrRow w' a len cap M ∧ Below w.heap.size w w' ∧ ∀ b off, a = some ⟨b, off, none⟩ → w.heap.size ≤ b
theorem RemNew.post {w w' : World} {M : AL} {z : Bool} {e : Ending} (h : RemNew w M z e w') : RemPost w M z e w' := by
  obtain ⟨a, len, cap, h1, h2, h3, _⟩ := h
  exact ⟨a, len, cap, h1, h2, h3⟩
theorem TogNew.post {w w' : World} {M : AL} {t : Bool} {z : Int} {e : Ending} (h : TogNew w M t z e w') : TogPost w M t z e w' := by
  obtain ⟨a, len, cap, h1, h2, h3, _⟩ := h
  exact ⟨a, len, cap, h1, h2, h3⟩
theorem RemNew.mk {w w' : World} {M : AL} {z : Bool} {e : Ending} {v : Value} {n : Nat} (he : e = .returned (.tuple #[v, .bool z])) (hl : M.length = n) (h : w'.ownsRow w.heap.size 41 2 v n (M.flatMap encA)) (hs : ∀ x ∈ M, x.1.size ≤ maxLen ∧ x.2.size ≤ maxLen) (hb : Below w.heap.size w w') : RemNew w M z e w' := by
  obtain ⟨a, cap, rfl, h1, h2⟩ := AttrRow.of_own_new hl h hs
  exact ⟨a, n, cap, he, h1, hb, h2⟩
theorem TogNew.mk {w w' : World} {M : AL} {t : Bool} {z : Int} {e : Ending} {v : Value} {n : Nat} (he : e = .returned (.tuple #[v, .bool t, .int .i64 z])) (hl : M.length = n) (h : w'.ownsRow w.heap.size 41 2 v n (M.flatMap encA)) (hs : ∀ x ∈ M, x.1.size ≤ maxLen ∧ x.2.size ≤ maxLen) (hb : Below w.heap.size w w') : TogNew w M t z e w' := by
  obtain ⟨a, cap, rfl, h1, h2⟩ := AttrRow.of_own_new hl h hs
  exact ⟨a, n, cap, he, h1, hb, h2⟩
/-- Of a right list the name's attribute is the only one of that name. -/
theorem rem_erase {L : AL} {n : List UInt8} (h : hasA L n = true) : remA L n = L.eraseIdx (placeA L n) := by
  obtain ⟨hr, hn, hp⟩ := hasA_right h
  rw [remA_yes h]
  have hf := ((rightA_iff L).1 hr).2
  have hkey : ∀ (k : Nat) x, L[k]? = some x → (offQ n x = false ↔ k = placeA L n) := fun k x hx => by
    have h1 := hf k x hx
    rw [okAt_eq] at h1
    simp at h1
    unfold offQ keyIs placeA
    constructor
    · intro h2
      have h3 : x.1.toList = smallL n := by simpa using h2
      rw [← h3]
      exact h1.2.symm
    · intro h2
      obtain ⟨y, hy, hy1⟩ := place_key hp
      have : x = y := by
        unfold placeA at hy
        rw [h2, hy] at hx
        exact (Option.some.inj hx).symm
      rw [this, hy1, toList_ofL]
      simp
  generalize placeA L n = p at hp hkey
  clear hf hr hn h
  induction L generalizing p with
  | nil => simp at hp
  | cons y r ih =>
    cases p with
    | zero =>
      have h0 := (hkey 0 y rfl).2 rfl
      rw [List.filter_cons, if_neg (by rw [h0]; decide), List.eraseIdx_cons_zero]
      refine List.filter_eq_self.2 (fun x hx => ?_)
      obtain ⟨k, hk, he⟩ := List.mem_iff_getElem.1 hx
      have h1 := hkey (k + 1) x (by simp [List.getElem?_eq_getElem hk, he])
      by_cases h2 : offQ n x = true
      · exact h2
      · have := h1.1 (by simpa using h2)
        omega
    | succ p =>
      have h0 : offQ n y = true := by
        by_cases h2 : offQ n y = true
        · exact h2
        · have := (hkey 0 y rfl).1 (by simpa using h2)
          omega
      rw [List.filter_cons, if_pos h0, List.eraseIdx_cons_succ, ih p (by simpa using hp) (fun k x hx => by
        have := hkey (k + 1) x (by simpa using hx)
        exact this.trans ⟨fun h => by omega, fun h => by omega⟩)]
set_option maxHeartbeats 16000000 in
set_option maxRecDepth 100000 in
theorem attrrem_any (a : Option Addr) (len cap : Nat) (L : AL) (n : ByteArray) (w : World) (h : AttrRow w a len cap L) (hn : n.size ≤ maxLen) (hlen : L.length ≤ 1000) :
    Calls Try.prog 14 #[.slice a len cap, .string n] w (RemNew w (remA L n.toList) (hasA L n.toList)) := by
  have H := Lib.hid h
  have HL := Lib.hid h.hlen
  have hl40 : len ≤ 1000 := by rw [← h.hlen]; exact hlen
  have C1 := Lib.hid (find_any a len cap L n w h hn)
  have CC : Hid (∀ W, Below w.heap.size w W → Calls Try.prog 28 #[.slice a len cap] W fun e w' => ∃ v, e = .returned v ∧ w'.ownsRow w.heap.size 41 2 v len (L.flatMap encA) ∧ Below w.heap.size w w') := Lib.hid (fun W hb => clone_own a len cap L w W h (by omega) hb)
  by_cases hg : (rightA L && rightL n.toList) = true
  rotate_left
  · have hg : (rightA L && rightL n.toList) = false := by simpa using hg
    have HR : hasA L n.toList = false := by unfold hasA; rw [hg]; rfl
    have HM := Lib.hid (remA_no HR)
    have EE : Hid (¬ findE L n.toList = 0) := Lib.hid (by
      unfold findE
      revert hg
      cases rightA L <;> cases rightL n.toList <;> simp)
    rw [HR]
    obtain ⟨z, hz⟩ : ∃ z, findE L n.toList = z := ⟨_, rfl⟩
    have C2 := C1.out
    rw [hz] at C2
    have C3 := Lib.hid C2
    have z0 : ¬ z = 0 := by rw [← hz]; exact EE.out
    have z1 : (z == 0) = false := beq_eq_false_iff_ne.2 z0
    have z2 : (z != 0) = true := by unfold bne; rw [z1]; rfl
    clear h hn hg hlen C1 C2 z0 hz HR
    go_enter Try.func14, Try.ntmps14
    go_wp2_with (first
      | (go_at_call 24; refine C3.out.mono ?_; rintro e w' ⟨rfl, HB⟩)
      | (go_at_call 28; refine (CC.out _ HB).mono ?_; rintro e w' ⟨v2, rfl, hown, HB2⟩; have HO := Lib.hid hown; clear hown))
    go_ret2
    rw [HM.out]
    exact RemNew.mk rfl HL.out HO.out H.out.small HB2
  obtain ⟨hr, hnr⟩ : rightA L = true ∧ rightL n.toList = true := by simpa using hg
  obtain ⟨F1, F2, F3⟩ := find_ok hr hnr
  have C2 := C1.out
  rw [F1, F2, F3] at C2
  by_cases hp : placeA L n.toList < L.length
  · have HR : hasA L n.toList = true := by unfold hasA; rw [hr, hnr, decide_eq_true hp]; rfl
    have HM := Lib.hid (rem_erase HR)
    rw [HR]
    have hat := atL_place hp
    have hp' : placeA L n.toList < len := by rw [← h.hlen]; exact hp
    rw [hat] at C2
    have HLP : Hid ((L.eraseIdx (placeA L n.toList)).length = len - 1) := Lib.hid (by rw [List.length_eraseIdx, h.hlen, if_pos hp'])
    obtain ⟨p, hpp⟩ : ∃ p, placeA L n.toList = p := ⟨_, rfl⟩
    rw [hpp] at C2 hp' HM HLP
    have C3 := Lib.hid C2
    have z1 : ((p : Int) == -1) = false := beq_eq_false_iff_ne.2 (by omega)
    clear h hn hg hlen C1 C2 hr hnr F1 F2 F3 hp HR hat hpp
    go_enter Try.func14, Try.ntmps14
    go_wp2_with (first
      | (go_at_call 24; refine C3.out.mono ?_; rintro e w' ⟨rfl, HB⟩)
      | (go_at_call 28; refine (CC.out _ HB).mono ?_; rintro e w1 ⟨v2, rfl, hown, HB2⟩
         obtain ⟨g, cap1, rfl, hgb, hglt⟩ := World.ownsRow.form hown (by omega)
         have CD := Lib.hid (delete_any w1 w.heap.size g len cap1 L p hown HL.out H.out.small hp' hl40)
         clear hown)
      | (go_at_call 29; refine CD.out.mono ?_; rintro e w2 ⟨rfl, hrow, HB3⟩; have HROW := Lib.hid hrow; clear hrow))
    go_ret2
    rw [HM.out]
    exact ⟨_, _, _, rfl, HROW.out, HB2.trans HB3, fun b off hb => by injection hb with hb; injection hb with hb; omega⟩
  · have HR : hasA L n.toList = false := by unfold hasA; rw [decide_eq_false hp]; simp
    have HM := Lib.hid (remA_no HR)
    rw [HR]
    have hat := atL_noplace hp
    rw [hat] at C2
    have C3 := Lib.hid C2
    clear h hn hg hlen C1 C2 hr hnr F1 F2 F3 hp HR hat
    go_enter Try.func14, Try.ntmps14
    go_wp2_with (first
      | (go_at_call 24; refine C3.out.mono ?_; rintro e w' ⟨rfl, HB⟩)
      | (go_at_call 28; refine (CC.out _ HB).mono ?_; rintro e w' ⟨v2, rfl, hown, HB2⟩; have HO := Lib.hid hown; clear hown))
    go_ret2
    rw [HM.out]
    exact RemNew.mk rfl HL.out HO.out H.out.small HB2
end Go.Proofs.Ytmofeddldcifbaa
