/- Texts joined in build order: AttrPlaces. -/
import Derived.Test.YtkfmengdffpcnaaGreatDoorA03
import Derived.Maps.OwnSet
namespace Go.Proofs.YtkfmengdffpcnaaGreatDoor
open Go.RowKit Go.Maps Go.WideMaps
theorem isK (l : List UInt8) : WideAt.IsKeyLit (.string l) := trivial
theorem makeMap_len (n : Nat) (w : World) : (Instr.makeMap 181 (some (.int .i64 (n : Int)))).run Tryz.prog w = .ok (.map (some w.heap.size)) (w.alloc (.map #[] 0)) := by
  simp [Instr.makeMap, run_underlying Tryz.underlying181, asInt, newObj, Result.andThen]
  rfl
def plD (L : AL) : Nat → DataW Unit
  | 0 => .map []
  | k + 1 => match L[k]? with
    | some x => (plD L k).put (.string x.1.data.toList) (.lit (.int .i64 k))
    | none => plD L k
theorem plD_succ {L : AL} {k : Nat} {x : ByteArray × ByteArray} (h : L[k]? = some x) : plD L (k + 1) = (plD L k).put (.string x.1.data.toList) (.lit (.int .i64 k)) := by
  show (match L[k]? with | some x => _ | none => _) = _
  rw [h]
theorem plD_tidy (L : AL) : ∀ k, Tidy (plD L k)
  | 0 => tidy_empty
  | k + 1 => by
    show Tidy (match L[k]? with | some x => _ | none => _)
    cases L[k]? with
    | none => exact plD_tidy L k
    | some x => exact (plD_tidy L k).put (isK _) _
theorem str_ne {a b : List UInt8} (h : a ≠ b) : (Lit.string a) ≠ Lit.string b := fun e => h (by injection e)
theorem plD_has {L : AL} (n : List UInt8) : ∀ k, k ≤ L.length → Maps.has (plD L k) (.string n) = decide (atN L n < k)
  | 0, _ => by rw [decide_eq_false (by omega)]; rfl
  | k + 1, hk => by
    have hkl : k < L.length := by omega
    have hx : L[k]? = some (L[k]'hkl) := List.getElem?_eq_getElem hkl
    have ih := plD_has (L := L) n k (by omega)
    rw [plD_succ hx]
    by_cases e : (L[k]'hkl).1.toList = n
    · rw [← e, tl, has_put_same (plD_tidy L k).isMap (isK _)]
      symm
      rw [decide_eq_true_eq]
      rcases Nat.lt_or_ge k (atN L (L[k]'hkl).1.data.toList) with h | h
      · have := atN_here (L := L) (n := (L[k]'hkl).1.data.toList) (Nat.le_of_lt h) hx (show keyIs _ (L[k]'hkl) = true by unfold keyIs; rw [tl]; simp)
        omega
      · omega
    · rw [has_put_other (str_ne (fun h => e (by rw [tl, ← h]))), ih]
      have hf : keyIs n (L[k]'hkl) = false := by unfold keyIs; exact beq_eq_false_iff_ne.2 e
      rcases Nat.lt_or_ge (atN L n) k with h | h
      · rw [decide_eq_true h, decide_eq_true (by omega)]
      · have := atN_step h hx hf
        rw [decide_eq_false (by omega), decide_eq_false (by omega)]
def firstK (L : AL) (k : Nat) : Prop := ∀ (j : Nat) x, j < k → L[j]? = some x → atN L x.1.toList = j
theorem okAt_eq (L : AL) (k : Nat) (x : ByteArray × ByteArray) : okAt L k x = (standB x && decide (atN L x.1.toList = k)) := rfl
theorem atN_here_le {L : AL} {k : Nat} {x : ByteArray × ByteArray} (h : L[k]? = some x) : atN L x.1.toList ≤ k := by
  rcases Nat.lt_or_ge k (atN L x.1.toList) with h1 | h1
  · have := atN_here (Nat.le_of_lt h1) h (show keyIs x.1.toList x = true by unfold keyIs; simp)
    omega
  · exact h1
theorem lawS : Keyed Tryz.prog 9 := string_keyed Tryz.underlying9
theorem zeroI (w : World) : (zeroValue 3).run Tryz.prog w = .ok (.int .i64 0) w := by kernel_rfl
abbrev ownsPl (w : World) (b n : Nat) (D : DataW Unit) : Prop := w.ownsMap Tryz.prog 9 (plainElem Tryz.prog 3) b n D
def PlacesPost (w : World) (L : AL) (e : Ending) (w' : World) : Prop :=
  if rightA L then ∃ b, e = .returned (.tuple #[.map (some b), .bool true]) ∧ w.heap.size ≤ b ∧ ownsPl w' b L.length (plD L L.length) ∧ Below w.heap.size w w'
  else e = .returned (.tuple #[.map none, .bool false]) ∧ Below w.heap.size w w'
theorem PlacesPost.no {w w' : World} {L : AL} (h : rightA L = false) (hb : Below w.heap.size w w') : PlacesPost w L (.returned (.tuple #[.map none, .bool false])) w' := by
  unfold PlacesPost
  rw [h]
  exact ⟨rfl, hb⟩
theorem PlacesPost.yes {w w' : World} {L : AL} {b : Nat} (h : rightA L = true) (h1 : w.heap.size ≤ b) (h2 : ownsPl w' b L.length (plD L L.length)) (hb : Below w.heap.size w w') : PlacesPost w L (.returned (.tuple #[.map (some b), .bool true])) w' := by
  unfold PlacesPost
  rw [h]
  exact ⟨b, rfl, h1, h2, hb⟩
theorem keyS {s : ByteArray} (h : s.size ≤ maxLen) : keyOf Tryz.prog 9 (.string s) = some (.string s.data.toList) := keyOf_string_mk Tryz.underlying9 h
theorem own_belowM {w w' : World} {b n : Nat} {D : DataW Unit} (h : ownsPl w b n D) (hb : Below w.heap.size w w') : ownsPl w' b n D := by
  have hlt := h.lt
  obtain ⟨es, clock, h1, F, hs, hD⟩ := h
  exact ⟨es, clock, (hb.block b hlt).trans h1, F, hs, hD⟩
set_option maxHeartbeats 16000000 in
set_option maxRecDepth 100000 in
theorem places_any (a : Option Addr) (len cap : Nat) (L : AL) (w : World) (h : AttrRow w a len cap L) :
    Calls Tryz.prog 123 #[.slice a len cap] w (PlacesPost w L) := by
  have hmm := makeMap_len
  have hl := h.len64
  have HL := Lib.hid h.hlen
  by_cases h40 : 40 < len
  · have HR := Lib.hid (rightA_long (L := L) (by rw [h.hlen]; exact h40))
    go_enter Tryz.func123, Tryz.ntmps123
    go_wp2
    go_ret2
    exact PlacesPost.no HR.out (Below.refl _ _)
  go_enter Tryz.func123, Tryz.ntmps123
  go_wp2
  go_loopw [17] (fun i wr => ∃ k : Nat, k ≤ len ∧ i = .int .i64 k ∧ Below w.heap.size w wr ∧ Hid (ownsPl wr w.heap.size k (plD L k)) ∧ Hid (∀ (j : Nat) x, j < k → L[j]? = some x → okAt L j x = true)) (fun i _ => len - (intOf i).toNat)
  case atStart => exact ⟨0, Nat.zero_le _, rfl, (Below.refl _ _).alloc (Nat.le_refl _) _, Lib.hid (World.ownsMap_made _ _ _ _), Lib.hid (fun j x hj _ => absurd hj (by omega))⟩
  case round =>
    obtain ⟨k, hk, rfl, HB, HM, HA⟩ := hrel
    by_cases hlt : k < len
    · have h2 := h.below HB
      obtain ⟨b, off, xn, xv, rfl, hblt, hx, hc1, hc2, hn1, hn2⟩ := h2.get hlt
      have HX := Lib.hid hx
      have HN1 := Lib.hid hn1
      have HN2 := Lib.hid hn2
      have HB2 := Lib.hid HB
      have HF : Hid (firstK L k) := Lib.hid (fun j x hj hx => by
        have := HA.out j x hj hx
        rw [okAt_eq] at this
        simp at this
        exact this.2)
      have HH : Hid (Maps.has (plD L k) (.string xn.data.toList) = decide (atN L xn.toList < k)) := Lib.hid (by
        have := plD_has (L := L) xn.toList k (by rw [HL.out]; omega)
        rw [← tl]; exact this)
      have hkey := Lib.hid (keyS hn1)
      have hlt0 := HM.out.lt
      clear hx hn1 hn2
      by_cases htw : atN L xn.toList < k
      · have HHt : Hid (Maps.has (plD L k) (.string xn.data.toList) = true) := Lib.hid (by rw [HH.out, decide_eq_true htw])
        have HR := Lib.hid (rightA_stop HX.out (show okAt L k (xn, xv) = false by rw [okAt_eq, decide_eq_false (by show ¬ atN L xn.toList = k; omega)]; simp))
        clear htw
        go_wp2_with (first
          | (at_lookup; refine wpList_lookup_own_ok_int _ rfl _ _ 181 rfl 9 3 .i64 lawS Tryz.underlying181 Tryz.underlying3 (zeroI _) w.heap.size k (plD L k) rfl (HM.out.alloc _) _ _ rfl hkey.out ?_; intro c hat hwc; simp only [HHt.out]; clear hat hwc))
        go_ret2
        exact PlacesPost.no HR.out (HB.alloc HB.size _)
      · have HHt : Hid (Maps.has (plD L k) (.string xn.data.toList) = false) := Lib.hid (by rw [HH.out, decide_eq_false htw])
        have HAT : Hid (atN L xn.toList = k) := Lib.hid (by have := atN_here_le HX.out; dsimp only at this; omega)
        clear htw
        by_cases hs : standB (xn, xv) = true
        · have C1 : Hid (∀ W, Calls Tryz.prog 141 #[.agg #[.string xn, .string xv]] W fun e w' => e = .returned (.bool true) ∧ Below W.heap.size W w') := Lib.hid (fun W => by
            have := stand_any xn xv W HN1.out HN2.out
            rwa [hs] at this)
          have HO : Hid (okAt L k (xn, xv) = true) := Lib.hid (by rw [okAt_eq, hs, decide_eq_true (show atN L (xn, xv).1.toList = k from HAT.out)]; rfl)
          clear hs
          go_wp2_with (first
            | (at_lookup; refine wpList_lookup_own_ok_int _ rfl _ _ 181 rfl 9 3 .i64 lawS Tryz.underlying181 Tryz.underlying3 (zeroI _) w.heap.size k (plD L k) rfl (HM.out.alloc _) _ _ rfl hkey.out ?_; intro c hat hwc; simp only [HHt.out]; clear hat hwc)
            | (go_at_call 141; refine (C1.out _).mono ?_; rintro e w1 ⟨rfl, hb⟩; obtain ⟨d1, d2, hb1⟩ := box2 hb; clear hb; have HM1 := Lib.hid (own_belowM HM.out hb1); have hz1 : wr.heap.size ≤ w1.heap.size := hb1.size; have HB1 := Lib.hid hb1; clear hb1)
            | (at_mapUpdate; refine wpList_mapUpdate_own _ rfl _ _ _ 181 rfl 9 3 lawS Tryz.underlying181 _ w.heap.size k _ rfl HM1.out (by unfold maxLen; omega) _ _ _ rfl rfl hkey.out _ [] (plainElem_int Tryz.underlying3 (WalkArith.wf_i64 (by omega))) ?_; intro w2 hown2 hgrow2; have HM2 := Lib.hid hown2; have HG2 := Lib.hid hgrow2; clear hown2 hgrow2))
          have HB2 := HB.trans (HB1.out.mono HB.size)
          have hz0 := HB.size
          go_roundw
          case rel =>
            refine ⟨k + 1, by omega, by go_num, HB2.grown HG2.out HB2.size (fun j hj => by injection hj with hj; omega), Lib.hid ?_, Lib.hid (fun j x hj hx => ?_)⟩
            · rw [plD_succ HX.out]
              exact HM2.out
            · by_cases e : j = k
              · subst e
                rw [HX.out] at hx
                rw [← Option.some.inj hx]
                exact HO.out
              · exact HA.out j x (by omega) hx
          case measure => simp [intOf]; omega
        · have hs : standB (xn, xv) = false := by simpa using hs
          have C1 : Hid (∀ W, Calls Tryz.prog 141 #[.agg #[.string xn, .string xv]] W fun e w' => e = .returned (.bool false) ∧ Below W.heap.size W w') := Lib.hid (fun W => by
            have := stand_any xn xv W HN1.out HN2.out
            rwa [hs] at this)
          have HR := Lib.hid (rightA_stop HX.out (show okAt L k (xn, xv) = false by rw [okAt_eq, hs]; rfl))
          clear hs
          go_wp2_with (first
            | (at_lookup; refine wpList_lookup_own_ok_int _ rfl _ _ 181 rfl 9 3 .i64 lawS Tryz.underlying181 Tryz.underlying3 (zeroI _) w.heap.size k (plD L k) rfl (HM.out.alloc _) _ _ rfl hkey.out ?_; intro c hat hwc; simp only [HHt.out]; clear hat hwc)
            | (go_at_call 141; refine (C1.out _).mono ?_; rintro e w1 ⟨rfl, hb⟩; obtain ⟨d1, d2, hb1⟩ := box2 hb; clear hb; have HB1 := Lib.hid hb1; clear hb1))
          go_ret2
          exact PlacesPost.no HR.out (HB.trans (HB1.out.mono HB.size))
    · have HR := Lib.hid ((rightA_iff L).2 ⟨by rw [h.hlen]; omega, fun j x hx => HA.out j x (by
        obtain ⟨hl1, _⟩ := List.getElem?_eq_some_iff.1 hx
        have := h.hlen
        omega) hx⟩)
      have hkl : k = len := by omega
      have HM2 : Hid (ownsPl wr w.heap.size L.length (plD L L.length)) := Lib.hid (by
        rw [HL.out, ← hkl]
        exact HM.out)
      clear hkl
      go_wp2
      go_ret2
      exact PlacesPost.yes HR.out (Nat.le_refl _) HM2.out HB
end Go.Proofs.YtkfmengdffpcnaaGreatDoor
