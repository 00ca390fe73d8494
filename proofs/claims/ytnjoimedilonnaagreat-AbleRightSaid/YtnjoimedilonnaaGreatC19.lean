/- Texts joined in build order: ForestWays. -/
import Derived.Test.YtnjoimedilonnaaGreatC17
import Derived.Test.YtnjoimedilonnaaGreatC18
namespace Go.Proofs.YtnjoimedilonnaaGreat
open Go.RowKit
def upC (x : Core) : Int := if x.parent = -1 then x.host else x.parent
set_option maxHeartbeats 2000000 in
theorem up_any (x : NodeD) (w : World) : Calls Tryz.prog 45 #[nodVal x] w fun e w' => e = .returned (.int .i64 (upC x.core)) ∧ Below w.heap.size w w' := by
  obtain ⟨⟨kind, name, is, data, attrs, parent, kids, host, under, doc⟩, aA, aN, aC, kA, kN, kC⟩ := x
  by_cases hp : parent = -1
  · subst hp
    go_enter Tryz.func45, Tryz.ntmps45
    go_wp2
    go_ret
    exact ⟨rfl, below_box _ _⟩
  · have HR : Hid (upC ⟨kind, name, is, data, attrs, parent, kids, host, under, doc⟩ = parent) := Lib.hid (by unfold upC; dsimp only; rw [if_neg hp])
    go_enter Tryz.func45, Tryz.ntmps45
    go_wp2
    go_ret
    exact ⟨ret_int HR.out.symm, below_box _ _⟩
theorem nextUp_at {F : List Core} {k : Nat} {x : Core} (h : F[k]? = some x) : nextUp F (k : Int) = upC x := by
  unfold nextUp
  rw [getC_nat, h]
  rfl
abbrev encT (b : Bool) : Value := .bool b
structure Known (w W : World) (g len : Nat) (F : List Core) (E : List Bool) : Prop where
  below : Below w.heap.size w W
  row : ORow encT W g E
  hl : E.length = len
  sound : ∀ i : Nat, E[i]? = some true → endsZ (nextUp F) (len + 1) (i : Int) = true
theorem Known.keep {w W W2 : World} {g len : Nat} {F : List Core} {E : List Bool} (h : Known w W g len F E) (hb : Below W.heap.size W W2) : Known w W2 g len F E := ⟨h.below.trans (hb.mono h.below.size), h.row.keep hb, h.hl, h.sound⟩
theorem Known.more {w W : World} {g len : Nat} {F : List Core} {E : List Bool} (h : Known w W g len F E) (hg : w.heap.size ≤ g) {m : Nat} (hm : m < len) (he : endsZ (nextUp F) (len + 1) (m : Int) = true) : Known w (W.setCell ⟨g, m, none⟩ (.bool true)) g len F (E.set m true) := by
  refine ⟨h.below.setCell (p := ⟨g, m, none⟩) hg _, h.row.set (by rw [h.hl]; exact hm) _, by rw [List.length_set]; exact h.hl, fun i hi => ?_⟩
  by_cases e : m = i
  · subst e
    exact he
  · rw [List.getElem?_set_ne e] at hi
    exact h.sound i hi
def waysB (F : List Core) : Bool := (List.range F.length).all (fun i => endsZ (nextUp F) (F.length + 1) (i : Int))
def upIn (F : List Core) (len : Nat) : Prop := ∀ i : Int, 0 ≤ i → i < len → nextUp F i = -1 ∨ (0 ≤ nextUp F i ∧ nextUp F i < len)
theorem bool_info : (Tryz.prog.info? 4).map (fun i => (i.zero, i.size, i.bytes)) = some (some (.bool false), 1, 1) := by kernel_rfl
set_option maxHeartbeats 8000000 in
set_option maxRecDepth 100000 in
theorem waysEnd_any (a : Option Addr) (len cap : Nat) (L : List NodeD) (w : World) (h : NodeRow w a len cap L) (hk : upIn (coreL L) len) (hs : smallF L) :
    Calls Tryz.prog 27 #[.slice a len cap] w fun e w' => e = .returned (.bool (waysB (coreL L))) ∧ Below w.heap.size w w' := by
  have HL := Lib.hid h.hlen
  have HCL : Hid ((coreL L).length = len) := Lib.hid (by rw [coreL_len, HL.out])
  have hlen : len ≤ 1000 := by rw [← h.hlen]; exact hs.1
  have HK := Lib.hid hk
  have HH := Lib.hid h
  clear hs hk h
  have hmk := run_make_row' (P := Tryz.prog) 38 4 (.bool false) 1 Tryz.underlying38 bool_info rfl .i64 .i64 len (by omega) (by omega)
  have C0 : Hid (Known w (w.alloc (.cells (madeCells #[.bool false] len) 4)) w.heap.size len (coreL L) (List.replicate len false)) := Lib.hid (by
    refine ⟨below_box _ _, ORow.made (enc := encT) w 4 false len, by rw [List.length_replicate], fun i hi => ?_⟩
    have := List.mem_of_getElem? hi
    have := List.eq_of_mem_replicate this
    cases this)
  go_enter Tryz.func27, Tryz.ntmps27
  go_wp2
  clear hmk
  go_loopw [13] (fun i wr => ∃ (k : Nat) (E : List Bool), k ≤ len ∧ i = .int .i64 k ∧ Hid (Known w wr w.heap.size len (coreL L) E) ∧ Hid (∀ j : Nat, j < k → E[j]? = some true)) (fun i _ => len - (intOf i).toNat)
  case atStart => exact ⟨0, _, Nat.zero_le _, rfl, C0, Lib.hid (fun j hj => absurd hj (by omega))⟩
  case round =>
    clear C0
    obtain ⟨k, E, hk, rfl, KN, DN⟩ := hrel
    by_cases hlt : k < len
    · go_wp2
      go_loopw [5, 6] (fun s i wr => ∃ (t : Nat) (at_ : Int), t ≤ len ∧ s = .int .i64 t ∧ i = .int .i64 at_ ∧ (at_ = -1 ∨ (0 ≤ at_ ∧ at_ < len)) ∧ Hid (Known w wr w.heap.size len (coreL L) E) ∧ Hid (∀ m, endsZ (nextUp (coreL L)) (m + t) (k : Int) = endsZ (nextUp (coreL L)) m at_)) (fun s _ _ => len - (intOf s).toNat)
      case atStart => exact ⟨0, k, Nat.zero_le _, rfl, rfl, .inr ⟨by omega, by omega⟩, KN, Lib.hid (fun m => rfl)⟩
      case round =>
        clear KN
        obtain ⟨t, at_, ht, rfl, rfl, hat, KN, CH⟩ := hrel
        by_cases hC : ∃ m : Nat, at_ = m ∧ m < len ∧ E[m]? = some false
        · obtain ⟨m, rfl, hm, hE⟩ := hC
          obtain ⟨b, off, x, rfl, hb, hx, hc, hok⟩ := (HH.out.below KN.out.below).get hm
          obtain ⟨c0, c1, c2, c3, c4, c5, c6, c7, c8, c9⟩ := hc
          have hTc := KN.out.row.cell m _ hE
          unfold encT at hTc
          have UP : Hid (∀ W, Calls Tryz.prog 45 #[nodVal x] W fun e w' => e = .returned (.int .i64 (nextUp (coreL L) m)) ∧ Below W.heap.size W w') := Lib.hid (fun W => by
            rw [nextUp_at (coreL_get hx)]
            exact up_any x W)
          have CH2 : Hid (∀ q, endsZ (nextUp (coreL L)) (q + (t + 1)) (k : Int) = endsZ (nextUp (coreL L)) q (nextUp (coreL L) m)) := Lib.hid (fun q => by
            have h1 := CH.out (q + 1)
            rw [endsZ_step (by omega)] at h1
            rw [← h1]
            congr 1
            omega)
          have UIN := Lib.hid (HK.out m (by omega) (by omega))
          clear hx hok hE hb
          by_cases htl : t < len
          · go_wp2_with (go_at_call 45; (refine (UP.out _).mono ?_); rintro e w1 ⟨rfl, hb⟩; have KN := Lib.hid (KN.out.keep hb); clear hb)
            go_roundw
            case rel => exact ⟨t + 1, _, by omega, by go_num, rfl, UIN.out, KN, CH2⟩
            case measure => simp [intOf]; omega
          · have htt : t = len := by omega
            subst htt
            have HR : Hid (waysB (coreL L) = false) := Lib.hid (by
              unfold waysB
              rw [List.all_eq_false]
              refine ⟨k, List.mem_range.2 (by rw [HCL.out]; exact hlt), ?_⟩
              rw [HCL.out]
              intro he
              have h1 := ends_small (n := t) HK.out (.inr ⟨by omega, by omega⟩) he
              have h2 := CH.out 0
              rw [Nat.zero_add, h1] at h2
              have h3 : (m : Int) = -1 := beq_iff_eq.1 h2.symm
              omega)
            go_wp2
            go_ret
            exact ⟨ret_bool HR.out.symm, KN.out.below⟩
        have AB : at_ = -1 ∨ ∃ m : Nat, at_ = m ∧ m < len ∧ E[m]? = some true := by
          rcases hat with h | h
          · exact .inl h
          · refine .inr ⟨at_.toNat, by omega, by omega, ?_⟩
            have hl : at_.toNat < E.length := by rw [KN.out.hl]; omega
            cases hq : E[at_.toNat]'hl with
            | true => rw [List.getElem?_eq_getElem hl, hq]
            | false => exact absurd ⟨at_.toNat, by omega, by omega, by rw [List.getElem?_eq_getElem hl, hq]⟩ hC
        have EN : Hid (endsZ (nextUp (coreL L)) (len + 1) (k : Int) = true) := Lib.hid (by
          rcases AB with e | ⟨m, e, hm, he⟩
          · have h1 := CH.out 0
            rw [e, Nat.zero_add] at h1
            exact endsZ_le (by omega) (h1.trans rfl)
          · have h1 := CH.out (len + 1)
            rw [e, KN.out.sound m he] at h1
            exact endsZ_more _ _ (ends_small (n := len) HK.out (.inr ⟨by omega, by omega⟩) h1))
        clear hC CH hat
        rcases AB with rfl | ⟨m, rfl, hm, hE⟩
        rotate_left
        · have hTc := KN.out.row.cell m _ hE
          unfold encT at hTc
          clear hE
          go_wp2
          clear hTc hm
          (
            go_loopw [7] (fun i wr => ∃ (at_ : Int) (E : List Bool), i = .int .i64 at_ ∧ (at_ = -1 ∨ (0 ≤ at_ ∧ at_ < len)) ∧ Hid (Known w wr w.heap.size len (coreL L) E) ∧ Hid (∀ j : Nat, j < k → E[j]? = some true) ∧ Hid (at_ = (k : Int) ∨ E[k]? = some true) ∧ Hid (endsZ (nextUp (coreL L)) (len + 1) at_ = true)) (fun i _ => rankZ (nextUp (coreL L)) len (intOf i))
            case atStart => exact ⟨k, E, rfl, .inr ⟨by omega, by omega⟩, KN, DN, Lib.hid (.inl rfl), EN⟩
            case round =>
              clear KN DN EN
              obtain ⟨at_, E, rfl, hat, KN, DN, KK, EN⟩ := hrel
              by_cases hC : ∃ m : Nat, at_ = m ∧ m < len ∧ E[m]? = some false
              · obtain ⟨m, rfl, hm, hE⟩ := hC
                have hTc := KN.out.row.cell m _ hE
                have hTf := KN.out.row.free m
                unfold encT at hTc
                have KN2 := Lib.hid (KN.out.more (Nat.le_refl _) hm EN.out)
                obtain ⟨b, off, x, rfl, hb, hx, hc, hok⟩ := (HH.out.below KN2.out.below).get hm
                obtain ⟨c0, c1, c2, c3, c4, c5, c6, c7, c8, c9⟩ := hc
                have UP : Hid (∀ W, Calls Tryz.prog 45 #[nodVal x] W fun e w' => e = .returned (.int .i64 (nextUp (coreL L) m)) ∧ Below W.heap.size W w') := Lib.hid (fun W => by
                  rw [nextUp_at (coreL_get hx)]
                  exact up_any x W)
                have UIN := Lib.hid (HK.out m (by omega) (by omega))
                have EN2 : Hid (endsZ (nextUp (coreL L)) (len + 1) (nextUp (coreL L) m) = true) := Lib.hid (by
                  have := EN.out
                  rw [endsZ_step (by omega)] at this
                  exact endsZ_more _ _ this)
                have ME := Lib.hid (rankZ_up (n := len) (show (m : Int) ≠ -1 by omega) EN.out EN2.out)
                have DN2 : Hid (∀ j : Nat, j < k → (E.set m true)[j]? = some true) := Lib.hid (fun j hj => by
                  by_cases e : m = j
                  · subst e
                    rw [List.getElem?_set_self (by rw [KN.out.hl]; exact hm)]
                  · rw [List.getElem?_set_ne e]
                    exact DN.out j hj)
                have KK2 : Hid (nextUp (coreL L) m = (k : Int) ∨ (E.set m true)[k]? = some true) := Lib.hid (.inr (by
                  by_cases e : m = k
                  · subst e
                    rw [List.getElem?_set_self (by rw [KN.out.hl]; exact hm)]
                  · rw [List.getElem?_set_ne e]
                    rcases KK.out with h | h
                    · omega
                    · exact h))
                clear hx hok hE hb
                go_wp2_with (go_at_call 45; (refine (UP.out _).mono ?_); rintro e w1 ⟨rfl, hb⟩; have KN2 := Lib.hid (KN2.out.keep hb); clear hb)
                go_roundw
                case rel => exact ⟨_, _, rfl, UIN.out, KN2, DN2, KK2, EN2⟩
                case measure => simp [intOf]; rw [ME.out]; omega
              have AB : at_ = -1 ∨ ∃ m : Nat, at_ = m ∧ m < len ∧ E[m]? = some true := by
                rcases hat with h | h
                · exact .inl h
                · refine .inr ⟨at_.toNat, by omega, by omega, ?_⟩
                  have hl : at_.toNat < E.length := by rw [KN.out.hl]; omega
                  cases hq : E[at_.toNat]'hl with
                  | true => rw [List.getElem?_eq_getElem hl, hq]
                  | false => exact absurd ⟨at_.toNat, by omega, by omega, by rw [List.getElem?_eq_getElem hl, hq]⟩ hC
              have DN2 : Hid (∀ j : Nat, j < k + 1 → E[j]? = some true) := Lib.hid (fun j hj => by
                by_cases e : j = k
                · subst e
                  rcases KK.out with h | h
                  · rcases AB with h2 | ⟨m, h2, _, h3⟩
                    · omega
                    · have : m = j := by omega
                      rw [← this]
                      exact h3
                  · exact h
                · exact DN.out j (by omega))
              clear hC hat KK EN DN
              rcases AB with rfl | ⟨m, rfl, hm, hE⟩
              · go_wp2
                go_roundw
                case rel => exact ⟨k + 1, E, by omega, by go_num, KN, DN2⟩
                case measure => simp [intOf]; omega
              · have hTc := KN.out.row.cell m _ hE
                unfold encT at hTc
                clear hE
                go_wp2
                go_roundw
                case rel => exact ⟨k + 1, E, by omega, by go_num, KN, DN2⟩
                case measure => simp [intOf]; omega)
        · go_wp2
          (
            go_loopw [7] (fun i wr => ∃ (at_ : Int) (E : List Bool), i = .int .i64 at_ ∧ (at_ = -1 ∨ (0 ≤ at_ ∧ at_ < len)) ∧ Hid (Known w wr w.heap.size len (coreL L) E) ∧ Hid (∀ j : Nat, j < k → E[j]? = some true) ∧ Hid (at_ = (k : Int) ∨ E[k]? = some true) ∧ Hid (endsZ (nextUp (coreL L)) (len + 1) at_ = true)) (fun i _ => rankZ (nextUp (coreL L)) len (intOf i))
            case atStart => exact ⟨k, E, rfl, .inr ⟨by omega, by omega⟩, KN, DN, Lib.hid (.inl rfl), EN⟩
            case round =>
              clear KN DN EN
              obtain ⟨at_, E, rfl, hat, KN, DN, KK, EN⟩ := hrel
              by_cases hC : ∃ m : Nat, at_ = m ∧ m < len ∧ E[m]? = some false
              · obtain ⟨m, rfl, hm, hE⟩ := hC
                have hTc := KN.out.row.cell m _ hE
                have hTf := KN.out.row.free m
                unfold encT at hTc
                have KN2 := Lib.hid (KN.out.more (Nat.le_refl _) hm EN.out)
                obtain ⟨b, off, x, rfl, hb, hx, hc, hok⟩ := (HH.out.below KN2.out.below).get hm
                obtain ⟨c0, c1, c2, c3, c4, c5, c6, c7, c8, c9⟩ := hc
                have UP : Hid (∀ W, Calls Tryz.prog 45 #[nodVal x] W fun e w' => e = .returned (.int .i64 (nextUp (coreL L) m)) ∧ Below W.heap.size W w') := Lib.hid (fun W => by
                  rw [nextUp_at (coreL_get hx)]
                  exact up_any x W)
                have UIN := Lib.hid (HK.out m (by omega) (by omega))
                have EN2 : Hid (endsZ (nextUp (coreL L)) (len + 1) (nextUp (coreL L) m) = true) := Lib.hid (by
                  have := EN.out
                  rw [endsZ_step (by omega)] at this
                  exact endsZ_more _ _ this)
                have ME := Lib.hid (rankZ_up (n := len) (show (m : Int) ≠ -1 by omega) EN.out EN2.out)
                have DN2 : Hid (∀ j : Nat, j < k → (E.set m true)[j]? = some true) := Lib.hid (fun j hj => by
                  by_cases e : m = j
                  · subst e
                    rw [List.getElem?_set_self (by rw [KN.out.hl]; exact hm)]
                  · rw [List.getElem?_set_ne e]
                    exact DN.out j hj)
                have KK2 : Hid (nextUp (coreL L) m = (k : Int) ∨ (E.set m true)[k]? = some true) := Lib.hid (.inr (by
                  by_cases e : m = k
                  · subst e
                    rw [List.getElem?_set_self (by rw [KN.out.hl]; exact hm)]
                  · rw [List.getElem?_set_ne e]
                    rcases KK.out with h | h
                    · omega
                    · exact h))
                clear hx hok hE hb
                go_wp2_with (go_at_call 45; (refine (UP.out _).mono ?_); rintro e w1 ⟨rfl, hb⟩; have KN2 := Lib.hid (KN2.out.keep hb); clear hb)
                go_roundw
                case rel => exact ⟨_, _, rfl, UIN.out, KN2, DN2, KK2, EN2⟩
                case measure => simp [intOf]; rw [ME.out]; omega
              have AB : at_ = -1 ∨ ∃ m : Nat, at_ = m ∧ m < len ∧ E[m]? = some true := by
                rcases hat with h | h
                · exact .inl h
                · refine .inr ⟨at_.toNat, by omega, by omega, ?_⟩
                  have hl : at_.toNat < E.length := by rw [KN.out.hl]; omega
                  cases hq : E[at_.toNat]'hl with
                  | true => rw [List.getElem?_eq_getElem hl, hq]
                  | false => exact absurd ⟨at_.toNat, by omega, by omega, by rw [List.getElem?_eq_getElem hl, hq]⟩ hC
              have DN2 : Hid (∀ j : Nat, j < k + 1 → E[j]? = some true) := Lib.hid (fun j hj => by
                by_cases e : j = k
                · subst e
                  rcases KK.out with h | h
                  · rcases AB with h2 | ⟨m, h2, _, h3⟩
                    · omega
                    · have : m = j := by omega
                      rw [← this]
                      exact h3
                  · exact h
                · exact DN.out j (by omega))
              clear hC hat KK EN DN
              rcases AB with rfl | ⟨m, rfl, hm, hE⟩
              · go_wp2
                go_roundw
                case rel => exact ⟨k + 1, E, by omega, by go_num, KN, DN2⟩
                case measure => simp [intOf]; omega
              · have hTc := KN.out.row.cell m _ hE
                unfold encT at hTc
                clear hE
                go_wp2
                go_roundw
                case rel => exact ⟨k + 1, E, by omega, by go_num, KN, DN2⟩
                case measure => simp [intOf]; omega)
    · have hkk : k = len := by omega
      subst hkk
      have HR : Hid (waysB (coreL L) = true) := Lib.hid (by
        unfold waysB
        rw [List.all_eq_true, HCL.out]
        intro i hi
        exact KN.out.sound i (DN.out i (List.mem_range.1 hi)))
      go_wp2
      go_ret
      exact ⟨ret_bool HR.out.symm, KN.out.below⟩
end Go.Proofs.YtnjoimedilonnaaGreat
