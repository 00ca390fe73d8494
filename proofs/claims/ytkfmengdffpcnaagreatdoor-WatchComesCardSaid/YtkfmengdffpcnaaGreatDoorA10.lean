/- Texts joined in build order: ForestWays ForestRightMath ForestRightFn. -/
import Derived.Test.YtkfmengdffpcnaaGreatDoorA09
import Derived.Test.YtkfmengdffpcnaaGreatDoorA08
namespace Go.Proofs.YtkfmengdffpcnaaGreatDoor
open Go.RowKit
def upC (x : Core) : Int := if x.parent = -1 then x.host else x.parent
set_option maxHeartbeats 2000000 in
theorem up_any (x : NodeD) (w : World) : Calls Tryz.prog 72 #[nodVal x] w fun e w' => e = .returned (.int .i64 (upC x.core)) ∧ Below w.heap.size w w' := by
  obtain ⟨⟨kind, name, is, data, attrs, parent, kids, host, under, doc⟩, aA, aN, aC, kA, kN, kC⟩ := x
  by_cases hp : parent = -1
  · subst hp
    go_enter Tryz.func72, Tryz.ntmps72
    go_wp2
    go_ret
    exact ⟨rfl, below_box _ _⟩
  · have HR : Hid (upC ⟨kind, name, is, data, attrs, parent, kids, host, under, doc⟩ = parent) := Lib.hid (by unfold upC; dsimp only; rw [if_neg hp])
    go_enter Tryz.func72, Tryz.ntmps72
    go_wp2
    go_ret
    exact ⟨ret_int HR.out.symm, below_box _ _⟩
theorem nextUp_at {F : List Core} {k : Nat} {x : Core} (h : F[k]? = some x) : nextUp F (k : Int) = upC x := by
  unfold nextUp
  rw [getC_nat, h]
  rfl
abbrev encT (b : Bool) : Value := .bool b
structure Known (w W : World) (g len : Nat) (F : List Core) (E : List Bool) : Prop where
  below : Below w.heap.size w W
  row : ORow encT W g E
  hl : E.length = len
  sound : ∀ i : Nat, E[i]? = some true → endsZ (nextUp F) (len + 1) (i : Int) = true
theorem Known.keep {w W W2 : World} {g len : Nat} {F : List Core} {E : List Bool} (h : Known w W g len F E) (hb : Below W.heap.size W W2) : Known w W2 g len F E := ⟨h.below.trans (hb.mono h.below.size), h.row.keep hb, h.hl, h.sound⟩
theorem Known.more {w W : World} {g len : Nat} {F : List Core} {E : List Bool} (h : Known w W g len F E) (hg : w.heap.size ≤ g) {m : Nat} (hm : m < len) (he : endsZ (nextUp F) (len + 1) (m : Int) = true) : Known w (W.setCell ⟨g, m, none⟩ (.bool true)) g len F (E.set m true) := by
  refine ⟨h.below.setCell (p := ⟨g, m, none⟩) hg _, h.row.set (by rw [h.hl]; exact hm) _, by rw [List.length_set]; exact h.hl, fun i hi => ?_⟩
  by_cases e : m = i
  · subst e
    exact he
  · rw [List.getElem?_set_ne e] at hi
    exact h.sound i hi
def waysB (F : List Core) : Bool := (List.range F.length).all (fun i => endsZ (nextUp F) (F.length + 1) (i : Int))
def upIn (F : List Core) (len : Nat) : Prop := ∀ i : Int, 0 ≤ i → i < len → nextUp F i = -1 ∨ (0 ≤ nextUp F i ∧ nextUp F i < len)
theorem bool_info : (Tryz.prog.info? 4).map (fun i => (i.zero, i.size, i.bytes)) = some (some (.bool false), 1, 1) := by kernel_rfl
set_option maxHeartbeats 8000000 in
set_option maxRecDepth 100000 in
theorem waysEnd_any (a : Option Addr) (len cap : Nat) (L : List NodeD) (w : World) (h : NodeRow w a len cap L) (hk : upIn (coreL L) len) (hs : smallF L) :
    Calls Tryz.prog 44 #[.slice a len cap] w fun e w' => e = .returned (.bool (waysB (coreL L))) ∧ Below w.heap.size w w' := by
  have HL := Lib.hid h.hlen
  have HCL : Hid ((coreL L).length = len) := Lib.hid (by rw [coreL_len, HL.out])
  have hlen : len ≤ 1000 := by rw [← h.hlen]; exact hs.1
  have HK := Lib.hid hk
  have HH := Lib.hid h
  clear hs hk h
  have hmk := run_make_row' (P := Tryz.prog) 132 4 (.bool false) 1 Tryz.underlying132 bool_info rfl .i64 .i64 len (by omega) (by omega)
  have C0 : Hid (Known w (w.alloc (.cells (madeCells #[.bool false] len) 4)) w.heap.size len (coreL L) (List.replicate len false)) := Lib.hid (by
    refine ⟨below_box _ _, ORow.made (enc := encT) w 4 false len, by rw [List.length_replicate], fun i hi => ?_⟩
    have := List.mem_of_getElem? hi
    have := List.eq_of_mem_replicate this
    cases this)
  go_enter Tryz.func44, Tryz.ntmps44
  go_wp2
  clear hmk
  go_loopw [13] (fun i wr => ∃ (k : Nat) (E : List Bool), k ≤ len ∧ i = .int .i64 k ∧ Hid (Known w wr w.heap.size len (coreL L) E) ∧ Hid (∀ j : Nat, j < k → E[j]? = some true)) (fun i _ => len - (intOf i).toNat)
  case atStart => exact ⟨0, _, Nat.zero_le _, rfl, C0, Lib.hid (fun j hj => absurd hj (by omega))⟩
  case round =>
    clear C0
    obtain ⟨k, E, hk, rfl, KN, DN⟩ := hrel
    by_cases hlt : k < len
    · go_wp2
      go_loopw [5, 6] (fun s i wr => ∃ (t : Nat) (at_ : Int), t ≤ len ∧ s = .int .i64 t ∧ i = .int .i64 at_ ∧ (at_ = -1 ∨ (0 ≤ at_ ∧ at_ < len)) ∧ Hid (Known w wr w.heap.size len (coreL L) E) ∧ Hid (∀ m, endsZ (nextUp (coreL L)) (m + t) (k : Int) = endsZ (nextUp (coreL L)) m at_)) (fun s _ _ => len - (intOf s).toNat)
      case atStart => exact ⟨0, k, Nat.zero_le _, rfl, rfl, .inr ⟨by omega, by omega⟩, KN, Lib.hid (fun m => rfl)⟩
      case round =>
        clear KN
        obtain ⟨t, at_, ht, rfl, rfl, hat, KN, CH⟩ := hrel
        by_cases hC : ∃ m : Nat, at_ = m ∧ m < len ∧ E[m]? = some false
        · obtain ⟨m, rfl, hm, hE⟩ := hC
          obtain ⟨b, off, x, rfl, hb, hx, hc, hok⟩ := (HH.out.below KN.out.below).get hm
          obtain ⟨c0, c1, c2, c3, c4, c5, c6, c7, c8, c9⟩ := hc
          have hTc := KN.out.row.cell m _ hE
          unfold encT at hTc
          have UP : Hid (∀ W, Calls Tryz.prog 72 #[nodVal x] W fun e w' => e = .returned (.int .i64 (nextUp (coreL L) m)) ∧ Below W.heap.size W w') := Lib.hid (fun W => by
            rw [nextUp_at (coreL_get hx)]
            exact up_any x W)
          have CH2 : Hid (∀ q, endsZ (nextUp (coreL L)) (q + (t + 1)) (k : Int) = endsZ (nextUp (coreL L)) q (nextUp (coreL L) m)) := Lib.hid (fun q => by
            have h1 := CH.out (q + 1)
            rw [endsZ_step (by omega)] at h1
            rw [← h1]
            congr 1
            omega)
          have UIN := Lib.hid (HK.out m (by omega) (by omega))
          clear hx hok hE hb
          by_cases htl : t < len
          · go_wp2_with (go_at_call 72; (refine (UP.out _).mono ?_); rintro e w1 ⟨rfl, hb⟩; have KN := Lib.hid (KN.out.keep hb); clear hb)
            go_roundw
            case rel => exact ⟨t + 1, _, by omega, by go_num, rfl, UIN.out, KN, CH2⟩
            case measure => simp [intOf]; omega
          · have htt : t = len := by omega
            subst htt
            have HR : Hid (waysB (coreL L) = false) := Lib.hid (by
              unfold waysB
              rw [List.all_eq_false]
              refine ⟨k, List.mem_range.2 (by rw [HCL.out]; exact hlt), ?_⟩
              rw [HCL.out]
              intro he
              have h1 := ends_small (n := t) HK.out (.inr ⟨by omega, by omega⟩) he
              have h2 := CH.out 0
              rw [Nat.zero_add, h1] at h2
              have h3 : (m : Int) = -1 := beq_iff_eq.1 h2.symm
              omega)
            go_wp2
            go_ret
            exact ⟨ret_bool HR.out.symm, KN.out.below⟩
        have AB : at_ = -1 ∨ ∃ m : Nat, at_ = m ∧ m < len ∧ E[m]? = some true := by
          rcases hat with h | h
          · exact .inl h
          · refine .inr ⟨at_.toNat, by omega, by omega, ?_⟩
            have hl : at_.toNat < E.length := by rw [KN.out.hl]; omega
            cases hq : E[at_.toNat]'hl with
            | true => rw [List.getElem?_eq_getElem hl, hq]
            | false => exact absurd ⟨at_.toNat, by omega, by omega, by rw [List.getElem?_eq_getElem hl, hq]⟩ hC
        have EN : Hid (endsZ (nextUp (coreL L)) (len + 1) (k : Int) = true) := Lib.hid (by
          rcases AB with e | ⟨m, e, hm, he⟩
          · have h1 := CH.out 0
            rw [e, Nat.zero_add] at h1
            exact endsZ_le (by omega) (h1.trans rfl)
          · have h1 := CH.out (len + 1)
            rw [e, KN.out.sound m he] at h1
            exact endsZ_more _ _ (ends_small (n := len) HK.out (.inr ⟨by omega, by omega⟩) h1))
        clear hC CH hat
        rcases AB with rfl | ⟨m, rfl, hm, hE⟩
        rotate_left
        · have hTc := KN.out.row.cell m _ hE
          unfold encT at hTc
          clear hE
          go_wp2
          clear hTc hm
          (
            go_loopw [7] (fun i wr => ∃ (at_ : Int) (E : List Bool), i = .int .i64 at_ ∧ (at_ = -1 ∨ (0 ≤ at_ ∧ at_ < len)) ∧ Hid (Known w wr w.heap.size len (coreL L) E) ∧ Hid (∀ j : Nat, j < k → E[j]? = some true) ∧ Hid (at_ = (k : Int) ∨ E[k]? = some true) ∧ Hid (endsZ (nextUp (coreL L)) (len + 1) at_ = true)) (fun i _ => rankZ (nextUp (coreL L)) len (intOf i))
            case atStart => exact ⟨k, E, rfl, .inr ⟨by omega, by omega⟩, KN, DN, Lib.hid (.inl rfl), EN⟩
            case round =>
              clear KN DN EN
              obtain ⟨at_, E, rfl, hat, KN, DN, KK, EN⟩ := hrel
              by_cases hC : ∃ m : Nat, at_ = m ∧ m < len ∧ E[m]? = some false
              · obtain ⟨m, rfl, hm, hE⟩ := hC
                have hTc := KN.out.row.cell m _ hE
                have hTf := KN.out.row.free m
                unfold encT at hTc
                have KN2 := Lib.hid (KN.out.more (Nat.le_refl _) hm EN.out)
                obtain ⟨b, off, x, rfl, hb, hx, hc, hok⟩ := (HH.out.below KN2.out.below).get hm
                obtain ⟨c0, c1, c2, c3, c4, c5, c6, c7, c8, c9⟩ := hc
                have UP : Hid (∀ W, Calls Tryz.prog 72 #[nodVal x] W fun e w' => e = .returned (.int .i64 (nextUp (coreL L) m)) ∧ Below W.heap.size W w') := Lib.hid (fun W => by
                  rw [nextUp_at (coreL_get hx)]
                  exact up_any x W)
                have UIN := Lib.hid (HK.out m (by omega) (by omega))
                have EN2 : Hid (endsZ (nextUp (coreL L)) (len + 1) (nextUp (coreL L) m) = true) := Lib.hid (by
                  have := EN.out
                  rw [endsZ_step (by omega)] at this
                  exact endsZ_more _ _ this)
                have ME := Lib.hid (rankZ_up (n := len) (show (m : Int) ≠ -1 by omega) EN.out EN2.out)
                have DN2 : Hid (∀ j : Nat, j < k → (E.set m true)[j]? = some true) := Lib.hid (fun j hj => by
                  by_cases e : m = j
                  · subst e
                    rw [List.getElem?_set_self (by rw [KN.out.hl]; exact hm)]
                  · rw [List.getElem?_set_ne e]
                    exact DN.out j hj)
                have KK2 : Hid (nextUp (coreL L) m = (k : Int) ∨ (E.set m true)[k]? = some true) := Lib.hid (.inr (by
                  by_cases e : m = k
                  · subst e
                    rw [List.getElem?_set_self (by rw [KN.out.hl]; exact hm)]
                  · rw [List.getElem?_set_ne e]
                    rcases KK.out with h | h
                    · omega
                    · exact h))
                clear hx hok hE hb
                go_wp2_with (go_at_call 72; (refine (UP.out _).mono ?_); rintro e w1 ⟨rfl, hb⟩; have KN2 := Lib.hid (KN2.out.keep hb); clear hb)
                go_roundw
                case rel => exact ⟨_, _, rfl, UIN.out, KN2, DN2, KK2, EN2⟩
                case measure => simp [intOf]; rw [ME.out]; omega
              have AB : at_ = -1 ∨ ∃ m : Nat, at_ = m ∧ m < len ∧ E[m]? = some true := by
                rcases hat with h | h
                · exact .inl h
                · refine .inr ⟨at_.toNat, by omega, by omega, ?_⟩
                  have hl : at_.toNat < E.length := by rw [KN.out.hl]; omega
                  cases hq : E[at_.toNat]'hl with
                  | true => rw [List.getElem?_eq_getElem hl, hq]
                  | false => exact absurd ⟨at_.toNat, by omega, by omega, by rw [List.getElem?_eq_getElem hl, hq]⟩ hC
              have DN2 : Hid (∀ j : Nat, j < k + 1 → E[j]? = some true) := Lib.hid (fun j hj => by
                by_cases e : j = k
                · subst e
                  rcases KK.out with h | h
                  · rcases AB with h2 | ⟨m, h2, _, h3⟩
                    · omega
                    · have : m = j := by omega
                      rw [← this]
                      exact h3
                  · exact h
                · exact DN.out j (by omega))
              clear hC hat KK EN DN
              rcases AB with rfl | ⟨m, rfl, hm, hE⟩
              · go_wp2
                go_roundw
                case rel => exact ⟨k + 1, E, by omega, by go_num, KN, DN2⟩
                case measure => simp [intOf]; omega
              · have hTc := KN.out.row.cell m _ hE
                unfold encT at hTc
                clear hE
                go_wp2
                go_roundw
                case rel => exact ⟨k + 1, E, by omega, by go_num, KN, DN2⟩
                case measure => simp [intOf]; omega)
        · go_wp2
          (
            go_loopw [7] (fun i wr => ∃ (at_ : Int) (E : List Bool), i = .int .i64 at_ ∧ (at_ = -1 ∨ (0 ≤ at_ ∧ at_ < len)) ∧ Hid (Known w wr w.heap.size len (coreL L) E) ∧ Hid (∀ j : Nat, j < k → E[j]? = some true) ∧ Hid (at_ = (k : Int) ∨ E[k]? = some true) ∧ Hid (endsZ (nextUp (coreL L)) (len + 1) at_ = true)) (fun i _ => rankZ (nextUp (coreL L)) len (intOf i))
            case atStart => exact ⟨k, E, rfl, .inr ⟨by omega, by omega⟩, KN, DN, Lib.hid (.inl rfl), EN⟩
            case round =>
              clear KN DN EN
              obtain ⟨at_, E, rfl, hat, KN, DN, KK, EN⟩ := hrel
              by_cases hC : ∃ m : Nat, at_ = m ∧ m < len ∧ E[m]? = some false
              · obtain ⟨m, rfl, hm, hE⟩ := hC
                have hTc := KN.out.row.cell m _ hE
                have hTf := KN.out.row.free m
                unfold encT at hTc
                have KN2 := Lib.hid (KN.out.more (Nat.le_refl _) hm EN.out)
                obtain ⟨b, off, x, rfl, hb, hx, hc, hok⟩ := (HH.out.below KN2.out.below).get hm
                obtain ⟨c0, c1, c2, c3, c4, c5, c6, c7, c8, c9⟩ := hc
                have UP : Hid (∀ W, Calls Tryz.prog 72 #[nodVal x] W fun e w' => e = .returned (.int .i64 (nextUp (coreL L) m)) ∧ Below W.heap.size W w') := Lib.hid (fun W => by
                  rw [nextUp_at (coreL_get hx)]
                  exact up_any x W)
                have UIN := Lib.hid (HK.out m (by omega) (by omega))
                have EN2 : Hid (endsZ (nextUp (coreL L)) (len + 1) (nextUp (coreL L) m) = true) := Lib.hid (by
                  have := EN.out
                  rw [endsZ_step (by omega)] at this
                  exact endsZ_more _ _ this)
                have ME := Lib.hid (rankZ_up (n := len) (show (m : Int) ≠ -1 by omega) EN.out EN2.out)
                have DN2 : Hid (∀ j : Nat, j < k → (E.set m true)[j]? = some true) := Lib.hid (fun j hj => by
                  by_cases e : m = j
                  · subst e
                    rw [List.getElem?_set_self (by rw [KN.out.hl]; exact hm)]
                  · rw [List.getElem?_set_ne e]
                    exact DN.out j hj)
                have KK2 : Hid (nextUp (coreL L) m = (k : Int) ∨ (E.set m true)[k]? = some true) := Lib.hid (.inr (by
                  by_cases e : m = k
                  · subst e
                    rw [List.getElem?_set_self (by rw [KN.out.hl]; exact hm)]
                  · rw [List.getElem?_set_ne e]
                    rcases KK.out with h | h
                    · omega
                    · exact h))
                clear hx hok hE hb
                go_wp2_with (go_at_call 72; (refine (UP.out _).mono ?_); rintro e w1 ⟨rfl, hb⟩; have KN2 := Lib.hid (KN2.out.keep hb); clear hb)
                go_roundw
                case rel => exact ⟨_, _, rfl, UIN.out, KN2, DN2, KK2, EN2⟩
                case measure => simp [intOf]; rw [ME.out]; omega
              have AB : at_ = -1 ∨ ∃ m : Nat, at_ = m ∧ m < len ∧ E[m]? = some true := by
                rcases hat with h | h
                · exact .inl h
                · refine .inr ⟨at_.toNat, by omega, by omega, ?_⟩
                  have hl : at_.toNat < E.length := by rw [KN.out.hl]; omega
                  cases hq : E[at_.toNat]'hl with
                  | true => rw [List.getElem?_eq_getElem hl, hq]
                  | false => exact absurd ⟨at_.toNat, by omega, by omega, by rw [List.getElem?_eq_getElem hl, hq]⟩ hC
              have DN2 : Hid (∀ j : Nat, j < k + 1 → E[j]? = some true) := Lib.hid (fun j hj => by
                by_cases e : j = k
                · subst e
                  rcases KK.out with h | h
                  · rcases AB with h2 | ⟨m, h2, _, h3⟩
                    · omega
                    · have : m = j := by omega
                      rw [← this]
                      exact h3
                  · exact h
                · exact DN.out j (by omega))
              clear hC hat KK EN DN
              rcases AB with rfl | ⟨m, rfl, hm, hE⟩
              · go_wp2
                go_roundw
                case rel => exact ⟨k + 1, E, by omega, by go_num, KN, DN2⟩
                case measure => simp [intOf]; omega
              · have hTc := KN.out.row.cell m _ hE
                unfold encT at hTc
                clear hE
                go_wp2
                go_roundw
                case rel => exact ⟨k + 1, E, by omega, by go_num, KN, DN2⟩
                case measure => simp [intOf]; omega)
    · have hkk : k = len := by omega
      subst hkk
      have HR : Hid (waysB (coreL L) = true) := Lib.hid (by
        unfold waysB
        rw [List.all_eq_true, HCL.out]
        intro i hi
        exact KN.out.sound i (DN.out i (List.mem_range.1 hi)))
      go_wp2
      go_ret
      exact ⟨ret_bool HR.out.symm, KN.out.below⟩
end Go.Proofs.YtkfmengdffpcnaaGreatDoor
namespace Go.Proofs.YtkfmengdffpcnaaGreatDoor
theorem allK_split {F : List Core} {p : Nat} {x : Core} (h : F[p]? = some x) : allK F = allK (F.take p) ++ (x.kids ++ allK (F.drop (p + 1))) := by
  obtain ⟨hl, hg⟩ := List.getElem?_eq_some_iff.1 h
  have e : F = F.take p ++ (x :: F.drop (p + 1)) := by rw [← hg, ← List.drop_eq_getElem_cons hl, List.take_append_drop]
  unfold allK
  conv => lhs; rw [e]
  rw [List.flatMap_append, List.flatMap_cons]
theorem hasZ_zero {L : List Int} {n : Int} (h : n ∉ L) : hasZ L n = 0 := by
  unfold hasZ
  rw [List.countP_eq_zero]
  intro z hz
  simp
  rintro rfl
  exact h hz
theorem hasZ_pos {L : List Int} {n : Int} (h : n ∈ L) : 0 < hasZ L n := List.countP_pos_iff.2 ⟨n, h, by simp⟩
theorem mem_allK {F : List Core} {n : Int} (h : n ∈ allK F) : ∃ (i : Nat) (x : Core), F[i]? = some x ∧ n ∈ x.kids := by
  unfold allK at h
  obtain ⟨x, hx, hn⟩ := List.mem_flatMap.1 h
  obtain ⟨i, hi, he⟩ := List.mem_iff_getElem.1 hx
  exact ⟨i, x, by rw [List.getElem?_eq_getElem hi, he], hn⟩
theorem hasZ_part {F : List Core} {p : Nat} {x : Core} (h : F[p]? = some x) (n : Int) : hasZ x.kids n ≤ hasZ (allK F) n := by
  rw [allK_split h, hasZ_app, hasZ_app]
  omega
theorem hasZ_only {F : List Core} {p : Nat} {x : Core} (h : F[p]? = some x) {n : Int} (ho : ∀ (q : Nat) y, F[q]? = some y → n ∈ y.kids → q = p) : hasZ (allK F) n = hasZ x.kids n := by
  have hl := (List.getElem?_eq_some_iff.1 h).1
  have h1 : hasZ (allK (F.take p)) n = 0 := hasZ_zero (fun hm => by
    obtain ⟨i, y, hy, hn⟩ := mem_allK hm
    have hi := (List.getElem?_eq_some_iff.1 hy).1
    rw [List.length_take] at hi
    rw [List.getElem?_take, if_pos (by omega)] at hy
    have := ho i y hy hn
    omega)
  have h2 : hasZ (allK (F.drop (p + 1))) n = 0 := hasZ_zero (fun hm => by
    obtain ⟨i, y, hy, hn⟩ := mem_allK hm
    rw [List.getElem?_drop] at hy
    have := ho _ y hy hn
    omega)
  rw [allK_split h, hasZ_app, hasZ_app, h1, h2]
  omega
theorem isKd_iff {F : List Core} {n k : Int} : isKd F n k = true ↔ ∃ c, getC F n = some c ∧ c.kind = k := by
  unfold isKd
  cases hg : getC F n with
  | none => simp
  | some c => simp
theorem kidB_iff {F : List Core} {i d k : Int} : kidB F i d k = true ↔ ∃ c, getC F k = some c ∧ (c.kind = 1 ∨ c.kind = 2) ∧ c.parent = i ∧ c.doc = d := by
  unfold kidB isKd
  cases hg : getC F k with
  | none => simp
  | some c => simp
theorem kidOk_iff {F : List Core} {i : Nat} {x : Core} {k : Int} : kidOk F i x k = true ↔ hasZ x.kids k = 1 ∧ kidB F (i : Int) x.doc k = true := by
  rw [kidB_iff]
  unfold kidOk
  cases hg : getC F k with
  | none => simp
  | some c => simp [and_assoc]
theorem countP_add_le {α : Type} (p q : α → Bool) : ∀ (l : List α), (∀ x ∈ l, p x = true ∨ q x = true) → (∀ x ∈ l, ¬ (p x = true ∧ q x = true)) → l.countP p + l.countP q = l.length
  | [], _, _ => rfl
  | a :: r, h, h2 => by
    have ih := countP_add_le p q r (fun x hx => h x (by simp [hx])) (fun x hx => h2 x (by simp [hx]))
    rw [List.countP_cons, List.countP_cons, List.length_cons]
    rcases h a (by simp) with e | e
    · have : q a = false := by
        cases hq : q a with
        | false => rfl
        | true => exact absurd ⟨e, hq⟩ (h2 a (by simp))
      rw [e, this]
      simp
      omega
    · have : p a = false := by
        cases hq : p a with
        | false => rfl
        | true => exact absurd ⟨hq, e⟩ (h2 a (by simp))
      rw [e, this]
      simp
      omega
theorem kinds_len {F : List Core} {i d : Int} {l : List Int} (h : ∀ k ∈ l, kidB F i d k = true) : elemsB F l + textsB F l = l.length := by
  refine countP_add_le _ _ l (fun k hk => ?_) (fun k hk => ?_)
  · obtain ⟨c, hc, h1, _⟩ := kidB_iff.1 (h k hk)
    rcases h1 with h1 | h1
    · exact .inl (isKd_iff.2 ⟨c, hc, h1⟩)
    · exact .inr (isKd_iff.2 ⟨c, hc, h1⟩)
  · rintro ⟨h1, h2⟩
    rw [isKd_apart h1 (show (1 : Int) ≠ 2 by decide)] at h2
    cases h2
theorem elemsK_eq {F : List Core} {i : Int} {x : Core} (h : ∀ k ∈ x.kids, kidB F i x.doc k = true) : elemsK F x = elemsB F x.kids := by
  unfold elemsK elemsB
  refine List.countP_congr fun k hk => ?_
  obtain ⟨c, hc, _⟩ := kidB_iff.1 (h k hk)
  unfold kindK isKd
  rw [hc]
theorem shape_eq {F : List Core} {i : Int} {x : Core} (h : ∀ k ∈ x.kids, kidB F i x.doc k = true) : shapeOk F x = shapeB F x := by
  have h1 := kinds_len h
  unfold shapeOk shapeB
  rw [elemsK_eq h]
  by_cases k0 : x.kind = 0
  · rw [if_pos k0, k0, Bool.eq_iff_iff]
    simp
    omega
  · rw [if_neg k0]
    have e0 : (x.kind == 0) = false := beq_eq_false_iff_ne.2 k0
    by_cases k2 : x.kind = 2
    · rw [if_pos k2, k2, Bool.eq_iff_iff]
      have h3 : x.kids.length = 0 ↔ x.kids = [] := List.length_eq_zero_iff
      simp
      rw [← h3]
      omega
    · rw [if_neg k2]
      have e2 : (x.kind == 2) = false := beq_eq_false_iff_ne.2 k2
      rw [e0, e2]
      rfl
theorem shadow_eq {F : List Core} {i : Nat} {x : Core} : (hostOk F i x && underOk F i x) = shadowB F (i : Int) x := by
  unfold hostOk underOk shadowB
  by_cases k4 : x.kind = 4
  · rw [if_pos k4, if_pos k4, k4]
    unfold hostB
    cases getC F x.host <;> simp
  · rw [if_neg k4, if_neg k4]
    by_cases k1 : x.kind = 1
    · rw [if_pos k1, k1]
      unfold underB
      cases getC F x.under <;> simp
    · rw [if_neg k1]
      have : (x.kind == 1) = false := beq_eq_false_iff_ne.2 k1
      rw [this]
      simp
theorem fields_eq {x : Core} (hk : 0 ≤ x.kind ∧ x.kind ≤ 4) : textOk x = fieldsB x := by
  have hd : x.data.toList = [] → x.data.size = 0 := fun e => by rw [← tl_len, e]; rfl
  unfold textOk fieldsB elemNameB
  by_cases k1 : x.kind = 1
  · rw [if_pos k1, if_pos k1]
  rw [if_neg k1, if_neg k1]
  by_cases k2 : x.kind = 2
  · rw [if_neg (by omega), if_pos k2, k2, Bool.eq_iff_iff]
    simp only [Bool.and_eq_true, Bool.or_eq_true, beq_iff_eq, decide_eq_true_eq]
    constructor
    · rintro ⟨⟨⟨h1, h2⟩, h3⟩, h4⟩
      refine ⟨⟨⟨h1, h2⟩, ?_⟩, h3⟩
      rcases h4 with h4 | h4
      · have := hd h4
        omega
      · exact h4.2
    · rintro ⟨⟨⟨h1, h2⟩, h3⟩, h4⟩
      exact ⟨⟨⟨h1, h2⟩, h4⟩, .inr ⟨trivial, h3⟩⟩
  · rw [if_pos (by omega)]
    have : (x.kind == 2) = false := beq_eq_false_iff_ne.2 k2
    rw [this, Bool.eq_iff_iff]
    simp
    constructor
    · rintro ⟨⟨⟨h1, h2⟩, h3⟩, h4⟩
      exact ⟨⟨⟨h4, h1⟩, h2⟩, h3⟩
    · rintro ⟨⟨⟨h1, h2⟩, h3⟩, h4⟩
      exact ⟨⟨⟨h2, h3⟩, h4⟩, h1⟩
theorem fields_kind {x : Core} (h : fieldsB x = true) : 0 ≤ x.kind ∧ x.kind ≤ 4 := by
  unfold fieldsB at h
  by_cases k1 : x.kind = 1
  · omega
  rw [if_neg k1] at h
  by_cases k3 : x.kind = 0 ∨ x.kind = 3 ∨ x.kind = 4
  · omega
  rw [if_neg k3] at h
  by_cases k2 : x.kind = 2
  · omega
  rw [if_neg k2] at h
  cases h
theorem doc_eq {F : List Core} {i : Nat} {x : Core} (hk : 0 ≤ x.kind ∧ x.kind ≤ 4) : docOk F i x = docB F (i : Int) x := by
  unfold docOk docB isKd
  rw [decide_eq_true hk.1, decide_eq_true hk.2]
  rfl
def allFit (F : List Core) : Bool := F.zipIdx.all (fun p => fitsB F (p.2 : Int) p.1)
theorem allFit_iff {F : List Core} : allFit F = true ↔ ∀ (i : Nat) x, F[i]? = some x → fitsB F (i : Int) x = true := by
  unfold allFit
  rw [List.all_eq_true]
  constructor
  · intro h i x hx
    exact h (x, i) (List.mk_mem_zipIdx_iff_getElem?.2 hx)
  · intro h p hp
    exact h p.2 p.1 (List.mk_mem_zipIdx_iff_getElem?.1 hp)
theorem namedB_iff {F : List Core} : namedB F = true ↔ ∀ (i : Nat) x, F[i]? = some x → (hasZ (allK F) i = 1 ↔ x.parent ≠ -1) := by
  unfold namedB
  rw [List.all_eq_true]
  have key : ∀ (i : Nat) x, namedAt F i x = true ↔ (hasZ (allK F) i = 1 ↔ x.parent ≠ -1) := fun i x => by
    unfold namedAt
    rw [beq_iff_eq, Bool.eq_iff_iff]
    simp
  constructor
  · intro h i x hx
    exact (key i x).1 (h (x, i) (List.mk_mem_zipIdx_iff_getElem?.2 hx))
  · intro h p hp
    exact (key p.2 p.1).2 (h p.2 p.1 (List.mk_mem_zipIdx_iff_getElem?.1 hp))
theorem fitsB_iff {F : List Core} {i : Nat} {x : Core} : fitsB F (i : Int) x = true ↔ fieldsB x = true ∧ docB F i x = true ∧ (∀ k ∈ x.kids, kidB F i x.doc k = true) ∧ shapeB F x = true ∧ shadowB F i x = true := by
  unfold fitsB kidsB
  simp only [Bool.and_eq_true, List.all_eq_true]
  constructor
  · rintro ⟨⟨⟨h1, h2⟩, h3, h4⟩, h5⟩
    exact ⟨h1, h2, h3, h4, h5⟩
  · rintro ⟨h1, h2, h3, h4, h5⟩
    exact ⟨⟨⟨h1, h2⟩, h3, h4⟩, h5⟩
theorem nodeOk_iff {F : List Core} {i : Nat} {x : Core} : nodeOk F i x = true ↔ docOk F i x = true ∧ parOk F i x = true ∧ (∀ k ∈ x.kids, kidOk F i x k = true) ∧ shapeOk F x = true ∧ (hostOk F i x && underOk F i x) = true ∧ textOk x = true := by
  unfold nodeOk
  simp only [Bool.and_eq_true, List.all_eq_true]
  constructor
  · rintro ⟨⟨⟨⟨⟨⟨h1, h2⟩, h3⟩, h4⟩, h5⟩, h6⟩, h7⟩
    exact ⟨h1, h2, h3, h4, ⟨h5, h6⟩, h7⟩
  · rintro ⟨h1, h2, h3, h4, ⟨h5, h6⟩, h7⟩
    exact ⟨⟨⟨⟨⟨⟨h1, h2⟩, h3⟩, h4⟩, h5⟩, h6⟩, h7⟩
theorem kid_only {F : List Core} (h : ∀ (i : Nat) x, F[i]? = some x → ∀ k ∈ x.kids, kidB F i x.doc k = true) {n p : Nat} {c : Core} (hc : F[n]? = some c) (hp : c.parent = (p : Int)) : ∀ (q : Nat) y, F[q]? = some y → (n : Int) ∈ y.kids → q = p := fun q y hy hm => by
  obtain ⟨d, hd, _, h2, _⟩ := kidB_iff.1 (h q y hy _ hm)
  rw [getC_nat, hc] at hd
  injection hd with hd
  subst hd
  omega
theorem nodes_eq {F : List Core} : (∀ (i : Nat) x, F[i]? = some x → nodeOk F i x = true) ↔ (allFit F = true ∧ namedB F = true) := by
  rw [allFit_iff, namedB_iff]
  constructor
  · intro h
    have parts := fun i x hx => nodeOk_iff.1 (h i x hx)
    have kids : ∀ (i : Nat) x, F[i]? = some x → ∀ k ∈ x.kids, kidB F i x.doc k = true := fun i x hx k hk => (kidOk_iff.1 ((parts i x hx).2.2.1 k hk)).2
    have kind : ∀ (i : Nat) x, F[i]? = some x → 0 ≤ x.kind ∧ x.kind ≤ 4 := fun i x hx => by
      have := (parts i x hx).1
      unfold docOk at this
      simp only [Bool.and_eq_true, decide_eq_true_eq] at this
      exact ⟨this.1.1.1, this.1.1.2⟩
    refine ⟨fun i x hx => ?_, fun i x hx => ?_⟩
    · obtain ⟨h1, h2, h3, h4, h5, h6⟩ := parts i x hx
      have hk := kind i x hx
      rw [doc_eq hk] at h1
      rw [shape_eq (kids i x hx)] at h4
      rw [shadow_eq] at h5
      rw [fields_eq hk] at h6
      exact fitsB_iff.2 ⟨h6, h1, kids i x hx, h4, h5⟩
    · constructor
      · intro h1 hp
        have hm : (i : Int) ∈ allK F := hasZ_mem h1
        obtain ⟨q, y, hy, hn⟩ := mem_allK hm
        obtain ⟨d, hd, _, h2, _⟩ := kidB_iff.1 (kids q y hy _ hn)
        rw [getC_nat, hx] at hd
        injection hd with hd
        subst hd
        omega
      · intro hp
        have h2 := (parts i x hx).2.1
        unfold parOk at h2
        rw [beq_eq_false_iff_ne.2 hp, Bool.false_or, Bool.and_eq_true] at h2
        cases hg : getC F x.parent with
        | none => rw [hg] at h2; simp at h2
        | some p =>
          rw [hg] at h2
          simp only [Bool.and_eq_true, beq_iff_eq] at h2
          obtain ⟨e1, e2, e3⟩ := getC_some hg
          have := hasZ_only e3 (n := (i : Int)) (kid_only kids hx (by omega))
          rw [this]
          exact h2.2.2
  · rintro ⟨hf, hn⟩ i x hx
    have parts := fun i x hx => fitsB_iff.1 (hf i x hx)
    have kids : ∀ (i : Nat) x, F[i]? = some x → ∀ k ∈ x.kids, kidB F i x.doc k = true := fun i x hx => (parts i x hx).2.2.1
    obtain ⟨h1, h2, h3, h4, h5⟩ := parts i x hx
    have hk := fields_kind h1
    refine nodeOk_iff.2 ⟨by rw [doc_eq hk]; exact h2, ?_, fun k hkk => kidOk_iff.2 ⟨?_, h3 k hkk⟩, by rw [shape_eq h3]; exact h4, by rw [shadow_eq]; exact h5, by rw [fields_eq hk]; exact h1⟩
    · unfold parOk
      by_cases hp : x.parent = -1
      · rw [hp]; rfl
      · rw [beq_eq_false_iff_ne.2 hp, Bool.false_or]
        have hc := (hn i x hx).2 hp
        obtain ⟨q, y, hy, hm⟩ := mem_allK (hasZ_mem hc)
        obtain ⟨d, hd, hdk, hdp, _⟩ := kidB_iff.1 (kids q y hy _ hm)
        rw [getC_nat, hx] at hd
        injection hd with hd
        subst hd
        have e4 := hasZ_only hy (n := (i : Int)) (kid_only kids hx hdp)
        have hyk : y.kind ≠ 2 := fun e => by
          have hs := (parts q y hy).2.2.2.1
          have hl := kinds_len (kids q y hy)
          unfold shapeB at hs
          rw [if_neg (by omega), if_pos e, decide_eq_true_eq] at hs
          rw [hs] at hl
          have : y.kids = [] := List.eq_nil_of_length_eq_zero hl.symm
          rw [this] at hm
          cases hm
        rw [hdp, getC_nat, hy]
        simp only [Bool.and_eq_true, Bool.or_eq_true, beq_iff_eq, bne_iff_ne]
        exact ⟨hdk, hyk, by rw [← e4]; exact hc⟩
    · obtain ⟨c, hc, _, hcp, _⟩ := kidB_iff.1 (h3 k hkk)
      obtain ⟨e1, e2, e3⟩ := getC_some hc
      have hz : ((k.toNat : Nat) : Int) = k := by omega
      have := (hn k.toNat c e3).2 (by omega)
      rw [hz] at this
      have h6 := hasZ_part hx k
      have h7 := hasZ_pos hkk
      omega
theorem head_eq (F : List Core) : headDoc F = isKd F 0 0 := by
  cases F with
  | nil => rfl
  | cons c r => rfl
def rightC (m : Int) (F : List Core) : Bool := decide (m ≤ 400) && decide ((F.length : Int) ≤ m) && isKd F 0 0 && allFit F && namedB F && waysB F
theorem right_eq (m : Int) (F : List Core) : rightC m F = rightF m F := by
  rw [Bool.eq_iff_iff, rightF_iff, nodes_eq, head_eq]
  unfold rightC waysB
  simp only [Bool.and_eq_true, decide_eq_true_eq, List.all_eq_true]
  constructor
  · rintro ⟨⟨⟨⟨⟨h1, h2⟩, h3⟩, h4⟩, h5⟩, h6⟩
    have hl : 0 < F.length := by
      cases F with
      | nil => cases h3
      | cons _ _ => simp
    exact ⟨⟨by omega, h1, h2, h3⟩, ⟨h4, h5⟩, fun i hi => h6 i (List.mem_range.2 hi)⟩
  · rintro ⟨⟨h0, h1, h2, h3⟩, ⟨h4, h5⟩, h6⟩
    exact ⟨⟨⟨⟨⟨h1, h2⟩, h3⟩, h4⟩, h5⟩, fun i hi => h6 i (List.mem_range.1 hi)⟩
theorem fit_kids {F : List Core} (h : allFit F = true) : ∀ x ∈ F, ∀ z ∈ x.kids, 0 ≤ z ∧ z < (F.length : Int) := fun x hx z hz => by
  obtain ⟨i, hi, he⟩ := List.mem_iff_getElem.1 hx
  have hg : F[i]? = some x := by rw [List.getElem?_eq_getElem hi, he]
  obtain ⟨c, hc, _⟩ := kidB_iff.1 ((fitsB_iff.1 (allFit_iff.1 h i x hg)).2.2.1 z hz)
  obtain ⟨e1, e2, _⟩ := getC_some hc
  omega
theorem fit_up {F : List Core} (h : allFit F = true) (hn : namedB F = true) : upIn F F.length := fun i h0 h1 => by
  obtain ⟨n, rfl⟩ : ∃ n : Nat, i = n := ⟨i.toNat, by omega⟩
  have hl : n < F.length := by omega
  have hx : F[n]? = some F[n] := List.getElem?_eq_getElem hl
  have h3 := allFit_iff.1 h
  rw [nextUp_at hx]
  unfold upC
  by_cases hp : F[n].parent = -1
  · rw [if_pos hp]
    have h5 := (fitsB_iff.1 (h3 n _ hx)).2.2.2.2
    unfold shadowB at h5
    by_cases k4 : F[n].kind = 4
    · rw [if_pos k4, Bool.and_eq_true] at h5
      unfold hostB at h5
      cases hg : getC F F[n].host with
      | none => rw [hg] at h5; cases h5.1
      | some c =>
        obtain ⟨e1, e2, _⟩ := getC_some hg
        exact .inr ⟨e1, by omega⟩
    · rw [if_neg k4] at h5
      by_cases k1 : F[n].kind = 1
      · rw [if_pos k1, Bool.and_eq_true] at h5
        exact .inl (beq_iff_eq.1 h5.1)
      · rw [if_neg k1, Bool.and_eq_true] at h5
        exact .inl (beq_iff_eq.1 h5.1)
  · rw [if_neg hp]
    have hc := (namedB_iff.1 hn n _ hx).2 hp
    obtain ⟨q, y, hy, hm⟩ := mem_allK (hasZ_mem hc)
    obtain ⟨d, hd, _, hdp, _⟩ := kidB_iff.1 ((fitsB_iff.1 (h3 q y hy)).2.2.1 _ hm)
    rw [getC_nat, hx] at hd
    injection hd with hd
    subst hd
    have hq := (List.getElem?_eq_some_iff.1 hy).1
    exact .inr ⟨by omega, by omega⟩
end Go.Proofs.YtkfmengdffpcnaaGreatDoor
namespace Go.Proofs.YtkfmengdffpcnaaGreatDoor
open Go.RowKit
set_option maxHeartbeats 8000000 in
set_option maxRecDepth 100000 in
theorem rightF_any (a : Option Addr) (len cap : Nat) (m : Int) (L : List NodeD) (w : World) (h : NodeRow w a len cap L) (hm : In64 m) (hs : smallF L) :
    Calls Tryz.prog 20 #[forV a len cap m] w fun e w' => e = .returned (.bool (rightF m (coreL L))) ∧ Below w.heap.size w w' := by
  rw [← right_eq]
  have HL := Lib.hid h.hlen
  have HCL : Hid ((coreL L).length = len) := Lib.hid (by rw [coreL_len, HL.out])
  have hlen : len ≤ 1000 := by rw [← h.hlen]; exact hs.1
  have BX := Lib.hid (Box.start (m := m) h)
  obtain ⟨hm0, hm1⟩ := hm
  have z0 := BX.out.c0
  have z1 := BX.out.c1
  have HS := Lib.hid hs
  have HRC : Hid (rightC m (coreL L) = (decide (m ≤ 400) && decide ((len : Int) ≤ m) && isKd (coreL L) 0 0 && allFit (coreL L) && namedB (coreL L) && waysB (coreL L))) := Lib.hid (by unfold rightC; rw [HCL.out])
  have CI : Hid (∀ W, NodeRow W a len cap L → Calls Tryz.prog 41 #[.slice a len cap, .int .i64 0, .int .i64 0] W fun e w' => e = .returned (.bool (isKd (coreL L) 0 0)) ∧ W = w') := Lib.hid (fun W h => is_any a len cap L 0 0 W h ⟨by omega, by omega⟩)
  clear h hs
  generalize rightC m (coreL L) = R at HRC ⊢
  by_cases q1 : m ≤ 400
  rotate_left
  · have HR : Hid (R = false) := Lib.hid (by rw [HRC.out, decide_eq_false q1]; rfl)
    clear HRC
    go_enter Tryz.func20, Tryz.ntmps20
    go_wp2
    go_ret
    exact ⟨ret_bool HR.out.symm, BX.out.below⟩
  by_cases q2 : (len : Int) ≤ m
  rotate_left
  · have HR : Hid (R = false) := Lib.hid (by rw [HRC.out, decide_eq_false q2]; simp)
    clear HRC
    go_enter Tryz.func20, Tryz.ntmps20
    go_wp2
    go_ret
    exact ⟨ret_bool HR.out.symm, BX.out.below⟩
  rw [decide_eq_true q1, decide_eq_true q2, Bool.true_and, Bool.true_and] at HRC
  cases q3 : isKd (coreL L) 0 0 with
  | false =>
    rw [q3] at CI HRC
    have HR : Hid (R = false) := Lib.hid (by rw [HRC.out]; rfl)
    clear HRC q3
    go_enter Tryz.func20, Tryz.ntmps20
    go_wp2_with (first
                    | (go_at_call 41; (refine (CI.out _ BX.out.row).mono ?_); rintro e w1 ⟨rfl, rfl⟩)
                    | (go_at_call 42; (refine (CF.out _ BX.out.row).mono ?_); rintro e w1 ⟨rfl, hb⟩; have BX := Lib.hid (BX.out.keep hb); have z0 := BX.out.c0; have z1 := BX.out.c1; clear hb)
                    | (go_at_call 43; (refine (CN.out _ BX.out.row).mono ?_); rintro e w1 ⟨rfl, hb⟩; have BX := Lib.hid (BX.out.keep hb); have z0 := BX.out.c0; have z1 := BX.out.c1; clear hb)
                    | (go_at_call 44; (refine (CW.out _ BX.out.row).mono ?_); rintro e w1 ⟨rfl, hb⟩; have BX := Lib.hid (BX.out.keep hb); have z0 := BX.out.c0; have z1 := BX.out.c1; clear hb))
    go_ret
    exact ⟨ret_bool HR.out.symm, BX.out.below⟩
  | true =>
    rw [q3, Bool.true_and] at HRC
    rw [q3] at CI
    clear q3
    go_enter Tryz.func20, Tryz.ntmps20
    go_wp2_with (first
                    | (go_at_call 41; (refine (CI.out _ BX.out.row).mono ?_); rintro e w1 ⟨rfl, rfl⟩)
                    | (go_at_call 42; (refine (CF.out _ BX.out.row).mono ?_); rintro e w1 ⟨rfl, hb⟩; have BX := Lib.hid (BX.out.keep hb); have z0 := BX.out.c0; have z1 := BX.out.c1; clear hb)
                    | (go_at_call 43; (refine (CN.out _ BX.out.row).mono ?_); rintro e w1 ⟨rfl, hb⟩; have BX := Lib.hid (BX.out.keep hb); have z0 := BX.out.c0; have z1 := BX.out.c1; clear hb)
                    | (go_at_call 44; (refine (CW.out _ BX.out.row).mono ?_); rintro e w1 ⟨rfl, hb⟩; have BX := Lib.hid (BX.out.keep hb); have z0 := BX.out.c0; have z1 := BX.out.c1; clear hb))
    go_loopw [24] (fun i wr => ∃ k : Nat, k ≤ len ∧ i = .int .i64 k ∧ Hid (Box w wr w.heap.size a len cap m L (coreL L)) ∧ Hid (∀ (j : Nat) x, j < k → (coreL L)[j]? = some x → fitsB (coreL L) (j : Int) x = true)) (fun i _ => len - (intOf i).toNat)
    case atStart => exact ⟨0, Nat.zero_le _, rfl, BX, Lib.hid (fun j x hj => absurd hj (by omega))⟩
    case round =>
      clear BX z0 z1
      obtain ⟨k, hk, rfl, BX, HA⟩ := hrel
      have z0 := BX.out.c0
      have z1 := BX.out.c1
      by_cases hlt : k < len
      · obtain ⟨b, off, x, hab, hb, hx, hc, hok⟩ := BX.out.row.get hlt
        have HX : Hid ((coreL L)[k]? = some x.core) := Lib.hid (coreL_get hx)
        have CF : Hid (∀ W, NodeRow W a len cap L → Calls Tryz.prog 42 #[.slice a len cap, .int .i64 k] W fun e w' => e = .returned (.bool (fitsB (coreL L) k x.core)) ∧ Below W.heap.size W w') := Lib.hid (fun W h => fits_any a len cap L k x W h hx)
        clear hab hb hx hc hok
        cases q4 : fitsB (coreL L) (k : Int) x.core with
        | false =>
          rw [q4] at CF
          have HR : Hid (R = false) := Lib.hid (by
            have : allFit (coreL L) = false := by
              cases hq : allFit (coreL L) with
              | false => rfl
              | true =>
                have := allFit_iff.1 hq k _ HX.out
                rw [q4] at this
                cases this
            rw [HRC.out, this]
            rfl)
          clear q4
          go_wp2_with (first
                          | (go_at_call 41; (refine (CI.out _ BX.out.row).mono ?_); rintro e w1 ⟨rfl, rfl⟩)
                          | (go_at_call 42; (refine (CF.out _ BX.out.row).mono ?_); rintro e w1 ⟨rfl, hb⟩; have BX := Lib.hid (BX.out.keep hb); have z0 := BX.out.c0; have z1 := BX.out.c1; clear hb)
                          | (go_at_call 43; (refine (CN.out _ BX.out.row).mono ?_); rintro e w1 ⟨rfl, hb⟩; have BX := Lib.hid (BX.out.keep hb); have z0 := BX.out.c0; have z1 := BX.out.c1; clear hb)
                          | (go_at_call 44; (refine (CW.out _ BX.out.row).mono ?_); rintro e w1 ⟨rfl, hb⟩; have BX := Lib.hid (BX.out.keep hb); have z0 := BX.out.c0; have z1 := BX.out.c1; clear hb))
          go_ret
          exact ⟨ret_bool HR.out.symm, BX.out.below⟩
        | true =>
          rw [q4] at CF
          have HA2 : Hid (∀ (j : Nat) x, j < k + 1 → (coreL L)[j]? = some x → fitsB (coreL L) (j : Int) x = true) := Lib.hid (fun j y hj hy => by
            by_cases e : j = k
            · subst e
              rw [HX.out] at hy
              rw [← Option.some.inj hy]
              exact q4
            · exact HA.out j y (by omega) hy)
          clear q4
          go_wp2_with (first
                          | (go_at_call 41; (refine (CI.out _ BX.out.row).mono ?_); rintro e w1 ⟨rfl, rfl⟩)
                          | (go_at_call 42; (refine (CF.out _ BX.out.row).mono ?_); rintro e w1 ⟨rfl, hb⟩; have BX := Lib.hid (BX.out.keep hb); have z0 := BX.out.c0; have z1 := BX.out.c1; clear hb)
                          | (go_at_call 43; (refine (CN.out _ BX.out.row).mono ?_); rintro e w1 ⟨rfl, hb⟩; have BX := Lib.hid (BX.out.keep hb); have z0 := BX.out.c0; have z1 := BX.out.c1; clear hb)
                          | (go_at_call 44; (refine (CW.out _ BX.out.row).mono ?_); rintro e w1 ⟨rfl, hb⟩; have BX := Lib.hid (BX.out.keep hb); have z0 := BX.out.c0; have z1 := BX.out.c1; clear hb))
          go_roundw
          case rel => exact ⟨k + 1, by omega, by go_num, BX, HA2⟩
          case measure => simp [intOf]; omega
      · have hkk : k = len := by omega
        subst hkk
        have HF : Hid (allFit (coreL L) = true) := Lib.hid (allFit_iff.2 (fun i x hx => HA.out i x (by have := (List.getElem?_eq_some_iff.1 hx).1; rw [HCL.out] at this; exact this) hx))
        have CN : Hid (∀ W, NodeRow W a k cap L → Calls Tryz.prog 43 #[.slice a k cap] W fun e w' => e = .returned (.bool (namedB (coreL L))) ∧ Below W.heap.size W w') := Lib.hid (fun W h => namedOnce_any a k cap L W h (fun x hx z hz => by
          have := fit_kids HF.out x.core (List.mem_map.2 ⟨x, hx, rfl⟩) z hz
          rw [HCL.out] at this
          exact this) HS.out)
        cases q5 : namedB (coreL L) with
        | false =>
          rw [q5] at CN HRC
          have HR : Hid (R = false) := Lib.hid (by rw [HRC.out]; simp)
          clear q5
          go_wp2_with (first
                          | (go_at_call 41; (refine (CI.out _ BX.out.row).mono ?_); rintro e w1 ⟨rfl, rfl⟩)
                          | (go_at_call 42; (refine (CF.out _ BX.out.row).mono ?_); rintro e w1 ⟨rfl, hb⟩; have BX := Lib.hid (BX.out.keep hb); have z0 := BX.out.c0; have z1 := BX.out.c1; clear hb)
                          | (go_at_call 43; (refine (CN.out _ BX.out.row).mono ?_); rintro e w1 ⟨rfl, hb⟩; have BX := Lib.hid (BX.out.keep hb); have z0 := BX.out.c0; have z1 := BX.out.c1; clear hb)
                          | (go_at_call 44; (refine (CW.out _ BX.out.row).mono ?_); rintro e w1 ⟨rfl, hb⟩; have BX := Lib.hid (BX.out.keep hb); have z0 := BX.out.c0; have z1 := BX.out.c1; clear hb))
          go_ret
          exact ⟨ret_bool HR.out.symm, BX.out.below⟩
        | true =>
          have HR : Hid (R = waysB (coreL L)) := Lib.hid (by rw [HRC.out, HF.out, q5]; rfl)
          have CW : Hid (∀ W, NodeRow W a k cap L → Calls Tryz.prog 44 #[.slice a k cap] W fun e w' => e = .returned (.bool (waysB (coreL L))) ∧ Below W.heap.size W w') := Lib.hid (fun W h => waysEnd_any a k cap L W h (by
            have := fit_up HF.out q5
            rw [HCL.out] at this
            exact this) HS.out)
          rw [q5] at CN
          clear q5
          go_wp2_with (first
                          | (go_at_call 41; (refine (CI.out _ BX.out.row).mono ?_); rintro e w1 ⟨rfl, rfl⟩)
                          | (go_at_call 42; (refine (CF.out _ BX.out.row).mono ?_); rintro e w1 ⟨rfl, hb⟩; have BX := Lib.hid (BX.out.keep hb); have z0 := BX.out.c0; have z1 := BX.out.c1; clear hb)
                          | (go_at_call 43; (refine (CN.out _ BX.out.row).mono ?_); rintro e w1 ⟨rfl, hb⟩; have BX := Lib.hid (BX.out.keep hb); have z0 := BX.out.c0; have z1 := BX.out.c1; clear hb)
                          | (go_at_call 44; (refine (CW.out _ BX.out.row).mono ?_); rintro e w1 ⟨rfl, hb⟩; have BX := Lib.hid (BX.out.keep hb); have z0 := BX.out.c0; have z1 := BX.out.c1; clear hb))
          go_ret
          exact ⟨ret_bool HR.out.symm, BX.out.below⟩
end Go.Proofs.YtkfmengdffpcnaaGreatDoor
