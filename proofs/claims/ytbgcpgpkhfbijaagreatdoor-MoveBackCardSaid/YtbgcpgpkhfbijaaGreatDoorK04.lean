/- Texts joined in build order: ForestWays ForestRightMath ForestOrderMath ForestRightFn ForestAsk ShadeTree ShadeFns. -/
import Derived.Test.YtbgcpgpkhfbijaaGreatDoorK03
import Derived.Test.YtbgcpgpkhfbijaaGreatDoorK02
/- Package walk's Up, package forest's waysEnd. -/
namespace Go.Proofs.YtbgcpgpkhfbijaaGreatDoor
open Go.RowKit
def upC (x : Core) : Int := if x.parent = -1 then x.host else x.parent
set_option maxHeartbeats 2000000 in
theorem up_any (x : NodeD) (w : World) : Calls Tryz.prog 113 #[nodVal x] w fun e w' => e = .returned (.int .i64 (upC x.core)) ∧ Below w.heap.size w w' := by
  obtain ⟨⟨kind, name, is, data, attrs, parent, kids, host, under, doc⟩, aA, aN, aC, kA, kN, kC⟩ := x
  by_cases hp : parent = -1
  · subst hp
    go_enter Tryz.func113, Tryz.ntmps113
    go_wp2
    go_ret
    exact ⟨rfl, below_box _ _⟩
  · have HR : Hid (upC ⟨kind, name, is, data, attrs, parent, kids, host, under, doc⟩ = parent) := Lib.hid (by unfold upC; dsimp only; rw [if_neg hp])
    go_enter Tryz.func113, Tryz.ntmps113
    go_wp2
    go_ret
    exact ⟨ret_int HR.out.symm, below_box _ _⟩
theorem nextUp_at {F : List Core} {k : Nat} {x : Core} (h : F[k]? = some x) : nextUp F (k : Int) = upC x := by
  unfold nextUp
  rw [getC_nat, h]
  rfl
abbrev encT (b : Bool) : Value := .bool b
/-- Who is known to come to an end. -/
structure Known (w W : World) (g len : Nat) (F : List Core) (E : List Bool) : Prop where
  below : Below w.heap.size w W
  row : ORow encT W g E
  hl : E.length = len
  sound : ∀ i : Nat, E[i]? = some true → endsZ (nextUp F) (len + 1) (i : Int) = true
theorem Known.keep {w W W2 : World} {g len : Nat} {F : List Core} {E : List Bool} (h : Known w W g len F E) (hb : Below W.heap.size W W2) : Known w W2 g len F E := ⟨h.below.trans (hb.mono h.below.size), h.row.keep hb, h.hl, h.sound⟩
theorem Known.more {w W : World} {g len : Nat} {F : List Core} {E : List Bool} (h : Known w W g len F E) (hg : w.heap.size ≤ g) {m : Nat} (hm : m < len) (he : endsZ (nextUp F) (len + 1) (m : Int) = true) : Known w (W.setCell ⟨g, m, none⟩ (.bool true)) g len F (E.set m true) := by
  refine ⟨h.below.setCell (p := ⟨g, m, none⟩) hg _, h.row.set (by rw [h.hl]; exact hm) _, by rw [List.length_set]; exact h.hl, fun i hi => ?_⟩
  by_cases e : m = i
  · subst e
    exact he
  · rw [List.getElem?_set_ne e] at hi
    exact h.sound i hi
def waysB (F : List Core) : Bool := (List.range F.length).all (fun i => endsZ (nextUp F) (F.length + 1) (i : Int))
def upIn (F : List Core) (len : Nat) : Prop := ∀ i : Int, 0 ≤ i → i < len → nextUp F i = -1 ∨ (0 ≤ nextUp F i ∧ nextUp F i < len)
theorem bool_info : (Tryz.prog.info? 4).map (fun i => (i.zero, i.size, i.bytes)) = some (some (.bool false), 1, 1) := by kernel_rfl
set_option maxHeartbeats 8000000 in
set_option maxRecDepth 100000 in
theorem waysEnd_any (a : Option Addr) (len cap : Nat) (L : List NodeD) (w : World) (h : NodeRow w a len cap L) (hk : upIn (coreL L) len) (hs : smallF L) :
    Calls Tryz.prog 88 #[.slice a len cap] w fun e w' => e = .returned (.bool (waysB (coreL L))) ∧ Below w.heap.size w w' := by
  have HL := Lib.hid h.hlen
  have HCL : Hid ((coreL L).length = len) := Lib.hid (by rw [coreL_len, HL.out])
  have hlen : len ≤ 1000 := by rw [← h.hlen]; exact hs.1
  have HK := Lib.hid hk
  have HH := Lib.hid h
  clear hs hk h
  have hmk := run_make_row' (P := Tryz.prog) 164 4 (.bool false) 1 Tryz.underlying164 bool_info rfl .i64 .i64 len (by omega) (by omega)
  have C0 : Hid (Known w (w.alloc (.cells (madeCells #[.bool false] len) 4)) w.heap.size len (coreL L) (List.replicate len false)) := Lib.hid (by
    refine ⟨below_box _ _, ORow.made (enc := encT) w 4 false len, by rw [List.length_replicate], fun i hi => ?_⟩
    have := List.mem_of_getElem? hi
    have := List.eq_of_mem_replicate this
    cases this)
  go_enter Tryz.func88, Tryz.ntmps88
  go_wp2
  clear hmk
  go_loopw [13] (fun i wr => ∃ (k : Nat) (E : List Bool), k ≤ len ∧ i = .int .i64 k ∧ Hid (Known w wr w.heap.size len (coreL L) E) ∧ Hid (∀ j : Nat, j < k → E[j]? = some true)) (fun i _ => len - (intOf i).toNat)
  case atStart => exact ⟨0, _, Nat.zero_le _, rfl, C0, Lib.hid (fun j hj => absurd hj (by omega))⟩
  case round =>
    clear C0
    obtain ⟨k, E, hk, rfl, KN, DN⟩ := hrel
    by_cases hlt : k < len
    · go_wp2
      go_loopw [5, 6] (fun s i wr => ∃ (t : Nat) (at_ : Int), t ≤ len ∧ s = .int .i64 t ∧ i = .int .i64 at_ ∧ (at_ = -1 ∨ (0 ≤ at_ ∧ at_ < len)) ∧ Hid (Known w wr w.heap.size len (coreL L) E) ∧ Hid (∀ m, endsZ (nextUp (coreL L)) (m + t) (k : Int) = endsZ (nextUp (coreL L)) m at_)) (fun s _ _ => len - (intOf s).toNat)
      case atStart => exact ⟨0, k, Nat.zero_le _, rfl, rfl, .inr ⟨by omega, by omega⟩, KN, Lib.hid (fun m => rfl)⟩
      case round =>
        clear KN
        obtain ⟨t, at_, ht, rfl, rfl, hat, KN, CH⟩ := hrel
        by_cases hC : ∃ m : Nat, at_ = m ∧ m < len ∧ E[m]? = some false
        · obtain ⟨m, rfl, hm, hE⟩ := hC
          obtain ⟨b, off, x, rfl, hb, hx, hc, hok⟩ := (HH.out.below KN.out.below).get hm
          obtain ⟨c0, c1, c2, c3, c4, c5, c6, c7, c8, c9⟩ := hc
          have hTc := KN.out.row.cell m _ hE
          unfold encT at hTc
          have UP : Hid (∀ W, Calls Tryz.prog 113 #[nodVal x] W fun e w' => e = .returned (.int .i64 (nextUp (coreL L) m)) ∧ Below W.heap.size W w') := Lib.hid (fun W => by
            rw [nextUp_at (coreL_get hx)]
            exact up_any x W)
          have CH2 : Hid (∀ q, endsZ (nextUp (coreL L)) (q + (t + 1)) (k : Int) = endsZ (nextUp (coreL L)) q (nextUp (coreL L) m)) := Lib.hid (fun q => by
            have h1 := CH.out (q + 1)
            rw [endsZ_step (by omega)] at h1
            rw [← h1]
            congr 1
            omega)
          have UIN := Lib.hid (HK.out m (by omega) (by omega))
          clear hx hok hE hb
          by_cases htl : t < len
          · go_wp2_with (go_at_call 113; (refine (UP.out _).mono ?_); rintro e w1 ⟨rfl, hb⟩; have KN := Lib.hid (KN.out.keep hb); clear hb)
            go_roundw
            case rel => exact ⟨t + 1, _, by omega, by go_num, rfl, UIN.out, KN, CH2⟩
            case measure => simp [intOf]; omega
          · have htt : t = len := by omega
            subst htt
            have HR : Hid (waysB (coreL L) = false) := Lib.hid (by
              unfold waysB
              rw [List.all_eq_false]
              refine ⟨k, List.mem_range.2 (by rw [HCL.out]; exact hlt), ?_⟩
              rw [HCL.out]
              intro he
              have h1 := ends_small (n := t) HK.out (.inr ⟨by omega, by omega⟩) he
              have h2 := CH.out 0
              rw [Nat.zero_add, h1] at h2
              have h3 : (m : Int) = -1 := beq_iff_eq.1 h2.symm
              omega)
            go_wp2
            go_ret
            exact ⟨ret_bool HR.out.symm, KN.out.below⟩
        have AB : at_ = -1 ∨ ∃ m : Nat, at_ = m ∧ m < len ∧ E[m]? = some true := by
          rcases hat with h | h
          · exact .inl h
          · refine .inr ⟨at_.toNat, by omega, by omega, ?_⟩
            have hl : at_.toNat < E.length := by rw [KN.out.hl]; omega
            cases hq : E[at_.toNat]'hl with
            | true => rw [List.getElem?_eq_getElem hl, hq]
            | false => exact absurd ⟨at_.toNat, by omega, by omega, by rw [List.getElem?_eq_getElem hl, hq]⟩ hC
        have EN : Hid (endsZ (nextUp (coreL L)) (len + 1) (k : Int) = true) := Lib.hid (by
          rcases AB with e | ⟨m, e, hm, he⟩
          · have h1 := CH.out 0
            rw [e, Nat.zero_add] at h1
            exact endsZ_le (by omega) (h1.trans rfl)
          · have h1 := CH.out (len + 1)
            rw [e, KN.out.sound m he] at h1
            exact endsZ_more _ _ (ends_small (n := len) HK.out (.inr ⟨by omega, by omega⟩) h1))
        clear hC CH hat
        rcases AB with rfl | ⟨m, rfl, hm, hE⟩
        rotate_left
        · have hTc := KN.out.row.cell m _ hE
          unfold encT at hTc
          clear hE
          go_wp2
          clear hTc hm
          (
            go_loopw [7] (fun i wr => ∃ (at_ : Int) (E : List Bool), i = .int .i64 at_ ∧ (at_ = -1 ∨ (0 ≤ at_ ∧ at_ < len)) ∧ Hid (Known w wr w.heap.size len (coreL L) E) ∧ Hid (∀ j : Nat, j < k → E[j]? = some true) ∧ Hid (at_ = (k : Int) ∨ E[k]? = some true) ∧ Hid (endsZ (nextUp (coreL L)) (len + 1) at_ = true)) (fun i _ => rankZ (nextUp (coreL L)) len (intOf i))
            case atStart => exact ⟨k, E, rfl, .inr ⟨by omega, by omega⟩, KN, DN, Lib.hid (.inl rfl), EN⟩
            case round =>
              clear KN DN EN
              obtain ⟨at_, E, rfl, hat, KN, DN, KK, EN⟩ := hrel
              by_cases hC : ∃ m : Nat, at_ = m ∧ m < len ∧ E[m]? = some false
              · obtain ⟨m, rfl, hm, hE⟩ := hC
                have hTc := KN.out.row.cell m _ hE
                have hTf := KN.out.row.free m
                unfold encT at hTc
                have KN2 := Lib.hid (KN.out.more (Nat.le_refl _) hm EN.out)
                obtain ⟨b, off, x, rfl, hb, hx, hc, hok⟩ := (HH.out.below KN2.out.below).get hm
                obtain ⟨c0, c1, c2, c3, c4, c5, c6, c7, c8, c9⟩ := hc
                have UP : Hid (∀ W, Calls Tryz.prog 113 #[nodVal x] W fun e w' => e = .returned (.int .i64 (nextUp (coreL L) m)) ∧ Below W.heap.size W w') := Lib.hid (fun W => by
                  rw [nextUp_at (coreL_get hx)]
                  exact up_any x W)
                have UIN := Lib.hid (HK.out m (by omega) (by omega))
                have EN2 : Hid (endsZ (nextUp (coreL L)) (len + 1) (nextUp (coreL L) m) = true) := Lib.hid (by
                  have := EN.out
                  rw [endsZ_step (by omega)] at this
                  exact endsZ_more _ _ this)
                have ME := Lib.hid (rankZ_up (n := len) (show (m : Int) ≠ -1 by omega) EN.out EN2.out)
                have DN2 : Hid (∀ j : Nat, j < k → (E.set m true)[j]? = some true) := Lib.hid (fun j hj => by
                  by_cases e : m = j
                  · subst e
                    rw [List.getElem?_set_self (by rw [KN.out.hl]; exact hm)]
                  · rw [List.getElem?_set_ne e]
                    exact DN.out j hj)
                have KK2 : Hid (nextUp (coreL L) m = (k : Int) ∨ (E.set m true)[k]? = some true) := Lib.hid (.inr (by
                  by_cases e : m = k
                  · subst e
                    rw [List.getElem?_set_self (by rw [KN.out.hl]; exact hm)]
                  · rw [List.getElem?_set_ne e]
                    rcases KK.out with h | h
                    · omega
                    · exact h))
                clear hx hok hE hb
                go_wp2_with (go_at_call 113; (refine (UP.out _).mono ?_); rintro e w1 ⟨rfl, hb⟩; have KN2 := Lib.hid (KN2.out.keep hb); clear hb)
                go_roundw
                case rel => exact ⟨_, _, rfl, UIN.out, KN2, DN2, KK2, EN2⟩
                case measure => simp [intOf]; rw [ME.out]; omega
              have AB : at_ = -1 ∨ ∃ m : Nat, at_ = m ∧ m < len ∧ E[m]? = some true := by
                rcases hat with h | h
                · exact .inl h
                · refine .inr ⟨at_.toNat, by omega, by omega, ?_⟩
                  have hl : at_.toNat < E.length := by rw [KN.out.hl]; omega
                  cases hq : E[at_.toNat]'hl with
                  | true => rw [List.getElem?_eq_getElem hl, hq]
                  | false => exact absurd ⟨at_.toNat, by omega, by omega, by rw [List.getElem?_eq_getElem hl, hq]⟩ hC
              have DN2 : Hid (∀ j : Nat, j < k + 1 → E[j]? = some true) := Lib.hid (fun j hj => by
                by_cases e : j = k
                · subst e
                  rcases KK.out with h | h
                  · rcases AB with h2 | ⟨m, h2, _, h3⟩
                    · omega
                    · have : m = j := by omega
                      rw [← this]
                      exact h3
                  · exact h
                · exact DN.out j (by omega))
              clear hC hat KK EN DN
              rcases AB with rfl | ⟨m, rfl, hm, hE⟩
              · go_wp2
                go_roundw
                case rel => exact ⟨k + 1, E, by omega, by go_num, KN, DN2⟩
                case measure => simp [intOf]; omega
              · have hTc := KN.out.row.cell m _ hE
                unfold encT at hTc
                clear hE
                go_wp2
                go_roundw
                case rel => exact ⟨k + 1, E, by omega, by go_num, KN, DN2⟩
                case measure => simp [intOf]; omega)
        · go_wp2
          (
            go_loopw [7] (fun i wr => ∃ (at_ : Int) (E : List Bool), i = .int .i64 at_ ∧ (at_ = -1 ∨ (0 ≤ at_ ∧ at_ < len)) ∧ Hid (Known w wr w.heap.size len (coreL L) E) ∧ Hid (∀ j : Nat, j < k → E[j]? = some true) ∧ Hid (at_ = (k : Int) ∨ E[k]? = some true) ∧ Hid (endsZ (nextUp (coreL L)) (len + 1) at_ = true)) (fun i _ => rankZ (nextUp (coreL L)) len (intOf i))
            case atStart => exact ⟨k, E, rfl, .inr ⟨by omega, by omega⟩, KN, DN, Lib.hid (.inl rfl), EN⟩
            case round =>
              clear KN DN EN
              obtain ⟨at_, E, rfl, hat, KN, DN, KK, EN⟩ := hrel
              by_cases hC : ∃ m : Nat, at_ = m ∧ m < len ∧ E[m]? = some false
              · obtain ⟨m, rfl, hm, hE⟩ := hC
                have hTc := KN.out.row.cell m _ hE
                have hTf := KN.out.row.free m
                unfold encT at hTc
                have KN2 := Lib.hid (KN.out.more (Nat.le_refl _) hm EN.out)
                obtain ⟨b, off, x, rfl, hb, hx, hc, hok⟩ := (HH.out.below KN2.out.below).get hm
                obtain ⟨c0, c1, c2, c3, c4, c5, c6, c7, c8, c9⟩ := hc
                have UP : Hid (∀ W, Calls Tryz.prog 113 #[nodVal x] W fun e w' => e = .returned (.int .i64 (nextUp (coreL L) m)) ∧ Below W.heap.size W w') := Lib.hid (fun W => by
                  rw [nextUp_at (coreL_get hx)]
                  exact up_any x W)
                have UIN := Lib.hid (HK.out m (by omega) (by omega))
                have EN2 : Hid (endsZ (nextUp (coreL L)) (len + 1) (nextUp (coreL L) m) = true) := Lib.hid (by
                  have := EN.out
                  rw [endsZ_step (by omega)] at this
                  exact endsZ_more _ _ this)
                have ME := Lib.hid (rankZ_up (n := len) (show (m : Int) ≠ -1 by omega) EN.out EN2.out)
                have DN2 : Hid (∀ j : Nat, j < k → (E.set m true)[j]? = some true) := Lib.hid (fun j hj => by
                  by_cases e : m = j
                  · subst e
                    rw [List.getElem?_set_self (by rw [KN.out.hl]; exact hm)]
                  · rw [List.getElem?_set_ne e]
                    exact DN.out j hj)
                have KK2 : Hid (nextUp (coreL L) m = (k : Int) ∨ (E.set m true)[k]? = some true) := Lib.hid (.inr (by
                  by_cases e : m = k
                  · subst e
                    rw [List.getElem?_set_self (by rw [KN.out.hl]; exact hm)]
                  · rw [List.getElem?_set_ne e]
                    rcases KK.out with h | h
                    · omega
                    · exact h))
                clear hx hok hE hb
                go_wp2_with (go_at_call 113; (refine (UP.out _).mono ?_); rintro e w1 ⟨rfl, hb⟩; have KN2 := Lib.hid (KN2.out.keep hb); clear hb)
                go_roundw
                case rel => exact ⟨_, _, rfl, UIN.out, KN2, DN2, KK2, EN2⟩
                case measure => simp [intOf]; rw [ME.out]; omega
              have AB : at_ = -1 ∨ ∃ m : Nat, at_ = m ∧ m < len ∧ E[m]? = some true := by
                rcases hat with h | h
                · exact .inl h
                · refine .inr ⟨at_.toNat, by omega, by omega, ?_⟩
                  have hl : at_.toNat < E.length := by rw [KN.out.hl]; omega
                  cases hq : E[at_.toNat]'hl with
                  | true => rw [List.getElem?_eq_getElem hl, hq]
                  | false => exact absurd ⟨at_.toNat, by omega, by omega, by rw [List.getElem?_eq_getElem hl, hq]⟩ hC
              have DN2 : Hid (∀ j : Nat, j < k + 1 → E[j]? = some true) := Lib.hid (fun j hj => by
                by_cases e : j = k
                · subst e
                  rcases KK.out with h | h
                  · rcases AB with h2 | ⟨m, h2, _, h3⟩
                    · omega
                    · have : m = j := by omega
                      rw [← this]
                      exact h3
                  · exact h
                · exact DN.out j (by omega))
              clear hC hat KK EN DN
              rcases AB with rfl | ⟨m, rfl, hm, hE⟩
              · go_wp2
                go_roundw
                case rel => exact ⟨k + 1, E, by omega, by go_num, KN, DN2⟩
                case measure => simp [intOf]; omega
              · have hTc := KN.out.row.cell m _ hE
                unfold encT at hTc
                clear hE
                go_wp2
                go_roundw
                case rel => exact ⟨k + 1, E, by omega, by go_num, KN, DN2⟩
                case measure => simp [intOf]; omega)
    · have hkk : k = len := by omega
      subst hkk
      have HR : Hid (waysB (coreL L) = true) := Lib.hid (by
        unfold waysB
        rw [List.all_eq_true, HCL.out]
        intro i hi
        exact KN.out.sound i (DN.out i (List.mem_range.1 hi)))
      go_wp2
      go_ret
      exact ⟨ret_bool HR.out.symm, KN.out.below⟩
end Go.Proofs.YtbgcpgpkhfbijaaGreatDoor
/- What package forest's Right asks, node by node, is what the document asks. Plain mathematics, no program. -/
namespace Go.Proofs.YtbgcpgpkhfbijaaGreatDoor
theorem allK_split {F : List Core} {p : Nat} {x : Core} (h : F[p]? = some x) : allK F = allK (F.take p) ++ (x.kids ++ allK (F.drop (p + 1))) := by
  obtain ⟨hl, hg⟩ := List.getElem?_eq_some_iff.1 h
  have e : F = F.take p ++ (x :: F.drop (p + 1)) := by rw [← hg, ← List.drop_eq_getElem_cons hl, List.take_append_drop]
  unfold allK
  conv => lhs; rw [e]
  rw [List.flatMap_append, List.flatMap_cons]
theorem hasZ_zero {L : List Int} {n : Int} (h : n ∉ L) : hasZ L n = 0 := by
  unfold hasZ
  rw [List.countP_eq_zero]
  intro z hz
  simp
  rintro rfl
  exact h hz
theorem hasZ_pos {L : List Int} {n : Int} (h : n ∈ L) : 0 < hasZ L n := List.countP_pos_iff.2 ⟨n, h, by simp⟩
theorem mem_allK {F : List Core} {n : Int} (h : n ∈ allK F) : ∃ (i : Nat) (x : Core), F[i]? = some x ∧ n ∈ x.kids := by
  unfold allK at h
  obtain ⟨x, hx, hn⟩ := List.mem_flatMap.1 h
  obtain ⟨i, hi, he⟩ := List.mem_iff_getElem.1 hx
  exact ⟨i, x, by rw [List.getElem?_eq_getElem hi, he], hn⟩
theorem hasZ_part {F : List Core} {p : Nat} {x : Core} (h : F[p]? = some x) (n : Int) : hasZ x.kids n ≤ hasZ (allK F) n := by
  rw [allK_split h, hasZ_app, hasZ_app]
  omega
theorem hasZ_only {F : List Core} {p : Nat} {x : Core} (h : F[p]? = some x) {n : Int} (ho : ∀ (q : Nat) y, F[q]? = some y → n ∈ y.kids → q = p) : hasZ (allK F) n = hasZ x.kids n := by
  have hl := (List.getElem?_eq_some_iff.1 h).1
  have h1 : hasZ (allK (F.take p)) n = 0 := hasZ_zero (fun hm => by
    obtain ⟨i, y, hy, hn⟩ := mem_allK hm
    have hi := (List.getElem?_eq_some_iff.1 hy).1
    rw [List.length_take] at hi
    rw [List.getElem?_take, if_pos (by omega)] at hy
    have := ho i y hy hn
    omega)
  have h2 : hasZ (allK (F.drop (p + 1))) n = 0 := hasZ_zero (fun hm => by
    obtain ⟨i, y, hy, hn⟩ := mem_allK hm
    rw [List.getElem?_drop] at hy
    have := ho _ y hy hn
    omega)
  rw [allK_split h, hasZ_app, hasZ_app, h1, h2]
  omega
theorem isKd_iff {F : List Core} {n k : Int} : isKd F n k = true ↔ ∃ c, getC F n = some c ∧ c.kind = k := by
  unfold isKd
  cases hg : getC F n with
  | none => simp
  | some c => simp
theorem kidB_iff {F : List Core} {i d k : Int} : kidB F i d k = true ↔ ∃ c, getC F k = some c ∧ (c.kind = 1 ∨ c.kind = 2) ∧ c.parent = i ∧ c.doc = d := by
  unfold kidB isKd
  cases hg : getC F k with
  | none => simp
  | some c => simp
theorem kidOk_iff {F : List Core} {i : Nat} {x : Core} {k : Int} : kidOk F i x k = true ↔ hasZ x.kids k = 1 ∧ kidB F (i : Int) x.doc k = true := by
  rw [kidB_iff]
  unfold kidOk
  cases hg : getC F k with
  | none => simp
  | some c => simp [and_assoc]
theorem countP_add_le {α : Type} (p q : α → Bool) : ∀ (l : List α), (∀ x ∈ l, p x = true ∨ q x = true) → (∀ x ∈ l, ¬ (p x = true ∧ q x = true)) → l.countP p + l.countP q = l.length
  | [], _, _ => rfl
  | a :: r, h, h2 => by
    have ih := countP_add_le p q r (fun x hx => h x (by simp [hx])) (fun x hx => h2 x (by simp [hx]))
    rw [List.countP_cons, List.countP_cons, List.length_cons]
    rcases h a (by simp) with e | e
    · have : q a = false := by
        cases hq : q a with
        | false => rfl
        | true => exact absurd ⟨e, hq⟩ (h2 a (by simp))
      rw [e, this]
      simp
      omega
    · have : p a = false := by
        cases hq : p a with
        | false => rfl
        | true => exact absurd ⟨hq, e⟩ (h2 a (by simp))
      rw [e, this]
      simp
      omega
theorem kinds_len {F : List Core} {i d : Int} {l : List Int} (h : ∀ k ∈ l, kidB F i d k = true) : elemsB F l + textsB F l = l.length := by
  refine countP_add_le _ _ l (fun k hk => ?_) (fun k hk => ?_)
  · obtain ⟨c, hc, h1, _⟩ := kidB_iff.1 (h k hk)
    rcases h1 with h1 | h1
    · exact .inl (isKd_iff.2 ⟨c, hc, h1⟩)
    · exact .inr (isKd_iff.2 ⟨c, hc, h1⟩)
  · rintro ⟨h1, h2⟩
    rw [isKd_apart h1 (show (1 : Int) ≠ 2 by decide)] at h2
    cases h2
theorem elemsK_eq {F : List Core} {i : Int} {x : Core} (h : ∀ k ∈ x.kids, kidB F i x.doc k = true) : elemsK F x = elemsB F x.kids := by
  unfold elemsK elemsB
  refine List.countP_congr fun k hk => ?_
  obtain ⟨c, hc, _⟩ := kidB_iff.1 (h k hk)
  unfold kindK isKd
  rw [hc]
theorem shape_eq {F : List Core} {i : Int} {x : Core} (h : ∀ k ∈ x.kids, kidB F i x.doc k = true) : shapeOk F x = shapeB F x := by
  have h1 := kinds_len h
  unfold shapeOk shapeB
  rw [elemsK_eq h]
  by_cases k0 : x.kind = 0
  · rw [if_pos k0, k0, Bool.eq_iff_iff]
    simp
    omega
  · rw [if_neg k0]
    have e0 : (x.kind == 0) = false := beq_eq_false_iff_ne.2 k0
    by_cases k2 : x.kind = 2
    · rw [if_pos k2, k2, Bool.eq_iff_iff]
      have h3 : x.kids.length = 0 ↔ x.kids = [] := List.length_eq_zero_iff
      simp
      rw [← h3]
      omega
    · rw [if_neg k2]
      have e2 : (x.kind == 2) = false := beq_eq_false_iff_ne.2 k2
      rw [e0, e2]
      rfl
theorem shadow_eq {F : List Core} {i : Nat} {x : Core} : (hostOk F i x && underOk F i x) = shadowB F (i : Int) x := by
  unfold hostOk underOk shadowB
  by_cases k4 : x.kind = 4
  · rw [if_pos k4, if_pos k4, k4]
    unfold hostB
    cases getC F x.host <;> simp
  · rw [if_neg k4, if_neg k4]
    by_cases k1 : x.kind = 1
    · rw [if_pos k1, k1]
      unfold underB
      cases getC F x.under <;> simp
    · rw [if_neg k1]
      have : (x.kind == 1) = false := beq_eq_false_iff_ne.2 k1
      rw [this]
      simp
theorem fields_eq {x : Core} (hk : 0 ≤ x.kind ∧ x.kind ≤ 4) : textOk x = fieldsB x := by
  have hd : x.data.toList = [] → x.data.size = 0 := fun e => by rw [← tl_len, e]; rfl
  unfold textOk fieldsB elemNameB
  by_cases k1 : x.kind = 1
  · rw [if_pos k1, if_pos k1]
  rw [if_neg k1, if_neg k1]
  by_cases k2 : x.kind = 2
  · rw [if_neg (by omega), if_pos k2, k2, Bool.eq_iff_iff]
    simp only [Bool.and_eq_true, Bool.or_eq_true, beq_iff_eq, decide_eq_true_eq]
    constructor
    · rintro ⟨⟨⟨h1, h2⟩, h3⟩, h4⟩
      refine ⟨⟨⟨h1, h2⟩, ?_⟩, h3⟩
      rcases h4 with h4 | h4
      · have := hd h4
        omega
      · exact h4.2
    · rintro ⟨⟨⟨h1, h2⟩, h3⟩, h4⟩
      exact ⟨⟨⟨h1, h2⟩, h4⟩, .inr ⟨trivial, h3⟩⟩
  · rw [if_pos (by omega)]
    have : (x.kind == 2) = false := beq_eq_false_iff_ne.2 k2
    rw [this, Bool.eq_iff_iff]
    simp
    constructor
    · rintro ⟨⟨⟨h1, h2⟩, h3⟩, h4⟩
      exact ⟨⟨⟨h4, h1⟩, h2⟩, h3⟩
    · rintro ⟨⟨⟨h1, h2⟩, h3⟩, h4⟩
      exact ⟨⟨⟨h2, h3⟩, h4⟩, h1⟩
theorem fields_kind {x : Core} (h : fieldsB x = true) : 0 ≤ x.kind ∧ x.kind ≤ 4 := by
  unfold fieldsB at h
  by_cases k1 : x.kind = 1
  · omega
  rw [if_neg k1] at h
  by_cases k3 : x.kind = 0 ∨ x.kind = 3 ∨ x.kind = 4
  · omega
  rw [if_neg k3] at h
  by_cases k2 : x.kind = 2
  · omega
  rw [if_neg k2] at h
  cases h
theorem doc_eq {F : List Core} {i : Nat} {x : Core} (hk : 0 ≤ x.kind ∧ x.kind ≤ 4) : docOk F i x = docB F (i : Int) x := by
  unfold docOk docB isKd
  rw [decide_eq_true hk.1, decide_eq_true hk.2]
  rfl
def allFit (F : List Core) : Bool := F.zipIdx.all (fun p => fitsB F (p.2 : Int) p.1)
theorem allFit_iff {F : List Core} : allFit F = true ↔ ∀ (i : Nat) x, F[i]? = some x → fitsB F (i : Int) x = true := by
  unfold allFit
  rw [List.all_eq_true]
  constructor
  · intro h i x hx
    exact h (x, i) (List.mk_mem_zipIdx_iff_getElem?.2 hx)
  · intro h p hp
    exact h p.2 p.1 (List.mk_mem_zipIdx_iff_getElem?.1 hp)
theorem namedB_iff {F : List Core} : namedB F = true ↔ ∀ (i : Nat) x, F[i]? = some x → (hasZ (allK F) i = 1 ↔ x.parent ≠ -1) := by
  unfold namedB
  rw [List.all_eq_true]
  have key : ∀ (i : Nat) x, namedAt F i x = true ↔ (hasZ (allK F) i = 1 ↔ x.parent ≠ -1) := fun i x => by
    unfold namedAt
    rw [beq_iff_eq, Bool.eq_iff_iff]
    simp
  constructor
  · intro h i x hx
    exact (key i x).1 (h (x, i) (List.mk_mem_zipIdx_iff_getElem?.2 hx))
  · intro h p hp
    exact (key p.2 p.1).2 (h p.2 p.1 (List.mk_mem_zipIdx_iff_getElem?.1 hp))
theorem fitsB_iff {F : List Core} {i : Nat} {x : Core} : fitsB F (i : Int) x = true ↔ fieldsB x = true ∧ docB F i x = true ∧ (∀ k ∈ x.kids, kidB F i x.doc k = true) ∧ shapeB F x = true ∧ shadowB F i x = true := by
  unfold fitsB kidsB
  simp only [Bool.and_eq_true, List.all_eq_true]
  constructor
  · rintro ⟨⟨⟨h1, h2⟩, h3, h4⟩, h5⟩
    exact ⟨h1, h2, h3, h4, h5⟩
  · rintro ⟨h1, h2, h3, h4, h5⟩
    exact ⟨⟨⟨h1, h2⟩, h3, h4⟩, h5⟩
theorem nodeOk_iff {F : List Core} {i : Nat} {x : Core} : nodeOk F i x = true ↔ docOk F i x = true ∧ parOk F i x = true ∧ (∀ k ∈ x.kids, kidOk F i x k = true) ∧ shapeOk F x = true ∧ (hostOk F i x && underOk F i x) = true ∧ textOk x = true := by
  unfold nodeOk
  simp only [Bool.and_eq_true, List.all_eq_true]
  constructor
  · rintro ⟨⟨⟨⟨⟨⟨h1, h2⟩, h3⟩, h4⟩, h5⟩, h6⟩, h7⟩
    exact ⟨h1, h2, h3, h4, ⟨h5, h6⟩, h7⟩
  · rintro ⟨h1, h2, h3, h4, ⟨h5, h6⟩, h7⟩
    exact ⟨⟨⟨⟨⟨⟨h1, h2⟩, h3⟩, h4⟩, h5⟩, h6⟩, h7⟩
/-- A child is in no other node's children. -/
theorem kid_only {F : List Core} (h : ∀ (i : Nat) x, F[i]? = some x → ∀ k ∈ x.kids, kidB F i x.doc k = true) {n p : Nat} {c : Core} (hc : F[n]? = some c) (hp : c.parent = (p : Int)) : ∀ (q : Nat) y, F[q]? = some y → (n : Int) ∈ y.kids → q = p := fun q y hy hm => by
  obtain ⟨d, hd, _, h2, _⟩ := kidB_iff.1 (h q y hy _ hm)
  rw [getC_nat, hc] at hd
  injection hd with hd
  subst hd
  omega
theorem nodes_eq {F : List Core} : (∀ (i : Nat) x, F[i]? = some x → nodeOk F i x = true) ↔ (allFit F = true ∧ namedB F = true) := by
  rw [allFit_iff, namedB_iff]
  constructor
  · intro h
    have parts := fun i x hx => nodeOk_iff.1 (h i x hx)
    have kids : ∀ (i : Nat) x, F[i]? = some x → ∀ k ∈ x.kids, kidB F i x.doc k = true := fun i x hx k hk => (kidOk_iff.1 ((parts i x hx).2.2.1 k hk)).2
    have kind : ∀ (i : Nat) x, F[i]? = some x → 0 ≤ x.kind ∧ x.kind ≤ 4 := fun i x hx => by
      have := (parts i x hx).1
      unfold docOk at this
      simp only [Bool.and_eq_true, decide_eq_true_eq] at this
      exact ⟨this.1.1.1, this.1.1.2⟩
    refine ⟨fun i x hx => ?_, fun i x hx => ?_⟩
    · obtain ⟨h1, h2, h3, h4, h5, h6⟩ := parts i x hx
      have hk := kind i x hx
      rw [doc_eq hk] at h1
      rw [shape_eq (kids i x hx)] at h4
      rw [shadow_eq] at h5
      rw [fields_eq hk] at h6
      exact fitsB_iff.2 ⟨h6, h1, kids i x hx, h4, h5⟩
    · constructor
      · intro h1 hp
        have hm : (i : Int) ∈ allK F := hasZ_mem h1
        obtain ⟨q, y, hy, hn⟩ := mem_allK hm
        obtain ⟨d, hd, _, h2, _⟩ := kidB_iff.1 (kids q y hy _ hn)
        rw [getC_nat, hx] at hd
        injection hd with hd
        subst hd
        omega
      · intro hp
        have h2 := (parts i x hx).2.1
        unfold parOk at h2
        rw [beq_eq_false_iff_ne.2 hp, Bool.false_or, Bool.and_eq_true] at h2
        cases hg : getC F x.parent with
        | none => rw [hg] at h2; simp at h2
        | some p =>
          rw [hg] at h2
          simp only [Bool.and_eq_true, beq_iff_eq] at h2
          obtain ⟨e1, e2, e3⟩ := getC_some hg
          have := hasZ_only e3 (n := (i : Int)) (kid_only kids hx (by omega))
          rw [this]
          exact h2.2.2
  · rintro ⟨hf, hn⟩ i x hx
    have parts := fun i x hx => fitsB_iff.1 (hf i x hx)
    have kids : ∀ (i : Nat) x, F[i]? = some x → ∀ k ∈ x.kids, kidB F i x.doc k = true := fun i x hx => (parts i x hx).2.2.1
    obtain ⟨h1, h2, h3, h4, h5⟩ := parts i x hx
    have hk := fields_kind h1
    refine nodeOk_iff.2 ⟨by rw [doc_eq hk]; exact h2, ?_, fun k hkk => kidOk_iff.2 ⟨?_, h3 k hkk⟩, by rw [shape_eq h3]; exact h4, by rw [shadow_eq]; exact h5, by rw [fields_eq hk]; exact h1⟩
    · unfold parOk
      by_cases hp : x.parent = -1
      · rw [hp]; rfl
      · rw [beq_eq_false_iff_ne.2 hp, Bool.false_or]
        have hc := (hn i x hx).2 hp
        obtain ⟨q, y, hy, hm⟩ := mem_allK (hasZ_mem hc)
        obtain ⟨d, hd, hdk, hdp, _⟩ := kidB_iff.1 (kids q y hy _ hm)
        rw [getC_nat, hx] at hd
        injection hd with hd
        subst hd
        have e4 := hasZ_only hy (n := (i : Int)) (kid_only kids hx hdp)
        have hyk : y.kind ≠ 2 := fun e => by
          have hs := (parts q y hy).2.2.2.1
          have hl := kinds_len (kids q y hy)
          unfold shapeB at hs
          rw [if_neg (by omega), if_pos e, decide_eq_true_eq] at hs
          rw [hs] at hl
          have : y.kids = [] := List.eq_nil_of_length_eq_zero hl.symm
          rw [this] at hm
          cases hm
        rw [hdp, getC_nat, hy]
        simp only [Bool.and_eq_true, Bool.or_eq_true, beq_iff_eq, bne_iff_ne]
        exact ⟨hdk, hyk, by rw [← e4]; exact hc⟩
    · obtain ⟨c, hc, _, hcp, _⟩ := kidB_iff.1 (h3 k hkk)
      obtain ⟨e1, e2, e3⟩ := getC_some hc
      have hz : ((k.toNat : Nat) : Int) = k := by omega
      have := (hn k.toNat c e3).2 (by omega)
      rw [hz] at this
      have h6 := hasZ_part hx k
      have h7 := hasZ_pos hkk
      omega
theorem head_eq (F : List Core) : headDoc F = isKd F 0 0 := by
  cases F with
  | nil => rfl
  | cons c r => rfl
/-- What package forest's Right answers. -/
def rightC (m : Int) (F : List Core) : Bool := decide (m ≤ 400) && decide ((F.length : Int) ≤ m) && isKd F 0 0 && allFit F && namedB F && waysB F
theorem right_eq (m : Int) (F : List Core) : rightC m F = rightF m F := by
  rw [Bool.eq_iff_iff, rightF_iff, nodes_eq, head_eq]
  unfold rightC waysB
  simp only [Bool.and_eq_true, decide_eq_true_eq, List.all_eq_true]
  constructor
  · rintro ⟨⟨⟨⟨⟨h1, h2⟩, h3⟩, h4⟩, h5⟩, h6⟩
    have hl : 0 < F.length := by
      cases F with
      | nil => cases h3
      | cons _ _ => simp
    exact ⟨⟨by omega, h1, h2, h3⟩, ⟨h4, h5⟩, fun i hi => h6 i (List.mem_range.2 hi)⟩
  · rintro ⟨⟨h0, h1, h2, h3⟩, ⟨h4, h5⟩, h6⟩
    exact ⟨⟨⟨⟨⟨h1, h2⟩, h3⟩, h4⟩, h5⟩, fun i hi => h6 i (List.mem_range.1 hi)⟩
theorem fit_kids {F : List Core} (h : allFit F = true) : ∀ x ∈ F, ∀ z ∈ x.kids, 0 ≤ z ∧ z < (F.length : Int) := fun x hx z hz => by
  obtain ⟨i, hi, he⟩ := List.mem_iff_getElem.1 hx
  have hg : F[i]? = some x := by rw [List.getElem?_eq_getElem hi, he]
  obtain ⟨c, hc, _⟩ := kidB_iff.1 ((fitsB_iff.1 (allFit_iff.1 h i x hg)).2.2.1 z hz)
  obtain ⟨e1, e2, _⟩ := getC_some hc
  omega
theorem fit_up {F : List Core} (h : allFit F = true) (hn : namedB F = true) : upIn F F.length := fun i h0 h1 => by
  obtain ⟨n, rfl⟩ : ∃ n : Nat, i = n := ⟨i.toNat, by omega⟩
  have hl : n < F.length := by omega
  have hx : F[n]? = some F[n] := List.getElem?_eq_getElem hl
  have h3 := allFit_iff.1 h
  rw [nextUp_at hx]
  unfold upC
  by_cases hp : F[n].parent = -1
  · rw [if_pos hp]
    have h5 := (fitsB_iff.1 (h3 n _ hx)).2.2.2.2
    unfold shadowB at h5
    by_cases k4 : F[n].kind = 4
    · rw [if_pos k4, Bool.and_eq_true] at h5
      unfold hostB at h5
      cases hg : getC F F[n].host with
      | none => rw [hg] at h5; cases h5.1
      | some c =>
        obtain ⟨e1, e2, _⟩ := getC_some hg
        exact .inr ⟨e1, by omega⟩
    · rw [if_neg k4] at h5
      by_cases k1 : F[n].kind = 1
      · rw [if_pos k1, Bool.and_eq_true] at h5
        exact .inl (beq_iff_eq.1 h5.1)
      · rw [if_neg k1, Bool.and_eq_true] at h5
        exact .inl (beq_iff_eq.1 h5.1)
  · rw [if_neg hp]
    have hc := (namedB_iff.1 hn n _ hx).2 hp
    obtain ⟨q, y, hy, hm⟩ := mem_allK (hasZ_mem hc)
    obtain ⟨d, hd, _, hdp, _⟩ := kidB_iff.1 ((fitsB_iff.1 (h3 q y hy)).2.2.1 _ hm)
    rw [getC_nat, hx] at hd
    injection hd with hd
    subst hd
    have hq := (List.getElem?_eq_some_iff.1 hy).1
    exact .inr ⟨by omega, by omega⟩
end Go.Proofs.YtbgcpgpkhfbijaaGreatDoor
/- What the law ForestOrder asks, over data: facts of forests that are right. Plain mathematics, no program. -/
namespace Go.Proofs.YtbgcpgpkhfbijaaGreatDoor
open Go.RowKit
theorem hasZ_nodup : ∀ {L : List Int} {n : Int}, L.Nodup → hasZ L n = if n ∈ L then 1 else 0
  | [], n, _ => rfl
  | z :: l, n, h => by
    have h2 := List.nodup_cons.1 h
    have ih := hasZ_nodup (n := n) h2.2
    unfold hasZ at ih ⊢
    rw [List.countP_cons, ih]
    by_cases e : z = n
    · subst e
      rw [if_neg h2.1, if_pos (by simp), if_pos (List.mem_cons_self ..)]
    · rw [if_neg (show ¬ ((z == n) = true) from fun g => e (beq_iff_eq.1 g))]
      by_cases hm : n ∈ l
      · rw [if_pos hm, if_pos (List.mem_cons_of_mem _ hm)]
      · rw [if_neg hm, if_neg (fun g => by rcases List.mem_cons.1 g with g | g; exact e g.symm; exact hm g)]
theorem findZ_at {L : List Int} {n : Int} {j : Nat} (h : L.Nodup) (hj : L[j]? = some n) : findZ L n = (j : Int) := by
  obtain ⟨k, hk, hg⟩ := find_at (List.mem_of_getElem? hj)
  obtain ⟨h1, e1⟩ := List.getElem?_eq_some_iff.1 hg
  obtain ⟨h2, e2⟩ := List.getElem?_eq_some_iff.1 hj
  have := (List.getElem_inj h).1 (e1.trans e2.symm)
  rw [hk, this]
/-- What is asked of an order, and of two nodes. -/
structure OrderFacts (m : Int) (F : List Core) (x y : Nat) (l : List Int) : Prop where
  pos : l[0]? = some (x : Int)
  len : l.length ≤ F.length
  num : ∀ (i : Nat) z, l[i]? = some z → ∃ n : Nat, z = (n : Int) ∧ n < F.length
  many : ∀ n : Nat, n < F.length → hasZ l (n : Int) = if holdsZ m F x n then 1 else 0
  step : ∀ (i : Nat) (n : Nat) c, 1 ≤ i → l[i]? = some (n : Int) → F[n]? = some c → ∃ (j p : Nat), j < i ∧ p < F.length ∧ c.parent = (p : Int) ∧ findZ l p = (j : Int) ∧ ∀ (k q : Nat), j < k → k < i → l[k]? = some (q : Int) → holdsZ m F p q = true ∧ holdsZ m F n q = false
  one : rootZ m F x = rootZ m F y → x ≠ y → aheadZ m F x y = !aheadZ m F y x
  apart : rootZ m F x ≠ rootZ m F y → aheadZ m F x y = false ∧ aheadZ m F y x = false
  self : x = y → aheadZ m F x y = false ∧ aheadZ m F y x = false
  held : holdsZ m F x y = true → x ≠ y → aheadZ m F x y = true
theorem ordZ_eq {m : Int} {F : List Core} (h : rightF m F = true) {a : Nat} (ha : a < F.length) : ordZ m F (a : Int) = (ordF F a).map Int.ofNat := by
  unfold ordZ
  rw [thereF_of h ha]
  rfl
theorem aheadZ_eq {m : Int} {F : List Core} (h : rightF m F = true) {a b : Nat} (ha : a < F.length) (hb : b < F.length) : aheadZ m F (a : Int) (b : Int) = aheadF F a b := by
  unfold aheadZ
  rw [thereF_of h ha, thereF_of h hb]
  rfl
theorem nodup_sub : ∀ (n : Nat) (l : List Nat), l.Nodup → (∀ x ∈ l, x < n) → l.length ≤ n
  | 0, l, _, hs => by
    cases l with
    | nil => exact Nat.le_refl _
    | cons a r => exact absurd (hs a (List.mem_cons_self ..)) (by omega)
  | n + 1, l, h, hs => by
    have ih := nodup_sub n (l.erase n) (h.erase n) (fun x hx => by
      have := (List.Nodup.mem_erase_iff h).1 hx
      have := hs x this.2
      omega)
    by_cases hm : n ∈ l
    · rw [List.length_erase_of_mem hm] at ih
      omega
    · rw [List.erase_of_not_mem hm] at ih
      omega
theorem order_facts {m : Int} {F : List Core} (h : rightF m F = true) {x y : Nat} (hx : x < F.length) (hy : y < F.length) : OrderFacts m F x y (ordZ m F x) := by
  have T := tree_of_right h
  have hN : (ordF F x).Nodup := T.ord_nodup _ _ hx (by omega)
  have hlt : ∀ z ∈ ordF F x, z < F.length := T.ord_lt _ _ hx
  have inj : ∀ {a b : Nat}, Int.ofNat a = Int.ofNat b → a = b := fun e => Int.ofNat.inj e
  have hNZ : ((ordF F x).map Int.ofNat).Nodup := List.Pairwise.map Int.ofNat (fun a b hab e => hab (Int.ofNat.inj e)) hN
  have get : ∀ {i : Nat} {z : Int}, ((ordF F x).map Int.ofNat)[i]? = some z → ∃ n : Nat, z = (n : Int) ∧ (ordF F x)[i]? = some n := fun {i z} e => by
    rw [List.getElem?_map] at e
    cases hg : (ordF F x)[i]? with
    | none => rw [hg] at e; cases e
    | some n => rw [hg] at e; exact ⟨n, (Option.some.inj e).symm, rfl⟩
  rw [ordZ_eq h hx]
  refine ⟨?_, ?_, fun i z e => ?_, fun n hn => ?_, fun i n c hi e hc => ?_, fun hr hne => ?_, fun hr => ?_, fun e => ?_, fun h1 hne => ?_⟩
  · obtain ⟨r, hr⟩ := ordN_head (kids := kidsF F) (F.length + 1) x
    unfold ordF
    rw [hr]
    rfl
  · rw [List.length_map]
    exact nodup_sub _ _ hN hlt
  · obtain ⟨n, rfl, hg⟩ := get e
    exact ⟨n, rfl, hlt n (List.mem_of_getElem? hg)⟩
  · rw [hasZ_nodup hNZ]
    have e1 : ((n : Int) ∈ (ordF F x).map Int.ofNat) ↔ n ∈ ordF F x := by
      constructor
      · intro hm
        obtain ⟨k, hk, e⟩ := List.mem_map.1 hm
        rwa [Int.ofNat.inj e] at hk
      · intro hm
        exact List.mem_map.2 ⟨n, hm, rfl⟩
    have e2 : holdsZ m F x n = decide (n ∈ ordF F x) := by
      unfold holdsZ
      rw [thereF_of h hx, thereF_of h hn]
      rfl
    rw [e2]
    by_cases hm : n ∈ ordF F x
    · rw [if_pos (e1.2 hm), decide_eq_true hm, if_pos rfl]
    · rw [if_neg (fun g => hm (e1.1 g)), decide_eq_false hm, if_neg (by decide)]
  · obtain ⟨n', e', hg⟩ := get e
    obtain rfl : n = n' := Int.ofNat.inj e'
    obtain ⟨j, p, hj, hp, hjp, hk⟩ := T.ord_between _ x hx (show F.length + 1 ≤ rankF F x + (F.length + 1) by omega) i n hi hg
    have hn : n < F.length := hlt n (List.mem_of_getElem? hg)
    have hpl : p < F.length := hlt p (List.mem_of_getElem? hjp)
    have hpar : c.parent = (p : Int) := by
      have hp' := hp
      unfold parF at hp'
      rw [hc] at hp'
      dsimp only at hp'
      by_cases he : c.parent = -1
      · rw [if_pos he] at hp'; cases hp'
      · obtain ⟨p2, pc, k2, hp2, _⟩ := (holds_facts (y := n) (z := n) h hn hn hn hc).child he
        rw [if_neg he, hp2] at hp'
        injection hp' with hp'
        have e3 : p2 = p := by simpa using hp'
        rw [hp2, e3]
    refine ⟨j, p, hj, hpl, hpar, findZ_at hNZ (by rw [List.getElem?_map]; rw [show (ordF F x)[j]? = some p from hjp]; rfl), fun k q hjk hki hq => ?_⟩
    obtain ⟨q', e', hgq⟩ := get hq
    obtain rfl : q = q' := Int.ofNat.inj e'
    have hql : q < F.length := hlt q (List.mem_of_getElem? hgq)
    obtain ⟨g1, g2⟩ := hk k q hjk hki hgq
    refine ⟨(holdsZ_iff h hpl hql).2 g1, ?_⟩
    cases hh : holdsZ m F n q with
    | false => rfl
    | true => exact absurd ((holdsZ_iff h hn hql).1 hh) g2
  · rw [rootZ_eq h hx, rootZ_eq h hy] at hr
    have hr : rootF F x = rootF F y := Int.ofNat.inj hr
    rw [aheadZ_eq h hx hy, aheadZ_eq h hy hx]
    have := T.ahead_one (f := F.length + 1) (g := F.length + 1) hx hy (Nat.le_refl _) hr hne
    unfold aheadF
    rw [← hr, decide_eq_true rfl, Bool.true_and, Bool.true_and]
    have key : ∀ a b : Nat, a ≠ b → decide (a < b) = !decide (b < a) := fun a b hab => by
      by_cases h1 : a < b
      · rw [decide_eq_true h1, decide_eq_false (by omega)]; rfl
      · rw [decide_eq_false h1, decide_eq_true (by omega)]; rfl
    exact key _ _ this
  · rw [rootZ_eq h hx, rootZ_eq h hy] at hr
    have hr : rootF F x ≠ rootF F y := fun e => hr (by rw [e])
    rw [aheadZ_eq h hx hy, aheadZ_eq h hy hx]
    unfold aheadF
    rw [decide_eq_false hr, decide_eq_false (show ¬ rootF F y = rootF F x from fun e => hr e.symm)]
    exact ⟨rfl, rfl⟩
  · subst e
    rw [aheadZ_eq h hx hx]
    unfold aheadF
    rw [decide_eq_false (Nat.lt_irrefl _), Bool.and_false]
    exact ⟨rfl, rfl⟩
  · have g := (holdsZ_iff h hx hy).1 h1
    rw [aheadZ_eq h hx hy]
    unfold aheadF rootF ordF
    rw [decide_eq_true (T.root_held hy (Nat.le_refl _) g), decide_eq_true (T.held_ahead hy (Nat.le_refl _) (Nat.le_refl _) g hne)]
    rfl
end Go.Proofs.YtbgcpgpkhfbijaaGreatDoor
/- Package forest's Right. -/
namespace Go.Proofs.YtbgcpgpkhfbijaaGreatDoor
open Go.RowKit
set_option maxHeartbeats 8000000 in
set_option maxRecDepth 100000 in
theorem rightF_any (a : Option Addr) (len cap : Nat) (m : Int) (L : List NodeD) (w : World) (h : NodeRow w a len cap L) (hm : In64 m) (hs : smallF L) :
    Calls Tryz.prog 30 #[forV a len cap m] w fun e w' => e = .returned (.bool (rightF m (coreL L))) ∧ Below w.heap.size w w' := by
  rw [← right_eq]
  have HL := Lib.hid h.hlen
  have HCL : Hid ((coreL L).length = len) := Lib.hid (by rw [coreL_len, HL.out])
  have hlen : len ≤ 1000 := by rw [← h.hlen]; exact hs.1
  have BX := Lib.hid (Box.start (m := m) h)
  obtain ⟨hm0, hm1⟩ := hm
  have z0 := BX.out.c0
  have z1 := BX.out.c1
  have HS := Lib.hid hs
  have HRC : Hid (rightC m (coreL L) = (decide (m ≤ 400) && decide ((len : Int) ≤ m) && isKd (coreL L) 0 0 && allFit (coreL L) && namedB (coreL L) && waysB (coreL L))) := Lib.hid (by unfold rightC; rw [HCL.out])
  have CI : Hid (∀ W, NodeRow W a len cap L → Calls Tryz.prog 85 #[.slice a len cap, .int .i64 0, .int .i64 0] W fun e w' => e = .returned (.bool (isKd (coreL L) 0 0)) ∧ W = w') := Lib.hid (fun W h => is_any a len cap L 0 0 W h ⟨by omega, by omega⟩)
  clear h hs
  generalize rightC m (coreL L) = R at HRC ⊢
  by_cases q1 : m ≤ 400
  rotate_left
  · have HR : Hid (R = false) := Lib.hid (by rw [HRC.out, decide_eq_false q1]; rfl)
    clear HRC
    go_enter Tryz.func30, Tryz.ntmps30
    go_wp2
    go_ret
    exact ⟨ret_bool HR.out.symm, BX.out.below⟩
  by_cases q2 : (len : Int) ≤ m
  rotate_left
  · have HR : Hid (R = false) := Lib.hid (by rw [HRC.out, decide_eq_false q2]; simp)
    clear HRC
    go_enter Tryz.func30, Tryz.ntmps30
    go_wp2
    go_ret
    exact ⟨ret_bool HR.out.symm, BX.out.below⟩
  rw [decide_eq_true q1, decide_eq_true q2, Bool.true_and, Bool.true_and] at HRC
  cases q3 : isKd (coreL L) 0 0 with
  | false =>
    rw [q3] at CI HRC
    have HR : Hid (R = false) := Lib.hid (by rw [HRC.out]; rfl)
    clear HRC q3
    go_enter Tryz.func30, Tryz.ntmps30
    go_wp2_with (first
                    | (go_at_call 85; (refine (CI.out _ BX.out.row).mono ?_); rintro e w1 ⟨rfl, rfl⟩)
                    | (go_at_call 86; (refine (CF.out _ BX.out.row).mono ?_); rintro e w1 ⟨rfl, hb⟩; have BX := Lib.hid (BX.out.keep hb); have z0 := BX.out.c0; have z1 := BX.out.c1; clear hb)
                    | (go_at_call 87; (refine (CN.out _ BX.out.row).mono ?_); rintro e w1 ⟨rfl, hb⟩; have BX := Lib.hid (BX.out.keep hb); have z0 := BX.out.c0; have z1 := BX.out.c1; clear hb)
                    | (go_at_call 88; (refine (CW.out _ BX.out.row).mono ?_); rintro e w1 ⟨rfl, hb⟩; have BX := Lib.hid (BX.out.keep hb); have z0 := BX.out.c0; have z1 := BX.out.c1; clear hb))
    go_ret
    exact ⟨ret_bool HR.out.symm, BX.out.below⟩
  | true =>
    rw [q3, Bool.true_and] at HRC
    rw [q3] at CI
    clear q3
    go_enter Tryz.func30, Tryz.ntmps30
    go_wp2_with (first
                    | (go_at_call 85; (refine (CI.out _ BX.out.row).mono ?_); rintro e w1 ⟨rfl, rfl⟩)
                    | (go_at_call 86; (refine (CF.out _ BX.out.row).mono ?_); rintro e w1 ⟨rfl, hb⟩; have BX := Lib.hid (BX.out.keep hb); have z0 := BX.out.c0; have z1 := BX.out.c1; clear hb)
                    | (go_at_call 87; (refine (CN.out _ BX.out.row).mono ?_); rintro e w1 ⟨rfl, hb⟩; have BX := Lib.hid (BX.out.keep hb); have z0 := BX.out.c0; have z1 := BX.out.c1; clear hb)
                    | (go_at_call 88; (refine (CW.out _ BX.out.row).mono ?_); rintro e w1 ⟨rfl, hb⟩; have BX := Lib.hid (BX.out.keep hb); have z0 := BX.out.c0; have z1 := BX.out.c1; clear hb))
    go_loopw [24] (fun i wr => ∃ k : Nat, k ≤ len ∧ i = .int .i64 k ∧ Hid (Box w wr w.heap.size a len cap m L (coreL L)) ∧ Hid (∀ (j : Nat) x, j < k → (coreL L)[j]? = some x → fitsB (coreL L) (j : Int) x = true)) (fun i _ => len - (intOf i).toNat)
    case atStart => exact ⟨0, Nat.zero_le _, rfl, BX, Lib.hid (fun j x hj => absurd hj (by omega))⟩
    case round =>
      clear BX z0 z1
      obtain ⟨k, hk, rfl, BX, HA⟩ := hrel
      have z0 := BX.out.c0
      have z1 := BX.out.c1
      by_cases hlt : k < len
      · obtain ⟨b, off, x, hab, hb, hx, hc, hok⟩ := BX.out.row.get hlt
        have HX : Hid ((coreL L)[k]? = some x.core) := Lib.hid (coreL_get hx)
        have CF : Hid (∀ W, NodeRow W a len cap L → Calls Tryz.prog 86 #[.slice a len cap, .int .i64 k] W fun e w' => e = .returned (.bool (fitsB (coreL L) k x.core)) ∧ Below W.heap.size W w') := Lib.hid (fun W h => fits_any a len cap L k x W h hx)
        clear hab hb hx hc hok
        cases q4 : fitsB (coreL L) (k : Int) x.core with
        | false =>
          rw [q4] at CF
          have HR : Hid (R = false) := Lib.hid (by
            have : allFit (coreL L) = false := by
              cases hq : allFit (coreL L) with
              | false => rfl
              | true =>
                have := allFit_iff.1 hq k _ HX.out
                rw [q4] at this
                cases this
            rw [HRC.out, this]
            rfl)
          clear q4
          go_wp2_with (first
                          | (go_at_call 85; (refine (CI.out _ BX.out.row).mono ?_); rintro e w1 ⟨rfl, rfl⟩)
                          | (go_at_call 86; (refine (CF.out _ BX.out.row).mono ?_); rintro e w1 ⟨rfl, hb⟩; have BX := Lib.hid (BX.out.keep hb); have z0 := BX.out.c0; have z1 := BX.out.c1; clear hb)
                          | (go_at_call 87; (refine (CN.out _ BX.out.row).mono ?_); rintro e w1 ⟨rfl, hb⟩; have BX := Lib.hid (BX.out.keep hb); have z0 := BX.out.c0; have z1 := BX.out.c1; clear hb)
                          | (go_at_call 88; (refine (CW.out _ BX.out.row).mono ?_); rintro e w1 ⟨rfl, hb⟩; have BX := Lib.hid (BX.out.keep hb); have z0 := BX.out.c0; have z1 := BX.out.c1; clear hb))
          go_ret
          exact ⟨ret_bool HR.out.symm, BX.out.below⟩
        | true =>
          rw [q4] at CF
          have HA2 : Hid (∀ (j : Nat) x, j < k + 1 → (coreL L)[j]? = some x → fitsB (coreL L) (j : Int) x = true) := Lib.hid (fun j y hj hy => by
            by_cases e : j = k
            · subst e
              rw [HX.out] at hy
              rw [← Option.some.inj hy]
              exact q4
            · exact HA.out j y (by omega) hy)
          clear q4
          go_wp2_with (first
                          | (go_at_call 85; (refine (CI.out _ BX.out.row).mono ?_); rintro e w1 ⟨rfl, rfl⟩)
                          | (go_at_call 86; (refine (CF.out _ BX.out.row).mono ?_); rintro e w1 ⟨rfl, hb⟩; have BX := Lib.hid (BX.out.keep hb); have z0 := BX.out.c0; have z1 := BX.out.c1; clear hb)
                          | (go_at_call 87; (refine (CN.out _ BX.out.row).mono ?_); rintro e w1 ⟨rfl, hb⟩; have BX := Lib.hid (BX.out.keep hb); have z0 := BX.out.c0; have z1 := BX.out.c1; clear hb)
                          | (go_at_call 88; (refine (CW.out _ BX.out.row).mono ?_); rintro e w1 ⟨rfl, hb⟩; have BX := Lib.hid (BX.out.keep hb); have z0 := BX.out.c0; have z1 := BX.out.c1; clear hb))
          go_roundw
          case rel => exact ⟨k + 1, by omega, by go_num, BX, HA2⟩
          case measure => simp [intOf]; omega
      · have hkk : k = len := by omega
        subst hkk
        have HF : Hid (allFit (coreL L) = true) := Lib.hid (allFit_iff.2 (fun i x hx => HA.out i x (by have := (List.getElem?_eq_some_iff.1 hx).1; rw [HCL.out] at this; exact this) hx))
        have CN : Hid (∀ W, NodeRow W a k cap L → Calls Tryz.prog 87 #[.slice a k cap] W fun e w' => e = .returned (.bool (namedB (coreL L))) ∧ Below W.heap.size W w') := Lib.hid (fun W h => namedOnce_any a k cap L W h (fun x hx z hz => by
          have := fit_kids HF.out x.core (List.mem_map.2 ⟨x, hx, rfl⟩) z hz
          rw [HCL.out] at this
          exact this) HS.out)
        cases q5 : namedB (coreL L) with
        | false =>
          rw [q5] at CN HRC
          have HR : Hid (R = false) := Lib.hid (by rw [HRC.out]; simp)
          clear q5
          go_wp2_with (first
                          | (go_at_call 85; (refine (CI.out _ BX.out.row).mono ?_); rintro e w1 ⟨rfl, rfl⟩)
                          | (go_at_call 86; (refine (CF.out _ BX.out.row).mono ?_); rintro e w1 ⟨rfl, hb⟩; have BX := Lib.hid (BX.out.keep hb); have z0 := BX.out.c0; have z1 := BX.out.c1; clear hb)
                          | (go_at_call 87; (refine (CN.out _ BX.out.row).mono ?_); rintro e w1 ⟨rfl, hb⟩; have BX := Lib.hid (BX.out.keep hb); have z0 := BX.out.c0; have z1 := BX.out.c1; clear hb)
                          | (go_at_call 88; (refine (CW.out _ BX.out.row).mono ?_); rintro e w1 ⟨rfl, hb⟩; have BX := Lib.hid (BX.out.keep hb); have z0 := BX.out.c0; have z1 := BX.out.c1; clear hb))
          go_ret
          exact ⟨ret_bool HR.out.symm, BX.out.below⟩
        | true =>
          have HR : Hid (R = waysB (coreL L)) := Lib.hid (by rw [HRC.out, HF.out, q5]; rfl)
          have CW : Hid (∀ W, NodeRow W a k cap L → Calls Tryz.prog 88 #[.slice a k cap] W fun e w' => e = .returned (.bool (waysB (coreL L))) ∧ Below W.heap.size W w') := Lib.hid (fun W h => waysEnd_any a k cap L W h (by
            have := fit_up HF.out q5
            rw [HCL.out] at this
            exact this) HS.out)
          rw [q5] at CN
          clear q5
          go_wp2_with (first
                          | (go_at_call 85; (refine (CI.out _ BX.out.row).mono ?_); rintro e w1 ⟨rfl, rfl⟩)
                          | (go_at_call 86; (refine (CF.out _ BX.out.row).mono ?_); rintro e w1 ⟨rfl, hb⟩; have BX := Lib.hid (BX.out.keep hb); have z0 := BX.out.c0; have z1 := BX.out.c1; clear hb)
                          | (go_at_call 87; (refine (CN.out _ BX.out.row).mono ?_); rintro e w1 ⟨rfl, hb⟩; have BX := Lib.hid (BX.out.keep hb); have z0 := BX.out.c0; have z1 := BX.out.c1; clear hb)
                          | (go_at_call 88; (refine (CW.out _ BX.out.row).mono ?_); rintro e w1 ⟨rfl, hb⟩; have BX := Lib.hid (BX.out.keep hb); have z0 := BX.out.c0; have z1 := BX.out.c1; clear hb))
          go_ret
          exact ⟨ret_bool HR.out.symm, BX.out.below⟩
end Go.Proofs.YtbgcpgpkhfbijaaGreatDoor
/- Package forest's knows, root, Root, Holds, Place. -/
namespace Go.Proofs.YtbgcpgpkhfbijaaGreatDoor
open Go.RowKit
/-- A literal list of numbers, just made. -/
theorem lit_one (w : World) (e : TypeId) (n : Int) (h : In64 n) : IntRow (w.alloc (.cells #[.int .i64 n] e)) (some ⟨w.heap.size, 0, none⟩) 1 1 [n] :=
  ⟨own_one w e n #[.int .i64 n] rfl rfl, fun z hz => by simp at hz; rw [hz]; exact h, fun h => by cases h⟩
theorem lit_two (w : World) (e : TypeId) (n m : Int) (h1 : In64 n) (h2 : In64 m) : IntRow (w.alloc (.cells #[.int .i64 n, .int .i64 m] e)) (some ⟨w.heap.size, 0, none⟩) 2 2 [n, m] := by
  refine ⟨⟨rfl, Nat.le_refl _, by unfold maxLen; omega, fun y hy => rfl, .inr ⟨_, _, rfl, by simp, fun i y j v hy hv => ?_⟩⟩, fun z hz => by simp at hz; rcases hz with rfl | rfl <;> assumption, fun h => by cases h⟩
  obtain ⟨hj, hv2⟩ := List.getElem?_eq_some_iff.1 hv
  have hj0 : j = 0 := by simpa [encZ] using hj
  subst hj0
  simp [encZ] at hv2
  subst hv2
  rw [cell_of_row (w.alloc (.cells #[.int .i64 n, .int .i64 m] e)) w.heap.size (0 + i * 1 + 0) _ e (0, 0) (heap_alloc_new w _)]
  match i, hy with
  | 0, hy => simp at hy; subst hy; rfl
  | 1, hy => simp at hy; subst hy; rfl
  | i + 2, hy => simp at hy
def inB (len : Nat) (z : Int) : Bool := decide (0 ≤ z) && decide (z < (len : Int))
def knowsB (m : Int) (F : List Core) (l : List Int) : Bool := l.all (inB F.length) && rightF m F
set_option maxHeartbeats 4000000 in
set_option maxRecDepth 100000 in
theorem knows_any (a : Option Addr) (len cap : Nat) (m : Int) (L : List NodeD) (b : Option Addr) (ln cn : Nat) (l : List Int) (w : World) (h : NodeRow w a len cap L) (hm : In64 m) (hs : smallF L) (hn : IntRow w b ln cn l) :
    Calls Tryz.prog 109 #[forV a len cap m, .slice b ln cn] w fun e w' => e = .returned (.bool (knowsB m (coreL L) l)) ∧ Below w.heap.size w w' := by
  have HL := Lib.hid h.hlen
  have hlen := h.len64
  have HNL := Lib.hid hn.hlen
  have hln := hn.len64
  have BX := Lib.hid (Box.start (m := m) h)
  have NR := Lib.hid (hn.below (below_box w (forB a len cap m)))
  have z0 := BX.out.c0
  have z1 := BX.out.c1
  have CR : Hid (∀ W, NodeRow W a len cap L → Calls Tryz.prog 30 #[forV a len cap m] W fun e w' => e = .returned (.bool (rightF m (coreL L))) ∧ Below W.heap.size W w') := Lib.hid (fun W h => rightF_any a len cap m L W h hm hs)
  clear h hm hs hn
  go_enter Tryz.func109, Tryz.ntmps109
  go_wp2
  go_loop [9] (fun i => ∃ k : Nat, k ≤ ln ∧ i = .int .i64 k ∧ Hid (∀ (j : Nat) z, j < k → l[j]? = some z → inB (coreL L).length z = true)) (fun i => ln - (intOf i).toNat)
  case atStart => exact ⟨0, Nat.zero_le _, rfl, Lib.hid (fun j z hj => absurd hj (by omega))⟩
  case round =>
    obtain ⟨k, hk, rfl, HA⟩ := hrel
    by_cases hlt : k < ln
    · obtain ⟨b2, off2, z, rfl, hb2, hz, hcz, hin⟩ := NR.out.get hlt
      have STOP : Hid (inB (coreL L).length z = false → knowsB m (coreL L) l = false) := Lib.hid (fun hq => by
        unfold knowsB
        have : l.all (inB (coreL L).length) = false := by rw [List.all_eq_false]; exact ⟨z, List.mem_of_getElem? hz, by simp [hq]⟩
        rw [this]
        rfl)
      by_cases q1 : z < 0
      · have HR : Hid (knowsB m (coreL L) l = false) := Lib.hid (STOP.out (by unfold inB; rw [decide_eq_false (by omega)]; rfl))
        clear hz
        go_wp2
        go_ret
        exact ⟨ret_bool HR.out.symm, BX.out.below⟩
      by_cases q2 : (len : Int) ≤ z
      · have HR : Hid (knowsB m (coreL L) l = false) := Lib.hid (STOP.out (by unfold inB; rw [decide_eq_false (show ¬ z < ((coreL L).length : Int) by rw [coreL_len, HL.out]; omega), Bool.and_false]))
        clear hz
        go_wp2
        go_ret
        exact ⟨ret_bool HR.out.symm, BX.out.below⟩
      have HA2 : Hid (∀ (j : Nat) z, j < k + 1 → l[j]? = some z → inB (coreL L).length z = true) := Lib.hid (fun j y hj hy => by
        by_cases e : j = k
        · subst e
          rw [hz] at hy
          rw [← Option.some.inj hy]
          unfold inB
          rw [decide_eq_true (by omega), decide_eq_true (by rw [coreL_len, HL.out]; omega)]
          rfl
        · exact HA.out j y (by omega) hy)
      clear hz
      go_wp2
      go_round
      case rel => exact ⟨k + 1, by omega, by go_num, HA2⟩
      case measure => simp [intOf]; omega
    · have HR : Hid (knowsB m (coreL L) l = rightF m (coreL L)) := Lib.hid (by
        unfold knowsB
        have : l.all (inB (coreL L).length) = true := by
          rw [List.all_eq_true]
          intro z hz
          obtain ⟨j, hj, he⟩ := List.mem_iff_getElem.1 hz
          exact HA.out j z (by rw [HNL.out] at hj; omega) (by rw [List.getElem?_eq_getElem hj, he])
        rw [this]
        rfl)
      clear HA
      go_wp2_with (go_at_call 30; (refine (CR.out _ BX.out.row).mono ?_); rintro e w1 ⟨rfl, hb⟩; have BX := Lib.hid (BX.out.keep hb); clear hb)
      go_ret
      exact ⟨ret_bool HR.out.symm, BX.out.below⟩
theorem right_par {m : Int} {F : List Core} (h : rightF m F = true) {c : Nat} {x : Core} (hx : F[c]? = some x) (hp : x.parent ≠ -1) : ∃ p : Nat, x.parent = p ∧ p < F.length ∧ parF F c = some p := by
  have h1 := (nodeOk_iff.1 (((rightF_iff m F).1 h).2.1 c x hx)).2.1
  unfold parOk at h1
  rw [beq_eq_false_iff_ne.2 hp, Bool.false_or, Bool.and_eq_true] at h1
  cases hg : getC F x.parent with
  | none => rw [hg] at h1; simp at h1
  | some d =>
    obtain ⟨e1, e2, _⟩ := getC_some hg
    refine ⟨x.parent.toNat, by omega, e2, ?_⟩
    unfold parF
    rw [hx]
    dsimp only
    rw [if_neg hp]
theorem right_top {F : List Core} {c : Nat} {x : Core} (hx : F[c]? = some x) (hp : x.parent = -1) : parF F c = none := by
  unfold parF
  rw [hx]
  dsimp only
  rw [if_pos hp]
set_option maxHeartbeats 4000000 in
set_option maxRecDepth 100000 in
theorem rootUp_any (a : Option Addr) (len cap : Nat) (m : Int) (L : List NodeD) (n : Nat) (w : World) (h : NodeRow w a len cap L) (hr : rightF m (coreL L) = true) (hn : n < len) :
    Calls Tryz.prog 154 #[.slice a len cap, .int .i64 n] w fun e w' => e = .returned (.int .i64 (rootF (coreL L) n : Nat)) ∧ w = w' := by
  have HCL : Hid ((coreL L).length = len) := Lib.hid (by rw [coreL_len, h.hlen])
  have hlen := h.len64
  have TR := Lib.hid (tree_of_right hr)
  have HH := Lib.hid h
  have HRT := Lib.hid hr
  clear h hr
  go_enter Tryz.func154, Tryz.ntmps154
  go_wp2
  go_loop [1] (fun i => ∃ c : Nat, c < len ∧ i = .int .i64 c ∧ Hid (rootF (coreL L) c = rootF (coreL L) n)) (fun i => rankF (coreL L) (intOf i).toNat)
  case atStart => exact ⟨n, hn, rfl, Lib.hid rfl⟩
  case round =>
    obtain ⟨c, hc, rfl, HE⟩ := hrel
    obtain ⟨b, off, x, rfl, hb, hx, hat, hok⟩ := HH.out.get hc
    have c5 := hat.c5
    have hxc := coreL_get hx
    by_cases hp : x.core.parent = -1
    · have HR : Hid (rootF (coreL L) n = c) := Lib.hid (by
        rw [← HE.out]
        exact rootN_none (right_top hxc hp))
      rw [hp] at c5
      clear hxc hx hat hok hp
      go_wp2
      go_ret
      exact ⟨ret_int (by rw [HR.out]), rfl⟩
    · obtain ⟨p, hpp, hpl, hpar⟩ := right_par HRT.out hxc hp
      have hcl : c < (coreL L).length := by rw [HCL.out]; exact hc
      have hrk := TR.out.rank_up _ c hcl hpar
      have HE2 : Hid (rootF (coreL L) p = rootF (coreL L) n) := Lib.hid (by
        rw [← HE.out]
        exact TR.out.root_held hcl (by omega) (holds_par hpar))
      rw [hpp] at c5
      rw [HCL.out] at hpl
      have hne : ((p : Int) != -1) = true := bne_iff_ne.2 (by omega)
      have HRK := Lib.hid hrk
      clear hpar hxc hx hat hok hp hpp hrk
      go_wp2
      go_round
      case rel => exact ⟨p, hpl, rfl, HE2⟩
      case measure => simp [intOf]; rw [HRK.out]; omega
theorem knowsB_one {m : Int} {F : List Core} {n : Int} : knowsB m F [n] = thereF m F n := by
  unfold knowsB thereF inB
  rw [Bool.eq_iff_iff]
  simp
  constructor
  · rintro ⟨⟨h1, h2⟩, h3⟩
    exact ⟨⟨h3, h1⟩, h2⟩
  · rintro ⟨⟨h3, h1⟩, h2⟩
    exact ⟨⟨h1, h2⟩, h3⟩
theorem knowsB_two {m : Int} {F : List Core} {x y : Int} : knowsB m F [x, y] = (thereF m F x && thereF m F y) := by
  unfold knowsB thereF inB
  rw [Bool.eq_iff_iff]
  simp
  constructor
  · rintro ⟨⟨⟨h1, h2⟩, h3, h4⟩, h5⟩
    exact ⟨⟨⟨h5, h1⟩, h2⟩, ⟨h5, h3⟩, h4⟩
  · rintro ⟨⟨⟨h5, h1⟩, h2⟩, ⟨_, h3⟩, h4⟩
    exact ⟨⟨⟨h1, h2⟩, h3, h4⟩, h5⟩
theorem there_nat {m : Int} {F : List Core} {n : Int} (h : thereF m F n = true) : rightF m F = true ∧ ∃ k : Nat, n = k ∧ k < F.length := by
  unfold thereF at h
  simp only [Bool.and_eq_true, decide_eq_true_eq] at h
  exact ⟨h.1.1, n.toNat, by omega, by omega⟩
set_option maxHeartbeats 4000000 in
set_option maxRecDepth 100000 in
theorem rootFn_any (a : Option Addr) (len cap : Nat) (m : Int) (L : List NodeD) (n : Int) (w : World) (h : NodeRow w a len cap L) (hm : In64 m) (hn : In64 n) (hs : smallF L) :
    Calls Tryz.prog 117 #[forV a len cap m, .int .i64 n] w fun e w' => e = .returned (.int .i64 (rootZ m (coreL L) n)) ∧ Below w.heap.size w w' := by
  have HCL : Hid ((coreL L).length = len) := Lib.hid (by rw [coreL_len, h.hlen])
  have BX := Lib.hid ((Box.start (m := m) h).keep (below_box _ (.cells #[.int .i64 n] 3)))
  have NB := Lib.hid (lit_one (w.alloc (forB a len cap m)) 3 n hn)
  have CK : Hid (∀ W b, NodeRow W a len cap L → IntRow W b 1 1 [n] → Calls Tryz.prog 109 #[forV a len cap m, .slice b 1 1] W fun e w' => e = .returned (.bool (thereF m (coreL L) n)) ∧ Below W.heap.size W w') := Lib.hid (fun W b h1 h2 => by
    rw [← knowsB_one]
    exact knows_any a len cap m L b 1 1 [n] W h1 hm hs h2)
  simp only [World.size_alloc] at NB
  have z0 := BX.out.c0
  have z1 := BX.out.c1
  clear h hm hs hn
  cases q : thereF m (coreL L) n with
  | false =>
    rw [q] at CK
    have HR : Hid (rootZ m (coreL L) n = -1) := Lib.hid (by unfold rootZ; rw [q]; rfl)
    clear q
    go_enter Tryz.func117, Tryz.ntmps117
    go_wp2_with (first
                    | (go_at_call 109; ((with_reducible refine (CK.out _ _ BX.out.row NB.out).mono ?_); rintro e w1 ⟨rfl, hb⟩; have BX := Lib.hid (BX.out.keep hb); have z0 := BX.out.c0; have z1 := BX.out.c1; clear hb))
                    | (go_at_call 154; ((with_reducible refine (CU.out _ BX.out.row).mono ?_); rintro e w1 ⟨rfl, rfl⟩)))
    go_ret
    exact ⟨ret_int HR.out.symm, BX.out.below⟩
  | true =>
    rw [q] at CK
    obtain ⟨hr, k, rfl, hk⟩ := there_nat q
    have HR : Hid (rootZ m (coreL L) k = (rootF (coreL L) k : Nat)) := Lib.hid (rootZ_eq hr hk)
    have CU : Hid (∀ W, NodeRow W a len cap L → Calls Tryz.prog 154 #[.slice a len cap, .int .i64 k] W fun e w' => e = .returned (.int .i64 (rootF (coreL L) k : Nat)) ∧ W = w') := Lib.hid (fun W h => rootUp_any a len cap m L k W h hr (by rw [← HCL.out]; exact hk))
    clear q hr hk
    go_enter Tryz.func117, Tryz.ntmps117
    go_wp2_with (first
                    | (go_at_call 109; ((with_reducible refine (CK.out _ _ BX.out.row NB.out).mono ?_); rintro e w1 ⟨rfl, hb⟩; have BX := Lib.hid (BX.out.keep hb); have z0 := BX.out.c0; have z1 := BX.out.c1; clear hb))
                    | (go_at_call 154; ((with_reducible refine (CU.out _ BX.out.row).mono ?_); rintro e w1 ⟨rfl, rfl⟩)))
    go_ret
    exact ⟨ret_int HR.out.symm, BX.out.below⟩
end Go.Proofs.YtbgcpgpkhfbijaaGreatDoor
/- Shadows, over data: who comes next up, full order; a forest that is right is trees with shadows, too. Plain mathematics, no program. -/
namespace Go.Proofs.YtbgcpgpkhfbijaaGreatDoor
open Go.RowKit
/-! ### trees in general -/
section
variable {n : Nat} {par : Nat → Option Nat} {kids : Nat → List Nat} {rank : Nat → Nat}
theorem Tree.ord_fuel (T : Tree n par kids rank) {f g i : Nat} (hi : i < n) (hf : n + 1 ≤ rank i + f) (hg : n + 1 ≤ rank i + g) : ordN kids f i = ordN kids g i := by
  have key : ∀ d, ordN kids (f + d) i = ordN kids f i := fun d => by
    induction d with
    | zero => rfl
    | succ d ih => rw [← ih]; exact T.ord_more (f + d) i hi (by omega)
  have key2 : ∀ d, ordN kids (g + d) i = ordN kids g i := fun d => by
    induction d with
    | zero => rfl
    | succ d ih => rw [← ih]; exact T.ord_more (g + d) i hi (by omega)
  rw [← key g, ← key2 f, Nat.add_comm]
/-- Order from a node: it, then order from each of its children. -/
theorem Tree.ord_open (T : Tree n par kids rank) {i : Nat} (hi : i < n) : ordN kids (n + 1) i = i :: (kids i).flatMap (ordN kids (n + 1)) := by
  rw [← T.ord_more (n + 1) i hi (by omega)]
  rfl
theorem Tree.block_kids (T : Tree n par kids rank) {f i : Nat} (ih : ∀ k ∈ kids i, ∀ j x, (ordN kids f k)[j]? = some x → ∃ pre post, ordN kids f k = pre ++ ordN kids (n + 1) x ++ post ∧ pre.length = j) :
    ∀ (ks : List Nat), (∀ k ∈ ks, k ∈ kids i) → ∀ j x, (ks.flatMap (ordN kids f))[j]? = some x → ∃ pre post, ks.flatMap (ordN kids f) = pre ++ ordN kids (n + 1) x ++ post ∧ pre.length = j
  | [], _, j, x, h => by simp at h
  | k :: r, hk, j, x, h => by
    rw [List.flatMap_cons] at h ⊢
    by_cases hj : j < (ordN kids f k).length
    · rw [List.getElem?_append_left hj] at h
      obtain ⟨pre, post, e, hl⟩ := ih k (hk k (by simp)) j x h
      exact ⟨pre, post ++ r.flatMap (ordN kids f), by rw [e]; simp, hl⟩
    · rw [List.getElem?_append_right (by omega)] at h
      obtain ⟨pre, post, e, hl⟩ := T.block_kids ih r (fun q hq => hk q (by simp [hq])) _ x h
      exact ⟨ordN kids f k ++ pre, post, by rw [e]; simp, by rw [List.length_append]; omega⟩
/-- Where a node stands in an order, its own order follows. -/
theorem Tree.ord_block (T : Tree n par kids rank) : ∀ (f i : Nat), i < n → n + 1 ≤ rank i + f → ∀ j x, (ordN kids f i)[j]? = some x → ∃ pre post, ordN kids f i = pre ++ ordN kids (n + 1) x ++ post ∧ pre.length = j
  | 0, i, hi, hf, j, x, h => by
    have e : ordN kids (n + 1) i = ordN kids 0 i := T.ord_fuel hi (by omega) hf
    unfold ordN at h
    obtain ⟨hj, hx⟩ := List.getElem?_eq_some_iff.1 h
    have hj0 : j = 0 := by simpa using hj
    subst hj0
    have hxi : i = x := by simpa using hx
    subst hxi
    exact ⟨[], [], by rw [e]; simp, rfl⟩
  | f + 1, i, hi, hf, j, x, h => by
    match j, h with
    | 0, h =>
      have hxi : i = x := by simpa [ordN] using h
      subst hxi
      exact ⟨[], [], by rw [T.ord_fuel (g := n + 1) hi hf (by omega)]; simp, rfl⟩
    | j + 1, h =>
      have h2 : ((kids i).flatMap (ordN kids f))[j]? = some x := by simpa [ordN] using h
      obtain ⟨pre, post, e, hl⟩ := T.block_kids (fun k hk => T.ord_block f k (T.kid_rank hk).1 (by have := (T.kid_rank hk).2; omega)) (kids i) (fun k hk => hk) j x h2
      refine ⟨i :: pre, post, ?_, by rw [List.length_cons, hl]⟩
      show i :: (kids i).flatMap (ordN kids f) = _
      rw [e]
      simp
end
theorem flat_sub {α β : Type} {f g : α → List β} (hfg : ∀ x, (f x).Sublist (g x)) : ∀ {l m : List α}, l.Sublist m → (l.flatMap f).Sublist (m.flatMap g)
  | _, _, .slnil => by simp
  | _, _, .cons a h => by
    rw [List.flatMap_cons]
    exact (flat_sub hfg h).trans (List.sublist_append_right _ _)
  | _, _, .cons_cons a h => by
    rw [List.flatMap_cons, List.flatMap_cons]
    exact (hfg a).append (flat_sub hfg h)
/-- Who has more children has more in order. -/
theorem ord_sub {kids kids' : Nat → List Nat} (h : ∀ i, (kids i).Sublist (kids' i)) : ∀ (f i : Nat), (ordN kids f i).Sublist (ordN kids' f i)
  | 0, _ => List.Sublist.refl _
  | f + 1, i => .cons_cons i (flat_sub (fun k => ord_sub h f k) (h i))
theorem findN_cons {y z : Int} {l : List Int} : findN (y :: l) z = if y = z then 0 else findN l z + 1 := by
  unfold findN
  rw [List.findIdx_cons]
  by_cases e : y = z
  · subst e; simp
  · rw [if_neg e, beq_eq_false_iff_ne.2 e]; rfl
theorem findN_mem {l : List Int} {z : Int} (h : z ∈ l) : findN l z < l.length := List.findIdx_lt_length_of_exists ⟨z, h, by simp⟩
theorem findZ_mem {l : List Int} {z : Int} (h : z ∈ l) : findZ l z = (findN l z : Int) := by unfold findZ; rw [if_pos (findN_mem h)]
/-- In a part of a list that has nothing twice, who comes later stands further behind in the whole. -/
theorem sub_find {o l : List Int} (hs : o.Sublist l) : l.Nodup → ∀ (i : Nat) (a b : Int), o[i]? = some a → o[i + 1]? = some b → findN l a < findN l b := by
  induction hs with
  | slnil => intro _ i a b ha; simp at ha
  | @cons o' l' y h ih =>
    intro hn i a b ha hb
    rw [List.nodup_cons] at hn
    have h1 : y ≠ a := fun e => hn.1 (e ▸ h.subset (List.mem_of_getElem? ha))
    have h2 : y ≠ b := fun e => hn.1 (e ▸ h.subset (List.mem_of_getElem? hb))
    rw [findN_cons, findN_cons, if_neg h1, if_neg h2]
    have := ih hn.2 i a b ha hb
    omega
  | @cons_cons o' l' y h ih =>
    intro hn i a b ha hb
    rw [List.nodup_cons] at hn
    rw [List.getElem?_cons_succ] at hb
    have h2 : y ≠ b := fun e => hn.1 (e ▸ h.subset (List.mem_of_getElem? hb))
    rw [findN_cons, findN_cons, if_neg h2]
    match i, ha, hb with
    | 0, ha, hb =>
      have : y = a := by simpa using ha
      rw [if_pos this]
      omega
    | i + 1, ha, hb =>
      rw [List.getElem?_cons_succ] at ha
      have h1 : y ≠ a := fun e => hn.1 (e ▸ h.subset (List.mem_of_getElem? ha))
      rw [if_neg h1]
      have := ih hn.2 i a b ha hb
      omega
/-! ### nodes of a forest that is right -/
theorem right_up {m : Int} {F : List Core} (h : rightF m F = true) : upIn F F.length := by
  have := nodes_eq.1 ((rightF_iff m F).1 h).2.1
  exact fit_up this.1 this.2
theorem next_par {F : List Core} {i : Nat} {x : Core} (hx : F[i]? = some x) (hp : x.parent ≠ -1) : nextUp F (i : Int) = x.parent := by
  rw [nextUp_at hx]
  unfold upC
  rw [if_neg hp]
theorem next_host {F : List Core} {i : Nat} {x : Core} (hx : F[i]? = some x) (hp : x.parent = -1) : nextUp F (i : Int) = x.host := by
  rw [nextUp_at hx]
  unfold upC
  rw [if_pos hp]
theorem right_kind {m : Int} {F : List Core} (h : rightF m F = true) {i : Nat} {x : Core} (hx : F[i]? = some x) : 0 ≤ x.kind ∧ x.kind ≤ 4 := by
  have h1 := (nodeOk_iff.1 (((rightF_iff m F).1 h).2.1 i x hx)).1
  unfold docOk at h1
  simp only [Bool.and_eq_true, decide_eq_true_eq] at h1
  exact ⟨h1.1.1.1, h1.1.1.2⟩
/-- Who has a parent is an Elem or a Text. -/
theorem right_held {m : Int} {F : List Core} (h : rightF m F = true) {i : Nat} {x : Core} (hx : F[i]? = some x) (hp : x.parent ≠ -1) : x.kind = 1 ∨ x.kind = 2 := by
  have h1 := (nodeOk_iff.1 (((rightF_iff m F).1 h).2.1 i x hx)).2.1
  unfold parOk at h1
  rw [beq_eq_false_iff_ne.2 hp, Bool.false_or, Bool.and_eq_true] at h1
  simpa using h1.1
theorem right_under {m : Int} {F : List Core} (h : rightF m F = true) {i : Nat} {x : Core} (hx : F[i]? = some x) (hu : x.under ≠ -1) : ∃ (s : Nat) (u : Core), x.under = s ∧ F[s]? = some u ∧ u.kind = 4 ∧ u.host = i ∧ u.parent = -1 ∧ x.kind = 1 := by
  have h1 := (nodeOk_iff.1 (((rightF_iff m F).1 h).2.1 i x hx)).2.2.2.2.1
  rw [Bool.and_eq_true] at h1
  have h2 := h1.2
  unfold underOk at h2
  rw [beq_eq_false_iff_ne.2 hu, Bool.false_or, Bool.and_eq_true] at h2
  cases hg : getC F x.under with
  | none => rw [hg] at h2; simp at h2
  | some u =>
    rw [hg] at h2
    simp only [Bool.and_eq_true, beq_iff_eq] at h2
    obtain ⟨e1, e2, e3⟩ := getC_some hg
    refine ⟨x.under.toNat, u, by omega, e3, h2.2.1, h2.2.2, ?_, h2.1⟩
    by_cases hp : u.parent = -1
    · exact hp
    · rcases right_held h e3 hp with k | k
      · rw [k] at h2; exact absurd h2.2.1 (by decide)
      · rw [k] at h2; exact absurd h2.2.1 (by decide)
theorem right_host {m : Int} {F : List Core} (h : rightF m F = true) {k : Nat} {u : Core} (hu : F[k]? = some u) (hh : u.host ≠ -1) : u.kind = 4 ∧ ∃ (i : Nat) (x : Core), u.host = i ∧ F[i]? = some x ∧ x.kind = 1 ∧ x.under = k ∧ x.doc = u.doc := by
  have h1 := (nodeOk_iff.1 (((rightF_iff m F).1 h).2.1 k u hu)).2.2.2.2.1
  rw [Bool.and_eq_true] at h1
  have h2 := h1.1
  unfold hostOk at h2
  by_cases k4 : u.kind = 4
  · rw [if_pos k4] at h2
    cases hg : getC F u.host with
    | none => rw [hg] at h2; simp at h2
    | some x =>
      rw [hg] at h2
      simp only [Bool.and_eq_true, beq_iff_eq] at h2
      obtain ⟨e1, e2, e3⟩ := getC_some hg
      exact ⟨k4, u.host.toNat, x, by omega, e3, h2.1.1, h2.1.2, h2.2⟩
  · rw [if_neg k4] at h2
    exact absurd (beq_iff_eq.1 h2) hh
/-! ### as trees -/
def parS (F : List Core) (i : Nat) : Option Nat := if nextUp F (i : Int) = -1 then none else some (nextUp F (i : Int)).toNat
def undS (F : List Core) (i : Nat) : List Nat := match F[i]? with | some c => if c.under = -1 then [] else [c.under.toNat] | none => []
def kidsS (F : List Core) (i : Nat) : List Nat := undS F i ++ kidsF F i
theorem parS_some {F : List Core} {k i : Nat} (h : nextUp F (k : Int) = i) : parS F k = some i := by
  unfold parS
  rw [h, if_neg (by omega), Int.toNat_natCast]
theorem parS_none {F : List Core} {k : Nat} (h : nextUp F (k : Int) = -1) : parS F k = none := by
  unfold parS
  rw [if_pos h]
theorem parS_next {m : Int} {F : List Core} (hr : rightF m F = true) {k i : Nat} (hk : k < F.length) (h : parS F k = some i) : nextUp F (k : Int) = i ∧ i < F.length := by
  unfold parS at h
  by_cases he : nextUp F (k : Int) = -1
  · rw [if_pos he] at h; cases h
  · rw [if_neg he] at h
    injection h with h
    rcases right_up hr k (by omega) (by omega) with e | ⟨e1, e2⟩
    · exact absurd e he
    · exact ⟨by omega, by omega⟩
theorem undS_mem {m : Int} {F : List Core} (hr : rightF m F = true) {i k : Nat} (h : k ∈ undS F i) : ∃ x u, F[i]? = some x ∧ x.under = (k : Int) ∧ F[k]? = some u ∧ u.kind = 4 ∧ u.host = i ∧ u.parent = -1 := by
  unfold undS at h
  cases hx : F[i]? with
  | none => rw [hx] at h; simp at h
  | some x =>
    rw [hx] at h
    dsimp only at h
    by_cases hu : x.under = -1
    · rw [if_pos hu] at h; simp at h
    · rw [if_neg hu] at h
      obtain ⟨s, u, e1, e2, e3, e4, e5, _⟩ := right_under hr hx hu
      have : k = s := by
        have := List.mem_singleton.1 h
        omega
      subst this
      exact ⟨x, u, rfl, e1, e2, e3, e4, e5⟩
theorem treeS {m : Int} {F : List Core} (hr : rightF m F = true) : Tree F.length (parS F) (kidsS F) (rankF F) := by
  have T := tree_of_right hr
  have E := ((rightF_iff m F).1 hr).2.2
  have kid : ∀ i k, k ∈ kidsF F i → k < F.length ∧ nextUp F (k : Int) = i := fun i k hk => by
    have hl := T.kid_lt i k hk
    have hp := T.kid_par i k hk
    have hx : F[k]? = some F[k] := List.getElem?_eq_getElem hl
    by_cases he : F[k].parent = -1
    · rw [right_top hx he] at hp; cases hp
    · obtain ⟨p, h1, _, h3⟩ := right_par hr hx he
      rw [h3] at hp
      injection hp with hp
      subst hp
      exact ⟨hl, (next_par hx he).trans h1⟩
  have all : ∀ i k, k ∈ kidsS F i → k < F.length ∧ nextUp F (k : Int) = i := fun i k hk => by
    rcases List.mem_append.1 hk with hk | hk
    · obtain ⟨x, u, hx, _, hu, _, hh, hp⟩ := undS_mem hr hk
      exact ⟨(List.getElem?_eq_some_iff.1 hu).1, (next_host hu hp).trans hh⟩
    · exact kid i k hk
  refine ⟨fun i k hk => (all i k hk).1, fun i k hk => parS_some (all i k hk).2, fun i k hk hp => ?_, fun i => ?_, fun i k hk hp => ?_, fun i hi => rankZ_le (n := F.length) (E i hi)⟩
  · obtain ⟨h1, h2⟩ := parS_next hr hk hp
    refine ⟨h2, List.mem_append.2 ?_⟩
    have hx : F[k]? = some F[k] := List.getElem?_eq_getElem hk
    by_cases he : F[k].parent = -1
    · rw [next_host hx he] at h1
      obtain ⟨_, j, y, e1, e2, _, e4, _⟩ := right_host hr hx (by omega)
      have : j = i := by omega
      subst this
      left
      unfold undS
      rw [e2]
      dsimp only
      rw [if_neg (by omega), e4, Int.toNat_natCast]
      simp
    · rw [next_par hx he] at h1
      obtain ⟨p, e1, _, e3⟩ := right_par hr hx he
      have : p = i := by omega
      subst this
      exact .inr (T.par_kid p k hk e3).2
  · unfold kidsS
    rw [List.nodup_append]
    refine ⟨?_, T.nodup i, fun a ha b hb e => ?_⟩
    · unfold undS
      cases F[i]? with
      | none => simp
      | some c => dsimp only; split <;> simp
    · subst e
      obtain ⟨x, u, hx, _, hu, _, hh, hp⟩ := undS_mem hr ha
      have := T.kid_par i a hb
      rw [right_top hu hp] at this
      cases this
  · obtain ⟨h1, h2⟩ := parS_next hr hk hp
    unfold rankF
    rw [rankZ_up (nxt := nextUp F) (n := F.length) (i := (k : Int)) (by omega) (E k hk) (by rw [h1]; exact E i h2), h1]
/-! ### what is asked -/
def topF (F : List Core) (a : Nat) : Nat := rootN (parS F) (F.length + 1) a
def allF (F : List Core) (a : Nat) : List Nat := ordN (kidsS F) (F.length + 1) a
def overF (F : List Core) (a b : Nat) : Bool := decide (b ∈ allF F a)
def topZ (m : Int) (F : List Core) (n : Int) : Int := if thereF m F n then (topF F n.toNat : Int) else -1
def allI (F : List Core) (z : Int) : List Int := (allF F z.toNat).map Int.ofNat
def allZ (m : Int) (F : List Core) (n : Int) : List Int := if thereF m F n then allI F n else []
def overZ (m : Int) (F : List Core) (a b : Int) : Bool := thereF m F a && thereF m F b && overF F a.toNat b.toNat
def connZ (m : Int) (F : List Core) (n : Int) : Bool := thereF m F n && kindK F (topZ m F n) == 0
def elemsZ (m : Int) (F : List Core) (n : Int) : List Int := (allZ m F n).filter (fun k => kindK F k == 1)
theorem topZ_eq {m : Int} {F : List Core} (h : rightF m F = true) {a : Nat} (ha : a < F.length) : topZ m F (a : Int) = (topF F a : Nat) := by
  unfold topZ
  rw [thereF_of h ha]
  rfl
theorem allZ_eq {m : Int} {F : List Core} (h : rightF m F = true) {a : Nat} (ha : a < F.length) : allZ m F (a : Int) = allI F a := by
  unfold allZ
  rw [thereF_of h ha]
  rfl
theorem overZ_iff {m : Int} {F : List Core} (h : rightF m F = true) {a b : Nat} (ha : a < F.length) (hb : b < F.length) : overZ m F (a : Int) (b : Int) = true ↔ holdsT (parS F) a b := by
  unfold overZ
  rw [thereF_of h ha, thereF_of h hb, Bool.true_and, Bool.true_and]
  unfold overF allF
  rw [decide_eq_true_iff]
  exact (treeS h).mem_ord _ _ ha (by omega) _ hb
theorem topF_lt {m : Int} {F : List Core} (h : rightF m F = true) {a : Nat} (ha : a < F.length) : topF F a < F.length := (treeS h).root_lt ha
theorem allI_open {m : Int} {F : List Core} (h : rightF m F = true) {a : Nat} {x : Core} (hx : F[a]? = some x) : allI F (a : Int) = (a : Int) :: ((if x.under = -1 then [] else allI F x.under) ++ x.kids.flatMap (allI F)) := by
  have T := treeS h
  have ha := (List.getElem?_eq_some_iff.1 hx).1
  unfold allI allF
  rw [Int.toNat_natCast, T.ord_open ha, List.map_cons]
  congr 1
  have hk : kidsF F a = x.kids.map Int.toNat := by unfold kidsF; rw [hx]
  rw [show kidsS F a = undS F a ++ kidsF F a from rfl, List.flatMap_append, List.map_append, hk]
  congr 1
  · unfold undS
    rw [hx]
    dsimp only
    by_cases hu : x.under = -1
    · rw [if_pos hu, if_pos hu]; rfl
    · rw [if_neg hu, if_neg hu]; simp
  · rw [List.flatMap_map, List.map_flatMap]
end Go.Proofs.YtbgcpgpkhfbijaaGreatDoor
/- What is asked of package shade's functions: their contracts, as one property. -/
namespace Go.Proofs.YtbgcpgpkhfbijaaGreatDoor
open Go.RowKit
/-- May a node have a shadow? -/
def hostsC (x : Core) : Bool := x.kind == 1 && (x.name.toList == [100, 105, 118] || x.name.toList == [112] || x.name.toList == [115, 112, 97, 110] || customL x.name.toList)
/-- The Shade that is made. -/
def shadeC (n d : Int) : Core := ⟨4, ⟨#[]⟩, ⟨#[]⟩, ⟨#[]⟩, [], -1, [], n, -1, d⟩
def attE (m : Int) (F : List Core) (n : Int) : Int :=
  if thereF m F n then (match getC F n with
    | some x => if hostsC x then (if x.under = -1 then (if (F.length : Int) = m then 8 else 0) else 10) else 5
    | none => 1) else 1
def docZ (F : List Core) (n : Int) : Int := match getC F n with | some x => x.doc | none => 0
def withU (x : Core) (u : Int) : Core := ⟨x.kind, x.name, x.is, x.data, x.attrs, x.parent, x.kids, x.host, u, x.doc⟩
/-- The forest with a shadow more. -/
def attC (F : List Core) (n : Int) : List Core := match getC F n with | some x => F.set n.toNat (withU x (F.length : Int)) ++ [shadeC n x.doc] | none => F
def attL (m : Int) (F : List Core) (n : Int) : List Core := if attE m F n = 0 then attC F n else F
def attN (m : Int) (F : List Core) (n : Int) : Int := if attE m F n = 0 then (F.length : Int) else -1
end Go.Proofs.YtbgcpgpkhfbijaaGreatDoor
