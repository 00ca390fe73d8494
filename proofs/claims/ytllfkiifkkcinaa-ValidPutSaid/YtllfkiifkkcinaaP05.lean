/- Texts joined in build order: ForestEnds ForestWays ForestRightMath ForestRightFn ForestAsk ForestAsk2 AttrRef1 RefRight RefSmall. -/
import Derived.Test.YtllfkiifkkcinaaP02
import Derived.Test.YtllfkiifkkcinaaP04
import Derived.Test.YtllfkiifkkcinaaChecked
import Derived.Test.YtllfkiifkkcinaaP01
import Derived.WalkLawsBesides
import Derived.WalkSmall
import Derived.Lib.Hide
import Derived.Deep.QuietTactic
import Derived.BigQuiet
import Derived.Below
import Derived.WideShapes
import Derived.Laws.IdiomStrings
import Derived.Lib.IndexBytes
/- Ways up that end, end in few steps. Plain mathematics, no program. -/
namespace Go.Proofs.Ytllfkiifkkcinaa
theorem nodup_lt : ∀ (n : Nat) (l : List Nat), l.Nodup → (∀ x ∈ l, x < n) → l.length ≤ n
  | 0, l, _, h => by
    cases l with
    | nil => exact Nat.le_refl _
    | cons a r => exact absurd (h a (by simp)) (by omega)
  | n + 1, l, hn, h => by
    have h1 := nodup_lt n (l.filter (fun x => decide (x ≠ n))) (hn.filter _) (fun x hx => by
      have := List.mem_filter.1 hx
      have h2 := h x this.1
      have h3 := of_decide_eq_true this.2
      omega)
    have h2 : l.countP (fun x => decide (x ≠ n)) + l.countP (fun x => ! decide (x ≠ n)) = l.length := by
      have := List.length_eq_countP_add_countP (fun x => decide (x ≠ n)) (l := l)
      rw [this]
      congr 1
      refine List.countP_congr fun x _ => ?_
      simp
    have h3 : l.countP (fun x => ! decide (x ≠ n)) ≤ 1 := by
      have h4 : l.countP (fun x => ! decide (x ≠ n)) = l.count n := by
        unfold List.count
        refine List.countP_congr fun x _ => ?_
        simp
      rw [h4]
      exact List.nodup_iff_count.1 hn n
    rw [← List.countP_eq_length_filter] at h1
    omega
section
variable {nxt : Int → Int}
/-- It ends in just so many steps. -/
def exZ (nxt : Int → Int) (r : Nat) (i : Int) : Prop := endsZ nxt r i = true ∧ ∀ s, s < r → endsZ nxt s i = false
theorem exZ_of : ∀ (m : Nat) (i : Int), endsZ nxt m i = true → ∃ r, r ≤ m ∧ exZ nxt r i
  | m, i, h => by
    by_cases hs : ∃ s, s < m ∧ endsZ nxt s i = true
    · obtain ⟨s, hs, he⟩ := hs
      obtain ⟨r, hr, hx⟩ := exZ_of s i he
      exact ⟨r, by omega, hx⟩
    · exact ⟨m, Nat.le_refl _, h, fun s hl => by
        cases hq : endsZ nxt s i with
        | false => rfl
        | true => exact absurd ⟨s, hl, hq⟩ hs⟩
termination_by m => m
theorem exZ_one {r s : Nat} {i : Int} (h1 : exZ nxt r i) (h2 : exZ nxt s i) : r = s := by
  rcases Nat.lt_trichotomy r s with h | h | h
  · have := h2.2 r h
    rw [h1.1] at this
    cases this
  · exact h
  · have := h1.2 s h
    rw [h2.1] at this
    cases this
def chainZ (nxt : Int → Int) : Nat → Int → List Int
  | 0, _ => []
  | s + 1, i => i :: chainZ nxt s (nxt i)
theorem exZ_next {r : Nat} {i : Int} (h : exZ nxt (r + 1) i) : i ≠ -1 ∧ exZ nxt r (nxt i) := by
  have h0 := h.2 0 (by omega)
  have hi : i ≠ -1 := fun e => by
    rw [e] at h0
    cases h0
  refine ⟨hi, by rw [← endsZ_step hi]; exact h.1, fun s hs => ?_⟩
  rw [← endsZ_step hi]
  exact h.2 (s + 1) (by omega)
theorem chain_facts {n : Nat} (hr : ∀ i : Int, 0 ≤ i → i < n → nxt i = -1 ∨ (0 ≤ nxt i ∧ nxt i < n)) :
    ∀ (r : Nat) (i : Int), exZ nxt r i → (i = -1 ∨ (0 ≤ i ∧ i < (n : Int))) → (chainZ nxt r i).length = r ∧ (chainZ nxt r i).Nodup ∧ ∀ y ∈ chainZ nxt r i, (0 ≤ y ∧ y < (n : Int)) ∧ ∃ s, 0 < s ∧ s ≤ r ∧ exZ nxt s y
  | 0, i, _, _ => ⟨rfl, List.nodup_nil, fun y hy => by cases hy⟩
  | r + 1, i, h, hi => by
    obtain ⟨hne, hx⟩ := exZ_next h
    have hi2 : 0 ≤ i ∧ i < (n : Int) := by
      rcases hi with h | h
      · exact absurd h hne
      · exact h
    obtain ⟨h1, h2, h3⟩ := chain_facts hr r (nxt i) hx (hr i hi2.1 hi2.2)
    refine ⟨by unfold chainZ; rw [List.length_cons, h1], ?_, fun y hy => ?_⟩
    · unfold chainZ
      rw [List.nodup_cons]
      refine ⟨fun hm => ?_, h2⟩
      obtain ⟨_, s, _, hs2, hs3⟩ := h3 i hm
      have := exZ_one h hs3
      omega
    · unfold chainZ at hy
      rcases List.mem_cons.1 hy with rfl | hy
      · exact ⟨hi2, r + 1, by omega, Nat.le_refl _, h⟩
      · obtain ⟨h4, s, h5, h6, h7⟩ := h3 y hy
        exact ⟨h4, s, h5, by omega, h7⟩
theorem endsZ_le {r n : Nat} (h : r ≤ n) {i : Int} (he : endsZ nxt r i = true) : endsZ nxt n i = true := by
  obtain ⟨d, rfl⟩ : ∃ d, n = r + d := ⟨n - r, by omega⟩
  clear h
  induction d with
  | zero => exact he
  | succ d ih => exact endsZ_more _ _ ih
/-- Whoever comes to an end does so in no more steps than there are nodes. -/
theorem ends_small {n : Nat} (hr : ∀ i : Int, 0 ≤ i → i < n → nxt i = -1 ∨ (0 ≤ nxt i ∧ nxt i < n)) {m : Nat} {i : Int} (hi : i = -1 ∨ (0 ≤ i ∧ i < (n : Int))) (h : endsZ nxt m i = true) : endsZ nxt n i = true := by
  obtain ⟨r, _, hx⟩ := exZ_of m i h
  obtain ⟨h1, h2, h3⟩ := chain_facts hr r i hx hi
  have h4 : ((chainZ nxt r i).map Int.toNat).Nodup := by
    have key : ∀ l : List Int, l.Nodup → (∀ z ∈ l, 0 ≤ z) → (l.map Int.toNat).Nodup := by
      intro l
      induction l with
      | nil => intro _ _; simp
      | cons a r ih =>
        intro hl hp
        rw [List.nodup_cons] at hl
        rw [List.map_cons, List.nodup_cons]
        refine ⟨fun hm => ?_, ih hl.2 (fun z hz => hp z (by simp [hz]))⟩
        obtain ⟨z, hz, e⟩ := List.mem_map.1 hm
        have h1 := hp a (by simp)
        have h2 := hp z (by simp [hz])
        have : z = a := by omega
        exact hl.1 (this ▸ hz)
    exact key _ h2 (fun z hz => (h3 z hz).1.1)
  have h5 := nodup_lt n _ h4 (fun y hy => by
    obtain ⟨z, hz, rfl⟩ := List.mem_map.1 hy
    have := (h3 z hz).1
    omega)
  rw [List.length_map, h1] at h5
  exact endsZ_le h5 hx.1
end
end Go.Proofs.Ytllfkiifkkcinaa
/- Package forest's up, waysEnd. -/
namespace Go.Proofs.Ytllfkiifkkcinaa
open Go.RowKit
def upC (x : Core) : Int := if x.parent = -1 then x.host else x.parent
set_option maxHeartbeats 2000000 in
theorem up_any (x : NodeD) (w : World) : Calls Try.prog 88 #[nodVal x] w fun e w' => e = .returned (.int .i64 (upC x.core)) ∧ Below w.heap.size w w' := by
  obtain ⟨⟨kind, name, is, data, attrs, parent, kids, host, under, doc⟩, aA, aN, aC, kA, kN, kC⟩ := x
  by_cases hp : parent = -1
  · subst hp
    go_enter Try.func88, Try.ntmps88
    go_wp2
    go_ret
    exact ⟨rfl, below_box _ _⟩
  · have HR : Hid (upC ⟨kind, name, is, data, attrs, parent, kids, host, under, doc⟩ = parent) := Lib.hid (by unfold upC; dsimp only; rw [if_neg hp])
    go_enter Try.func88, Try.ntmps88
    go_wp2
    go_ret
    exact ⟨ret_int HR.out.symm, below_box _ _⟩
theorem nextUp_at {F : List Core} {k : Nat} {x : Core} (h : F[k]? = some x) : nextUp F (k : Int) = upC x := by
  unfold nextUp
  rw [getC_nat, h]
  rfl
abbrev encT (b : Bool) : Value := .bool b
/-- Who is known to come to an end. -/
structure Known (w W : World) (g len : Nat) (F : List Core) (E : List Bool) : Prop where
  below : Below w.heap.size w W
  row : ORow encT W g E
  hl : E.length = len
  sound : ∀ i : Nat, E[i]? = some true → endsZ (nextUp F) (len + 1) (i : Int) = true
theorem Known.keep {w W W2 : World} {g len : Nat} {F : List Core} {E : List Bool} (h : Known w W g len F E) (hb : Below W.heap.size W W2) : Known w W2 g len F E := ⟨h.below.trans (hb.mono h.below.size), h.row.keep hb, h.hl, h.sound⟩
theorem Known.more {w W : World} {g len : Nat} {F : List Core} {E : List Bool} (h : Known w W g len F E) (hg : w.heap.size ≤ g) {m : Nat} (hm : m < len) (he : endsZ (nextUp F) (len + 1) (m : Int) = true) : Known w (W.setCell ⟨g, m, none⟩ (.bool true)) g len F (E.set m true) := by
  refine ⟨h.below.setCell (p := ⟨g, m, none⟩) hg _, h.row.set (by rw [h.hl]; exact hm) _, by rw [List.length_set]; exact h.hl, fun i hi => ?_⟩
  by_cases e : m = i
  · subst e
    exact he
  · rw [List.getElem?_set_ne e] at hi
    exact h.sound i hi
def waysB (F : List Core) : Bool := (List.range F.length).all (fun i => endsZ (nextUp F) (F.length + 1) (i : Int))
def upIn (F : List Core) (len : Nat) : Prop := ∀ i : Int, 0 ≤ i → i < len → nextUp F i = -1 ∨ (0 ≤ nextUp F i ∧ nextUp F i < len)
theorem bool_info : (Try.prog.info? 4).map (fun i => (i.zero, i.size, i.bytes)) = some (some (.bool false), 1, 1) := by kernel_rfl
set_option maxHeartbeats 8000000 in
set_option maxRecDepth 100000 in
theorem waysEnd_any (a : Option Addr) (len cap : Nat) (L : List NodeD) (w : World) (h : NodeRow w a len cap L) (hk : upIn (coreL L) len) (hs : smallF L) :
    Calls Try.prog 62 #[.slice a len cap] w fun e w' => e = .returned (.bool (waysB (coreL L))) ∧ Below w.heap.size w w' := by
  have HL := Lib.hid h.hlen
  have HCL : Hid ((coreL L).length = len) := Lib.hid (by rw [coreL_len, HL.out])
  have hlen : len ≤ 1000 := by rw [← h.hlen]; exact hs.1
  have HK := Lib.hid hk
  have HH := Lib.hid h
  clear hs hk h
  have hmk := run_make_row' (P := Try.prog) 85 4 (.bool false) 1 Try.underlying85 bool_info rfl .i64 .i64 len (by omega) (by omega)
  have C0 : Hid (Known w (w.alloc (.cells (madeCells #[.bool false] len) 4)) w.heap.size len (coreL L) (List.replicate len false)) := Lib.hid (by
    refine ⟨below_box _ _, ORow.made (enc := encT) w 4 false len, by rw [List.length_replicate], fun i hi => ?_⟩
    have := List.mem_of_getElem? hi
    have := List.eq_of_mem_replicate this
    cases this)
  go_enter Try.func62, Try.ntmps62
  go_wp2
  clear hmk
  go_loopw [13] (fun i wr => ∃ (k : Nat) (E : List Bool), k ≤ len ∧ i = .int .i64 k ∧ Hid (Known w wr w.heap.size len (coreL L) E) ∧ Hid (∀ j : Nat, j < k → E[j]? = some true)) (fun i _ => len - (intOf i).toNat)
  case atStart => exact ⟨0, _, Nat.zero_le _, rfl, C0, Lib.hid (fun j hj => absurd hj (by omega))⟩
  case round =>
    clear C0
    obtain ⟨k, E, hk, rfl, KN, DN⟩ := hrel
    by_cases hlt : k < len
    · go_wp2
      go_loopw [5, 6] (fun s i wr => ∃ (t : Nat) (at_ : Int), t ≤ len ∧ s = .int .i64 t ∧ i = .int .i64 at_ ∧ (at_ = -1 ∨ (0 ≤ at_ ∧ at_ < len)) ∧ Hid (Known w wr w.heap.size len (coreL L) E) ∧ Hid (∀ m, endsZ (nextUp (coreL L)) (m + t) (k : Int) = endsZ (nextUp (coreL L)) m at_)) (fun s _ _ => len - (intOf s).toNat)
      case atStart => exact ⟨0, k, Nat.zero_le _, rfl, rfl, .inr ⟨by omega, by omega⟩, KN, Lib.hid (fun m => rfl)⟩
      case round =>
        clear KN
        obtain ⟨t, at_, ht, rfl, rfl, hat, KN, CH⟩ := hrel
        by_cases hC : ∃ m : Nat, at_ = m ∧ m < len ∧ E[m]? = some false
        · obtain ⟨m, rfl, hm, hE⟩ := hC
          obtain ⟨b, off, x, rfl, hb, hx, hc, hok⟩ := (HH.out.below KN.out.below).get hm
          obtain ⟨c0, c1, c2, c3, c4, c5, c6, c7, c8, c9⟩ := hc
          have hTc := KN.out.row.cell m _ hE
          unfold encT at hTc
          have UP : Hid (∀ W, Calls Try.prog 88 #[nodVal x] W fun e w' => e = .returned (.int .i64 (nextUp (coreL L) m)) ∧ Below W.heap.size W w') := Lib.hid (fun W => by
            rw [nextUp_at (coreL_get hx)]
            exact up_any x W)
          have CH2 : Hid (∀ q, endsZ (nextUp (coreL L)) (q + (t + 1)) (k : Int) = endsZ (nextUp (coreL L)) q (nextUp (coreL L) m)) := Lib.hid (fun q => by
            have h1 := CH.out (q + 1)
            rw [endsZ_step (by omega)] at h1
            rw [← h1]
            congr 1
            omega)
          have UIN := Lib.hid (HK.out m (by omega) (by omega))
          clear hx hok hE hb
          by_cases htl : t < len
          · go_wp2_with (go_at_call 88; (refine (UP.out _).mono ?_); rintro e w1 ⟨rfl, hb⟩; have KN := Lib.hid (KN.out.keep hb); clear hb)
            go_roundw
            case rel => exact ⟨t + 1, _, by omega, by go_num, rfl, UIN.out, KN, CH2⟩
            case measure => simp [intOf]; omega
          · have htt : t = len := by omega
            subst htt
            have HR : Hid (waysB (coreL L) = false) := Lib.hid (by
              unfold waysB
              rw [List.all_eq_false]
              refine ⟨k, List.mem_range.2 (by rw [HCL.out]; exact hlt), ?_⟩
              rw [HCL.out]
              intro he
              have h1 := ends_small (n := t) HK.out (.inr ⟨by omega, by omega⟩) he
              have h2 := CH.out 0
              rw [Nat.zero_add, h1] at h2
              have h3 : (m : Int) = -1 := beq_iff_eq.1 h2.symm
              omega)
            go_wp2
            go_ret
            exact ⟨ret_bool HR.out.symm, KN.out.below⟩
        have AB : at_ = -1 ∨ ∃ m : Nat, at_ = m ∧ m < len ∧ E[m]? = some true := by
          rcases hat with h | h
          · exact .inl h
          · refine .inr ⟨at_.toNat, by omega, by omega, ?_⟩
            have hl : at_.toNat < E.length := by rw [KN.out.hl]; omega
            cases hq : E[at_.toNat]'hl with
            | true => rw [List.getElem?_eq_getElem hl, hq]
            | false => exact absurd ⟨at_.toNat, by omega, by omega, by rw [List.getElem?_eq_getElem hl, hq]⟩ hC
        have EN : Hid (endsZ (nextUp (coreL L)) (len + 1) (k : Int) = true) := Lib.hid (by
          rcases AB with e | ⟨m, e, hm, he⟩
          · have h1 := CH.out 0
            rw [e, Nat.zero_add] at h1
            exact endsZ_le (by omega) (h1.trans rfl)
          · have h1 := CH.out (len + 1)
            rw [e, KN.out.sound m he] at h1
            exact endsZ_more _ _ (ends_small (n := len) HK.out (.inr ⟨by omega, by omega⟩) h1))
        clear hC CH hat
        rcases AB with rfl | ⟨m, rfl, hm, hE⟩
        rotate_left
        · have hTc := KN.out.row.cell m _ hE
          unfold encT at hTc
          clear hE
          go_wp2
          clear hTc hm
          (
            go_loopw [7] (fun i wr => ∃ (at_ : Int) (E : List Bool), i = .int .i64 at_ ∧ (at_ = -1 ∨ (0 ≤ at_ ∧ at_ < len)) ∧ Hid (Known w wr w.heap.size len (coreL L) E) ∧ Hid (∀ j : Nat, j < k → E[j]? = some true) ∧ Hid (at_ = (k : Int) ∨ E[k]? = some true) ∧ Hid (endsZ (nextUp (coreL L)) (len + 1) at_ = true)) (fun i _ => rankZ (nextUp (coreL L)) len (intOf i))
            case atStart => exact ⟨k, E, rfl, .inr ⟨by omega, by omega⟩, KN, DN, Lib.hid (.inl rfl), EN⟩
            case round =>
              clear KN DN EN
              obtain ⟨at_, E, rfl, hat, KN, DN, KK, EN⟩ := hrel
              by_cases hC : ∃ m : Nat, at_ = m ∧ m < len ∧ E[m]? = some false
              · obtain ⟨m, rfl, hm, hE⟩ := hC
                have hTc := KN.out.row.cell m _ hE
                have hTf := KN.out.row.free m
                unfold encT at hTc
                have KN2 := Lib.hid (KN.out.more (Nat.le_refl _) hm EN.out)
                obtain ⟨b, off, x, rfl, hb, hx, hc, hok⟩ := (HH.out.below KN2.out.below).get hm
                obtain ⟨c0, c1, c2, c3, c4, c5, c6, c7, c8, c9⟩ := hc
                have UP : Hid (∀ W, Calls Try.prog 88 #[nodVal x] W fun e w' => e = .returned (.int .i64 (nextUp (coreL L) m)) ∧ Below W.heap.size W w') := Lib.hid (fun W => by
                  rw [nextUp_at (coreL_get hx)]
                  exact up_any x W)
                have UIN := Lib.hid (HK.out m (by omega) (by omega))
                have EN2 : Hid (endsZ (nextUp (coreL L)) (len + 1) (nextUp (coreL L) m) = true) := Lib.hid (by
                  have := EN.out
                  rw [endsZ_step (by omega)] at this
                  exact endsZ_more _ _ this)
                have ME := Lib.hid (rankZ_up (n := len) (show (m : Int) ≠ -1 by omega) EN.out EN2.out)
                have DN2 : Hid (∀ j : Nat, j < k → (E.set m true)[j]? = some true) := Lib.hid (fun j hj => by
                  by_cases e : m = j
                  · subst e
                    rw [List.getElem?_set_self (by rw [KN.out.hl]; exact hm)]
                  · rw [List.getElem?_set_ne e]
                    exact DN.out j hj)
                have KK2 : Hid (nextUp (coreL L) m = (k : Int) ∨ (E.set m true)[k]? = some true) := Lib.hid (.inr (by
                  by_cases e : m = k
                  · subst e
                    rw [List.getElem?_set_self (by rw [KN.out.hl]; exact hm)]
                  · rw [List.getElem?_set_ne e]
                    rcases KK.out with h | h
                    · omega
                    · exact h))
                clear hx hok hE hb
                go_wp2_with (go_at_call 88; (refine (UP.out _).mono ?_); rintro e w1 ⟨rfl, hb⟩; have KN2 := Lib.hid (KN2.out.keep hb); clear hb)
                go_roundw
                case rel => exact ⟨_, _, rfl, UIN.out, KN2, DN2, KK2, EN2⟩
                case measure => simp [intOf]; rw [ME.out]; omega
              have AB : at_ = -1 ∨ ∃ m : Nat, at_ = m ∧ m < len ∧ E[m]? = some true := by
                rcases hat with h | h
                · exact .inl h
                · refine .inr ⟨at_.toNat, by omega, by omega, ?_⟩
                  have hl : at_.toNat < E.length := by rw [KN.out.hl]; omega
                  cases hq : E[at_.toNat]'hl with
                  | true => rw [List.getElem?_eq_getElem hl, hq]
                  | false => exact absurd ⟨at_.toNat, by omega, by omega, by rw [List.getElem?_eq_getElem hl, hq]⟩ hC
              have DN2 : Hid (∀ j : Nat, j < k + 1 → E[j]? = some true) := Lib.hid (fun j hj => by
                by_cases e : j = k
                · subst e
                  rcases KK.out with h | h
                  · rcases AB with h2 | ⟨m, h2, _, h3⟩
                    · omega
                    · have : m = j := by omega
                      rw [← this]
                      exact h3
                  · exact h
                · exact DN.out j (by omega))
              clear hC hat KK EN DN
              rcases AB with rfl | ⟨m, rfl, hm, hE⟩
              · go_wp2
                go_roundw
                case rel => exact ⟨k + 1, E, by omega, by go_num, KN, DN2⟩
                case measure => simp [intOf]; omega
              · have hTc := KN.out.row.cell m _ hE
                unfold encT at hTc
                clear hE
                go_wp2
                go_roundw
                case rel => exact ⟨k + 1, E, by omega, by go_num, KN, DN2⟩
                case measure => simp [intOf]; omega)
        · go_wp2
          (
            go_loopw [7] (fun i wr => ∃ (at_ : Int) (E : List Bool), i = .int .i64 at_ ∧ (at_ = -1 ∨ (0 ≤ at_ ∧ at_ < len)) ∧ Hid (Known w wr w.heap.size len (coreL L) E) ∧ Hid (∀ j : Nat, j < k → E[j]? = some true) ∧ Hid (at_ = (k : Int) ∨ E[k]? = some true) ∧ Hid (endsZ (nextUp (coreL L)) (len + 1) at_ = true)) (fun i _ => rankZ (nextUp (coreL L)) len (intOf i))
            case atStart => exact ⟨k, E, rfl, .inr ⟨by omega, by omega⟩, KN, DN, Lib.hid (.inl rfl), EN⟩
            case round =>
              clear KN DN EN
              obtain ⟨at_, E, rfl, hat, KN, DN, KK, EN⟩ := hrel
              by_cases hC : ∃ m : Nat, at_ = m ∧ m < len ∧ E[m]? = some false
              · obtain ⟨m, rfl, hm, hE⟩ := hC
                have hTc := KN.out.row.cell m _ hE
                have hTf := KN.out.row.free m
                unfold encT at hTc
                have KN2 := Lib.hid (KN.out.more (Nat.le_refl _) hm EN.out)
                obtain ⟨b, off, x, rfl, hb, hx, hc, hok⟩ := (HH.out.below KN2.out.below).get hm
                obtain ⟨c0, c1, c2, c3, c4, c5, c6, c7, c8, c9⟩ := hc
                have UP : Hid (∀ W, Calls Try.prog 88 #[nodVal x] W fun e w' => e = .returned (.int .i64 (nextUp (coreL L) m)) ∧ Below W.heap.size W w') := Lib.hid (fun W => by
                  rw [nextUp_at (coreL_get hx)]
                  exact up_any x W)
                have UIN := Lib.hid (HK.out m (by omega) (by omega))
                have EN2 : Hid (endsZ (nextUp (coreL L)) (len + 1) (nextUp (coreL L) m) = true) := Lib.hid (by
                  have := EN.out
                  rw [endsZ_step (by omega)] at this
                  exact endsZ_more _ _ this)
                have ME := Lib.hid (rankZ_up (n := len) (show (m : Int) ≠ -1 by omega) EN.out EN2.out)
                have DN2 : Hid (∀ j : Nat, j < k → (E.set m true)[j]? = some true) := Lib.hid (fun j hj => by
                  by_cases e : m = j
                  · subst e
                    rw [List.getElem?_set_self (by rw [KN.out.hl]; exact hm)]
                  · rw [List.getElem?_set_ne e]
                    exact DN.out j hj)
                have KK2 : Hid (nextUp (coreL L) m = (k : Int) ∨ (E.set m true)[k]? = some true) := Lib.hid (.inr (by
                  by_cases e : m = k
                  · subst e
                    rw [List.getElem?_set_self (by rw [KN.out.hl]; exact hm)]
                  · rw [List.getElem?_set_ne e]
                    rcases KK.out with h | h
                    · omega
                    · exact h))
                clear hx hok hE hb
                go_wp2_with (go_at_call 88; (refine (UP.out _).mono ?_); rintro e w1 ⟨rfl, hb⟩; have KN2 := Lib.hid (KN2.out.keep hb); clear hb)
                go_roundw
                case rel => exact ⟨_, _, rfl, UIN.out, KN2, DN2, KK2, EN2⟩
                case measure => simp [intOf]; rw [ME.out]; omega
              have AB : at_ = -1 ∨ ∃ m : Nat, at_ = m ∧ m < len ∧ E[m]? = some true := by
                rcases hat with h | h
                · exact .inl h
                · refine .inr ⟨at_.toNat, by omega, by omega, ?_⟩
                  have hl : at_.toNat < E.length := by rw [KN.out.hl]; omega
                  cases hq : E[at_.toNat]'hl with
                  | true => rw [List.getElem?_eq_getElem hl, hq]
                  | false => exact absurd ⟨at_.toNat, by omega, by omega, by rw [List.getElem?_eq_getElem hl, hq]⟩ hC
              have DN2 : Hid (∀ j : Nat, j < k + 1 → E[j]? = some true) := Lib.hid (fun j hj => by
                by_cases e : j = k
                · subst e
                  rcases KK.out with h | h
                  · rcases AB with h2 | ⟨m, h2, _, h3⟩
                    · omega
                    · have : m = j := by omega
                      rw [← this]
                      exact h3
                  · exact h
                · exact DN.out j (by omega))
              clear hC hat KK EN DN
              rcases AB with rfl | ⟨m, rfl, hm, hE⟩
              · go_wp2
                go_roundw
                case rel => exact ⟨k + 1, E, by omega, by go_num, KN, DN2⟩
                case measure => simp [intOf]; omega
              · have hTc := KN.out.row.cell m _ hE
                unfold encT at hTc
                clear hE
                go_wp2
                go_roundw
                case rel => exact ⟨k + 1, E, by omega, by go_num, KN, DN2⟩
                case measure => simp [intOf]; omega)
    · have hkk : k = len := by omega
      subst hkk
      have HR : Hid (waysB (coreL L) = true) := Lib.hid (by
        unfold waysB
        rw [List.all_eq_true, HCL.out]
        intro i hi
        exact KN.out.sound i (DN.out i (List.mem_range.1 hi)))
      go_wp2
      go_ret
      exact ⟨ret_bool HR.out.symm, KN.out.below⟩
end Go.Proofs.Ytllfkiifkkcinaa
/- What package forest's Right asks, node by node, is what the document asks. Plain mathematics, no program. -/
namespace Go.Proofs.Ytllfkiifkkcinaa
theorem allK_split {F : List Core} {p : Nat} {x : Core} (h : F[p]? = some x) : allK F = allK (F.take p) ++ (x.kids ++ allK (F.drop (p + 1))) := by
  obtain ⟨hl, hg⟩ := List.getElem?_eq_some_iff.1 h
  have e : F = F.take p ++ (x :: F.drop (p + 1)) := by rw [← hg, ← List.drop_eq_getElem_cons hl, List.take_append_drop]
  unfold allK
  conv => lhs; rw [e]
  rw [List.flatMap_append, List.flatMap_cons]
theorem hasZ_zero {L : List Int} {n : Int} (h : n ∉ L) : hasZ L n = 0 := by
  unfold hasZ
  rw [List.countP_eq_zero]
  intro z hz
  simp
  rintro rfl
  exact h hz
theorem hasZ_pos {L : List Int} {n : Int} (h : n ∈ L) : 0 < hasZ L n := List.countP_pos_iff.2 ⟨n, h, by simp⟩
theorem mem_allK {F : List Core} {n : Int} (h : n ∈ allK F) : ∃ (i : Nat) (x : Core), F[i]? = some x ∧ n ∈ x.kids := by
  unfold allK at h
  obtain ⟨x, hx, hn⟩ := List.mem_flatMap.1 h
  obtain ⟨i, hi, he⟩ := List.mem_iff_getElem.1 hx
  exact ⟨i, x, by rw [List.getElem?_eq_getElem hi, he], hn⟩
theorem hasZ_part {F : List Core} {p : Nat} {x : Core} (h : F[p]? = some x) (n : Int) : hasZ x.kids n ≤ hasZ (allK F) n := by
  rw [allK_split h, hasZ_app, hasZ_app]
  omega
theorem hasZ_only {F : List Core} {p : Nat} {x : Core} (h : F[p]? = some x) {n : Int} (ho : ∀ (q : Nat) y, F[q]? = some y → n ∈ y.kids → q = p) : hasZ (allK F) n = hasZ x.kids n := by
  have hl := (List.getElem?_eq_some_iff.1 h).1
  have h1 : hasZ (allK (F.take p)) n = 0 := hasZ_zero (fun hm => by
    obtain ⟨i, y, hy, hn⟩ := mem_allK hm
    have hi := (List.getElem?_eq_some_iff.1 hy).1
    rw [List.length_take] at hi
    rw [List.getElem?_take, if_pos (by omega)] at hy
    have := ho i y hy hn
    omega)
  have h2 : hasZ (allK (F.drop (p + 1))) n = 0 := hasZ_zero (fun hm => by
    obtain ⟨i, y, hy, hn⟩ := mem_allK hm
    rw [List.getElem?_drop] at hy
    have := ho _ y hy hn
    omega)
  rw [allK_split h, hasZ_app, hasZ_app, h1, h2]
  omega
theorem isKd_iff {F : List Core} {n k : Int} : isKd F n k = true ↔ ∃ c, getC F n = some c ∧ c.kind = k := by
  unfold isKd
  cases hg : getC F n with
  | none => simp
  | some c => simp
theorem kidB_iff {F : List Core} {i d k : Int} : kidB F i d k = true ↔ ∃ c, getC F k = some c ∧ (c.kind = 1 ∨ c.kind = 2) ∧ c.parent = i ∧ c.doc = d := by
  unfold kidB isKd
  cases hg : getC F k with
  | none => simp
  | some c => simp
theorem kidOk_iff {F : List Core} {i : Nat} {x : Core} {k : Int} : kidOk F i x k = true ↔ hasZ x.kids k = 1 ∧ kidB F (i : Int) x.doc k = true := by
  rw [kidB_iff]
  unfold kidOk
  cases hg : getC F k with
  | none => simp
  | some c => simp [and_assoc]
theorem countP_add_le {α : Type} (p q : α → Bool) : ∀ (l : List α), (∀ x ∈ l, p x = true ∨ q x = true) → (∀ x ∈ l, ¬ (p x = true ∧ q x = true)) → l.countP p + l.countP q = l.length
  | [], _, _ => rfl
  | a :: r, h, h2 => by
    have ih := countP_add_le p q r (fun x hx => h x (by simp [hx])) (fun x hx => h2 x (by simp [hx]))
    rw [List.countP_cons, List.countP_cons, List.length_cons]
    rcases h a (by simp) with e | e
    · have : q a = false := by
        cases hq : q a with
        | false => rfl
        | true => exact absurd ⟨e, hq⟩ (h2 a (by simp))
      rw [e, this]
      simp
      omega
    · have : p a = false := by
        cases hq : p a with
        | false => rfl
        | true => exact absurd ⟨hq, e⟩ (h2 a (by simp))
      rw [e, this]
      simp
      omega
theorem kinds_len {F : List Core} {i d : Int} {l : List Int} (h : ∀ k ∈ l, kidB F i d k = true) : elemsB F l + textsB F l = l.length := by
  refine countP_add_le _ _ l (fun k hk => ?_) (fun k hk => ?_)
  · obtain ⟨c, hc, h1, _⟩ := kidB_iff.1 (h k hk)
    rcases h1 with h1 | h1
    · exact .inl (isKd_iff.2 ⟨c, hc, h1⟩)
    · exact .inr (isKd_iff.2 ⟨c, hc, h1⟩)
  · rintro ⟨h1, h2⟩
    rw [isKd_apart h1 (show (1 : Int) ≠ 2 by decide)] at h2
    cases h2
theorem elemsK_eq {F : List Core} {i : Int} {x : Core} (h : ∀ k ∈ x.kids, kidB F i x.doc k = true) : elemsK F x = elemsB F x.kids := by
  unfold elemsK elemsB
  refine List.countP_congr fun k hk => ?_
  obtain ⟨c, hc, _⟩ := kidB_iff.1 (h k hk)
  unfold kindK isKd
  rw [hc]
theorem shape_eq {F : List Core} {i : Int} {x : Core} (h : ∀ k ∈ x.kids, kidB F i x.doc k = true) : shapeOk F x = shapeB F x := by
  have h1 := kinds_len h
  unfold shapeOk shapeB
  rw [elemsK_eq h]
  by_cases k0 : x.kind = 0
  · rw [if_pos k0, k0, Bool.eq_iff_iff]
    simp
    omega
  · rw [if_neg k0]
    have e0 : (x.kind == 0) = false := beq_eq_false_iff_ne.2 k0
    by_cases k2 : x.kind = 2
    · rw [if_pos k2, k2, Bool.eq_iff_iff]
      have h3 : x.kids.length = 0 ↔ x.kids = [] := List.length_eq_zero_iff
      simp
      rw [← h3]
      omega
    · rw [if_neg k2]
      have e2 : (x.kind == 2) = false := beq_eq_false_iff_ne.2 k2
      rw [e0, e2]
      rfl
theorem shadow_eq {F : List Core} {i : Nat} {x : Core} : (hostOk F i x && underOk F i x) = shadowB F (i : Int) x := by
  unfold hostOk underOk shadowB
  by_cases k4 : x.kind = 4
  · rw [if_pos k4, if_pos k4, k4]
    unfold hostB
    cases getC F x.host <;> simp
  · rw [if_neg k4, if_neg k4]
    by_cases k1 : x.kind = 1
    · rw [if_pos k1, k1]
      unfold underB
      cases getC F x.under <;> simp
    · rw [if_neg k1]
      have : (x.kind == 1) = false := beq_eq_false_iff_ne.2 k1
      rw [this]
      simp
theorem fields_eq {x : Core} (hk : 0 ≤ x.kind ∧ x.kind ≤ 4) : textOk x = fieldsB x := by
  have hd : x.data.toList = [] → x.data.size = 0 := fun e => by rw [← tl_len, e]; rfl
  unfold textOk fieldsB elemNameB
  by_cases k1 : x.kind = 1
  · rw [if_pos k1, if_pos k1]
  rw [if_neg k1, if_neg k1]
  by_cases k2 : x.kind = 2
  · rw [if_neg (by omega), if_pos k2, k2, Bool.eq_iff_iff]
    simp only [Bool.and_eq_true, Bool.or_eq_true, beq_iff_eq, decide_eq_true_eq]
    constructor
    · rintro ⟨⟨⟨h1, h2⟩, h3⟩, h4⟩
      refine ⟨⟨⟨h1, h2⟩, ?_⟩, h3⟩
      rcases h4 with h4 | h4
      · have := hd h4
        omega
      · exact h4.2
    · rintro ⟨⟨⟨h1, h2⟩, h3⟩, h4⟩
      exact ⟨⟨⟨h1, h2⟩, h4⟩, .inr ⟨trivial, h3⟩⟩
  · rw [if_pos (by omega)]
    have : (x.kind == 2) = false := beq_eq_false_iff_ne.2 k2
    rw [this, Bool.eq_iff_iff]
    simp
    constructor
    · rintro ⟨⟨⟨h1, h2⟩, h3⟩, h4⟩
      exact ⟨⟨⟨h4, h1⟩, h2⟩, h3⟩
    · rintro ⟨⟨⟨h1, h2⟩, h3⟩, h4⟩
      exact ⟨⟨⟨h2, h3⟩, h4⟩, h1⟩
theorem fields_kind {x : Core} (h : fieldsB x = true) : 0 ≤ x.kind ∧ x.kind ≤ 4 := by
  unfold fieldsB at h
  by_cases k1 : x.kind = 1
  · omega
  rw [if_neg k1] at h
  by_cases k3 : x.kind = 0 ∨ x.kind = 3 ∨ x.kind = 4
  · omega
  rw [if_neg k3] at h
  by_cases k2 : x.kind = 2
  · omega
  rw [if_neg k2] at h
  cases h
theorem doc_eq {F : List Core} {i : Nat} {x : Core} (hk : 0 ≤ x.kind ∧ x.kind ≤ 4) : docOk F i x = docB F (i : Int) x := by
  unfold docOk docB isKd
  rw [decide_eq_true hk.1, decide_eq_true hk.2]
  rfl
def allFit (F : List Core) : Bool := F.zipIdx.all (fun p => fitsB F (p.2 : Int) p.1)
theorem allFit_iff {F : List Core} : allFit F = true ↔ ∀ (i : Nat) x, F[i]? = some x → fitsB F (i : Int) x = true := by
  unfold allFit
  rw [List.all_eq_true]
  constructor
  · intro h i x hx
    exact h (x, i) (List.mk_mem_zipIdx_iff_getElem?.2 hx)
  · intro h p hp
    exact h p.2 p.1 (List.mk_mem_zipIdx_iff_getElem?.1 hp)
theorem namedB_iff {F : List Core} : namedB F = true ↔ ∀ (i : Nat) x, F[i]? = some x → (hasZ (allK F) i = 1 ↔ x.parent ≠ -1) := by
  unfold namedB
  rw [List.all_eq_true]
  have key : ∀ (i : Nat) x, namedAt F i x = true ↔ (hasZ (allK F) i = 1 ↔ x.parent ≠ -1) := fun i x => by
    unfold namedAt
    rw [beq_iff_eq, Bool.eq_iff_iff]
    simp
  constructor
  · intro h i x hx
    exact (key i x).1 (h (x, i) (List.mk_mem_zipIdx_iff_getElem?.2 hx))
  · intro h p hp
    exact (key p.2 p.1).2 (h p.2 p.1 (List.mk_mem_zipIdx_iff_getElem?.1 hp))
theorem fitsB_iff {F : List Core} {i : Nat} {x : Core} : fitsB F (i : Int) x = true ↔ fieldsB x = true ∧ docB F i x = true ∧ (∀ k ∈ x.kids, kidB F i x.doc k = true) ∧ shapeB F x = true ∧ shadowB F i x = true := by
  unfold fitsB kidsB
  simp only [Bool.and_eq_true, List.all_eq_true]
  constructor
  · rintro ⟨⟨⟨h1, h2⟩, h3, h4⟩, h5⟩
    exact ⟨h1, h2, h3, h4, h5⟩
  · rintro ⟨h1, h2, h3, h4, h5⟩
    exact ⟨⟨⟨h1, h2⟩, h3, h4⟩, h5⟩
theorem nodeOk_iff {F : List Core} {i : Nat} {x : Core} : nodeOk F i x = true ↔ docOk F i x = true ∧ parOk F i x = true ∧ (∀ k ∈ x.kids, kidOk F i x k = true) ∧ shapeOk F x = true ∧ (hostOk F i x && underOk F i x) = true ∧ textOk x = true := by
  unfold nodeOk
  simp only [Bool.and_eq_true, List.all_eq_true]
  constructor
  · rintro ⟨⟨⟨⟨⟨⟨h1, h2⟩, h3⟩, h4⟩, h5⟩, h6⟩, h7⟩
    exact ⟨h1, h2, h3, h4, ⟨h5, h6⟩, h7⟩
  · rintro ⟨h1, h2, h3, h4, ⟨h5, h6⟩, h7⟩
    exact ⟨⟨⟨⟨⟨⟨h1, h2⟩, h3⟩, h4⟩, h5⟩, h6⟩, h7⟩
/-- A child is in no other node's children. -/
theorem kid_only {F : List Core} (h : ∀ (i : Nat) x, F[i]? = some x → ∀ k ∈ x.kids, kidB F i x.doc k = true) {n p : Nat} {c : Core} (hc : F[n]? = some c) (hp : c.parent = (p : Int)) : ∀ (q : Nat) y, F[q]? = some y → (n : Int) ∈ y.kids → q = p := fun q y hy hm => by
  obtain ⟨d, hd, _, h2, _⟩ := kidB_iff.1 (h q y hy _ hm)
  rw [getC_nat, hc] at hd
  injection hd with hd
  subst hd
  omega
theorem nodes_eq {F : List Core} : (∀ (i : Nat) x, F[i]? = some x → nodeOk F i x = true) ↔ (allFit F = true ∧ namedB F = true) := by
  rw [allFit_iff, namedB_iff]
  constructor
  · intro h
    have parts := fun i x hx => nodeOk_iff.1 (h i x hx)
    have kids : ∀ (i : Nat) x, F[i]? = some x → ∀ k ∈ x.kids, kidB F i x.doc k = true := fun i x hx k hk => (kidOk_iff.1 ((parts i x hx).2.2.1 k hk)).2
    have kind : ∀ (i : Nat) x, F[i]? = some x → 0 ≤ x.kind ∧ x.kind ≤ 4 := fun i x hx => by
      have := (parts i x hx).1
      unfold docOk at this
      simp only [Bool.and_eq_true, decide_eq_true_eq] at this
      exact ⟨this.1.1.1, this.1.1.2⟩
    refine ⟨fun i x hx => ?_, fun i x hx => ?_⟩
    · obtain ⟨h1, h2, h3, h4, h5, h6⟩ := parts i x hx
      have hk := kind i x hx
      rw [doc_eq hk] at h1
      rw [shape_eq (kids i x hx)] at h4
      rw [shadow_eq] at h5
      rw [fields_eq hk] at h6
      exact fitsB_iff.2 ⟨h6, h1, kids i x hx, h4, h5⟩
    · constructor
      · intro h1 hp
        have hm : (i : Int) ∈ allK F := hasZ_mem h1
        obtain ⟨q, y, hy, hn⟩ := mem_allK hm
        obtain ⟨d, hd, _, h2, _⟩ := kidB_iff.1 (kids q y hy _ hn)
        rw [getC_nat, hx] at hd
        injection hd with hd
        subst hd
        omega
      · intro hp
        have h2 := (parts i x hx).2.1
        unfold parOk at h2
        rw [beq_eq_false_iff_ne.2 hp, Bool.false_or, Bool.and_eq_true] at h2
        cases hg : getC F x.parent with
        | none => rw [hg] at h2; simp at h2
        | some p =>
          rw [hg] at h2
          simp only [Bool.and_eq_true, beq_iff_eq] at h2
          obtain ⟨e1, e2, e3⟩ := getC_some hg
          have := hasZ_only e3 (n := (i : Int)) (kid_only kids hx (by omega))
          rw [this]
          exact h2.2.2
  · rintro ⟨hf, hn⟩ i x hx
    have parts := fun i x hx => fitsB_iff.1 (hf i x hx)
    have kids : ∀ (i : Nat) x, F[i]? = some x → ∀ k ∈ x.kids, kidB F i x.doc k = true := fun i x hx => (parts i x hx).2.2.1
    obtain ⟨h1, h2, h3, h4, h5⟩ := parts i x hx
    have hk := fields_kind h1
    refine nodeOk_iff.2 ⟨by rw [doc_eq hk]; exact h2, ?_, fun k hkk => kidOk_iff.2 ⟨?_, h3 k hkk⟩, by rw [shape_eq h3]; exact h4, by rw [shadow_eq]; exact h5, by rw [fields_eq hk]; exact h1⟩
    · unfold parOk
      by_cases hp : x.parent = -1
      · rw [hp]; rfl
      · rw [beq_eq_false_iff_ne.2 hp, Bool.false_or]
        have hc := (hn i x hx).2 hp
        obtain ⟨q, y, hy, hm⟩ := mem_allK (hasZ_mem hc)
        obtain ⟨d, hd, hdk, hdp, _⟩ := kidB_iff.1 (kids q y hy _ hm)
        rw [getC_nat, hx] at hd
        injection hd with hd
        subst hd
        have e4 := hasZ_only hy (n := (i : Int)) (kid_only kids hx hdp)
        have hyk : y.kind ≠ 2 := fun e => by
          have hs := (parts q y hy).2.2.2.1
          have hl := kinds_len (kids q y hy)
          unfold shapeB at hs
          rw [if_neg (by omega), if_pos e, decide_eq_true_eq] at hs
          rw [hs] at hl
          have : y.kids = [] := List.eq_nil_of_length_eq_zero hl.symm
          rw [this] at hm
          cases hm
        rw [hdp, getC_nat, hy]
        simp only [Bool.and_eq_true, Bool.or_eq_true, beq_iff_eq, bne_iff_ne]
        exact ⟨hdk, hyk, by rw [← e4]; exact hc⟩
    · obtain ⟨c, hc, _, hcp, _⟩ := kidB_iff.1 (h3 k hkk)
      obtain ⟨e1, e2, e3⟩ := getC_some hc
      have hz : ((k.toNat : Nat) : Int) = k := by omega
      have := (hn k.toNat c e3).2 (by omega)
      rw [hz] at this
      have h6 := hasZ_part hx k
      have h7 := hasZ_pos hkk
      omega
theorem head_eq (F : List Core) : headDoc F = isKd F 0 0 := by
  cases F with
  | nil => rfl
  | cons c r => rfl
/-- What package forest's Right answers. -/
def rightC (m : Int) (F : List Core) : Bool := decide (m ≤ 400) && decide ((F.length : Int) ≤ m) && isKd F 0 0 && allFit F && namedB F && waysB F
theorem right_eq (m : Int) (F : List Core) : rightC m F = rightF m F := by
  rw [Bool.eq_iff_iff, rightF_iff, nodes_eq, head_eq]
  unfold rightC waysB
  simp only [Bool.and_eq_true, decide_eq_true_eq, List.all_eq_true]
  constructor
  · rintro ⟨⟨⟨⟨⟨h1, h2⟩, h3⟩, h4⟩, h5⟩, h6⟩
    have hl : 0 < F.length := by
      cases F with
      | nil => cases h3
      | cons _ _ => simp
    exact ⟨⟨by omega, h1, h2, h3⟩, ⟨h4, h5⟩, fun i hi => h6 i (List.mem_range.2 hi)⟩
  · rintro ⟨⟨h0, h1, h2, h3⟩, ⟨h4, h5⟩, h6⟩
    exact ⟨⟨⟨⟨⟨h1, h2⟩, h3⟩, h4⟩, h5⟩, fun i hi => h6 i (List.mem_range.1 hi)⟩
theorem fit_kids {F : List Core} (h : allFit F = true) : ∀ x ∈ F, ∀ z ∈ x.kids, 0 ≤ z ∧ z < (F.length : Int) := fun x hx z hz => by
  obtain ⟨i, hi, he⟩ := List.mem_iff_getElem.1 hx
  have hg : F[i]? = some x := by rw [List.getElem?_eq_getElem hi, he]
  obtain ⟨c, hc, _⟩ := kidB_iff.1 ((fitsB_iff.1 (allFit_iff.1 h i x hg)).2.2.1 z hz)
  obtain ⟨e1, e2, _⟩ := getC_some hc
  omega
theorem fit_up {F : List Core} (h : allFit F = true) (hn : namedB F = true) : upIn F F.length := fun i h0 h1 => by
  obtain ⟨n, rfl⟩ : ∃ n : Nat, i = n := ⟨i.toNat, by omega⟩
  have hl : n < F.length := by omega
  have hx : F[n]? = some F[n] := List.getElem?_eq_getElem hl
  have h3 := allFit_iff.1 h
  rw [nextUp_at hx]
  unfold upC
  by_cases hp : F[n].parent = -1
  · rw [if_pos hp]
    have h5 := (fitsB_iff.1 (h3 n _ hx)).2.2.2.2
    unfold shadowB at h5
    by_cases k4 : F[n].kind = 4
    · rw [if_pos k4, Bool.and_eq_true] at h5
      unfold hostB at h5
      cases hg : getC F F[n].host with
      | none => rw [hg] at h5; cases h5.1
      | some c =>
        obtain ⟨e1, e2, _⟩ := getC_some hg
        exact .inr ⟨e1, by omega⟩
    · rw [if_neg k4] at h5
      by_cases k1 : F[n].kind = 1
      · rw [if_pos k1, Bool.and_eq_true] at h5
        exact .inl (beq_iff_eq.1 h5.1)
      · rw [if_neg k1, Bool.and_eq_true] at h5
        exact .inl (beq_iff_eq.1 h5.1)
  · rw [if_neg hp]
    have hc := (namedB_iff.1 hn n _ hx).2 hp
    obtain ⟨q, y, hy, hm⟩ := mem_allK (hasZ_mem hc)
    obtain ⟨d, hd, _, hdp, _⟩ := kidB_iff.1 ((fitsB_iff.1 (h3 q y hy)).2.2.1 _ hm)
    rw [getC_nat, hx] at hd
    injection hd with hd
    subst hd
    have hq := (List.getElem?_eq_some_iff.1 hy).1
    exact .inr ⟨by omega, by omega⟩
end Go.Proofs.Ytllfkiifkkcinaa
/- Package forest's Right. -/
namespace Go.Proofs.Ytllfkiifkkcinaa
open Go.RowKit
set_option maxHeartbeats 8000000 in
set_option maxRecDepth 100000 in
theorem rightF_any (a : Option Addr) (len cap : Nat) (m : Int) (L : List NodeD) (w : World) (h : NodeRow w a len cap L) (hm : In64 m) (hs : smallF L) :
    Calls Try.prog 19 #[forV a len cap m] w fun e w' => e = .returned (.bool (rightF m (coreL L))) ∧ Below w.heap.size w w' := by
  rw [← right_eq]
  have HL := Lib.hid h.hlen
  have HCL : Hid ((coreL L).length = len) := Lib.hid (by rw [coreL_len, HL.out])
  have hlen : len ≤ 1000 := by rw [← h.hlen]; exact hs.1
  have BX := Lib.hid (Box.start (m := m) h)
  obtain ⟨hm0, hm1⟩ := hm
  have z0 := BX.out.c0
  have z1 := BX.out.c1
  have HS := Lib.hid hs
  have HRC : Hid (rightC m (coreL L) = (decide (m ≤ 400) && decide ((len : Int) ≤ m) && isKd (coreL L) 0 0 && allFit (coreL L) && namedB (coreL L) && waysB (coreL L))) := Lib.hid (by unfold rightC; rw [HCL.out])
  have CI : Hid (∀ W, NodeRow W a len cap L → Calls Try.prog 60 #[.slice a len cap, .int .i64 0, .int .i64 0] W fun e w' => e = .returned (.bool (isKd (coreL L) 0 0)) ∧ W = w') := Lib.hid (fun W h => is_any a len cap L 0 0 W h ⟨by omega, by omega⟩)
  clear h hs
  generalize rightC m (coreL L) = R at HRC ⊢
  by_cases q1 : m ≤ 400
  rotate_left
  · have HR : Hid (R = false) := Lib.hid (by rw [HRC.out, decide_eq_false q1]; rfl)
    clear HRC
    go_enter Try.func19, Try.ntmps19
    go_wp2
    go_ret
    exact ⟨ret_bool HR.out.symm, BX.out.below⟩
  by_cases q2 : (len : Int) ≤ m
  rotate_left
  · have HR : Hid (R = false) := Lib.hid (by rw [HRC.out, decide_eq_false q2]; simp)
    clear HRC
    go_enter Try.func19, Try.ntmps19
    go_wp2
    go_ret
    exact ⟨ret_bool HR.out.symm, BX.out.below⟩
  rw [decide_eq_true q1, decide_eq_true q2, Bool.true_and, Bool.true_and] at HRC
  cases q3 : isKd (coreL L) 0 0 with
  | false =>
    rw [q3] at CI HRC
    have HR : Hid (R = false) := Lib.hid (by rw [HRC.out]; rfl)
    clear HRC q3
    go_enter Try.func19, Try.ntmps19
    go_wp2_with (first
                    | (go_at_call 60; (refine (CI.out _ BX.out.row).mono ?_); rintro e w1 ⟨rfl, rfl⟩)
                    | (go_at_call 59; (refine (CF.out _ BX.out.row).mono ?_); rintro e w1 ⟨rfl, hb⟩; have BX := Lib.hid (BX.out.keep hb); have z0 := BX.out.c0; have z1 := BX.out.c1; clear hb)
                    | (go_at_call 61; (refine (CN.out _ BX.out.row).mono ?_); rintro e w1 ⟨rfl, hb⟩; have BX := Lib.hid (BX.out.keep hb); have z0 := BX.out.c0; have z1 := BX.out.c1; clear hb)
                    | (go_at_call 62; (refine (CW.out _ BX.out.row).mono ?_); rintro e w1 ⟨rfl, hb⟩; have BX := Lib.hid (BX.out.keep hb); have z0 := BX.out.c0; have z1 := BX.out.c1; clear hb))
    go_ret
    exact ⟨ret_bool HR.out.symm, BX.out.below⟩
  | true =>
    rw [q3, Bool.true_and] at HRC
    rw [q3] at CI
    clear q3
    go_enter Try.func19, Try.ntmps19
    go_wp2_with (first
                    | (go_at_call 60; (refine (CI.out _ BX.out.row).mono ?_); rintro e w1 ⟨rfl, rfl⟩)
                    | (go_at_call 59; (refine (CF.out _ BX.out.row).mono ?_); rintro e w1 ⟨rfl, hb⟩; have BX := Lib.hid (BX.out.keep hb); have z0 := BX.out.c0; have z1 := BX.out.c1; clear hb)
                    | (go_at_call 61; (refine (CN.out _ BX.out.row).mono ?_); rintro e w1 ⟨rfl, hb⟩; have BX := Lib.hid (BX.out.keep hb); have z0 := BX.out.c0; have z1 := BX.out.c1; clear hb)
                    | (go_at_call 62; (refine (CW.out _ BX.out.row).mono ?_); rintro e w1 ⟨rfl, hb⟩; have BX := Lib.hid (BX.out.keep hb); have z0 := BX.out.c0; have z1 := BX.out.c1; clear hb))
    go_loopw [24] (fun i wr => ∃ k : Nat, k ≤ len ∧ i = .int .i64 k ∧ Hid (Box w wr w.heap.size a len cap m L (coreL L)) ∧ Hid (∀ (j : Nat) x, j < k → (coreL L)[j]? = some x → fitsB (coreL L) (j : Int) x = true)) (fun i _ => len - (intOf i).toNat)
    case atStart => exact ⟨0, Nat.zero_le _, rfl, BX, Lib.hid (fun j x hj => absurd hj (by omega))⟩
    case round =>
      clear BX z0 z1
      obtain ⟨k, hk, rfl, BX, HA⟩ := hrel
      have z0 := BX.out.c0
      have z1 := BX.out.c1
      by_cases hlt : k < len
      · obtain ⟨b, off, x, hab, hb, hx, hc, hok⟩ := BX.out.row.get hlt
        have HX : Hid ((coreL L)[k]? = some x.core) := Lib.hid (coreL_get hx)
        have CF : Hid (∀ W, NodeRow W a len cap L → Calls Try.prog 59 #[.slice a len cap, .int .i64 k] W fun e w' => e = .returned (.bool (fitsB (coreL L) k x.core)) ∧ Below W.heap.size W w') := Lib.hid (fun W h => fits_any a len cap L k x W h hx)
        clear hab hb hx hc hok
        cases q4 : fitsB (coreL L) (k : Int) x.core with
        | false =>
          rw [q4] at CF
          have HR : Hid (R = false) := Lib.hid (by
            have : allFit (coreL L) = false := by
              cases hq : allFit (coreL L) with
              | false => rfl
              | true =>
                have := allFit_iff.1 hq k _ HX.out
                rw [q4] at this
                cases this
            rw [HRC.out, this]
            rfl)
          clear q4
          go_wp2_with (first
                          | (go_at_call 60; (refine (CI.out _ BX.out.row).mono ?_); rintro e w1 ⟨rfl, rfl⟩)
                          | (go_at_call 59; (refine (CF.out _ BX.out.row).mono ?_); rintro e w1 ⟨rfl, hb⟩; have BX := Lib.hid (BX.out.keep hb); have z0 := BX.out.c0; have z1 := BX.out.c1; clear hb)
                          | (go_at_call 61; (refine (CN.out _ BX.out.row).mono ?_); rintro e w1 ⟨rfl, hb⟩; have BX := Lib.hid (BX.out.keep hb); have z0 := BX.out.c0; have z1 := BX.out.c1; clear hb)
                          | (go_at_call 62; (refine (CW.out _ BX.out.row).mono ?_); rintro e w1 ⟨rfl, hb⟩; have BX := Lib.hid (BX.out.keep hb); have z0 := BX.out.c0; have z1 := BX.out.c1; clear hb))
          go_ret
          exact ⟨ret_bool HR.out.symm, BX.out.below⟩
        | true =>
          rw [q4] at CF
          have HA2 : Hid (∀ (j : Nat) x, j < k + 1 → (coreL L)[j]? = some x → fitsB (coreL L) (j : Int) x = true) := Lib.hid (fun j y hj hy => by
            by_cases e : j = k
            · subst e
              rw [HX.out] at hy
              rw [← Option.some.inj hy]
              exact q4
            · exact HA.out j y (by omega) hy)
          clear q4
          go_wp2_with (first
                          | (go_at_call 60; (refine (CI.out _ BX.out.row).mono ?_); rintro e w1 ⟨rfl, rfl⟩)
                          | (go_at_call 59; (refine (CF.out _ BX.out.row).mono ?_); rintro e w1 ⟨rfl, hb⟩; have BX := Lib.hid (BX.out.keep hb); have z0 := BX.out.c0; have z1 := BX.out.c1; clear hb)
                          | (go_at_call 61; (refine (CN.out _ BX.out.row).mono ?_); rintro e w1 ⟨rfl, hb⟩; have BX := Lib.hid (BX.out.keep hb); have z0 := BX.out.c0; have z1 := BX.out.c1; clear hb)
                          | (go_at_call 62; (refine (CW.out _ BX.out.row).mono ?_); rintro e w1 ⟨rfl, hb⟩; have BX := Lib.hid (BX.out.keep hb); have z0 := BX.out.c0; have z1 := BX.out.c1; clear hb))
          go_roundw
          case rel => exact ⟨k + 1, by omega, by go_num, BX, HA2⟩
          case measure => simp [intOf]; omega
      · have hkk : k = len := by omega
        subst hkk
        have HF : Hid (allFit (coreL L) = true) := Lib.hid (allFit_iff.2 (fun i x hx => HA.out i x (by have := (List.getElem?_eq_some_iff.1 hx).1; rw [HCL.out] at this; exact this) hx))
        have CN : Hid (∀ W, NodeRow W a k cap L → Calls Try.prog 61 #[.slice a k cap] W fun e w' => e = .returned (.bool (namedB (coreL L))) ∧ Below W.heap.size W w') := Lib.hid (fun W h => namedOnce_any a k cap L W h (fun x hx z hz => by
          have := fit_kids HF.out x.core (List.mem_map.2 ⟨x, hx, rfl⟩) z hz
          rw [HCL.out] at this
          exact this) HS.out)
        cases q5 : namedB (coreL L) with
        | false =>
          rw [q5] at CN HRC
          have HR : Hid (R = false) := Lib.hid (by rw [HRC.out]; simp)
          clear q5
          go_wp2_with (first
                          | (go_at_call 60; (refine (CI.out _ BX.out.row).mono ?_); rintro e w1 ⟨rfl, rfl⟩)
                          | (go_at_call 59; (refine (CF.out _ BX.out.row).mono ?_); rintro e w1 ⟨rfl, hb⟩; have BX := Lib.hid (BX.out.keep hb); have z0 := BX.out.c0; have z1 := BX.out.c1; clear hb)
                          | (go_at_call 61; (refine (CN.out _ BX.out.row).mono ?_); rintro e w1 ⟨rfl, hb⟩; have BX := Lib.hid (BX.out.keep hb); have z0 := BX.out.c0; have z1 := BX.out.c1; clear hb)
                          | (go_at_call 62; (refine (CW.out _ BX.out.row).mono ?_); rintro e w1 ⟨rfl, hb⟩; have BX := Lib.hid (BX.out.keep hb); have z0 := BX.out.c0; have z1 := BX.out.c1; clear hb))
          go_ret
          exact ⟨ret_bool HR.out.symm, BX.out.below⟩
        | true =>
          have HR : Hid (R = waysB (coreL L)) := Lib.hid (by rw [HRC.out, HF.out, q5]; rfl)
          have CW : Hid (∀ W, NodeRow W a k cap L → Calls Try.prog 62 #[.slice a k cap] W fun e w' => e = .returned (.bool (waysB (coreL L))) ∧ Below W.heap.size W w') := Lib.hid (fun W h => waysEnd_any a k cap L W h (by
            have := fit_up HF.out q5
            rw [HCL.out] at this
            exact this) HS.out)
          rw [q5] at CN
          clear q5
          go_wp2_with (first
                          | (go_at_call 60; (refine (CI.out _ BX.out.row).mono ?_); rintro e w1 ⟨rfl, rfl⟩)
                          | (go_at_call 59; (refine (CF.out _ BX.out.row).mono ?_); rintro e w1 ⟨rfl, hb⟩; have BX := Lib.hid (BX.out.keep hb); have z0 := BX.out.c0; have z1 := BX.out.c1; clear hb)
                          | (go_at_call 61; (refine (CN.out _ BX.out.row).mono ?_); rintro e w1 ⟨rfl, hb⟩; have BX := Lib.hid (BX.out.keep hb); have z0 := BX.out.c0; have z1 := BX.out.c1; clear hb)
                          | (go_at_call 62; (refine (CW.out _ BX.out.row).mono ?_); rintro e w1 ⟨rfl, hb⟩; have BX := Lib.hid (BX.out.keep hb); have z0 := BX.out.c0; have z1 := BX.out.c1; clear hb))
          go_ret
          exact ⟨ret_bool HR.out.symm, BX.out.below⟩
end Go.Proofs.Ytllfkiifkkcinaa
/- Package forest's knows, root, Root, Holds, Place. -/
namespace Go.Proofs.Ytllfkiifkkcinaa
open Go.RowKit
/-- A literal list of numbers, just made. -/
theorem lit_one (w : World) (e : TypeId) (n : Int) (h : In64 n) : IntRow (w.alloc (.cells #[.int .i64 n] e)) (some ⟨w.heap.size, 0, none⟩) 1 1 [n] :=
  ⟨own_one w e n #[.int .i64 n] rfl rfl, fun z hz => by simp at hz; rw [hz]; exact h, fun h => by cases h⟩
theorem lit_two (w : World) (e : TypeId) (n m : Int) (h1 : In64 n) (h2 : In64 m) : IntRow (w.alloc (.cells #[.int .i64 n, .int .i64 m] e)) (some ⟨w.heap.size, 0, none⟩) 2 2 [n, m] := by
  refine ⟨⟨rfl, Nat.le_refl _, by unfold maxLen; omega, fun y hy => rfl, .inr ⟨_, _, rfl, by simp, fun i y j v hy hv => ?_⟩⟩, fun z hz => by simp at hz; rcases hz with rfl | rfl <;> assumption, fun h => by cases h⟩
  obtain ⟨hj, hv2⟩ := List.getElem?_eq_some_iff.1 hv
  have hj0 : j = 0 := by simpa [encZ] using hj
  subst hj0
  simp [encZ] at hv2
  subst hv2
  rw [cell_of_row (w.alloc (.cells #[.int .i64 n, .int .i64 m] e)) w.heap.size (0 + i * 1 + 0) _ e (0, 0) (heap_alloc_new w _)]
  match i, hy with
  | 0, hy => simp at hy; subst hy; rfl
  | 1, hy => simp at hy; subst hy; rfl
  | i + 2, hy => simp at hy
def inB (len : Nat) (z : Int) : Bool := decide (0 ≤ z) && decide (z < (len : Int))
def knowsB (m : Int) (F : List Core) (l : List Int) : Bool := l.all (inB F.length) && rightF m F
set_option maxHeartbeats 4000000 in
set_option maxRecDepth 100000 in
theorem knows_any (a : Option Addr) (len cap : Nat) (m : Int) (L : List NodeD) (b : Option Addr) (ln cn : Nat) (l : List Int) (w : World) (h : NodeRow w a len cap L) (hm : In64 m) (hs : smallF L) (hn : IntRow w b ln cn l) :
    Calls Try.prog 64 #[forV a len cap m, .slice b ln cn] w fun e w' => e = .returned (.bool (knowsB m (coreL L) l)) ∧ Below w.heap.size w w' := by
  have HL := Lib.hid h.hlen
  have hlen := h.len64
  have HNL := Lib.hid hn.hlen
  have hln := hn.len64
  have BX := Lib.hid (Box.start (m := m) h)
  have NR := Lib.hid (hn.below (below_box w (forB a len cap m)))
  have z0 := BX.out.c0
  have z1 := BX.out.c1
  have CR : Hid (∀ W, NodeRow W a len cap L → Calls Try.prog 19 #[forV a len cap m] W fun e w' => e = .returned (.bool (rightF m (coreL L))) ∧ Below W.heap.size W w') := Lib.hid (fun W h => rightF_any a len cap m L W h hm hs)
  clear h hm hs hn
  go_enter Try.func64, Try.ntmps64
  go_wp2
  go_loop [9] (fun i => ∃ k : Nat, k ≤ ln ∧ i = .int .i64 k ∧ Hid (∀ (j : Nat) z, j < k → l[j]? = some z → inB (coreL L).length z = true)) (fun i => ln - (intOf i).toNat)
  case atStart => exact ⟨0, Nat.zero_le _, rfl, Lib.hid (fun j z hj => absurd hj (by omega))⟩
  case round =>
    obtain ⟨k, hk, rfl, HA⟩ := hrel
    by_cases hlt : k < ln
    · obtain ⟨b2, off2, z, rfl, hb2, hz, hcz, hin⟩ := NR.out.get hlt
      have STOP : Hid (inB (coreL L).length z = false → knowsB m (coreL L) l = false) := Lib.hid (fun hq => by
        unfold knowsB
        have : l.all (inB (coreL L).length) = false := by rw [List.all_eq_false]; exact ⟨z, List.mem_of_getElem? hz, by simp [hq]⟩
        rw [this]
        rfl)
      by_cases q1 : z < 0
      · have HR : Hid (knowsB m (coreL L) l = false) := Lib.hid (STOP.out (by unfold inB; rw [decide_eq_false (by omega)]; rfl))
        clear hz
        go_wp2
        go_ret
        exact ⟨ret_bool HR.out.symm, BX.out.below⟩
      by_cases q2 : (len : Int) ≤ z
      · have HR : Hid (knowsB m (coreL L) l = false) := Lib.hid (STOP.out (by unfold inB; rw [decide_eq_false (show ¬ z < ((coreL L).length : Int) by rw [coreL_len, HL.out]; omega), Bool.and_false]))
        clear hz
        go_wp2
        go_ret
        exact ⟨ret_bool HR.out.symm, BX.out.below⟩
      have HA2 : Hid (∀ (j : Nat) z, j < k + 1 → l[j]? = some z → inB (coreL L).length z = true) := Lib.hid (fun j y hj hy => by
        by_cases e : j = k
        · subst e
          rw [hz] at hy
          rw [← Option.some.inj hy]
          unfold inB
          rw [decide_eq_true (by omega), decide_eq_true (by rw [coreL_len, HL.out]; omega)]
          rfl
        · exact HA.out j y (by omega) hy)
      clear hz
      go_wp2
      go_round
      case rel => exact ⟨k + 1, by omega, by go_num, HA2⟩
      case measure => simp [intOf]; omega
    · have HR : Hid (knowsB m (coreL L) l = rightF m (coreL L)) := Lib.hid (by
        unfold knowsB
        have : l.all (inB (coreL L).length) = true := by
          rw [List.all_eq_true]
          intro z hz
          obtain ⟨j, hj, he⟩ := List.mem_iff_getElem.1 hz
          exact HA.out j z (by rw [HNL.out] at hj; omega) (by rw [List.getElem?_eq_getElem hj, he])
        rw [this]
        rfl)
      clear HA
      go_wp2_with (go_at_call 19; (refine (CR.out _ BX.out.row).mono ?_); rintro e w1 ⟨rfl, hb⟩; have BX := Lib.hid (BX.out.keep hb); clear hb)
      go_ret
      exact ⟨ret_bool HR.out.symm, BX.out.below⟩
theorem right_par {m : Int} {F : List Core} (h : rightF m F = true) {c : Nat} {x : Core} (hx : F[c]? = some x) (hp : x.parent ≠ -1) : ∃ p : Nat, x.parent = p ∧ p < F.length ∧ parF F c = some p := by
  have h1 := (nodeOk_iff.1 (((rightF_iff m F).1 h).2.1 c x hx)).2.1
  unfold parOk at h1
  rw [beq_eq_false_iff_ne.2 hp, Bool.false_or, Bool.and_eq_true] at h1
  cases hg : getC F x.parent with
  | none => rw [hg] at h1; simp at h1
  | some d =>
    obtain ⟨e1, e2, _⟩ := getC_some hg
    refine ⟨x.parent.toNat, by omega, e2, ?_⟩
    unfold parF
    rw [hx]
    dsimp only
    rw [if_neg hp]
theorem right_top {F : List Core} {c : Nat} {x : Core} (hx : F[c]? = some x) (hp : x.parent = -1) : parF F c = none := by
  unfold parF
  rw [hx]
  dsimp only
  rw [if_pos hp]
set_option maxHeartbeats 4000000 in
set_option maxRecDepth 100000 in
theorem rootUp_any (a : Option Addr) (len cap : Nat) (m : Int) (L : List NodeD) (n : Nat) (w : World) (h : NodeRow w a len cap L) (hr : rightF m (coreL L) = true) (hn : n < len) :
    Calls Try.prog 65 #[.slice a len cap, .int .i64 n] w fun e w' => e = .returned (.int .i64 (rootF (coreL L) n : Nat)) ∧ w = w' := by
  have HCL : Hid ((coreL L).length = len) := Lib.hid (by rw [coreL_len, h.hlen])
  have hlen := h.len64
  have TR := Lib.hid (tree_of_right hr)
  have HH := Lib.hid h
  have HRT := Lib.hid hr
  clear h hr
  go_enter Try.func65, Try.ntmps65
  go_wp2
  go_loop [1] (fun i => ∃ c : Nat, c < len ∧ i = .int .i64 c ∧ Hid (rootF (coreL L) c = rootF (coreL L) n)) (fun i => rankF (coreL L) (intOf i).toNat)
  case atStart => exact ⟨n, hn, rfl, Lib.hid rfl⟩
  case round =>
    obtain ⟨c, hc, rfl, HE⟩ := hrel
    obtain ⟨b, off, x, rfl, hb, hx, hat, hok⟩ := HH.out.get hc
    have c5 := hat.c5
    have hxc := coreL_get hx
    by_cases hp : x.core.parent = -1
    · have HR : Hid (rootF (coreL L) n = c) := Lib.hid (by
        rw [← HE.out]
        exact rootN_none (right_top hxc hp))
      rw [hp] at c5
      clear hxc hx hat hok hp
      go_wp2
      go_ret
      exact ⟨ret_int (by rw [HR.out]), rfl⟩
    · obtain ⟨p, hpp, hpl, hpar⟩ := right_par HRT.out hxc hp
      have hcl : c < (coreL L).length := by rw [HCL.out]; exact hc
      have hrk := TR.out.rank_up _ c hcl hpar
      have HE2 : Hid (rootF (coreL L) p = rootF (coreL L) n) := Lib.hid (by
        rw [← HE.out]
        exact TR.out.root_held hcl (by omega) (holds_par hpar))
      rw [hpp] at c5
      rw [HCL.out] at hpl
      have hne : ((p : Int) != -1) = true := bne_iff_ne.2 (by omega)
      have HRK := Lib.hid hrk
      clear hpar hxc hx hat hok hp hpp hrk
      go_wp2
      go_round
      case rel => exact ⟨p, hpl, rfl, HE2⟩
      case measure => simp [intOf]; rw [HRK.out]; omega
theorem knowsB_one {m : Int} {F : List Core} {n : Int} : knowsB m F [n] = thereF m F n := by
  unfold knowsB thereF inB
  rw [Bool.eq_iff_iff]
  simp
  constructor
  · rintro ⟨⟨h1, h2⟩, h3⟩
    exact ⟨⟨h3, h1⟩, h2⟩
  · rintro ⟨⟨h3, h1⟩, h2⟩
    exact ⟨⟨h1, h2⟩, h3⟩
theorem knowsB_two {m : Int} {F : List Core} {x y : Int} : knowsB m F [x, y] = (thereF m F x && thereF m F y) := by
  unfold knowsB thereF inB
  rw [Bool.eq_iff_iff]
  simp
  constructor
  · rintro ⟨⟨⟨h1, h2⟩, h3, h4⟩, h5⟩
    exact ⟨⟨⟨h5, h1⟩, h2⟩, ⟨h5, h3⟩, h4⟩
  · rintro ⟨⟨⟨h5, h1⟩, h2⟩, ⟨_, h3⟩, h4⟩
    exact ⟨⟨⟨h1, h2⟩, h3, h4⟩, h5⟩
theorem there_nat {m : Int} {F : List Core} {n : Int} (h : thereF m F n = true) : rightF m F = true ∧ ∃ k : Nat, n = k ∧ k < F.length := by
  unfold thereF at h
  simp only [Bool.and_eq_true, decide_eq_true_eq] at h
  exact ⟨h.1.1, n.toNat, by omega, by omega⟩
set_option maxHeartbeats 4000000 in
set_option maxRecDepth 100000 in
theorem rootFn_any (a : Option Addr) (len cap : Nat) (m : Int) (L : List NodeD) (n : Int) (w : World) (h : NodeRow w a len cap L) (hm : In64 m) (hn : In64 n) (hs : smallF L) :
    Calls Try.prog 22 #[forV a len cap m, .int .i64 n] w fun e w' => e = .returned (.int .i64 (rootZ m (coreL L) n)) ∧ Below w.heap.size w w' := by
  have HCL : Hid ((coreL L).length = len) := Lib.hid (by rw [coreL_len, h.hlen])
  have BX := Lib.hid ((Box.start (m := m) h).keep (below_box _ (.cells #[.int .i64 n] 3)))
  have NB := Lib.hid (lit_one (w.alloc (forB a len cap m)) 3 n hn)
  have CK : Hid (∀ W b, NodeRow W a len cap L → IntRow W b 1 1 [n] → Calls Try.prog 64 #[forV a len cap m, .slice b 1 1] W fun e w' => e = .returned (.bool (thereF m (coreL L) n)) ∧ Below W.heap.size W w') := Lib.hid (fun W b h1 h2 => by
    rw [← knowsB_one]
    exact knows_any a len cap m L b 1 1 [n] W h1 hm hs h2)
  simp only [World.size_alloc] at NB
  have z0 := BX.out.c0
  have z1 := BX.out.c1
  clear h hm hs hn
  cases q : thereF m (coreL L) n with
  | false =>
    rw [q] at CK
    have HR : Hid (rootZ m (coreL L) n = -1) := Lib.hid (by unfold rootZ; rw [q]; rfl)
    clear q
    go_enter Try.func22, Try.ntmps22
    go_wp2_with (first
                    | (go_at_call 64; ((with_reducible refine (CK.out _ _ BX.out.row NB.out).mono ?_); rintro e w1 ⟨rfl, hb⟩; have BX := Lib.hid (BX.out.keep hb); have z0 := BX.out.c0; have z1 := BX.out.c1; clear hb))
                    | (go_at_call 65; ((with_reducible refine (CU.out _ BX.out.row).mono ?_); rintro e w1 ⟨rfl, rfl⟩)))
    go_ret
    exact ⟨ret_int HR.out.symm, BX.out.below⟩
  | true =>
    rw [q] at CK
    obtain ⟨hr, k, rfl, hk⟩ := there_nat q
    have HR : Hid (rootZ m (coreL L) k = (rootF (coreL L) k : Nat)) := Lib.hid (rootZ_eq hr hk)
    have CU : Hid (∀ W, NodeRow W a len cap L → Calls Try.prog 65 #[.slice a len cap, .int .i64 k] W fun e w' => e = .returned (.int .i64 (rootF (coreL L) k : Nat)) ∧ W = w') := Lib.hid (fun W h => rootUp_any a len cap m L k W h hr (by rw [← HCL.out]; exact hk))
    clear q hr hk
    go_enter Try.func22, Try.ntmps22
    go_wp2_with (first
                    | (go_at_call 64; ((with_reducible refine (CK.out _ _ BX.out.row NB.out).mono ?_); rintro e w1 ⟨rfl, hb⟩; have BX := Lib.hid (BX.out.keep hb); have z0 := BX.out.c0; have z1 := BX.out.c1; clear hb))
                    | (go_at_call 65; ((with_reducible refine (CU.out _ BX.out.row).mono ?_); rintro e w1 ⟨rfl, rfl⟩)))
    go_ret
    exact ⟨ret_int HR.out.symm, BX.out.below⟩
end Go.Proofs.Ytllfkiifkkcinaa
/- Package forest's Holds, Place; slices.Index over numbers. -/
namespace Go.Proofs.Ytllfkiifkkcinaa
open Go.RowKit
set_option maxHeartbeats 4000000 in
theorem index_any (a : Option Addr) (len cap : Nat) (L : List Int) (n : Int) (w : World) (h : IntRow w a len cap L) :
    Calls Try.prog 67 #[.slice a len cap, .int .i64 n] w fun e w' => e = .returned (.int .i64 (findZ L n)) ∧ w = w' := by
  have hl := h.len64
  have HH := Lib.hid h
  clear h
  go_enter Try.func67, Try.ntmps67
  go_wp2
  go_loop [8] (fun i => ∃ k : Nat, k ≤ len ∧ i = .int .i64 k ∧ Hid (k ≤ findN L n)) (fun i => len - (intOf i).toNat)
  case atStart => exact ⟨0, Nat.zero_le _, rfl, Lib.hid (Nat.zero_le _)⟩
  case round =>
    obtain ⟨k, hk, rfl, HA⟩ := hrel
    by_cases hlt : k < len
    · obtain ⟨b, off, z, rfl, hb, hx, hc, _⟩ := HH.out.get hlt
      have HX := Lib.hid hx
      clear hx
      by_cases he : n = z
      · have HR : Hid (findZ L n = (k : Int)) := Lib.hid (by
          have := findN_here HA.out HX.out (beq_iff_eq.2 he.symm)
          unfold findZ
          rw [this, if_pos (by rw [HH.out.hlen]; exact hlt)])
        subst he
        go_wp2
        go_ret
        exact ⟨ret_int HR.out.symm, rfl⟩
      · have e1 : (n == z) = false := beq_eq_false_iff_ne.2 he
        have HR := Lib.hid (findN_step HA.out HX.out (beq_eq_false_iff_ne.2 (fun e => he e.symm)))
        clear he
        go_wp2
        go_round
        case rel => exact ⟨k + 1, by omega, by go_num, HR⟩
        case measure => simp [intOf]; omega
    · have HR : Hid (findZ L n = -1) := Lib.hid (by unfold findZ; rw [if_neg (by rw [HH.out.hlen]; have := HA.out; omega)])
      go_wp2
      go_ret
      exact ⟨ret_int HR.out.symm, rfl⟩
set_option maxHeartbeats 4000000 in
set_option maxRecDepth 100000 in
theorem holdsFn_any (a : Option Addr) (len cap : Nat) (m : Int) (L : List NodeD) (x y : Int) (w : World) (h : NodeRow w a len cap L) (hm : In64 m) (hx : In64 x) (hy : In64 y) (hs : smallF L) :
    Calls Try.prog 24 #[forV a len cap m, .int .i64 x, .int .i64 y] w fun e w' => e = .returned (.bool (holdsZ m (coreL L) x y)) ∧ Below w.heap.size w w' := by
  have HCL : Hid ((coreL L).length = len) := Lib.hid (by rw [coreL_len, h.hlen])
  have hlen := h.len64
  have BX := Lib.hid ((Box.start (m := m) h).keep (below_box _ (.cells #[.int .i64 x, .int .i64 y] 3)))
  have NB := Lib.hid (lit_two (w.alloc (forB a len cap m)) 3 x y hx hy)
  have CK : Hid (∀ W b, NodeRow W a len cap L → IntRow W b 2 2 [x, y] → Calls Try.prog 64 #[forV a len cap m, .slice b 2 2] W fun e w' => e = .returned (.bool (thereF m (coreL L) x && thereF m (coreL L) y)) ∧ Below W.heap.size W w') := Lib.hid (fun W b h1 h2 => by
    rw [← knowsB_two]
    exact knows_any a len cap m L b 2 2 [x, y] W h1 hm hs h2)
  simp only [World.size_alloc] at NB
  have z0 := BX.out.c0
  have z1 := BX.out.c1
  clear h hm hs hx hy
  cases q : (thereF m (coreL L) x && thereF m (coreL L) y) with
  | false =>
    rw [q] at CK
    have HR : Hid (holdsZ m (coreL L) x y = false) := Lib.hid (by unfold holdsZ; rw [q]; rfl)
    clear q
    go_enter Try.func24, Try.ntmps24
    go_wp2_with (first
                    | (go_at_call 64; ((with_reducible refine (CK.out _ _ BX.out.row NB.out).mono ?_); rintro e w1 ⟨rfl, hb⟩; have BX := Lib.hid (BX.out.keep hb); have z0 := BX.out.c0; have z1 := BX.out.c1; clear hb))
                    | (go_at_call 65; ((with_reducible refine (CU.out _ BX.out.row).mono ?_); rintro e w1 ⟨rfl, rfl⟩)))
    go_ret
    exact ⟨ret_bool HR.out.symm, BX.out.below⟩
  | true =>
    rw [q] at CK
    rw [Bool.and_eq_true] at q
    obtain ⟨hr, X, rfl, hX⟩ := there_nat q.1
    obtain ⟨-, Y, rfl, hY⟩ := there_nat q.2
    have HI := Lib.hid (holdsZ_iff hr hX hY)
    have HRT := Lib.hid hr
    rw [HCL.out] at hX hY
    have TR := Lib.hid (tree_of_right hr)
    clear q hr
    go_enter Try.func24, Try.ntmps24
    go_wp2_with (first
                    | (go_at_call 64; ((with_reducible refine (CK.out _ _ BX.out.row NB.out).mono ?_); rintro e w1 ⟨rfl, hb⟩; have BX := Lib.hid (BX.out.keep hb); have z0 := BX.out.c0; have z1 := BX.out.c1; clear hb))
                    | (go_at_call 65; ((with_reducible refine (CU.out _ BX.out.row).mono ?_); rintro e w1 ⟨rfl, rfl⟩)))
    go_loop [2] (fun i => (i = .int .i64 (-1) ∧ Hid (¬ holdsT (parF (coreL L)) X Y)) ∨ ∃ c : Nat, c < len ∧ i = .int .i64 c ∧ Hid (holdsT (parF (coreL L)) X c ↔ holdsT (parF (coreL L)) X Y)) (fun i => if intOf i = -1 then 0 else rankF (coreL L) (intOf i).toNat + 1)
    case atStart => exact .inr ⟨Y, hY, rfl, Lib.hid Iff.rfl⟩
    case round =>
      rcases hrel with ⟨rfl, HN⟩ | ⟨c, hc, rfl, HE⟩
      · have HR : Hid (holdsZ m (coreL L) X Y = false) := Lib.hid (by
          cases hq : holdsZ m (coreL L) X Y with
          | false => rfl
          | true => exact absurd (HI.out.1 hq) HN.out)
        have hne : ((-1 : Int) != (X : Int)) = true := bne_iff_ne.2 (by omega)
        have hne2 : ((-1 : Int) == (X : Int)) = false := beq_eq_false_iff_ne.2 (by omega)
        go_wp2
        go_ret
        exact ⟨ret_bool HR.out.symm, BX.out.below⟩
      · by_cases he : c = X
        · have HR : Hid (holdsZ m (coreL L) X Y = true) := Lib.hid (HI.out.2 (HE.out.1 (by rw [he]; exact holds_refl X)))
          have e1 : ((c : Int) != (X : Int)) = false := by rw [he]; simp
          have e2 : ((c : Int) == (X : Int)) = true := by rw [he]; simp
          clear he
          go_wp2
          go_ret
          exact ⟨ret_bool HR.out.symm, BX.out.below⟩
        · have hne : ((c : Int) != (X : Int)) = true := bne_iff_ne.2 (by omega)
          have hne2 : ((c : Int) != -1) = true := bne_iff_ne.2 (by omega)
          obtain ⟨b, off, nx, hab, hb, hx, hat, hok⟩ := BX.out.row.get hc
          have c5 := hat.c5
          have hxc := coreL_get hx
          subst hab
          have hcl : c < (coreL L).length := by rw [HCL.out]; exact hc
          by_cases hp : nx.core.parent = -1
          · have HN : Hid (¬ holdsT (parF (coreL L)) X Y) := Lib.hid (fun ht => by
              rcases holds_up (HE.out.2 ht) with h | ⟨p, h1, _⟩
              · exact he h.symm
              · rw [right_top hxc hp] at h1
                cases h1)
            rw [hp] at c5
            clear hxc hx hat hok hp he hb
            go_wp2
            go_round
            case rel => exact .inl ⟨rfl, HN⟩
            case measure => simp [intOf]
          · obtain ⟨p, hpp, hpl, hpar⟩ := right_par HRT.out hxc hp
            have HRK := Lib.hid (TR.out.rank_up _ c hcl hpar)
            have HE2 : Hid (holdsT (parF (coreL L)) X p ↔ holdsT (parF (coreL L)) X Y) := Lib.hid (by
              rw [← HE.out]
              constructor
              · exact fun h => holds_trans h (holds_par hpar)
              · intro h
                rcases holds_up h with h | ⟨q, h1, h2⟩
                · exact absurd h.symm he
                · rw [hpar] at h1
                  injection h1 with h1
                  subst h1
                  exact h2)
            rw [hpp] at c5
            rw [HCL.out] at hpl
            clear hxc hx hat hok hp he hb hpar hpp
            go_wp2
            go_round
            case rel => exact .inr ⟨p, hpl, rfl, HE2⟩
            case measure =>
              have := HRK.out
              unfold rankF at this ⊢
              simp [intOf]
              omega
set_option maxHeartbeats 4000000 in
set_option maxRecDepth 100000 in
theorem placeFn_any (a : Option Addr) (len cap : Nat) (m : Int) (L : List NodeD) (n : Int) (w : World) (h : NodeRow w a len cap L) (hm : In64 m) (hn : In64 n) (hs : smallF L) :
    Calls Try.prog 25 #[forV a len cap m, .int .i64 n] w fun e w' => e = .returned (.int .i64 (placeZ m (coreL L) n)) ∧ Below w.heap.size w w' := by
  have HCL : Hid ((coreL L).length = len) := Lib.hid (by rw [coreL_len, h.hlen])
  have hlen := h.len64
  have BX := Lib.hid ((Box.start (m := m) h).keep (below_box _ (.cells #[.int .i64 n] 3)))
  have NB := Lib.hid (lit_one (w.alloc (forB a len cap m)) 3 n hn)
  have CK : Hid (∀ W b, NodeRow W a len cap L → IntRow W b 1 1 [n] → Calls Try.prog 64 #[forV a len cap m, .slice b 1 1] W fun e w' => e = .returned (.bool (thereF m (coreL L) n)) ∧ Below W.heap.size W w') := Lib.hid (fun W b h1 h2 => by
    rw [← knowsB_one]
    exact knows_any a len cap m L b 1 1 [n] W h1 hm hs h2)
  simp only [World.size_alloc] at NB
  have z0 := BX.out.c0
  have z1 := BX.out.c1
  have HH := Lib.hid h
  clear h hm hs hn
  cases q : thereF m (coreL L) n with
  | false =>
    rw [q] at CK
    have HR : Hid (placeZ m (coreL L) n = -1) := Lib.hid (by unfold placeZ; rw [q]; rfl)
    clear q
    go_enter Try.func25, Try.ntmps25
    go_wp2_with (first
                    | (go_at_call 64; ((with_reducible refine (CK.out _ _ BX.out.row NB.out).mono ?_); rintro e w1 ⟨rfl, hb⟩; have BX := Lib.hid (BX.out.keep hb); have z0 := BX.out.c0; have z1 := BX.out.c1; clear hb))
                    | (go_at_call 65; ((with_reducible refine (CU.out _ BX.out.row).mono ?_); rintro e w1 ⟨rfl, rfl⟩)))
    go_ret
    exact ⟨ret_int HR.out.symm, BX.out.below⟩
  | true =>
    rw [q] at CK
    obtain ⟨hr, k, rfl, hk⟩ := there_nat q
    have HP : Hid (placeZ m (coreL L) k = placeF (coreL L) k) := Lib.hid (by unfold placeZ; rw [q]; rfl)
    have HRT := Lib.hid hr
    rw [HCL.out] at hk
    clear q hr
    obtain ⟨b, off, x, rfl, hb, hx, hat, hok⟩ := HH.out.get hk
    have hxc := coreL_get hx
    by_cases hp : x.core.parent = -1
    · have c5 := hat.c5
      rw [hp] at c5
      have C5 := Lib.hid (stays c5 hb)
      have HR : Hid (placeZ m (coreL L) k = -1) := Lib.hid (by rw [HP.out]; unfold placeF; rw [right_top hxc hp])
      clear hat hok hx hxc hp hb c5
      go_enter Try.func25, Try.ntmps25
      go_wp2_with (go_at_call 64; ((with_reducible refine (CK.out _ _ BX.out.row NB.out).mono ?_); rintro e w1 ⟨rfl, hb⟩; have BX := Lib.hid (BX.out.keep hb); have z0 := BX.out.c0; have z1 := BX.out.c1; have c5 := C5.out _ BX.out.below; clear hb))
      go_ret
      exact ⟨ret_int HR.out.symm, BX.out.below⟩
    · obtain ⟨p, hpp, hpl, hpar⟩ := right_par HRT.out hxc hp
      rw [HCL.out] at hpl
      have c5 := hat.c5
      rw [hpp] at c5
      have C5 := Lib.hid (stays c5 hb)
      obtain ⟨b2, off2, y, hab, hb2, hy, hat2, hok2⟩ := HH.out.get hpl
      injection hab with hab
      injection hab with e1 e2
      subst e1 e2
      have C6 := Lib.hid (stays hat2.c6 hb2)
      have HR : Hid (placeZ m (coreL L) k = findZ y.core.kids k) := Lib.hid (by rw [HP.out]; unfold placeF; rw [hpar]; dsimp only; rw [coreL_get hy])
      have CX : Hid (∀ W, Below w.heap.size w W → Calls Try.prog 67 #[.slice y.kA y.kN y.kC, .int .i64 k] W fun e w' => e = .returned (.int .i64 (findZ y.core.kids k)) ∧ W = w') := Lib.hid (fun W hb => index_any _ _ _ _ _ W (hok2.kids.below hb))
      have hne : ((p : Int) == -1) = false := beq_eq_false_iff_ne.2 (by omega)
      clear hat hok hx hxc hp hb c5 hy hat2 hok2 hb2 hpar hpp
      go_enter Try.func25, Try.ntmps25
      go_wp2_with (go_at_call 64; ((with_reducible refine (CK.out _ _ BX.out.row NB.out).mono ?_); rintro e w1 ⟨rfl, hb⟩; have BX := Lib.hid (BX.out.keep hb); have z0 := BX.out.c0; have z1 := BX.out.c1; have c5 := C5.out _ BX.out.below; clear hb))
      have E0 := Ext.cell z0 BX.out.lt
      have E5 := Ext.stays C5.out BX.out.below
      have E6 := Ext.stays C6.out BX.out.below
      have EX := Lib.hid (fun (x : Ext w1) => CX.out x.v (BX.out.below.trans (x.below.mono BX.out.below.size)))
      refine wp_region_ext (by kernel_rfl) (by kernel_rfl) ?_
      repeat (go_big_quiet_step (first | (go_at_call 67; exact Ext.call_same (EX.out _))))
      refine wpQuiet_nil ?_
      intro w3 hw'
      obtain ⟨⟨w4, hb4⟩, hw''⟩ := hw'
      dsimp only at hw''
      subst hw''
      have BX := Lib.hid (BX.out.keep hb4)
      clear E0 E5 E6 EX hb4
      go_wp2
      go_ret
      exact ⟨ret_int HR.out.symm, BX.out.below⟩
end Go.Proofs.Ytllfkiifkkcinaa
/- instarref02's At. -/
namespace Go.Proofs.Ytllfkiifkkcinaa
open Go.RowKit
theorem refat_any (a : Option Addr) (len cap : Nat) (L : AL) (n : ByteArray) (w : World) (h : AttrRow w a len cap L) :
    Calls Try.prog 92 #[.slice a len cap, .string n] w fun e w' => e = .returned (.int .i64 (atL L n.toList)) ∧ w = w' := by
  have hl := h.len64
  go_enter Try.func92, Try.ntmps92
  go_wp2
  go_loop [5] (fun i => ∃ k : Nat, k ≤ len ∧ i = .int .i64 k ∧ k ≤ atN L n.toList) (fun i => len - (intOf i).toNat)
  case atStart => exact ⟨0, Nat.zero_le _, rfl, Nat.zero_le _⟩
  case round =>
    obtain ⟨k, hk, rfl, hat⟩ := hrel
    by_cases hlt : k < len
    · obtain ⟨b, off, xn, xv, rfl, hb, hx, hc1, hc2, _, _⟩ := h.get hlt
      have HX := Lib.hid hx
      clear hx
      by_cases he : xn.toList = n.toList
      · have e1 : (xn.toList == n.toList) = true := beq_iff_eq.2 he
        have HR := Lib.hid (atL_here hat HX.out (show keyIs n.toList (xn, xv) = true from e1))
        clear he
        go_wp2
        go_ret
        exact ⟨ret_int HR.out.symm, rfl⟩
      · have e1 : (xn.toList == n.toList) = false := beq_eq_false_iff_ne.2 he
        have HR := atN_step hat HX.out (show keyIs n.toList (xn, xv) = false from e1)
        clear he
        go_wp2
        go_round
        case rel => exact ⟨k + 1, by omega, by go_num, HR⟩
        case measure => simp [intOf]; omega
    · have HR := Lib.hid (atL_none hat (by have := h.hlen; omega))
      go_wp2
      go_ret
      exact ⟨ret_int HR.out.symm, rfl⟩
end Go.Proofs.Ytllfkiifkkcinaa
/- The document's own answer Right (package instarref01). -/
namespace Go.Proofs.Ytllfkiifkkcinaa
open Go.RowKit
/-- What holds at the head of a round of the reference's Right: all bytes before are signs, and the first may begin. -/
def RightAt (l : List UInt8) (k : Nat) : Prop := (l.take k).all signB = true ∧ (0 < k → headB (l.headD 0) = true)
theorem RightAt.start (l : List UInt8) : RightAt l 0 := ⟨rfl, fun h => absurd h (by omega)⟩
theorem RightAt.next {l : List UInt8} {k : Nat} {c : UInt8} (h : RightAt l k) (hc : l[k]? = some c) (hk : k = 0 ∧ headB c = true ∨ 0 < k ∧ signB c = true) : RightAt l (k + 1) := by
  rcases hk with ⟨rfl, hk⟩ | ⟨hk, hs⟩
  · refine ⟨(all_take_succ l 0 c hc rfl).trans (sign_of_head c hk), fun _ => ?_⟩
    cases l with
    | nil => simp at hc
    | cons b r => simp at hc; subst hc; exact hk
  · exact ⟨(all_take_succ l k c hc h.1).trans hs, fun _ => h.2 hk⟩
theorem RightAt.stop {l : List UInt8} {k : Nat} {c : UInt8} (hc : l[k]? = some c) (hk : k = 0 ∧ headB c = false ∨ 0 < k ∧ signB c = false) : rightL l = false := by
  rcases hk with ⟨rfl, hk⟩ | ⟨_, hs⟩
  · exact rightL_head l c hc hk
  · exact rightL_stop l k c hc hs
theorem RightAt.full {l : List UInt8} {k : Nat} (h : RightAt l k) (hk : k = l.length) (h1 : 1 ≤ l.length) (h2 : l.length ≤ 40) : rightL l = true := by
  have ha := h.1
  rw [hk, List.take_length] at ha
  unfold rightL
  rw [ha, h.2 (by omega), decide_eq_true ⟨h1, h2⟩]
  rfl

theorem le_max {n : Nat} (h : n ≤ 1000000) : n ≤ maxLen := by unfold maxLen; omega
set_option maxHeartbeats 16000000 in
set_option maxRecDepth 100000 in
theorem refright_any (s : ByteArray) (w : World) (hs : s.size ≤ maxLen) :
    Calls Try.prog 79 #[.string s] w fun e w' => e = .returned (.bool (rightL s.toList)) ∧ w = w' := by
  unfold maxLen at hs
  have hlen := tl_len s
  by_cases h0 : s.size < 1
  · have H := Lib.hid (rightL_ends s.toList (by omega))
    have hz : ((s.size : Int) == 0) = true := beq_iff_eq.2 (by omega)
    clear hlen
    go_enter Try.func79, Try.ntmps79
    go_wp2
    go_ret
    exact ⟨ret_bool H.out.symm, rfl⟩
  have hz : ((s.size : Int) == 0) = false := beq_eq_false_iff_ne.2 (by omega)
  by_cases h1 : 40 < s.size
  · have H := Lib.hid (rightL_ends s.toList (by omega))
    clear hlen
    go_enter Try.func79, Try.ntmps79
    go_wp2
    go_ret
    exact ⟨ret_bool H.out.symm, rfl⟩
  have HL := Lib.hid hlen
  clear hlen
  go_enter Try.func79, Try.ntmps79
  go_wp2
  go_loop [3] (fun i => ∃ k : Nat, k ≤ s.size ∧ i = .int .i64 k ∧ Hid (RightAt s.toList k)) (fun i => s.size - (intOf i).toNat)
  case atStart => exact ⟨0, by omega, rfl, Lib.hid (RightAt.start _)⟩
  case round =>
    obtain ⟨k, hk, rfl, HA⟩ := hrel
    by_cases hlt : k < s.size
    · have HG := Lib.hid (tl_get s k hlt)
      obtain ⟨n, hn⟩ : ∃ n : Nat, (s[k]'hlt).toNat = n := ⟨_, rfl⟩
      have hn1 : n ≤ 255 := by have := (s[k]'hlt).toNat_lt; omega
      have HC := Lib.hid (show signB (s[k]'hlt) = signI (n : Int) ∧ headB (s[k]'hlt) = headI (n : Int) from by unfold signB headB; rw [hn]; exact ⟨rfl, rfl⟩)
      have hcases : (97 ≤ n ∧ n ≤ 122) ∨ (48 ≤ n ∧ n ≤ 57) ∨ (45 ≤ n ∧ n ≤ 45) ∨ (95 ≤ n ∧ n ≤ 95) ∨ (46 ≤ n ∧ n ≤ 46) ∨ (65 ≤ n ∧ n ≤ 90) ∨ (0 ≤ n ∧ n ≤ 44) ∨ (47 ≤ n ∧ n ≤ 47) ∨ (58 ≤ n ∧ n ≤ 64) ∨ (91 ≤ n ∧ n ≤ 94) ∨ (96 ≤ n ∧ n ≤ 96) ∨ (123 ≤ n ∧ n ≤ 255) := by omega
      have hk0 : k = 0 ∨ 0 < k := by omega
      rcases hcases with hr | hr | hr | hr | hr | hr | hr | hr | hr | hr | hr | hr
      all_goals
        obtain ⟨hr1, hr2⟩ := hr
        first | (have e1 : decide ((97 : Int) ≤ (n : Int)) = true := decide_eq_true (by omega)) | (have e1 : decide ((97 : Int) ≤ (n : Int)) = false := decide_eq_false (by omega))
        first | (have e2 : decide ((n : Int) ≤ 122) = true := decide_eq_true (by omega)) | (have e2 : decide ((n : Int) ≤ 122) = false := decide_eq_false (by omega))
        first | (have e3 : decide ((65 : Int) ≤ (n : Int)) = true := decide_eq_true (by omega)) | (have e3 : decide ((65 : Int) ≤ (n : Int)) = false := decide_eq_false (by omega))
        first | (have e4 : decide ((n : Int) ≤ 90) = true := decide_eq_true (by omega)) | (have e4 : decide ((n : Int) ≤ 90) = false := decide_eq_false (by omega))
        first | (have e5 : decide ((48 : Int) ≤ (n : Int)) = true := decide_eq_true (by omega)) | (have e5 : decide ((48 : Int) ≤ (n : Int)) = false := decide_eq_false (by omega))
        first | (have e6 : decide ((n : Int) ≤ 57) = true := decide_eq_true (by omega)) | (have e6 : decide ((n : Int) ≤ 57) = false := decide_eq_false (by omega))
        first | (have e7 : ((n : Int) == 45) = true := beq_iff_eq.2 (by omega)) | (have e7 : ((n : Int) == 45) = false := beq_eq_false_iff_ne.2 (by omega))
        first | (have e8 : ((n : Int) == 46) = true := beq_iff_eq.2 (by omega)) | (have e8 : ((n : Int) == 46) = false := beq_eq_false_iff_ne.2 (by omega))
        first | (have e9 : ((n : Int) == 95) = true := beq_iff_eq.2 (by omega)) | (have e9 : ((n : Int) == 95) = false := beq_eq_false_iff_ne.2 (by omega))
        first | (have e10 : ((n : Int) != 95) = false := by unfold bne; rw [e9]; rfl; done) | (have e10 : ((n : Int) != 95) = true := by unfold bne; rw [e9]; rfl)
        first | (have HS : Hid (signI (n : Int) = true) := Lib.hid (by unfold signI alphI lowI capI digI; simp; omega)) | (have HS : Hid (signI (n : Int) = false) := Lib.hid (by unfold signI alphI lowI capI digI; simp; omega))
        first | (have HH : Hid (headI (n : Int) = true) := Lib.hid (by unfold headI alphI lowI capI; simp; omega)) | (have HH : Hid (headI (n : Int) = false) := Lib.hid (by unfold headI alphI lowI capI; simp; omega))
        clear hr1 hr2
        rcases hk0 with hk0 | hk0
        · have e11 : ((k : Int) == 0) = true := beq_iff_eq.2 (by omega)
          have HK := Lib.hid hk0
          clear hk0
          go_wp2
          first
            | (go_ret
               exact ⟨ret_bool (RightAt.stop HG.out (.inl ⟨HK.out, HC.out.2.trans HH.out⟩)).symm, rfl⟩)
            | (go_round
               case rel => exact ⟨k + 1, by omega, by go_num, Lib.hid (HA.out.next HG.out (.inl ⟨HK.out, HC.out.2.trans HH.out⟩))⟩
               case measure => simp [intOf]; omega)
        · have e11 : ((k : Int) == 0) = false := beq_eq_false_iff_ne.2 (by omega)
          go_wp2
          first
            | (go_ret
               exact ⟨ret_bool (RightAt.stop HG.out (.inr ⟨hk0, HC.out.1.trans HS.out⟩)).symm, rfl⟩)
            | (go_round
               case rel => exact ⟨k + 1, by omega, by go_num, Lib.hid (HA.out.next HG.out (.inr ⟨hk0, HC.out.1.trans HS.out⟩))⟩
               case measure => simp [intOf]; omega)
    · go_wp2
      go_ret
      exact ⟨ret_bool (HA.out.full (by rw [HL.out]; omega) (by rw [HL.out]; omega) (by rw [HL.out]; omega)).symm, rfl⟩

end Go.Proofs.Ytllfkiifkkcinaa
/- The document's own answer Small (package instarref01): byte by byte, by '+' on strings. -/
namespace Go.Proofs.Ytllfkiifkkcinaa
open Go.RowKit
def ofI (n : Int) : UInt8 := UInt8.ofNat n.toNat
theorem ofI_nat {n : Int} (h0 : 0 ≤ n) (h1 : n ≤ 255) : ((ofI n).toNat : Int) = n := by
  unfold ofI
  have : (UInt8.ofNat n.toNat).toNat = n.toNat % 256 := by simp
  rw [this]
  omega
theorem bytes_one (w : World) (a : Addr) (n : Int) (h0 : 0 ≤ n) (h1 : n ≤ 255) (hc : w.cell? a = some (.int .u8 n)) :
    (convert 87 9 (.slice (some a) 1 1)).run Try.prog w = .ok (.string (ofL [ofI n])) w := by
  have hs := World.cell?_spot hc
  have := run_convert_bytes_back (P := Try.prog) w 87 9 5 a 1 [ofI n] Try.underlying87 Try.underlying5 Try.underlying9 (fun j hj => by
    have : j = 0 := by simpa using hj
    subst this
    have ha : a.add 0 = a := by
      obtain ⟨b, o, sp⟩ := a
      simp at hs
      subst hs
      rw [Go.WideShapes.add_plain, Nat.add_zero]
    rw [ha, hc]
    simp [ofI_nat h0 h1])
  exact this
theorem cut_one (s : ByteArray) (k : Nat) (c : UInt8) (h : s.toList[k]? = some c) : s.extract k (k + 1) = ofL [c] := by
  obtain ⟨hl, hg⟩ := List.getElem?_eq_some_iff.1 h
  rw [← ofL_self (s.extract k (k + 1))]
  congr 1
  rw [tl, Lib.extract_data, ← tl, List.drop_eq_getElem_cons hl, hg]
  have : k + 1 - k = 1 := by omega
  first
    | (rw [this]; rfl)
    | simp
theorem small_take (l : List UInt8) (k : Nat) (c : UInt8) (h : l[k]? = some c) : smallL (l.take (k + 1)) = smallL (l.take k) ++ [smallB c] := by
  obtain ⟨hl, hg⟩ := List.getElem?_eq_some_iff.1 h
  rw [List.take_succ_eq_append_getElem hl, hg]
  simp [smallL]

set_option maxHeartbeats 4000000 in
set_option maxRecDepth 100000 in
theorem refsmall_any (s : ByteArray) (w : World) (hs : s.size ≤ 1000000) :
    Calls Try.prog 80 #[.string s] w fun e w' => e = .returned (.string (ofL (smallL s.toList))) ∧ Below w.heap.size w w' := by
  have HL := Lib.hid (tl_len s)
  go_enter Try.func80, Try.ntmps80
  go_wp2
  go_loopw [3, 4] (fun o i wr => ∃ k : Nat, k ≤ s.size ∧ i = .int .i64 k ∧ o = .string (ofL (smallL (s.toList.take k))) ∧ Below w.heap.size w wr) (fun _ i _ => s.size - (intOf i).toNat)
  case atStart => exact ⟨0, Nat.zero_le _, rfl, rfl, Below.refl _ _⟩
  case round =>
    obtain ⟨k, hk, rfl, rfl, HB⟩ := hrel
    by_cases hlt : k < s.size
    · have hg := tl_get s k hlt
      have HT := Lib.hid (small_take _ _ _ hg)
      have hsz : (ofL (smallL (s.toList.take k))).size + 1 ≤ 9223372036854775807 := by
        rw [size_ofL, smallL_length, List.length_take, HL.out]; omega
      have HX := Lib.hid (cut_one s k _ hg)
      have HG := Lib.hid (smallB_nat s[k])
      have hpos : 0 ≤ (s[k].toNat : Int) := by omega
      have hmax : (s[k].toNat : Int) ≤ 255 := by have := s[k].toNat_lt; omega
      clear hg
      by_cases hc : capI (s[k].toNat : Int) = true
      · have hb := of_decide_eq_true hc
        have b1 : (65 : Int) ≤ (s[k].toNat : Int) := hb.1
        have b2 : (s[k].toNat : Int) ≤ 90 := hb.2
        have d1 : decide ((65 : Int) ≤ (s[k].toNat : Int)) = true := decide_eq_true b1
        have d2 : decide ((s[k].toNat : Int) ≤ 90) = true := decide_eq_true b2
        have hcv : ∀ W : World, (convert 87 9 (.slice (some ⟨W.heap.size, 0, none⟩) 1 1)).run Try.prog (W.alloc (.cells #[.int .u8 ((s[k].toNat : Int) + 32)] 5)) = .ok (.string (ofL [ofI ((s[k].toNat : Int) + 32)])) (W.alloc (.cells #[.int .u8 ((s[k].toNat : Int) + 32)] 5)) :=
          fun W => bytes_one _ _ _ (by omega) (by omega) (by simp [go_sem])
        have hadd : ∀ W : World, (Op.stringOp .add (ofL (smallL (s.toList.take k))) (ofL [ofI ((s[k].toNat : Int) + 32)])).run Try.prog W = .ok (.string (ofL (smallL (s.toList.take (k + 1))))) W := fun W => by
          rw [run_string_add_sum W _ _ (by rw [size_ofL [_]]; exact hsz), add_ofL, toList_ofL, HT.out]
          have : ofI ((s[k].toNat : Int) + 32) = smallB s[k] := by
            apply UInt8.toNat_inj.1
            have h1 := ofI_nat (n := (s[k].toNat : Int) + 32) (by omega) (by omega)
            have h2 := HG.out
            rw [if_pos hc] at h2
            omega
          rw [this]
        clear hb hc hsz
        go_wp2
        go_roundw
        case rel => exact ⟨k + 1, by omega, by go_num, rfl, HB.alloc HB.size _⟩
        case measure => simp [intOf]; omega
      · have hadd : ∀ W : World, (Op.stringOp .add (ofL (smallL (s.toList.take k))) (s.extract k (k + 1))).run Try.prog W = .ok (.string (ofL (smallL (s.toList.take (k + 1))))) W := fun W => by
          rw [HX.out, run_string_add_sum W _ _ (by rw [size_ofL [_]]; exact hsz), add_ofL, toList_ofL, HT.out]
          unfold smallB
          rw [if_neg hc]
        have hsl : ∀ W : World, (Instr.slice 9 (.string s) (some (.int .i64 (k : Int))) (some (.int .i64 ((k : Int) + 1))) none).run Try.prog W = .ok (.string (s.extract k (k + 1))) W := fun W => by
          have h := run_slice_string (P := Try.prog) W 9 s .i64 .i64 (k : Int) ((k : Int) + 1) Try.underlying9 (by omega) (by omega) (by omega)
          have e1 : ((k : Int) + 1).toNat = k + 1 := by omega
          rw [e1, Int.toNat_natCast] at h
          exact h
        have hno : ¬ ((65 : Int) ≤ (s[k].toNat : Int) ∧ (s[k].toNat : Int) ≤ 90) := fun h => hc (decide_eq_true h)
        by_cases b1 : (65 : Int) ≤ (s[k].toNat : Int)
        · have d1 : decide ((65 : Int) ≤ (s[k].toNat : Int)) = true := decide_eq_true b1
          have d2 : decide ((s[k].toNat : Int) ≤ 90) = false := decide_eq_false (by omega)
          clear hno hc hsz
          go_wp2
          go_roundw
          case rel => exact ⟨k + 1, by omega, by go_num, rfl, HB⟩
          case measure => simp [intOf]; omega
        · have d1 : decide ((65 : Int) ≤ (s[k].toNat : Int)) = false := decide_eq_false b1
          clear hno hc hsz
          go_wp2
          go_roundw
          case rel => exact ⟨k + 1, by omega, by go_num, rfl, HB⟩
          case measure => simp [intOf]; omega
    · have HE := Lib.hid (show s.toList.take k = s.toList by rw [List.take_of_length_le (by rw [HL.out]; omega)])
      go_wp2
      go_ret
      exact ⟨ret_str (by rw [HE.out]), HB⟩
end Go.Proofs.Ytllfkiifkkcinaa
