/- Texts joined in build order: AttrRightFn ForestFit1 ForestFit2. -/
import Derived.Test.YtkfmengdffpcnaaGreatDoorA05
import Derived.Test.YtkfmengdffpcnaaGreatDoorA04
namespace Go.Proofs.YtkfmengdffpcnaaGreatDoor
open Go.RowKit Go.Maps Go.WideMaps
theorem placesRight_any (a : Option Addr) (len cap : Nat) (L : AL) (w : World) (h : AttrRow w a len cap L) (hr : rightA L = true) :
    Calls Tryz.prog 123 #[.slice a len cap] w fun e w' => ∃ b, e = .returned (.tuple #[.map (some b), .bool true]) ∧ w.heap.size ≤ b ∧ ownsPl w' b L.length (plD L L.length) ∧ Below w.heap.size w w' :=
  (places_any a len cap L w h).mono fun e w' hp => by
    unfold PlacesPost at hp
    rw [hr] at hp
    exact hp
theorem placesWrong_any (a : Option Addr) (len cap : Nat) (L : AL) (w : World) (h : AttrRow w a len cap L) (hr : rightA L = false) :
    Calls Tryz.prog 123 #[.slice a len cap] w fun e w' => e = .returned (.tuple #[.map none, .bool false]) ∧ Below w.heap.size w w' :=
  (places_any a len cap L w h).mono fun e w' hp => by
    unfold PlacesPost at hp
    rw [hr] at hp
    exact hp
theorem right_any' (a : Option Addr) (len cap : Nat) (L : AL) (w : World) (h : AttrRow w a len cap L) :
    Calls Tryz.prog 103 #[.slice a len cap] w fun e w' => e = .returned (.bool (rightA L)) ∧ Below w.heap.size w w' := by
  by_cases hr : rightA L = true
  · have C1 := Lib.hid (placesRight_any a len cap L w h hr)
    rw [hr]
    clear h hr
    go_enter Tryz.func103, Tryz.ntmps103
    go_wp2_with (first
      | (go_at_call 123; refine C1.out.mono ?_; rintro e w' ⟨b, rfl, _, _, HB⟩))
    go_ret
    exact ⟨rfl, HB⟩
  · have hr : rightA L = false := by simpa using hr
    have C1 := Lib.hid (placesWrong_any a len cap L w h hr)
    rw [hr]
    clear h hr
    go_enter Tryz.func103, Tryz.ntmps103
    go_wp2_with (first
      | (go_at_call 123; refine C1.out.mono ?_; rintro e w' ⟨rfl, HB⟩))
    go_ret
    exact ⟨rfl, HB⟩
end Go.Proofs.YtkfmengdffpcnaaGreatDoor
namespace Go.Proofs.YtkfmengdffpcnaaGreatDoor
open Go.RowKit
def isKd (F : List Core) (n k : Int) : Bool := match getC F n with | some c => c.kind == k | none => false
theorem getC_not {F : List Core} {n : Int} (h : n < 0 ∨ (F.length : Int) ≤ n) : getC F n = none := by
  unfold getC
  by_cases h0 : 0 ≤ n
  · rw [if_pos h0]
    exact List.getElem?_eq_none_iff.2 (by omega)
  · rw [if_neg h0]
theorem coreL_len (L : List NodeD) : (coreL L).length = L.length := by unfold coreL; rw [List.length_map]
theorem coreL_get {L : List NodeD} {k : Nat} {x : NodeD} (h : L[k]? = some x) : (coreL L)[k]? = some x.core := by unfold coreL; rw [List.getElem?_map, h]; rfl
set_option maxHeartbeats 2000000 in
theorem is_any (a : Option Addr) (len cap : Nat) (L : List NodeD) (n k : Int) (w : World) (h : NodeRow w a len cap L) (hn : In64 n) :
    Calls Tryz.prog 41 #[.slice a len cap, .int .i64 n, .int .i64 k] w fun e w' => e = .returned (.bool (isKd (coreL L) n k)) ∧ w = w' := by
  have hl := h.len64
  have HL := Lib.hid h.hlen
  by_cases h0 : 0 ≤ n
  rotate_left
  · have HR : Hid (isKd (coreL L) n k = false) := Lib.hid (by unfold isKd; rw [getC_not (.inl (by omega))])
    clear h
    go_enter Tryz.func41, Tryz.ntmps41
    go_wp2
    go_ret
    exact ⟨ret_bool HR.out.symm, rfl⟩
  by_cases h1 : n < len
  rotate_left
  · have HR : Hid (isKd (coreL L) n k = false) := Lib.hid (by unfold isKd; rw [getC_not (.inr (by rw [coreL_len, HL.out]; omega))])
    clear h
    go_enter Tryz.func41, Tryz.ntmps41
    go_wp2
    go_ret
    exact ⟨ret_bool HR.out.symm, rfl⟩
  obtain ⟨m, rfl⟩ : ∃ m : Nat, n = m := ⟨n.toNat, by omega⟩
  obtain ⟨b, off, x, rfl, hb, hx, hc, hok⟩ := h.get (show m < len by omega)
  have HR : Hid (isKd (coreL L) (m : Int) k = (x.core.kind == k)) := Lib.hid (by unfold isKd; rw [getC_nat, coreL_get hx])
  have c0 := hc.c0
  clear h hc hok hx
  go_enter Tryz.func41, Tryz.ntmps41
  go_wp2
  go_ret
  exact ⟨ret_bool HR.out.symm, rfl⟩
def docB (F : List Core) (i : Int) (x : Core) : Bool := isKd F x.doc 0 && (x.kind != 0 || x.doc == i)
set_option maxHeartbeats 2000000 in
theorem docFits_any (a : Option Addr) (len cap : Nat) (L : List NodeD) (n : Nat) (x : NodeD) (w : World) (h : NodeRow w a len cap L) (hx : L[n]? = some x) :
    Calls Tryz.prog 69 #[.slice a len cap, .int .i64 n] w fun e w' => e = .returned (.bool (docB (coreL L) n x.core)) ∧ w = w' := by
  have hl := h.len64
  have hnl : n < len := by rw [← h.hlen]; exact (List.getElem?_eq_some_iff.1 hx).1
  obtain ⟨b, off, x', rfl, hb, hx', hc, hok⟩ := h.get hnl
  obtain rfl : x = x' := Option.some.inj (hx.symm.trans hx')
  have c0 := hc.c0
  have c9 := hc.c9
  have C1 := Lib.hid (is_any (some ⟨b, off, none⟩) len cap L x.core.doc 0 w h hok.doc)
  have HX := Lib.hid hx
  clear h hc hx hx' hok
  by_cases q1 : isKd (coreL L) x.core.doc 0 = true
  rotate_left
  · have q1 : isKd (coreL L) x.core.doc 0 = false := by simpa using q1
    have HR : Hid (docB (coreL L) n x.core = false) := Lib.hid (by unfold docB; rw [q1]; rfl)
    rw [q1] at C1
    clear q1
    go_enter Tryz.func69, Tryz.ntmps69
    go_wp2_with (go_at_call 41; refine C1.out.mono ?_; rintro e w' ⟨rfl, rfl⟩)
    go_ret
    exact ⟨ret_bool HR.out.symm, rfl⟩
  have HR : Hid (docB (coreL L) n x.core = (x.core.kind != 0 || x.core.doc == (n : Int))) := Lib.hid (by unfold docB; rw [q1]; rfl)
  rw [q1] at C1
  clear q1
  by_cases q2 : x.core.kind = 0
  · have e1 : (x.core.kind != 0) = false := by rw [q2]; rfl
    have HR : Hid (docB (coreL L) n x.core = (x.core.doc == (n : Int))) := Lib.hid (by rw [HR.out, e1]; rfl)
    clear q2
    go_enter Tryz.func69, Tryz.ntmps69
    go_wp2_with (go_at_call 41; refine C1.out.mono ?_; rintro e w' ⟨rfl, rfl⟩)
    go_ret
    exact ⟨ret_bool HR.out.symm, rfl⟩
  · have e1 : (x.core.kind != 0) = true := bne_iff_ne.2 q2
    have HR : Hid (docB (coreL L) n x.core = true) := Lib.hid (by rw [HR.out, e1]; rfl)
    clear q2
    go_enter Tryz.func69, Tryz.ntmps69
    go_wp2_with (go_at_call 41; refine C1.out.mono ?_; rintro e w' ⟨rfl, rfl⟩)
    go_ret
    exact ⟨ret_bool HR.out.symm, rfl⟩
end Go.Proofs.YtkfmengdffpcnaaGreatDoor
namespace Go.Proofs.YtkfmengdffpcnaaGreatDoor
open Go.RowKit
def kidB (F : List Core) (i d k : Int) : Bool := (isKd F k 1 || isKd F k 2) && match getC F k with | some c => c.parent == i && c.doc == d | none => false
def elemsB (F : List Core) (l : List Int) : Nat := l.countP (fun z => isKd F z 1)
def textsB (F : List Core) (l : List Int) : Nat := l.countP (fun z => isKd F z 2)
def shapeB (F : List Core) (x : Core) : Bool := if x.kind = 0 then decide (elemsB F x.kids ≤ 1) && decide (textsB F x.kids = 0) else if x.kind = 2 then decide (elemsB F x.kids + textsB F x.kids = 0) else true
def kidsB (F : List Core) (i : Int) (x : Core) : Bool := x.kids.all (kidB F i x.doc) && shapeB F x
theorem isKd_get {L : List NodeD} {z k : Int} (h : isKd (coreL L) z k = true) : ∃ (j : Nat) (y : NodeD), z = j ∧ L[j]? = some y ∧ y.core.kind = k := by
  unfold isKd at h
  cases hg : getC (coreL L) z with
  | none => rw [hg] at h; cases h
  | some c =>
    rw [hg] at h
    obtain ⟨h1, h2, h3⟩ := getC_some hg
    have h4 := beq_iff_eq.1 h
    unfold coreL at h3
    rw [List.getElem?_map] at h3
    cases hy : L[z.toNat]? with
    | none => rw [hy] at h3; cases h3
    | some y =>
      rw [hy] at h3
      injection h3 with h3
      exact ⟨z.toNat, y, by omega, hy, by rw [← h4, ← h3]⟩
theorem elemsB_step {F : List Core} {l : List Int} {k : Nat} {z : Int} (h : l[k]? = some z) : elemsB F (l.take (k + 1)) = elemsB F (l.take k) + (if isKd F z 1 then 1 else 0) := by
  obtain ⟨hl, hg⟩ := List.getElem?_eq_some_iff.1 h
  unfold elemsB
  rw [List.take_succ_eq_append_getElem hl, hg, List.countP_append]
  simp [List.countP_cons]
theorem textsB_step {F : List Core} {l : List Int} {k : Nat} {z : Int} (h : l[k]? = some z) : textsB F (l.take (k + 1)) = textsB F (l.take k) + (if isKd F z 2 then 1 else 0) := by
  obtain ⟨hl, hg⟩ := List.getElem?_eq_some_iff.1 h
  unfold textsB
  rw [List.take_succ_eq_append_getElem hl, hg, List.countP_append]
  simp [List.countP_cons]
theorem isKd_apart {F : List Core} {z j k : Int} (h : isKd F z j = true) (hn : j ≠ k) : isKd F z k = false := by
  unfold isKd at h ⊢
  cases hg : getC F z with
  | none => rfl
  | some c =>
    rw [hg] at h
    have := beq_iff_eq.1 h
    exact beq_eq_false_iff_ne.2 (by rw [this]; exact hn)
theorem both_le (F : List Core) (k : Nat) : ∀ l : List Int, elemsB F (l.take k) + textsB F (l.take k) ≤ k := fun l => by
  have key : ∀ l : List Int, elemsB F l + textsB F l ≤ l.length := by
    intro l
    induction l with
    | nil => exact Nat.le_refl _
    | cons a r ih =>
      have h1 : elemsB F (a :: r) = elemsB F r + (if isKd F a 1 then 1 else 0) := by unfold elemsB; rw [List.countP_cons]
      have h2 : textsB F (a :: r) = textsB F r + (if isKd F a 2 then 1 else 0) := by unfold textsB; rw [List.countP_cons]
      rw [h1, h2, List.length_cons]
      cases q1 : isKd F a 1 with
      | true =>
        rw [isKd_apart q1 (show (1 : Int) ≠ 2 by decide)]
        simp
        omega
      | false =>
        cases isKd F a 2 <;> simp <;> omega
  exact Nat.le_trans (key _) (List.length_take_le _ _)
set_option maxHeartbeats 8000000 in
set_option maxRecDepth 100000 in
theorem kidsFit_any (a : Option Addr) (len cap : Nat) (L : List NodeD) (n : Nat) (x : NodeD) (w : World) (h : NodeRow w a len cap L) (hx : L[n]? = some x) :
    Calls Tryz.prog 70 #[.slice a len cap, .int .i64 n] w fun e w' => e = .returned (.bool (kidsB (coreL L) n x.core)) ∧ Below w.heap.size w w' := by
  have hl := h.len64
  have hnl : n < len := by rw [← h.hlen]; exact (List.getElem?_eq_some_iff.1 hx).1
  have HL := Lib.hid h.hlen
  obtain ⟨b, off, x', rfl, hb, hx', hc, hok⟩ := h.get hnl
  obtain rfl : x = x' := Option.some.inj (hx.symm.trans hx')
  have c0 := hc.c0
  have c6 := hc.c6
  have c9 := hc.c9
  have hk0 := hok.kids
  obtain ⟨kA, hkA⟩ : ∃ q, x.kA = q := ⟨_, rfl⟩
  rw [hkA] at c6 hk0
  have HK := Lib.hid hk0
  have hkl := hok.kids.len64
  have HKL := Lib.hid hok.kids.hlen
  have CI : Hid (∀ m z k, In64 z → Calls Tryz.prog 41 #[.slice (some ⟨b, off, none⟩) len cap, .int .i64 z, .int .i64 k] (w.drewN m) fun e w' => e = .returned (.bool (isKd (coreL L) z k)) ∧ w.drewN m = w') :=
    Lib.hid (fun m z k hz => is_any _ len cap L z k _ (h.drewN m) hz)
  have HX := Lib.hid hx
  clear hc hx hx' hok hb hk0 hkA
  go_enter Tryz.func70, Tryz.ntmps70
  go_wp2
  go_loopw [5, 6, 15] (fun e t i wr => ∃ k m : Nat, k ≤ x.kN ∧ i = .int .i64 k ∧ e = .int .i64 (elemsB (coreL L) (x.core.kids.take k) : Nat) ∧ t = .int .i64 (textsB (coreL L) (x.core.kids.take k) : Nat) ∧ wr = w.drewN m ∧ Hid (∀ j z, j < k → x.core.kids[j]? = some z → kidB (coreL L) n x.core.doc z = true)) (fun _ _ i _ => x.kN - (intOf i).toNat)
  case atStart => exact ⟨0, 0, Nat.zero_le _, rfl, rfl, rfl, rfl, Lib.hid (fun j z hj _ => absurd hj (by omega))⟩
  case round =>
    obtain ⟨k, m, hk, rfl, rfl, rfl, rfl, HA⟩ := hrel
    have hle := both_le (coreL L) k x.core.kids
    obtain ⟨el, hel⟩ : ∃ el, elemsB (coreL L) (x.core.kids.take k) = el := ⟨_, rfl⟩
    obtain ⟨tx, htx⟩ : ∃ tx, textsB (coreL L) (x.core.kids.take k) = tx := ⟨_, rfl⟩
    rw [hel, htx] at hle ⊢
    by_cases hlt : k < x.kN
    · obtain ⟨bk, ok, z, rfl, hbk, hz, hcz, hin⟩ := HK.out.get hlt
      have HES := elemsB_step (F := coreL L) hz
      have HTS := textsB_step (F := coreL L) hz
      rw [hel] at HES
      rw [htx] at HTS
      have STOP : Hid (kidB (coreL L) n x.core.doc z = false → kidsB (coreL L) n x.core = false) := Lib.hid (fun hs => by
        unfold kidsB
        have : x.core.kids.all (kidB (coreL L) n x.core.doc) = false := by rw [List.all_eq_false]; exact ⟨z, List.mem_of_getElem? hz, by simp [hs]⟩
        rw [this, Bool.false_and])
      have MORE : Hid (kidB (coreL L) n x.core.doc z = true → ∀ j y, j < k + 1 → x.core.kids[j]? = some y → kidB (coreL L) n x.core.doc y = true) := Lib.hid (fun hs j y hj hy => by
        by_cases e : j = k
        · subst e
          rw [hz] at hy
          rw [← Option.some.inj hy]
          exact hs
        · exact HA.out j y (by omega) hy)
      clear hz hel htx
      have CI1 := Lib.hid (fun m => CI.out m z 1 hin)
      have CI2 := Lib.hid (fun m => CI.out m z 2 hin)
      cases q1 : isKd (coreL L) z 1 with
      | true =>
        have q2 := isKd_apart q1 (show (1 : Int) ≠ 2 by decide)
        have HE : Hid (elemsB (coreL L) (x.core.kids.take (k + 1)) = el + 1) := Lib.hid (by rw [HES, q1]; rfl)
        have HT : Hid (textsB (coreL L) (x.core.kids.take (k + 1)) = tx) := Lib.hid (by rw [HTS, q2]; rfl)
        rw [q1] at CI1
        rw [q2] at CI2
        clear HES HTS
        (
          obtain ⟨j, y, rfl, hy, hyk⟩ := isKd_get (by assumption)
          have hjl : j < len := by rw [← HL.out]; exact (List.getElem?_eq_some_iff.1 hy).1
          obtain ⟨b2, off2, y', hab, hb2, hy', hcy, hoky⟩ := h.get hjl
          obtain rfl : y = y' := Option.some.inj (hy.symm.trans hy')
          injection hab with hab
          injection hab with e1 e2
          subst e1 e2
          have d5 := hcy.c5
          have d9 := hcy.c9
          have HB : Hid (kidB (coreL L) n x.core.doc (j : Int) = (y.core.parent == (n : Int) && y.core.doc == x.core.doc)) := Lib.hid (by
            unfold kidB
            rw [getC_nat, coreL_get hy]
            simp [*])
          clear hy hyk hcy hoky hy' h hb2
          by_cases p1 : y.core.parent = (n : Int)
          rotate_left
          · have e1 : (y.core.parent != (n : Int)) = true := bne_iff_ne.2 p1
            have e2 : (y.core.parent == (n : Int)) = false := beq_eq_false_iff_ne.2 p1
            have HR : Hid (kidsB (coreL L) n x.core = false) := Lib.hid (STOP.out (by rw [HB.out, e2]; rfl))
            clear p1
            (go_wp2_with (first
                | (go_at_call 41; ((with_reducible refine (CI1.out _).mono ?_); rintro e w' ⟨rfl, rfl⟩))
                | (go_at_call 41; ((with_reducible refine (CI2.out _).mono ?_); rintro e w' ⟨rfl, rfl⟩))))
            go_quiet (fail)
            go_wp2
            go_ret
            exact ⟨ret_bool HR.out.symm, below_drewN (below_drewN (Below.refl _ _) _) _⟩
          by_cases p2 : y.core.doc = x.core.doc
          rotate_left
          · have e1 : (y.core.parent != (n : Int)) = false := by rw [p1]; simp
            have e2 : (y.core.doc != x.core.doc) = true := bne_iff_ne.2 p2
            have e3 : (y.core.doc == x.core.doc) = false := beq_eq_false_iff_ne.2 p2
            have HR : Hid (kidsB (coreL L) n x.core = false) := Lib.hid (STOP.out (by rw [HB.out, e3, Bool.and_false]))
            rw [p1] at d5
            have e4 : ((n : Int) != (n : Int)) = false := by simp
            clear p1 p2
            (go_wp2_with (first
                | (go_at_call 41; ((with_reducible refine (CI1.out _).mono ?_); rintro e w' ⟨rfl, rfl⟩))
                | (go_at_call 41; ((with_reducible refine (CI2.out _).mono ?_); rintro e w' ⟨rfl, rfl⟩))))
            go_quiet (fail)
            go_wp2
            go_ret
            exact ⟨ret_bool HR.out.symm, below_drewN (below_drewN (Below.refl _ _) _) _⟩
          have HB : Hid (kidB (coreL L) n x.core.doc (j : Int) = true) := Lib.hid (by rw [HB.out, p1, p2]; simp)
          rw [p1] at d5
          rw [p2] at d9
          have e4 : ((n : Int) != (n : Int)) = false := by simp
          have e5 : (x.core.doc != x.core.doc) = false := by simp
          clear p1 p2
          (go_wp2_with (first
              | (go_at_call 41; ((with_reducible refine (CI1.out _).mono ?_); rintro e w' ⟨rfl, rfl⟩))
              | (go_at_call 41; ((with_reducible refine (CI2.out _).mono ?_); rintro e w' ⟨rfl, rfl⟩))))
          go_quiet (fail)
          go_wp2
          go_roundw
          case rel => exact ⟨k + 1, _, by omega, by go_num, by first | (rw [HE.out]; done) | (rw [HE.out]; go_num), by first | (rw [HT.out]; done) | (rw [HT.out]; go_num), by first | rfl | exact World.drewN_drewN _ _ _, Lib.hid (MORE.out HB.out)⟩
          case measure => simp [intOf]; omega)
      | false =>
        rw [q1] at CI1
        cases q2 : isKd (coreL L) z 2 with
        | true =>
          have HE : Hid (elemsB (coreL L) (x.core.kids.take (k + 1)) = el) := Lib.hid (by rw [HES, q1]; rfl)
          have HT : Hid (textsB (coreL L) (x.core.kids.take (k + 1)) = tx + 1) := Lib.hid (by rw [HTS, q2]; rfl)
          rw [q2] at CI2
          clear HES HTS
          (
            obtain ⟨j, y, rfl, hy, hyk⟩ := isKd_get (by assumption)
            have hjl : j < len := by rw [← HL.out]; exact (List.getElem?_eq_some_iff.1 hy).1
            obtain ⟨b2, off2, y', hab, hb2, hy', hcy, hoky⟩ := h.get hjl
            obtain rfl : y = y' := Option.some.inj (hy.symm.trans hy')
            injection hab with hab
            injection hab with e1 e2
            subst e1 e2
            have d5 := hcy.c5
            have d9 := hcy.c9
            have HB : Hid (kidB (coreL L) n x.core.doc (j : Int) = (y.core.parent == (n : Int) && y.core.doc == x.core.doc)) := Lib.hid (by
              unfold kidB
              rw [getC_nat, coreL_get hy]
              simp [*])
            clear hy hyk hcy hoky hy' h hb2
            by_cases p1 : y.core.parent = (n : Int)
            rotate_left
            · have e1 : (y.core.parent != (n : Int)) = true := bne_iff_ne.2 p1
              have e2 : (y.core.parent == (n : Int)) = false := beq_eq_false_iff_ne.2 p1
              have HR : Hid (kidsB (coreL L) n x.core = false) := Lib.hid (STOP.out (by rw [HB.out, e2]; rfl))
              clear p1
              (go_wp2_with (first
                  | (go_at_call 41; ((with_reducible refine (CI1.out _).mono ?_); rintro e w' ⟨rfl, rfl⟩))
                  | (go_at_call 41; ((with_reducible refine (CI2.out _).mono ?_); rintro e w' ⟨rfl, rfl⟩))))
              go_quiet (fail)
              go_wp2
              go_ret
              exact ⟨ret_bool HR.out.symm, below_drewN (below_drewN (Below.refl _ _) _) _⟩
            by_cases p2 : y.core.doc = x.core.doc
            rotate_left
            · have e1 : (y.core.parent != (n : Int)) = false := by rw [p1]; simp
              have e2 : (y.core.doc != x.core.doc) = true := bne_iff_ne.2 p2
              have e3 : (y.core.doc == x.core.doc) = false := beq_eq_false_iff_ne.2 p2
              have HR : Hid (kidsB (coreL L) n x.core = false) := Lib.hid (STOP.out (by rw [HB.out, e3, Bool.and_false]))
              rw [p1] at d5
              have e4 : ((n : Int) != (n : Int)) = false := by simp
              clear p1 p2
              (go_wp2_with (first
                  | (go_at_call 41; ((with_reducible refine (CI1.out _).mono ?_); rintro e w' ⟨rfl, rfl⟩))
                  | (go_at_call 41; ((with_reducible refine (CI2.out _).mono ?_); rintro e w' ⟨rfl, rfl⟩))))
              go_quiet (fail)
              go_wp2
              go_ret
              exact ⟨ret_bool HR.out.symm, below_drewN (below_drewN (Below.refl _ _) _) _⟩
            have HB : Hid (kidB (coreL L) n x.core.doc (j : Int) = true) := Lib.hid (by rw [HB.out, p1, p2]; simp)
            rw [p1] at d5
            rw [p2] at d9
            have e4 : ((n : Int) != (n : Int)) = false := by simp
            have e5 : (x.core.doc != x.core.doc) = false := by simp
            clear p1 p2
            (go_wp2_with (first
                | (go_at_call 41; ((with_reducible refine (CI1.out _).mono ?_); rintro e w' ⟨rfl, rfl⟩))
                | (go_at_call 41; ((with_reducible refine (CI2.out _).mono ?_); rintro e w' ⟨rfl, rfl⟩))))
            go_quiet (fail)
            go_wp2
            go_roundw
            case rel => exact ⟨k + 1, _, by omega, by go_num, by first | (rw [HE.out]; done) | (rw [HE.out]; go_num), by first | (rw [HT.out]; done) | (rw [HT.out]; go_num), by first | rfl | exact World.drewN_drewN _ _ _, Lib.hid (MORE.out HB.out)⟩
            case measure => simp [intOf]; omega)
        | false =>
          have HR : Hid (kidsB (coreL L) n x.core = false) := Lib.hid (STOP.out (by unfold kidB; rw [q1, q2]; rfl))
          rw [q2] at CI2
          clear HES HTS q1 q2
          (go_wp2_with (first
              | (go_at_call 41; ((with_reducible refine (CI1.out _).mono ?_); rintro e w' ⟨rfl, rfl⟩))
              | (go_at_call 41; ((with_reducible refine (CI2.out _).mono ?_); rintro e w' ⟨rfl, rfl⟩))))
          go_ret
          exact ⟨ret_bool HR.out.symm, below_drewN (Below.refl _ _) _⟩
    · have hkk : k = x.kN := by omega
      subst hkk
      have e1 : x.core.kids.take x.kN = x.core.kids := List.take_of_length_le (by rw [HKL.out]; omega)
      have HALL : Hid (kidsB (coreL L) n x.core = shapeB (coreL L) x.core) := Lib.hid (by
        unfold kidsB
        have : x.core.kids.all (kidB (coreL L) n x.core.doc) = true := by
          rw [List.all_eq_true]
          intro z hz
          obtain ⟨j, hj, he⟩ := List.mem_iff_getElem.1 hz
          exact HA.out j z (by rw [HKL.out] at hj; omega) (by rw [List.getElem?_eq_getElem hj, he])
        rw [this, Bool.true_and])
      rw [e1] at hel htx
      by_cases k0 : x.core.kind = 0
      · have HR : Hid (kidsB (coreL L) n x.core = (decide ((el : Int) ≤ 1) && ((tx : Int) == 0))) := Lib.hid (by rw [HALL.out]; unfold shapeB; rw [if_pos k0, hel, htx, Bool.eq_iff_iff]; simp; omega)
        rw [k0] at c0
        clear hel htx e1 k0 CI HA HALL
        by_cases t0 : (el : Int) ≤ 1
        · rw [decide_eq_true t0, Bool.true_and] at HR
          go_wp2
          go_ret
          exact ⟨ret_bool HR.out.symm, below_drewN (Below.refl _ _) _⟩
        · rw [decide_eq_false t0, Bool.false_and] at HR
          go_wp2
          go_ret
          exact ⟨ret_bool HR.out.symm, below_drewN (Below.refl _ _) _⟩
      by_cases k2 : x.core.kind = 2
      · have HR : Hid (kidsB (coreL L) n x.core = ((el : Int) + tx == 0)) := Lib.hid (by rw [HALL.out]; unfold shapeB; rw [if_neg k0, if_pos k2, hel, htx, Bool.eq_iff_iff]; simp; omega)
        rw [k2] at c0
        clear hel htx e1 k0 k2 CI HA HALL
        go_wp2
        go_ret
        exact ⟨ret_bool HR.out.symm, below_drewN (Below.refl _ _) _⟩
      have HR : Hid (kidsB (coreL L) n x.core = true) := Lib.hid (by rw [HALL.out]; unfold shapeB; rw [if_neg k0, if_neg k2])
      have f0 : (x.core.kind == 0) = false := beq_eq_false_iff_ne.2 k0
      have f2 : (x.core.kind == 2) = false := beq_eq_false_iff_ne.2 k2
      clear hel htx e1 k0 k2 CI HA HALL
      go_wp2
      go_ret
      exact ⟨ret_bool HR.out.symm, below_drewN (Below.refl _ _) _⟩
end Go.Proofs.YtkfmengdffpcnaaGreatDoor
