/- Texts joined in build order: ForestFit2 ForestFit3 ForestFit4 ForestFit5 OwnCells ForestOnce ForestMakesMath ForestEnds. -/
import Derived.Test.YtbgcpgpkhfbijaaGreatDoorK02
import Derived.Below
import Derived.WalkSmall
import Derived.Laws.Rows
import Derived.Deep.OwnRows
/- Package forest's kidsFit. -/
namespace Go.Proofs.YtbgcpgpkhfbijaaGreatDoor
open Go.RowKit
def kidB (F : List Core) (i d k : Int) : Bool := (isKd F k 1 || isKd F k 2) && match getC F k with | some c => c.parent == i && c.doc == d | none => false
def elemsB (F : List Core) (l : List Int) : Nat := l.countP (fun z => isKd F z 1)
def textsB (F : List Core) (l : List Int) : Nat := l.countP (fun z => isKd F z 2)
def shapeB (F : List Core) (x : Core) : Bool := if x.kind = 0 then decide (elemsB F x.kids ≤ 1) && decide (textsB F x.kids = 0) else if x.kind = 2 then decide (elemsB F x.kids + textsB F x.kids = 0) else true
def kidsB (F : List Core) (i : Int) (x : Core) : Bool := x.kids.all (kidB F i x.doc) && shapeB F x
theorem isKd_get {L : List NodeD} {z k : Int} (h : isKd (coreL L) z k = true) : ∃ (j : Nat) (y : NodeD), z = j ∧ L[j]? = some y ∧ y.core.kind = k := by
  unfold isKd at h
  cases hg : getC (coreL L) z with
  | none => rw [hg] at h; cases h
  | some c =>
    rw [hg] at h
    obtain ⟨h1, h2, h3⟩ := getC_some hg
    have h4 := beq_iff_eq.1 h
    unfold coreL at h3
    rw [List.getElem?_map] at h3
    cases hy : L[z.toNat]? with
    | none => rw [hy] at h3; cases h3
    | some y =>
      rw [hy] at h3
      injection h3 with h3
      exact ⟨z.toNat, y, by omega, hy, by rw [← h4, ← h3]⟩
theorem elemsB_step {F : List Core} {l : List Int} {k : Nat} {z : Int} (h : l[k]? = some z) : elemsB F (l.take (k + 1)) = elemsB F (l.take k) + (if isKd F z 1 then 1 else 0) := by
  obtain ⟨hl, hg⟩ := List.getElem?_eq_some_iff.1 h
  unfold elemsB
  rw [List.take_succ_eq_append_getElem hl, hg, List.countP_append]
  simp [List.countP_cons]
theorem textsB_step {F : List Core} {l : List Int} {k : Nat} {z : Int} (h : l[k]? = some z) : textsB F (l.take (k + 1)) = textsB F (l.take k) + (if isKd F z 2 then 1 else 0) := by
  obtain ⟨hl, hg⟩ := List.getElem?_eq_some_iff.1 h
  unfold textsB
  rw [List.take_succ_eq_append_getElem hl, hg, List.countP_append]
  simp [List.countP_cons]
theorem elemsB_le (F : List Core) (l : List Int) (k : Nat) : elemsB F (l.take k) ≤ k := Nat.le_trans List.countP_le_length (List.length_take_le _ _)
theorem textsB_le (F : List Core) (l : List Int) (k : Nat) : textsB F (l.take k) ≤ k := Nat.le_trans List.countP_le_length (List.length_take_le _ _)
theorem isKd_apart {F : List Core} {z j k : Int} (h : isKd F z j = true) (hn : j ≠ k) : isKd F z k = false := by
  unfold isKd at h ⊢
  cases hg : getC F z with
  | none => rfl
  | some c =>
    rw [hg] at h
    have := beq_iff_eq.1 h
    exact beq_eq_false_iff_ne.2 (by rw [this]; exact hn)
theorem both_le (F : List Core) (k : Nat) : ∀ l : List Int, elemsB F (l.take k) + textsB F (l.take k) ≤ k := fun l => by
  have key : ∀ l : List Int, elemsB F l + textsB F l ≤ l.length := by
    intro l
    induction l with
    | nil => exact Nat.le_refl _
    | cons a r ih =>
      have h1 : elemsB F (a :: r) = elemsB F r + (if isKd F a 1 then 1 else 0) := by unfold elemsB; rw [List.countP_cons]
      have h2 : textsB F (a :: r) = textsB F r + (if isKd F a 2 then 1 else 0) := by unfold textsB; rw [List.countP_cons]
      rw [h1, h2, List.length_cons]
      cases q1 : isKd F a 1 with
      | true =>
        rw [isKd_apart q1 (show (1 : Int) ≠ 2 by decide)]
        simp
        omega
      | false =>
        cases isKd F a 2 <;> simp <;> omega
  exact Nat.le_trans (key _) (List.length_take_le _ _)
set_option maxHeartbeats 8000000 in
set_option maxRecDepth 100000 in
theorem kidsFit_any (a : Option Addr) (len cap : Nat) (L : List NodeD) (n : Nat) (x : NodeD) (w : World) (h : NodeRow w a len cap L) (hx : L[n]? = some x) :
    Calls Tryz.prog 141 #[.slice a len cap, .int .i64 n] w fun e w' => e = .returned (.bool (kidsB (coreL L) n x.core)) ∧ Below w.heap.size w w' := by
  have hl := h.len64
  have hnl : n < len := by rw [← h.hlen]; exact (List.getElem?_eq_some_iff.1 hx).1
  have HL := Lib.hid h.hlen
  obtain ⟨b, off, x', rfl, hb, hx', hc, hok⟩ := h.get hnl
  obtain rfl : x = x' := Option.some.inj (hx.symm.trans hx')
  have c0 := hc.c0
  have c6 := hc.c6
  have c9 := hc.c9
  have hk0 := hok.kids
  obtain ⟨kA, hkA⟩ : ∃ q, x.kA = q := ⟨_, rfl⟩
  rw [hkA] at c6 hk0
  have HK := Lib.hid hk0
  have hkl := hok.kids.len64
  have HKL := Lib.hid hok.kids.hlen
  have CI : Hid (∀ m z k, In64 z → Calls Tryz.prog 85 #[.slice (some ⟨b, off, none⟩) len cap, .int .i64 z, .int .i64 k] (w.drewN m) fun e w' => e = .returned (.bool (isKd (coreL L) z k)) ∧ w.drewN m = w') :=
    Lib.hid (fun m z k hz => is_any _ len cap L z k _ (h.drewN m) hz)
  have HX := Lib.hid hx
  clear hc hx hx' hok hb hk0 hkA
  go_enter Tryz.func141, Tryz.ntmps141
  go_wp2
  go_loopw [5, 6, 15] (fun e t i wr => ∃ k m : Nat, k ≤ x.kN ∧ i = .int .i64 k ∧ e = .int .i64 (elemsB (coreL L) (x.core.kids.take k) : Nat) ∧ t = .int .i64 (textsB (coreL L) (x.core.kids.take k) : Nat) ∧ wr = w.drewN m ∧ Hid (∀ j z, j < k → x.core.kids[j]? = some z → kidB (coreL L) n x.core.doc z = true)) (fun _ _ i _ => x.kN - (intOf i).toNat)
  case atStart => exact ⟨0, 0, Nat.zero_le _, rfl, rfl, rfl, rfl, Lib.hid (fun j z hj _ => absurd hj (by omega))⟩
  case round =>
    obtain ⟨k, m, hk, rfl, rfl, rfl, rfl, HA⟩ := hrel
    have hle := both_le (coreL L) k x.core.kids
    obtain ⟨el, hel⟩ : ∃ el, elemsB (coreL L) (x.core.kids.take k) = el := ⟨_, rfl⟩
    obtain ⟨tx, htx⟩ : ∃ tx, textsB (coreL L) (x.core.kids.take k) = tx := ⟨_, rfl⟩
    rw [hel, htx] at hle ⊢
    by_cases hlt : k < x.kN
    · obtain ⟨bk, ok, z, rfl, hbk, hz, hcz, hin⟩ := HK.out.get hlt
      have HES := elemsB_step (F := coreL L) hz
      have HTS := textsB_step (F := coreL L) hz
      rw [hel] at HES
      rw [htx] at HTS
      have STOP : Hid (kidB (coreL L) n x.core.doc z = false → kidsB (coreL L) n x.core = false) := Lib.hid (fun hs => by
        unfold kidsB
        have : x.core.kids.all (kidB (coreL L) n x.core.doc) = false := by rw [List.all_eq_false]; exact ⟨z, List.mem_of_getElem? hz, by simp [hs]⟩
        rw [this, Bool.false_and])
      have MORE : Hid (kidB (coreL L) n x.core.doc z = true → ∀ j y, j < k + 1 → x.core.kids[j]? = some y → kidB (coreL L) n x.core.doc y = true) := Lib.hid (fun hs j y hj hy => by
        by_cases e : j = k
        · subst e
          rw [hz] at hy
          rw [← Option.some.inj hy]
          exact hs
        · exact HA.out j y (by omega) hy)
      clear hz hel htx
      have CI1 := Lib.hid (fun m => CI.out m z 1 hin)
      have CI2 := Lib.hid (fun m => CI.out m z 2 hin)
      cases q1 : isKd (coreL L) z 1 with
      | true =>
        have q2 := isKd_apart q1 (show (1 : Int) ≠ 2 by decide)
        have HE : Hid (elemsB (coreL L) (x.core.kids.take (k + 1)) = el + 1) := Lib.hid (by rw [HES, q1]; rfl)
        have HT : Hid (textsB (coreL L) (x.core.kids.take (k + 1)) = tx) := Lib.hid (by rw [HTS, q2]; rfl)
        rw [q1] at CI1
        rw [q2] at CI2
        clear HES HTS
        (
          obtain ⟨j, y, rfl, hy, hyk⟩ := isKd_get (by assumption)
          have hjl : j < len := by rw [← HL.out]; exact (List.getElem?_eq_some_iff.1 hy).1
          obtain ⟨b2, off2, y', hab, hb2, hy', hcy, hoky⟩ := h.get hjl
          obtain rfl : y = y' := Option.some.inj (hy.symm.trans hy')
          injection hab with hab
          injection hab with e1 e2
          subst e1 e2
          have d5 := hcy.c5
          have d9 := hcy.c9
          have HB : Hid (kidB (coreL L) n x.core.doc (j : Int) = (y.core.parent == (n : Int) && y.core.doc == x.core.doc)) := Lib.hid (by
            unfold kidB
            rw [getC_nat, coreL_get hy]
            simp [*])
          clear hy hyk hcy hoky hy' h hb2
          by_cases p1 : y.core.parent = (n : Int)
          rotate_left
          · have e1 : (y.core.parent != (n : Int)) = true := bne_iff_ne.2 p1
            have e2 : (y.core.parent == (n : Int)) = false := beq_eq_false_iff_ne.2 p1
            have HR : Hid (kidsB (coreL L) n x.core = false) := Lib.hid (STOP.out (by rw [HB.out, e2]; rfl))
            clear p1
            (go_wp2_with (first
                | (go_at_call 85; ((with_reducible refine (CI1.out _).mono ?_); rintro e w' ⟨rfl, rfl⟩))
                | (go_at_call 85; ((with_reducible refine (CI2.out _).mono ?_); rintro e w' ⟨rfl, rfl⟩))))
            go_quiet (fail)
            go_wp2
            go_ret
            exact ⟨ret_bool HR.out.symm, below_drewN (below_drewN (Below.refl _ _) _) _⟩
          by_cases p2 : y.core.doc = x.core.doc
          rotate_left
          · have e1 : (y.core.parent != (n : Int)) = false := by rw [p1]; simp
            have e2 : (y.core.doc != x.core.doc) = true := bne_iff_ne.2 p2
            have e3 : (y.core.doc == x.core.doc) = false := beq_eq_false_iff_ne.2 p2
            have HR : Hid (kidsB (coreL L) n x.core = false) := Lib.hid (STOP.out (by rw [HB.out, e3, Bool.and_false]))
            rw [p1] at d5
            have e4 : ((n : Int) != (n : Int)) = false := by simp
            clear p1 p2
            (go_wp2_with (first
                | (go_at_call 85; ((with_reducible refine (CI1.out _).mono ?_); rintro e w' ⟨rfl, rfl⟩))
                | (go_at_call 85; ((with_reducible refine (CI2.out _).mono ?_); rintro e w' ⟨rfl, rfl⟩))))
            go_quiet (fail)
            go_wp2
            go_ret
            exact ⟨ret_bool HR.out.symm, below_drewN (below_drewN (Below.refl _ _) _) _⟩
          have HB : Hid (kidB (coreL L) n x.core.doc (j : Int) = true) := Lib.hid (by rw [HB.out, p1, p2]; simp)
          rw [p1] at d5
          rw [p2] at d9
          have e4 : ((n : Int) != (n : Int)) = false := by simp
          have e5 : (x.core.doc != x.core.doc) = false := by simp
          clear p1 p2
          (go_wp2_with (first
              | (go_at_call 85; ((with_reducible refine (CI1.out _).mono ?_); rintro e w' ⟨rfl, rfl⟩))
              | (go_at_call 85; ((with_reducible refine (CI2.out _).mono ?_); rintro e w' ⟨rfl, rfl⟩))))
          go_quiet (fail)
          go_wp2
          go_roundw
          case rel => exact ⟨k + 1, _, by omega, by go_num, by first | (rw [HE.out]; done) | (rw [HE.out]; go_num), by first | (rw [HT.out]; done) | (rw [HT.out]; go_num), by first | rfl | exact World.drewN_drewN _ _ _, Lib.hid (MORE.out HB.out)⟩
          case measure => simp [intOf]; omega)
      | false =>
        rw [q1] at CI1
        cases q2 : isKd (coreL L) z 2 with
        | true =>
          have HE : Hid (elemsB (coreL L) (x.core.kids.take (k + 1)) = el) := Lib.hid (by rw [HES, q1]; rfl)
          have HT : Hid (textsB (coreL L) (x.core.kids.take (k + 1)) = tx + 1) := Lib.hid (by rw [HTS, q2]; rfl)
          rw [q2] at CI2
          clear HES HTS
          (
            obtain ⟨j, y, rfl, hy, hyk⟩ := isKd_get (by assumption)
            have hjl : j < len := by rw [← HL.out]; exact (List.getElem?_eq_some_iff.1 hy).1
            obtain ⟨b2, off2, y', hab, hb2, hy', hcy, hoky⟩ := h.get hjl
            obtain rfl : y = y' := Option.some.inj (hy.symm.trans hy')
            injection hab with hab
            injection hab with e1 e2
            subst e1 e2
            have d5 := hcy.c5
            have d9 := hcy.c9
            have HB : Hid (kidB (coreL L) n x.core.doc (j : Int) = (y.core.parent == (n : Int) && y.core.doc == x.core.doc)) := Lib.hid (by
              unfold kidB
              rw [getC_nat, coreL_get hy]
              simp [*])
            clear hy hyk hcy hoky hy' h hb2
            by_cases p1 : y.core.parent = (n : Int)
            rotate_left
            · have e1 : (y.core.parent != (n : Int)) = true := bne_iff_ne.2 p1
              have e2 : (y.core.parent == (n : Int)) = false := beq_eq_false_iff_ne.2 p1
              have HR : Hid (kidsB (coreL L) n x.core = false) := Lib.hid (STOP.out (by rw [HB.out, e2]; rfl))
              clear p1
              (go_wp2_with (first
                  | (go_at_call 85; ((with_reducible refine (CI1.out _).mono ?_); rintro e w' ⟨rfl, rfl⟩))
                  | (go_at_call 85; ((with_reducible refine (CI2.out _).mono ?_); rintro e w' ⟨rfl, rfl⟩))))
              go_quiet (fail)
              go_wp2
              go_ret
              exact ⟨ret_bool HR.out.symm, below_drewN (below_drewN (Below.refl _ _) _) _⟩
            by_cases p2 : y.core.doc = x.core.doc
            rotate_left
            · have e1 : (y.core.parent != (n : Int)) = false := by rw [p1]; simp
              have e2 : (y.core.doc != x.core.doc) = true := bne_iff_ne.2 p2
              have e3 : (y.core.doc == x.core.doc) = false := beq_eq_false_iff_ne.2 p2
              have HR : Hid (kidsB (coreL L) n x.core = false) := Lib.hid (STOP.out (by rw [HB.out, e3, Bool.and_false]))
              rw [p1] at d5
              have e4 : ((n : Int) != (n : Int)) = false := by simp
              clear p1 p2
              (go_wp2_with (first
                  | (go_at_call 85; ((with_reducible refine (CI1.out _).mono ?_); rintro e w' ⟨rfl, rfl⟩))
                  | (go_at_call 85; ((with_reducible refine (CI2.out _).mono ?_); rintro e w' ⟨rfl, rfl⟩))))
              go_quiet (fail)
              go_wp2
              go_ret
              exact ⟨ret_bool HR.out.symm, below_drewN (below_drewN (Below.refl _ _) _) _⟩
            have HB : Hid (kidB (coreL L) n x.core.doc (j : Int) = true) := Lib.hid (by rw [HB.out, p1, p2]; simp)
            rw [p1] at d5
            rw [p2] at d9
            have e4 : ((n : Int) != (n : Int)) = false := by simp
            have e5 : (x.core.doc != x.core.doc) = false := by simp
            clear p1 p2
            (go_wp2_with (first
                | (go_at_call 85; ((with_reducible refine (CI1.out _).mono ?_); rintro e w' ⟨rfl, rfl⟩))
                | (go_at_call 85; ((with_reducible refine (CI2.out _).mono ?_); rintro e w' ⟨rfl, rfl⟩))))
            go_quiet (fail)
            go_wp2
            go_roundw
            case rel => exact ⟨k + 1, _, by omega, by go_num, by first | (rw [HE.out]; done) | (rw [HE.out]; go_num), by first | (rw [HT.out]; done) | (rw [HT.out]; go_num), by first | rfl | exact World.drewN_drewN _ _ _, Lib.hid (MORE.out HB.out)⟩
            case measure => simp [intOf]; omega)
        | false =>
          have HR : Hid (kidsB (coreL L) n x.core = false) := Lib.hid (STOP.out (by unfold kidB; rw [q1, q2]; rfl))
          rw [q2] at CI2
          clear HES HTS q1 q2
          (go_wp2_with (first
              | (go_at_call 85; ((with_reducible refine (CI1.out _).mono ?_); rintro e w' ⟨rfl, rfl⟩))
              | (go_at_call 85; ((with_reducible refine (CI2.out _).mono ?_); rintro e w' ⟨rfl, rfl⟩))))
          go_ret
          exact ⟨ret_bool HR.out.symm, below_drewN (Below.refl _ _) _⟩
    · have hkk : k = x.kN := by omega
      subst hkk
      have e1 : x.core.kids.take x.kN = x.core.kids := List.take_of_length_le (by rw [HKL.out]; omega)
      have HALL : Hid (kidsB (coreL L) n x.core = shapeB (coreL L) x.core) := Lib.hid (by
        unfold kidsB
        have : x.core.kids.all (kidB (coreL L) n x.core.doc) = true := by
          rw [List.all_eq_true]
          intro z hz
          obtain ⟨j, hj, he⟩ := List.mem_iff_getElem.1 hz
          exact HA.out j z (by rw [HKL.out] at hj; omega) (by rw [List.getElem?_eq_getElem hj, he])
        rw [this, Bool.true_and])
      rw [e1] at hel htx
      by_cases k0 : x.core.kind = 0
      · have HR : Hid (kidsB (coreL L) n x.core = (decide ((el : Int) ≤ 1) && ((tx : Int) == 0))) := Lib.hid (by rw [HALL.out]; unfold shapeB; rw [if_pos k0, hel, htx, Bool.eq_iff_iff]; simp; omega)
        rw [k0] at c0
        clear hel htx e1 k0 CI HA HALL
        by_cases t0 : (el : Int) ≤ 1
        · rw [decide_eq_true t0, Bool.true_and] at HR
          go_wp2
          go_ret
          exact ⟨ret_bool HR.out.symm, below_drewN (Below.refl _ _) _⟩
        · rw [decide_eq_false t0, Bool.false_and] at HR
          go_wp2
          go_ret
          exact ⟨ret_bool HR.out.symm, below_drewN (Below.refl _ _) _⟩
      by_cases k2 : x.core.kind = 2
      · have HR : Hid (kidsB (coreL L) n x.core = ((el : Int) + tx == 0)) := Lib.hid (by rw [HALL.out]; unfold shapeB; rw [if_neg k0, if_pos k2, hel, htx, Bool.eq_iff_iff]; simp; omega)
        rw [k2] at c0
        clear hel htx e1 k0 k2 CI HA HALL
        go_wp2
        go_ret
        exact ⟨ret_bool HR.out.symm, below_drewN (Below.refl _ _) _⟩
      have HR : Hid (kidsB (coreL L) n x.core = true) := Lib.hid (by rw [HALL.out]; unfold shapeB; rw [if_neg k0, if_neg k2])
      have f0 : (x.core.kind == 0) = false := beq_eq_false_iff_ne.2 k0
      have f2 : (x.core.kind == 2) = false := beq_eq_false_iff_ne.2 k2
      clear hel htx e1 k0 k2 CI HA HALL
      go_wp2
      go_ret
      exact ⟨ret_bool HR.out.symm, below_drewN (Below.refl _ _) _⟩
end Go.Proofs.YtbgcpgpkhfbijaaGreatDoor
/- Package forest's shadowFits. -/
namespace Go.Proofs.YtbgcpgpkhfbijaaGreatDoor
open Go.RowKit
def hostB (F : List Core) (i : Int) (x : Core) : Bool := match getC F x.host with | some h => h.kind == 1 && h.under == i && h.doc == x.doc | none => false
def underB (F : List Core) (i : Int) (x : Core) : Bool := match getC F x.under with | some u => u.kind == 4 && u.host == i | none => false
def shadowB (F : List Core) (i : Int) (x : Core) : Bool :=
  if x.kind = 4 then hostB F i x && x.under == -1 else if x.kind = 1 then x.host == -1 && (x.under == -1 || underB F i x) else x.host == -1 && x.under == -1
theorem hostB_no {F : List Core} {i : Int} {x : Core} (h : isKd F x.host 1 = false) : hostB F i x = false := by
  unfold isKd at h
  unfold hostB
  cases hg : getC F x.host with
  | none => rfl
  | some c => rw [hg] at h; dsimp only at h ⊢; rw [h]; rfl
theorem underB_no {F : List Core} {i : Int} {x : Core} (h : isKd F x.under 4 = false) : underB F i x = false := by
  unfold isKd at h
  unfold underB
  cases hg : getC F x.under with
  | none => rfl
  | some c => rw [hg] at h; dsimp only at h ⊢; rw [h]; rfl
/-- A cell that stays what it is in all later worlds. -/
theorem stays {w : World} {p : Addr} {v : Value} (h : w.cell? p = some v) (hp : p.block < w.heap.size) : ∀ W, Below w.heap.size w W → W.cell? p = some v := fun _ hb => (hb.cell hp).trans h
theorem Ext.stays {w w1 : World} {p : Addr} {v : Value} (h : ∀ W, Below w.heap.size w W → W.cell? p = some v) (hb : Below w.heap.size w w1) : ∀ x : Ext w1, x.v.cell? p = some v := fun x => h _ (hb.trans (x.below.mono hb.size))
set_option maxHeartbeats 8000000 in
set_option maxRecDepth 100000 in
theorem shadowFits_any (a : Option Addr) (len cap : Nat) (L : List NodeD) (n : Nat) (x : NodeD) (w : World) (h : NodeRow w a len cap L) (hx : L[n]? = some x) :
    Calls Tryz.prog 142 #[.slice a len cap, .int .i64 n] w fun e w' => e = .returned (.bool (shadowB (coreL L) n x.core)) ∧ Below w.heap.size w w' := by
  have hl := h.len64
  have hnl : n < len := by rw [← h.hlen]; exact (List.getElem?_eq_some_iff.1 hx).1
  have HL := Lib.hid h.hlen
  obtain ⟨b, off, x', rfl, hb, hx', hc, hok⟩ := h.get hnl
  obtain rfl : x = x' := Option.some.inj (hx.symm.trans hx')
  have c0 := hc.c0
  have C7 := Lib.hid (stays hc.c7 hb)
  have C8 := Lib.hid (stays hc.c8 hb)
  have C9 := Lib.hid (stays hc.c9 hb)
  have D7 := C9
  have D8 := C9
  have D9 := C9
  have CJ : Hid (∀ z k, In64 z → ∀ W, Below w.heap.size w W → Calls Tryz.prog 85 #[.slice (some ⟨b, off, none⟩) len cap, .int .i64 z, .int .i64 k] W fun e w' => e = .returned (.bool (isKd (coreL L) z k)) ∧ W = w') :=
    Lib.hid (fun z k hz W hb => is_any _ len cap L z k _ (h.below hb) hz)
  have HH := Lib.hid h
  have IH := Lib.hid hok.host
  have IU := Lib.hid hok.under
  have HB := Lib.hid hb
  clear hc hx hx' hok hb h
  by_cases k4 : x.core.kind = 4
  · have CI := Lib.hid (CJ.out x.core.host 1 IH.out)
    have HR : Hid (shadowB (coreL L) n x.core = (hostB (coreL L) n x.core && x.core.under == -1)) := Lib.hid (by unfold shadowB; rw [if_pos k4])
    rw [k4] at c0
    have C0 := Lib.hid (stays c0 HB.out)
    clear c0 k4 CJ IH IU
    cases q1 : isKd (coreL L) x.core.host 1 with
    | false =>
      have HR : Hid (shadowB (coreL L) n x.core = false) := Lib.hid (by rw [HR.out, hostB_no q1, Bool.false_and])
      rw [q1] at CI
      clear q1
      (
        go_enter Tryz.func142, Tryz.ntmps142
        go_wp2
        have E7 := Ext.stays C7.out (Below.refl _ _)
        have E8 := Ext.stays C8.out (Below.refl _ _)
        refine wp_region_ext (by kernel_rfl) (by kernel_rfl) ?_
        repeat (go_big_quiet_step (fail))
        refine wpQuiet_nil ?_
        intro w' hw'
        obtain ⟨⟨w2, hb2⟩, hw''⟩ := hw'
        dsimp only at hw''
        subst hw''
        clear E7 E8
        have c0 := C0.out _ hb2
        have c7 := C7.out _ hb2
        have c8 := C8.out _ hb2
        have c9 := C9.out _ hb2
        have d7 := D7.out _ hb2
        go_wp2_with (go_at_call 85; ((with_reducible refine (CI.out _ hb2).mono ?_); rintro e w' ⟨rfl, rfl⟩)))
      (
        have E0 := Ext.stays C0.out hb2
        have E7 := Ext.stays C7.out hb2
        have E8 := Ext.stays C8.out hb2
        have E9 := Ext.stays C9.out hb2
        have F8 := Ext.stays D8.out hb2
        have F9 := Ext.stays D9.out hb2
        have EI := Lib.hid (fun (x : Ext w') => CI.out _ (hb2.trans (x.below.mono hb2.size)))
        refine wp_region_ext (by kernel_rfl) (by kernel_rfl) ?_
        repeat (go_big_quiet_step (first | (go_at_call 85; exact Ext.call_same (EI.out _))))
        refine wpQuiet_nil ?_
        intro w3 hw'
        obtain ⟨⟨w4, hb4⟩, hw''⟩ := hw'
        dsimp only at hw''
        subst hw''
        have hb3 := hb2.trans (hb4.mono hb2.size)
        clear E0 E7 E8 E9 F8 F9 EI hb2
        go_wp2)
      (go_ret; exact ⟨ret_bool HR.out.symm, by assumption⟩)
    | true =>
      rw [q1] at CI
      obtain ⟨j, y, hj, hy, hyk⟩ := isKd_get q1
      have HH2 : Hid (hostB (coreL L) n x.core = (y.core.under == (n : Int) && y.core.doc == x.core.doc)) := Lib.hid (by
        unfold hostB
        rw [hj, getC_nat, coreL_get hy]
        dsimp only
        rw [hyk]
        rfl)
      have hjl : j < len := by rw [← HL.out]; exact (List.getElem?_eq_some_iff.1 hy).1
      obtain ⟨b2, off2, y', hab, hb2, hy', hcy, hoky⟩ := HH.out.get hjl
      obtain rfl : y = y' := Option.some.inj (hy.symm.trans hy')
      injection hab with hab
      injection hab with e1 e2
      subst e1 e2
      have d8 := hcy.c8
      have d9 := hcy.c9
      rw [hj] at C7 CI
      have HB2 := Lib.hid hb2
      clear q1 hj hy hyk hcy hoky hy' hb2
      have D9 := Lib.hid (stays d9 HB2.out)
      by_cases p1 : y.core.under = (n : Int)
      rotate_left
      · have f1 : (y.core.under == (n : Int)) = false := beq_eq_false_iff_ne.2 p1
        have HR : Hid (shadowB (coreL L) n x.core = false) := Lib.hid (by rw [HR.out, HH2.out, f1]; rfl)
        have D8 := Lib.hid (stays d8 HB2.out)
        clear p1 d8 d9
        (
          go_enter Tryz.func142, Tryz.ntmps142
          go_wp2
          have E7 := Ext.stays C7.out (Below.refl _ _)
          have E8 := Ext.stays C8.out (Below.refl _ _)
          refine wp_region_ext (by kernel_rfl) (by kernel_rfl) ?_
          repeat (go_big_quiet_step (fail))
          refine wpQuiet_nil ?_
          intro w' hw'
          obtain ⟨⟨w2, hb2⟩, hw''⟩ := hw'
          dsimp only at hw''
          subst hw''
          clear E7 E8
          have c0 := C0.out _ hb2
          have c7 := C7.out _ hb2
          have c8 := C8.out _ hb2
          have c9 := C9.out _ hb2
          have d7 := D7.out _ hb2
          go_wp2_with (go_at_call 85; ((with_reducible refine (CI.out _ hb2).mono ?_); rintro e w' ⟨rfl, rfl⟩)))
        (
          have E0 := Ext.stays C0.out hb2
          have E7 := Ext.stays C7.out hb2
          have E8 := Ext.stays C8.out hb2
          have E9 := Ext.stays C9.out hb2
          have F8 := Ext.stays D8.out hb2
          have F9 := Ext.stays D9.out hb2
          have EI := Lib.hid (fun (x : Ext w') => CI.out _ (hb2.trans (x.below.mono hb2.size)))
          refine wp_region_ext (by kernel_rfl) (by kernel_rfl) ?_
          repeat (go_big_quiet_step (first | (go_at_call 85; exact Ext.call_same (EI.out _))))
          refine wpQuiet_nil ?_
          intro w3 hw'
          obtain ⟨⟨w4, hb4⟩, hw''⟩ := hw'
          dsimp only at hw''
          subst hw''
          have hb3 := hb2.trans (hb4.mono hb2.size)
          clear E0 E7 E8 E9 F8 F9 EI hb2
          go_wp2)
        (go_ret; exact ⟨ret_bool HR.out.symm, by assumption⟩)
      rw [p1] at d8
      have D8 := Lib.hid (stays d8 HB2.out)
      clear d8
      have f1 : ((n : Int) == (n : Int)) = true := by simp
      by_cases p2 : y.core.doc = x.core.doc
      rotate_left
      · have f2 : (y.core.doc == x.core.doc) = false := beq_eq_false_iff_ne.2 p2
        have HR : Hid (shadowB (coreL L) n x.core = false) := Lib.hid (by rw [HR.out, HH2.out, f2]; simp)
        clear p1 p2 d9
        (
          go_enter Tryz.func142, Tryz.ntmps142
          go_wp2
          have E7 := Ext.stays C7.out (Below.refl _ _)
          have E8 := Ext.stays C8.out (Below.refl _ _)
          refine wp_region_ext (by kernel_rfl) (by kernel_rfl) ?_
          repeat (go_big_quiet_step (fail))
          refine wpQuiet_nil ?_
          intro w' hw'
          obtain ⟨⟨w2, hb2⟩, hw''⟩ := hw'
          dsimp only at hw''
          subst hw''
          clear E7 E8
          have c0 := C0.out _ hb2
          have c7 := C7.out _ hb2
          have c8 := C8.out _ hb2
          have c9 := C9.out _ hb2
          have d7 := D7.out _ hb2
          go_wp2_with (go_at_call 85; ((with_reducible refine (CI.out _ hb2).mono ?_); rintro e w' ⟨rfl, rfl⟩)))
        (
          have E0 := Ext.stays C0.out hb2
          have E7 := Ext.stays C7.out hb2
          have E8 := Ext.stays C8.out hb2
          have E9 := Ext.stays C9.out hb2
          have F8 := Ext.stays D8.out hb2
          have F9 := Ext.stays D9.out hb2
          have EI := Lib.hid (fun (x : Ext w') => CI.out _ (hb2.trans (x.below.mono hb2.size)))
          refine wp_region_ext (by kernel_rfl) (by kernel_rfl) ?_
          repeat (go_big_quiet_step (first | (go_at_call 85; exact Ext.call_same (EI.out _))))
          refine wpQuiet_nil ?_
          intro w3 hw'
          obtain ⟨⟨w4, hb4⟩, hw''⟩ := hw'
          dsimp only at hw''
          subst hw''
          have hb3 := hb2.trans (hb4.mono hb2.size)
          clear E0 E7 E8 E9 F8 F9 EI hb2
          go_wp2)
        (go_ret; exact ⟨ret_bool HR.out.symm, by assumption⟩)
      rw [p2] at d9
      have D9 := Lib.hid (stays d9 HB2.out)
      clear d9
      have f2 : (x.core.doc == x.core.doc) = true := by simp
      have HR : Hid (shadowB (coreL L) n x.core = (x.core.under == -1)) := Lib.hid (by rw [HR.out, HH2.out, p1, p2]; simp)
      clear p1 p2
      (
        go_enter Tryz.func142, Tryz.ntmps142
        go_wp2
        have E7 := Ext.stays C7.out (Below.refl _ _)
        have E8 := Ext.stays C8.out (Below.refl _ _)
        refine wp_region_ext (by kernel_rfl) (by kernel_rfl) ?_
        repeat (go_big_quiet_step (fail))
        refine wpQuiet_nil ?_
        intro w' hw'
        obtain ⟨⟨w2, hb2⟩, hw''⟩ := hw'
        dsimp only at hw''
        subst hw''
        clear E7 E8
        have c0 := C0.out _ hb2
        have c7 := C7.out _ hb2
        have c8 := C8.out _ hb2
        have c9 := C9.out _ hb2
        have d7 := D7.out _ hb2
        go_wp2_with (go_at_call 85; ((with_reducible refine (CI.out _ hb2).mono ?_); rintro e w' ⟨rfl, rfl⟩)))
      (
        have E0 := Ext.stays C0.out hb2
        have E7 := Ext.stays C7.out hb2
        have E8 := Ext.stays C8.out hb2
        have E9 := Ext.stays C9.out hb2
        have F8 := Ext.stays D8.out hb2
        have F9 := Ext.stays D9.out hb2
        have EI := Lib.hid (fun (x : Ext w') => CI.out _ (hb2.trans (x.below.mono hb2.size)))
        refine wp_region_ext (by kernel_rfl) (by kernel_rfl) ?_
        repeat (go_big_quiet_step (first | (go_at_call 85; exact Ext.call_same (EI.out _))))
        refine wpQuiet_nil ?_
        intro w3 hw'
        obtain ⟨⟨w4, hb4⟩, hw''⟩ := hw'
        dsimp only at hw''
        subst hw''
        have hb3 := hb2.trans (hb4.mono hb2.size)
        clear E0 E7 E8 E9 F8 F9 EI hb2
        go_wp2)
      (go_ret; exact ⟨ret_bool HR.out.symm, by assumption⟩)
  have f4 : (x.core.kind == 4) = false := beq_eq_false_iff_ne.2 k4
  by_cases k1 : x.core.kind = 1
  rotate_left
  · have f1 : (x.core.kind == 1) = false := beq_eq_false_iff_ne.2 k1
    have HR : Hid (shadowB (coreL L) n x.core = (x.core.host == -1 && x.core.under == -1)) := Lib.hid (by unfold shadowB; rw [if_neg k4, if_neg k1])
    have C0 := Lib.hid (stays c0 HB.out)
    have CI := Lib.hid (CJ.out x.core.under 4 IU.out)
    clear c0 k4 k1 CJ IH IU HH
    cases p1 : (x.core.host == -1) with
    | false =>
      rw [p1, Bool.false_and] at HR
      (
        go_enter Tryz.func142, Tryz.ntmps142
        go_wp2
        have E7 := Ext.stays C7.out (Below.refl _ _)
        have E8 := Ext.stays C8.out (Below.refl _ _)
        refine wp_region_ext (by kernel_rfl) (by kernel_rfl) ?_
        repeat (go_big_quiet_step (fail))
        refine wpQuiet_nil ?_
        intro w' hw'
        obtain ⟨⟨w2, hb2⟩, hw''⟩ := hw'
        dsimp only at hw''
        subst hw''
        clear E7 E8
        have c0 := C0.out _ hb2
        have c7 := C7.out _ hb2
        have c8 := C8.out _ hb2
        have c9 := C9.out _ hb2
        have d7 := D7.out _ hb2
        go_wp2_with (go_at_call 85; ((with_reducible refine (CI.out _ hb2).mono ?_); rintro e w' ⟨rfl, rfl⟩)))
      (go_ret; exact ⟨ret_bool HR.out.symm, by assumption⟩)
    | true =>
      rw [p1, Bool.true_and] at HR
      (
        go_enter Tryz.func142, Tryz.ntmps142
        go_wp2
        have E7 := Ext.stays C7.out (Below.refl _ _)
        have E8 := Ext.stays C8.out (Below.refl _ _)
        refine wp_region_ext (by kernel_rfl) (by kernel_rfl) ?_
        repeat (go_big_quiet_step (fail))
        refine wpQuiet_nil ?_
        intro w' hw'
        obtain ⟨⟨w2, hb2⟩, hw''⟩ := hw'
        dsimp only at hw''
        subst hw''
        clear E7 E8
        have c0 := C0.out _ hb2
        have c7 := C7.out _ hb2
        have c8 := C8.out _ hb2
        have c9 := C9.out _ hb2
        have d7 := D7.out _ hb2
        go_wp2_with (go_at_call 85; ((with_reducible refine (CI.out _ hb2).mono ?_); rintro e w' ⟨rfl, rfl⟩)))
      (go_ret; exact ⟨ret_bool HR.out.symm, by assumption⟩)
  have CI := Lib.hid (CJ.out x.core.under 4 IU.out)
  have HR : Hid (shadowB (coreL L) n x.core = (x.core.host == -1 && (x.core.under == -1 || underB (coreL L) n x.core))) := Lib.hid (by unfold shadowB; rw [if_neg k4, if_pos k1])
  rw [k1] at c0
  have C0 := Lib.hid (stays c0 HB.out)
  clear c0 k4 k1 f4 CJ IH IU
  cases p1 : (x.core.host == -1) with
  | false =>
    rw [p1, Bool.false_and] at HR
    (
      go_enter Tryz.func142, Tryz.ntmps142
      go_wp2
      have E7 := Ext.stays C7.out (Below.refl _ _)
      have E8 := Ext.stays C8.out (Below.refl _ _)
      refine wp_region_ext (by kernel_rfl) (by kernel_rfl) ?_
      repeat (go_big_quiet_step (fail))
      refine wpQuiet_nil ?_
      intro w' hw'
      obtain ⟨⟨w2, hb2⟩, hw''⟩ := hw'
      dsimp only at hw''
      subst hw''
      clear E7 E8
      have c0 := C0.out _ hb2
      have c7 := C7.out _ hb2
      have c8 := C8.out _ hb2
      have c9 := C9.out _ hb2
      have d7 := D7.out _ hb2
      go_wp2_with (go_at_call 85; ((with_reducible refine (CI.out _ hb2).mono ?_); rintro e w' ⟨rfl, rfl⟩)))
    (go_ret; exact ⟨ret_bool HR.out.symm, by assumption⟩)
  | true =>
    rw [p1, Bool.true_and] at HR
    cases p2 : (x.core.under == -1) with
    | true =>
      rw [p2, Bool.true_or] at HR
      (
        go_enter Tryz.func142, Tryz.ntmps142
        go_wp2
        have E7 := Ext.stays C7.out (Below.refl _ _)
        have E8 := Ext.stays C8.out (Below.refl _ _)
        refine wp_region_ext (by kernel_rfl) (by kernel_rfl) ?_
        repeat (go_big_quiet_step (fail))
        refine wpQuiet_nil ?_
        intro w' hw'
        obtain ⟨⟨w2, hb2⟩, hw''⟩ := hw'
        dsimp only at hw''
        subst hw''
        clear E7 E8
        have c0 := C0.out _ hb2
        have c7 := C7.out _ hb2
        have c8 := C8.out _ hb2
        have c9 := C9.out _ hb2
        have d7 := D7.out _ hb2
        go_wp2_with (go_at_call 85; ((with_reducible refine (CI.out _ hb2).mono ?_); rintro e w' ⟨rfl, rfl⟩)))
      (go_ret; exact ⟨ret_bool HR.out.symm, by assumption⟩)
    | false =>
      rw [p2, Bool.false_or] at HR
      cases q1 : isKd (coreL L) x.core.under 4 with
      | false =>
        have HR : Hid (shadowB (coreL L) n x.core = false) := Lib.hid (by rw [HR.out, underB_no q1])
        rw [q1] at CI
        clear q1
        (
          go_enter Tryz.func142, Tryz.ntmps142
          go_wp2
          have E7 := Ext.stays C7.out (Below.refl _ _)
          have E8 := Ext.stays C8.out (Below.refl _ _)
          refine wp_region_ext (by kernel_rfl) (by kernel_rfl) ?_
          repeat (go_big_quiet_step (fail))
          refine wpQuiet_nil ?_
          intro w' hw'
          obtain ⟨⟨w2, hb2⟩, hw''⟩ := hw'
          dsimp only at hw''
          subst hw''
          clear E7 E8
          have c0 := C0.out _ hb2
          have c7 := C7.out _ hb2
          have c8 := C8.out _ hb2
          have c9 := C9.out _ hb2
          have d7 := D7.out _ hb2
          go_wp2_with (go_at_call 85; ((with_reducible refine (CI.out _ hb2).mono ?_); rintro e w' ⟨rfl, rfl⟩)))
        (go_ret; exact ⟨ret_bool HR.out.symm, by assumption⟩)
      | true =>
        rw [q1] at CI
        obtain ⟨j, y, hj, hy, hyk⟩ := isKd_get q1
        have HR : Hid (shadowB (coreL L) n x.core = (y.core.host == (n : Int))) := Lib.hid (by
          rw [HR.out]
          unfold underB
          rw [hj, getC_nat, coreL_get hy]
          dsimp only
          rw [hyk]
          rfl)
        have hjl : j < len := by rw [← HL.out]; exact (List.getElem?_eq_some_iff.1 hy).1
        obtain ⟨b2, off2, y', hab, hb2, hy', hcy, hoky⟩ := HH.out.get hjl
        obtain rfl : y = y' := Option.some.inj (hy.symm.trans hy')
        injection hab with hab
        injection hab with e1 e2
        subst e1 e2
        have D7 := Lib.hid (stays hcy.c7 hb2)
        rw [hj] at C8 CI p2
        clear q1 hj hy hyk hcy hoky hy' hb2
        (
          go_enter Tryz.func142, Tryz.ntmps142
          go_wp2
          have E7 := Ext.stays C7.out (Below.refl _ _)
          have E8 := Ext.stays C8.out (Below.refl _ _)
          refine wp_region_ext (by kernel_rfl) (by kernel_rfl) ?_
          repeat (go_big_quiet_step (fail))
          refine wpQuiet_nil ?_
          intro w' hw'
          obtain ⟨⟨w2, hb2⟩, hw''⟩ := hw'
          dsimp only at hw''
          subst hw''
          clear E7 E8
          have c0 := C0.out _ hb2
          have c7 := C7.out _ hb2
          have c8 := C8.out _ hb2
          have c9 := C9.out _ hb2
          have d7 := D7.out _ hb2
          go_wp2_with (go_at_call 85; ((with_reducible refine (CI.out _ hb2).mono ?_); rintro e w' ⟨rfl, rfl⟩)))
        (go_ret; exact ⟨ret_bool HR.out.symm, by assumption⟩)
end Go.Proofs.YtbgcpgpkhfbijaaGreatDoor
/- Package forest's isElemName, fieldsFit. -/
namespace Go.Proofs.YtbgcpgpkhfbijaaGreatDoor
open Go.RowKit
def elemNameB (l : List UInt8) : Bool := rightL l && (smallL l == l)
set_option maxHeartbeats 2000000 in
theorem elemName_any (s : ByteArray) (w : World) (hs : s.size ≤ maxLen) :
    Calls Tryz.prog 162 #[.string s] w fun e w' => e = .returned (.bool (elemNameB s.toList)) ∧ Below w.heap.size w w' := by
  have C1 := Lib.hid (fit_any s w hs)
  by_cases hr : rightL s.toList = true
  rotate_left
  · have hr : rightL s.toList = false := by simpa using hr
    have HR : Hid (elemNameB s.toList = false) := Lib.hid (by unfold elemNameB; rw [hr]; rfl)
    have e1 : fitE s.toList = 4 := by unfold fitE; rw [hr]; rfl
    rw [e1] at C1
    clear hr e1
    go_enter Tryz.func162, Tryz.ntmps162
    go_wp2_with (go_at_call 75; refine C1.out.mono ?_; rintro e w' ⟨rfl, hb⟩)
    go_ret
    exact ⟨ret_bool HR.out.symm, by assumption⟩
  have e1 : fitE s.toList = 0 := by unfold fitE; rw [hr]; rfl
  have e2 : fitL s.toList = smallL s.toList := by unfold fitL; rw [hr]; rfl
  rw [e1, e2] at C1
  have HR : Hid (elemNameB s.toList = (smallL s.toList == s.toList)) := Lib.hid (by unfold elemNameB; rw [hr]; rfl)
  clear hr e1 e2
  cases hsm : (smallL s.toList == s.toList) with
  | false =>
    rw [hsm] at HR
    go_enter Tryz.func162, Tryz.ntmps162
    go_wp2_with (go_at_call 75; refine C1.out.mono ?_; rintro e w' ⟨rfl, hb⟩)
    go_ret
    exact ⟨ret_bool HR.out.symm, by assumption⟩
  | true =>
    rw [hsm] at HR
    go_enter Tryz.func162, Tryz.ntmps162
    go_wp2_with (go_at_call 75; refine C1.out.mono ?_; rintro e w' ⟨rfl, hb⟩)
    go_ret
    exact ⟨ret_bool HR.out.symm, by assumption⟩
/-- A node's own fields. -/
def fieldsB (x : Core) : Bool :=
  if x.kind = 1 then elemNameB x.name.toList && (x.is.toList == [] || customL x.is.toList) && (x.data.toList == []) && rightA x.attrs
  else if x.kind = 0 ∨ x.kind = 3 ∨ x.kind = 4 then (x.data.toList == []) && (x.name.toList == []) && (x.is.toList == []) && decide (x.attrs.length = 0)
  else if x.kind = 2 then (x.name.toList == []) && (x.is.toList == []) && decide (x.data.size ≤ 200) && decide (x.attrs.length = 0)
  else false
/-- A box of its own, kept. -/
structure NKeep (w W : World) (x : NodeD) : Prop where
  box : NBox w W w.heap.size x
  below : Below w.heap.size w W
theorem NKeep.start {w : World} {x : NodeD} (h : NodeOk w x) : NKeep w (w.alloc (nodB x)) x := by
  have c : ∀ (j : Nat), (w.alloc (nodB x)).cell? ⟨w.heap.size, j, none⟩ = (#[.int .i64 x.core.kind, .string x.core.name, .string x.core.is, .string x.core.data, .slice x.aA x.aN x.aC, .int .i64 x.core.parent, .slice x.kA x.kN x.kC, .int .i64 x.core.host, .int .i64 x.core.under, .int .i64 x.core.doc] : Array Value)[j]? := fun j =>
    cell_of_row (w.alloc (nodB x)) w.heap.size j _ 53 (0, 0) (heap_alloc_new _ _)
  exact ⟨⟨by simp, c 0, c 1, c 2, c 3, c 4, c 5, c 6, c 7, c 8, c 9, h.below (below_box w _)⟩, below_box w _⟩
theorem NKeep.keep {w W W2 : World} {x : NodeD} (h : NKeep w W x) (hb : Below W.heap.size W W2) : NKeep w W2 x := ⟨h.box.keep hb, h.below.trans (hb.mono h.below.size)⟩
set_option maxHeartbeats 8000000 in
set_option maxRecDepth 100000 in
theorem fieldsFit_any (x : NodeD) (w : World) (h : NodeOk w x) :
    Calls Tryz.prog 139 #[nodVal x] w fun e w' => e = .returned (.bool (fieldsB x.core)) ∧ Below w.heap.size w w' := by
  obtain ⟨⟨kind, name, is, data, attrs, parent, kids, host, under, doc⟩, aA, aN, aC, kA, kN, kC⟩ := x
  have HN1 : Hid (name.size ≤ maxLen) := Lib.hid h.name
  have HN2 : Hid (is.size ≤ maxLen) := Lib.hid h.is
  have hal : aN ≤ 9223372036854775807 := h.attrs.len64
  have hdl : data.size ≤ 9223372036854775807 := by have : data.size ≤ maxLen := h.data; unfold maxLen at this; omega
  have HAL : Hid (attrs.length = aN) := Lib.hid h.attrs.hlen
  have HH := Lib.hid h
  clear h
  by_cases k1 : kind = 1
  · subst k1
    have NK := Lib.hid (NKeep.start HH.out)
    clear HH
    have HR : Hid (fieldsB ⟨1, name, is, data, attrs, parent, kids, host, under, doc⟩ = (elemNameB name.toList && (is.toList == [] || customL is.toList) && (data.toList == []) && rightA attrs)) := Lib.hid rfl
    obtain ⟨-, x0, x1, x2, x3, x4, x5, x6, x7, x8, x9, -⟩ := NK.out.box
    go_enter Tryz.func139, Tryz.ntmps139
    go_wp2_with (first
                    | (go_at_call 162; (refine (elemName_any _ _ HN1.out).mono ?_); rintro e w1 ⟨rfl, hb⟩; have NK := Lib.hid (NK.out.keep hb); obtain ⟨-, x0, x1, x2, x3, x4, x5, x6, x7, x8, x9, -⟩ := NK.out.box; clear hb)
                    | (go_at_call 163; (refine (custom_any _ _ HN2.out).mono ?_); rintro e w1 ⟨rfl, hb⟩; have NK := Lib.hid (NK.out.keep hb); obtain ⟨-, x0, x1, x2, x3, x4, x5, x6, x7, x8, x9, -⟩ := NK.out.box; clear hb)
                    | (go_at_call 164; (refine (right_any' _ _ _ _ _ NK.out.box.ok.attrs).mono ?_); rintro e w1 ⟨rfl, hb⟩; have NK := Lib.hid (NK.out.keep hb); obtain ⟨-, x0, x1, x2, x3, x4, x5, x6, x7, x8, x9, -⟩ := NK.out.box; clear hb))
    all_goals (go_ret; exact ⟨ret_bool (by rw [HR.out]; first | (simp [*]; done) | (rw [Bool.eq_iff_iff]; simp [*])), by first | exact NK.out.below | assumption⟩)
  by_cases k2 : kind = 2
  · subst k2
    clear HH
    have HR : Hid (fieldsB ⟨2, name, is, data, attrs, parent, kids, host, under, doc⟩ = ((name.toList == []) && (is.toList == []) && decide (data.size ≤ 200) && decide (aN = 0))) := Lib.hid (by rw [← HAL.out]; rfl)
    clear k1
    go_enter Tryz.func139, Tryz.ntmps139
    go_wp2
    all_goals (go_ret; exact ⟨ret_bool (by rw [HR.out]; first | (simp [*]; done) | (rw [Bool.eq_iff_iff]; simp [*]; done) | (rw [Bool.eq_iff_iff]; simp [*]; omega)), below_box _ _⟩)
  by_cases k3 : kind = 0 ∨ kind = 3 ∨ kind = 4
  · have HR : Hid (fieldsB ⟨kind, name, is, data, attrs, parent, kids, host, under, doc⟩ = ((data.toList == []) && (name.toList == []) && (is.toList == []) && decide (aN = 0))) := Lib.hid (by
      unfold fieldsB
      rw [if_neg k1]
      dsimp only
      rw [if_pos k3, HAL.out])
    clear k1 k2 HH
    by_cases d0 : data.toList = []
    · have hd : (data.size : Int) ≤ 200 := by
        have : data.size = 0 := by rw [← tl_len, d0]; rfl
        omega
      have hd2 : (!data.toList.isEmpty) = false := by rw [d0]; rfl
      have hd3 : data.toList.isEmpty = true := by rw [d0]; rfl
      rcases k3 with k3 | k3 | k3
      all_goals
        subst k3
        go_enter Tryz.func139, Tryz.ntmps139
        go_wp2
        all_goals (go_ret; exact ⟨ret_bool (by rw [HR.out]; first | (simp [*]; done) | (rw [Bool.eq_iff_iff]; simp [*]; done) | (rw [Bool.eq_iff_iff]; simp [*]; omega)), below_box _ _⟩)
    · have hd3 : data.toList.isEmpty = false := by
        cases hh : data.toList with
        | nil => exact absurd hh d0
        | cons _ _ => rfl
      have hd2 : (!data.toList.isEmpty) = true := by rw [hd3]; rfl
      rcases k3 with k3 | k3 | k3
      all_goals
        subst k3
        go_enter Tryz.func139, Tryz.ntmps139
        go_wp2
        all_goals (go_ret; exact ⟨ret_bool (by rw [HR.out]; simp [*]), below_box _ _⟩)
  have HR : Hid (fieldsB ⟨kind, name, is, data, attrs, parent, kids, host, under, doc⟩ = false) := Lib.hid (by unfold fieldsB; dsimp only; rw [if_neg k1, if_neg k3, if_neg k2])
  have f0 : (kind == 0) = false := beq_eq_false_iff_ne.2 (fun e => k3 (.inl e))
  have f1 : (kind == 1) = false := beq_eq_false_iff_ne.2 k1
  have f2 : (kind == 2) = false := beq_eq_false_iff_ne.2 k2
  have f3 : (kind == 3) = false := beq_eq_false_iff_ne.2 (fun e => k3 (.inr (.inl e)))
  have f4 : (kind == 4) = false := beq_eq_false_iff_ne.2 (fun e => k3 (.inr (.inr e)))
  clear k1 k2 k3 HH
  go_enter Tryz.func139, Tryz.ntmps139
  go_wp2
  go_ret
  exact ⟨ret_bool HR.out.symm, below_box _ _⟩
end Go.Proofs.YtbgcpgpkhfbijaaGreatDoor
/- Package forest's fits: what a node may be, as far as one sees from itself. -/
namespace Go.Proofs.YtbgcpgpkhfbijaaGreatDoor
open Go.RowKit
def fitsB (F : List Core) (i : Int) (x : Core) : Bool := fieldsB x && docB F i x && kidsB F i x && shadowB F i x
structure FKeep (w W : World) (a : Option Addr) (len cap : Nat) (L : List NodeD) (x : NodeD) : Prop where
  row : NodeRow W a len cap L
  ok : NodeOk W x
  below : Below w.heap.size w W
theorem FKeep.keep {w W W2 : World} {a : Option Addr} {len cap : Nat} {L : List NodeD} {x : NodeD} (h : FKeep w W a len cap L x) (hb : Below W.heap.size W W2) : FKeep w W2 a len cap L x := ⟨h.row.below hb, h.ok.below hb, h.below.trans (hb.mono h.below.size)⟩
set_option maxHeartbeats 8000000 in
set_option maxRecDepth 100000 in
theorem fits_any (a : Option Addr) (len cap : Nat) (L : List NodeD) (n : Nat) (x : NodeD) (w : World) (h : NodeRow w a len cap L) (hx : L[n]? = some x) :
    Calls Tryz.prog 86 #[.slice a len cap, .int .i64 n] w fun e w' => e = .returned (.bool (fitsB (coreL L) n x.core)) ∧ Below w.heap.size w w' := by
  have hl := h.len64
  have hnl : n < len := by rw [← h.hlen]; exact (List.getElem?_eq_some_iff.1 hx).1
  obtain ⟨b, off, x', rfl, hb, hx', hc, hok⟩ := h.get hnl
  obtain rfl : x = x' := Option.some.inj (hx.symm.trans hx')
  have RW : Hid (FKeep w w (some ⟨b, off, none⟩) len cap L x) := Lib.hid ⟨h, hok, Below.refl _ _⟩
  obtain ⟨c0, c1, c2, c3, c4, c5, c6, c7, c8, c9⟩ := hc
  have C1 : Hid (∀ W, NodeOk W x → Calls Tryz.prog 139 #[nodVal x] W fun e w' => e = .returned (.bool (fieldsB x.core)) ∧ Below W.heap.size W w') := Lib.hid (fun W h => fieldsFit_any x W h)
  have C2 : Hid (∀ W, NodeRow W (some ⟨b, off, none⟩) len cap L → Calls Tryz.prog 140 #[.slice (some ⟨b, off, none⟩) len cap, .int .i64 n] W fun e w' => e = .returned (.bool (docB (coreL L) n x.core)) ∧ W = w') := Lib.hid (fun W h => docFits_any _ len cap L n x W h hx)
  have C3 : Hid (∀ W, NodeRow W (some ⟨b, off, none⟩) len cap L → Calls Tryz.prog 141 #[.slice (some ⟨b, off, none⟩) len cap, .int .i64 n] W fun e w' => e = .returned (.bool (kidsB (coreL L) n x.core)) ∧ Below W.heap.size W w') := Lib.hid (fun W h => kidsFit_any _ len cap L n x W h hx)
  have C4 : Hid (∀ W, NodeRow W (some ⟨b, off, none⟩) len cap L → Calls Tryz.prog 142 #[.slice (some ⟨b, off, none⟩) len cap, .int .i64 n] W fun e w' => e = .returned (.bool (shadowB (coreL L) n x.core)) ∧ Below W.heap.size W w') := Lib.hid (fun W h => shadowFits_any _ len cap L n x W h hx)
  have HR : Hid (fitsB (coreL L) n x.core = (fieldsB x.core && docB (coreL L) n x.core && kidsB (coreL L) n x.core && shadowB (coreL L) n x.core)) := Lib.hid rfl
  clear h hok hx hx' hb
  generalize fitsB (coreL L) n x.core = R at HR ⊢
  generalize fieldsB x.core = b1 at HR C1
  generalize docB (coreL L) n x.core = b2 at HR C2
  generalize kidsB (coreL L) n x.core = b3 at HR C3
  generalize shadowB (coreL L) n x.core = b4 at HR C4
  cases b1
  · go_enter Tryz.func86, Tryz.ntmps86
    go_wp2_with (first
                    | (go_at_call 139; (refine (C1.out _ RW.out.ok).mono ?_); rintro e w1 ⟨rfl, hb⟩; have RW := Lib.hid (RW.out.keep hb); clear hb)
                    | (go_at_call 140; (refine (C2.out _ RW.out.row).mono ?_); rintro e w1 ⟨rfl, rfl⟩)
                    | (go_at_call 141; (refine (C3.out _ RW.out.row).mono ?_); rintro e w1 ⟨rfl, hb⟩; have RW := Lib.hid (RW.out.keep hb); clear hb)
                    | (go_at_call 142; (refine (C4.out _ RW.out.row).mono ?_); rintro e w1 ⟨rfl, hb⟩; have RW := Lib.hid (RW.out.keep hb); clear hb))
    go_ret
    exact ⟨ret_bool HR.out.symm, RW.out.below⟩
  cases b2
  · go_enter Tryz.func86, Tryz.ntmps86
    go_wp2_with (first
                    | (go_at_call 139; (refine (C1.out _ RW.out.ok).mono ?_); rintro e w1 ⟨rfl, hb⟩; have RW := Lib.hid (RW.out.keep hb); clear hb)
                    | (go_at_call 140; (refine (C2.out _ RW.out.row).mono ?_); rintro e w1 ⟨rfl, rfl⟩)
                    | (go_at_call 141; (refine (C3.out _ RW.out.row).mono ?_); rintro e w1 ⟨rfl, hb⟩; have RW := Lib.hid (RW.out.keep hb); clear hb)
                    | (go_at_call 142; (refine (C4.out _ RW.out.row).mono ?_); rintro e w1 ⟨rfl, hb⟩; have RW := Lib.hid (RW.out.keep hb); clear hb))
    go_ret
    exact ⟨ret_bool HR.out.symm, RW.out.below⟩
  cases b3
  · go_enter Tryz.func86, Tryz.ntmps86
    go_wp2_with (first
                    | (go_at_call 139; (refine (C1.out _ RW.out.ok).mono ?_); rintro e w1 ⟨rfl, hb⟩; have RW := Lib.hid (RW.out.keep hb); clear hb)
                    | (go_at_call 140; (refine (C2.out _ RW.out.row).mono ?_); rintro e w1 ⟨rfl, rfl⟩)
                    | (go_at_call 141; (refine (C3.out _ RW.out.row).mono ?_); rintro e w1 ⟨rfl, hb⟩; have RW := Lib.hid (RW.out.keep hb); clear hb)
                    | (go_at_call 142; (refine (C4.out _ RW.out.row).mono ?_); rintro e w1 ⟨rfl, hb⟩; have RW := Lib.hid (RW.out.keep hb); clear hb))
    go_ret
    exact ⟨ret_bool HR.out.symm, RW.out.below⟩
  cases b4
  · go_enter Tryz.func86, Tryz.ntmps86
    go_wp2_with (first
                    | (go_at_call 139; (refine (C1.out _ RW.out.ok).mono ?_); rintro e w1 ⟨rfl, hb⟩; have RW := Lib.hid (RW.out.keep hb); clear hb)
                    | (go_at_call 140; (refine (C2.out _ RW.out.row).mono ?_); rintro e w1 ⟨rfl, rfl⟩)
                    | (go_at_call 141; (refine (C3.out _ RW.out.row).mono ?_); rintro e w1 ⟨rfl, hb⟩; have RW := Lib.hid (RW.out.keep hb); clear hb)
                    | (go_at_call 142; (refine (C4.out _ RW.out.row).mono ?_); rintro e w1 ⟨rfl, hb⟩; have RW := Lib.hid (RW.out.keep hb); clear hb))
    go_ret
    exact ⟨ret_bool HR.out.symm, RW.out.below⟩
  · go_enter Tryz.func86, Tryz.ntmps86
    go_wp2_with (first
                    | (go_at_call 139; (refine (C1.out _ RW.out.ok).mono ?_); rintro e w1 ⟨rfl, hb⟩; have RW := Lib.hid (RW.out.keep hb); clear hb)
                    | (go_at_call 140; (refine (C2.out _ RW.out.row).mono ?_); rintro e w1 ⟨rfl, rfl⟩)
                    | (go_at_call 141; (refine (C3.out _ RW.out.row).mono ?_); rintro e w1 ⟨rfl, hb⟩; have RW := Lib.hid (RW.out.keep hb); clear hb)
                    | (go_at_call 142; (refine (C4.out _ RW.out.row).mono ?_); rintro e w1 ⟨rfl, hb⟩; have RW := Lib.hid (RW.out.keep hb); clear hb))
    go_ret
    exact ⟨ret_bool HR.out.symm, RW.out.below⟩
end Go.Proofs.YtbgcpgpkhfbijaaGreatDoor
/- A row of one-cell elements in a block of the call's own: made, read, written. No program. -/
namespace Go.Proofs.YtbgcpgpkhfbijaaGreatDoor
open Go.RowKit
structure ORow {α : Type} (enc : α → Value) (w : World) (g : Nat) (L : List α) : Prop where
  lt : g < w.heap.size
  cell : ∀ i x, L[i]? = some x → w.cell? ⟨g, i, none⟩ = some (enc x)
  free : ∀ i, w.frozen? ⟨g, i, none⟩ = false
section
variable {α : Type} {enc : α → Value} {w w' : World} {g : Nat} {L : List α}
theorem ORow.keep (h : ORow enc w g L) (hb : Below w.heap.size w w') : ORow enc w' g L :=
  ⟨Nat.lt_of_lt_of_le h.lt hb.size, fun i x hx => (hb.cell (p := ⟨g, i, none⟩) h.lt).trans (h.cell i x hx), fun i => (hb.frozen (p := ⟨g, i, none⟩) h.lt).trans (h.free i)⟩
theorem ORow.drewN (h : ORow enc w g L) (n : Nat) : ORow enc (w.drewN n) g L := ⟨h.lt, h.cell, h.free⟩
theorem ORow.set (h : ORow enc w g L) {k : Nat} (hk : k < L.length) (x : α) : ORow enc (w.setCell ⟨g, k, none⟩ (enc x)) g (L.set k x) := by
  refine ⟨by simpa [World.setCell] using h.lt, fun i y hy => ?_, fun i => by rw [World.frozen?_setCell]; exact h.free i⟩
  by_cases e : k = i
  · subst e
    rw [List.getElem?_set_self hk] at hy
    injection hy with hy
    subst hy
    exact World.cell?_setCell_same _ _ _ (h.cell k _ (List.getElem?_eq_getElem hk))
  · rw [List.getElem?_set_ne e] at hy
    rw [World.cell?_setCell_other _ _ _ _ (fun e' => by injection e' with _ e'; exact e e')]
    exact h.cell i y hy
/-- A store into another block. -/
theorem ORow.other (h : ORow enc w g L) {p : Addr} (hp : p.block ≠ g) (u : Value) : ORow enc (w.setCell p u) g L :=
  ⟨by simpa [World.setCell] using h.lt, fun i x hx => (World.cell?_setCell_other _ _ _ _ (fun e => hp (by rw [e]))).trans (h.cell i x hx), fun i => by rw [World.frozen?_setCell]; exact h.free i⟩
theorem ORow.made (w : World) (e : TypeId) (x : α) (n : Nat) : ORow enc (w.alloc (.cells (madeCells #[enc x] n) e)) w.heap.size (List.replicate n x) := by
  refine ⟨by simp, fun i y hy => ?_, fun i => (World.rowIs_made w (enc x) n e).frozen i⟩
  obtain ⟨hl, hg⟩ := List.getElem?_eq_some_iff.1 hy
  rw [List.getElem_replicate] at hg
  subst hg
  rw [List.length_replicate] at hl
  exact (World.rowIs_made w (enc x) n e).cell hl
end
end Go.Proofs.YtbgcpgpkhfbijaaGreatDoor
/- Package forest's namedOnce. -/
namespace Go.Proofs.YtbgcpgpkhfbijaaGreatDoor
open Go.RowKit
def allK (F : List Core) : List Int := F.flatMap (·.kids)
def namedAt (F : List Core) (i : Nat) (x : Core) : Bool := decide (hasZ (allK F) i = 1) == (x.parent != -1)
def namedB (F : List Core) : Bool := F.zipIdx.all (fun p => namedAt F p.2 p.1)
/-- What has been counted, so many nodes and so many children of the next one having been gone through. -/
def kidsUp (F : List Core) (k : Nat) (l : List Int) (j : Nat) : List Int := allK (F.take k) ++ l.take j
theorem hasZ_app (A B : List Int) (n : Int) : hasZ (A ++ B) n = hasZ A n + hasZ B n := by unfold hasZ; exact List.countP_append
theorem kidsUp_step {F : List Core} {k j : Nat} {l : List Int} {z : Int} (h : l[j]? = some z) (n : Int) : hasZ (kidsUp F k l (j + 1)) n = hasZ (kidsUp F k l j) n + if z == n then 1 else 0 := by
  unfold kidsUp
  rw [hasZ_app, hasZ_app, hasZ_step h]
  omega
theorem kidsUp_next {F : List Core} {k : Nat} {x : Core} (h : F[k]? = some x) {j : Nat} (hj : x.kids.length ≤ j) (l : List Int) : kidsUp F k x.kids j = kidsUp F (k + 1) l 0 := by
  obtain ⟨hl, hg⟩ := List.getElem?_eq_some_iff.1 h
  unfold kidsUp allK
  rw [List.take_of_length_le hj, List.take_succ_eq_append_getElem hl, hg]
  simp
theorem allK_len {F : List Core} {b : Nat} (h : ∀ x ∈ F, x.kids.length ≤ b) : (allK F).length ≤ F.length * b := by
  unfold allK
  induction F with
  | nil => simp
  | cons x r ih =>
    have h1 := h x (by simp)
    have h2 := ih (fun y hy => h y (by simp [hy]))
    rw [List.flatMap_cons, List.length_append, List.length_cons, Nat.add_mul]
    omega
theorem hasZ_len (L : List Int) (n : Int) : hasZ L n ≤ L.length := List.countP_le_length
abbrev encI (z : Int) : Value := .int .i64 z
/-- The counts in hand. -/
structure Counts (w W : World) (g len : Nat) (K : List Int) (T : List Int) : Prop where
  below : Below w.heap.size w W
  row : ORow encI W g T
  hl : T.length = len
  at_ : ∀ i : Nat, i < len → T[i]? = some (hasZ K i : Int)
theorem Counts.keep {w W W2 : World} {g len : Nat} {K T : List Int} (h : Counts w W g len K T) (hb : Below W.heap.size W W2) : Counts w W2 g len K T := ⟨h.below.trans (hb.mono h.below.size), h.row.keep hb, h.hl, h.at_⟩
theorem Counts.more {w W : World} {g len : Nat} {K K2 T : List Int} (h : Counts w W g len K T) (hg : w.heap.size ≤ g) {m : Nat} (hm : m < len) {c : Nat} (hc : hasZ K m = c) (hK : ∀ n : Int, hasZ K2 n = hasZ K n + if (m : Int) == n then 1 else 0) :
    Counts w (W.setCell ⟨g, m, none⟩ (.int .i64 ((c : Int) + 1))) g len K2 (T.set m ((c : Int) + 1)) := by
  refine ⟨h.below.setCell (p := ⟨g, m, none⟩) hg _, h.row.set (by rw [h.hl]; exact hm) _, by rw [List.length_set]; exact h.hl, fun i hi => ?_⟩
  by_cases e : m = i
  · subst e
    rw [List.getElem?_set_self (by rw [h.hl]; exact hm), hK, hc]
    simp
  · rw [List.getElem?_set_ne e, h.at_ i hi, hK]
    have : ((m : Int) == (i : Int)) = false := beq_eq_false_iff_ne.2 (by omega)
    rw [this]
    simp
theorem int_info : (Tryz.prog.info? 3).map (fun i => (i.zero, i.size, i.bytes)) = some (some (.int .i64 0), 1, 8) := by kernel_rfl
theorem kidsUp_all (F : List Core) : kidsUp F F.length [] 0 = allK F := by
  unfold kidsUp
  rw [List.take_length, List.take_nil, List.append_nil]
theorem kidsUp_len {F : List Core} (h1 : F.length ≤ 1000) (h2 : ∀ x ∈ F, x.kids.length ≤ 1000) {l : List Int} (hl : l.length ≤ 1000) (k j : Nat) : (kidsUp F k l j).length ≤ 1001000 := by
  unfold kidsUp
  rw [List.length_append]
  have a := allK_len (F := F.take k) (b := 1000) (fun x hx => h2 x (List.mem_of_mem_take hx))
  have b : (F.take k).length ≤ 1000 := Nat.le_trans (List.length_take_le' _ _) h1
  have c : (l.take j).length ≤ 1000 := Nat.le_trans (List.length_take_le' _ _) hl
  have d : (F.take k).length * 1000 ≤ 1000 * 1000 := Nat.mul_le_mul_right _ b
  omega
theorem smallF_core {L : List NodeD} (h : smallF L) : (coreL L).length ≤ 1000 ∧ ∀ c ∈ coreL L, c.kids.length ≤ 1000 := by
  refine ⟨by rw [coreL_len]; exact h.1, fun c hc => ?_⟩
  obtain ⟨x, hx, rfl⟩ := List.mem_map.1 hc
  exact (h.2 x hx).1
set_option maxHeartbeats 8000000 in
set_option maxRecDepth 100000 in
theorem namedOnce_any (a : Option Addr) (len cap : Nat) (L : List NodeD) (w : World) (h : NodeRow w a len cap L) (hk : ∀ x ∈ L, ∀ z ∈ x.core.kids, 0 ≤ z ∧ z < (len : Int)) (hs : smallF L) :
    Calls Tryz.prog 87 #[.slice a len cap] w fun e w' => e = .returned (.bool (namedB (coreL L))) ∧ Below w.heap.size w w' := by
  have HL := Lib.hid h.hlen
  have hlen : len ≤ 1000 := by rw [← h.hlen]; exact hs.1
  have HS := Lib.hid hs
  have HK := Lib.hid hk
  have HH := Lib.hid h
  clear hs hk h
  have hmk := run_make_row' (P := Tryz.prog) 51 3 (.int .i64 0) 8 Tryz.underlying51 int_info rfl .i64 .i64 len (by omega) (by omega)
  have C0 : Hid (Counts w (w.alloc (.cells (madeCells #[.int .i64 0] len) 3)) w.heap.size len (kidsUp (coreL L) 0 [] 0) (List.replicate len 0)) := Lib.hid (by
    refine ⟨below_box _ _, ORow.made w 3 (0 : Int) len, by rw [List.length_replicate], fun i hi => ?_⟩
    rw [List.getElem?_replicate, if_pos hi]
    rfl)
  go_enter Tryz.func87, Tryz.ntmps87
  go_wp2
  clear hmk
  go_loopw [15] (fun i wr => ∃ (k : Nat) (T : List Int), k ≤ len ∧ i = .int .i64 k ∧ Hid (Counts w wr w.heap.size len (kidsUp (coreL L) k [] 0) T)) (fun i _ => len - (intOf i).toNat)
  case atStart => exact ⟨0, _, Nat.zero_le _, rfl, C0⟩
  case round =>
    clear C0
    obtain ⟨k, T, hk, rfl, CT⟩ := hrel
    by_cases hlt : k < len
    · have RW := Lib.hid (HH.out.below CT.out.below)
      obtain ⟨b, off, x, rfl, hb, hx, hc, hok⟩ := RW.out.get hlt
      obtain ⟨c0, c1, c2, c3, c4, c5, c6, c7, c8, c9⟩ := hc
      have hn3 : x.core.data.size ≤ 9223372036854775807 := by have := hok.data; unfold maxLen at this; omega
      obtain ⟨kA, hkA⟩ : ∃ q, x.kA = q := ⟨_, rfl⟩
      have hks := (HH.out.ok x (List.mem_of_getElem? hx)).kids
      rw [hkA] at c6 hks
      have KR := Lib.hid hks
      have hkl := hks.len64
      have HXC : Hid ((coreL L)[k]? = some x.core) := Lib.hid (coreL_get hx)
      have HXM : Hid (∀ z ∈ x.core.kids, 0 ≤ z ∧ z < (len : Int)) := Lib.hid (HK.out x (List.mem_of_getElem? hx))
      have HXL : Hid (x.core.kids.length ≤ 1000) := Lib.hid (HS.out.2 x (List.mem_of_getElem? hx)).1
      have CT1 : Hid (Counts w (wr.alloc (nodB x)) w.heap.size len (kidsUp (coreL L) k x.core.kids 0) T) := Lib.hid (by
        have : kidsUp (coreL L) k x.core.kids 0 = kidsUp (coreL L) k [] 0 := by unfold kidsUp; simp
        rw [this]
        exact CT.out.keep (below_box _ _))
      unfold nodB at CT1
      rw [hkA] at CT1
      clear hks hok hx CT hb
      go_wp2
      clear c0 c1 c2 c3 c4 c5 c6 c7 c8 c9 hn3
      go_loopw [22] (fun i wr => ∃ (j : Nat) (T : List Int), j ≤ x.kN ∧ i = .int .i64 j ∧ Hid (Counts w wr w.heap.size len (kidsUp (coreL L) k x.core.kids j) T)) (fun i _ => x.kN - (intOf i).toNat)
      case atStart => exact ⟨0, T, Nat.zero_le _, rfl, CT1⟩
      case round =>
        clear CT1 T
        obtain ⟨j, T, hj, rfl, CT⟩ := hrel
        by_cases hjt : j < x.kN
        · obtain ⟨b2, off2, z, rfl, hb2, hz, hcz, hin⟩ := (KR.out.below CT.out.below).get hjt
          obtain ⟨hz0, hz1⟩ := HXM.out z (List.mem_of_getElem? hz)
          obtain ⟨m, rfl⟩ : ∃ m : Nat, z = m := ⟨z.toNat, by omega⟩
          have hm : m < len := by omega
          have HST := Lib.hid (kidsUp_step (F := coreL L) (k := k) hz)
          obtain ⟨c, hc⟩ : ∃ c, hasZ (kidsUp (coreL L) k x.core.kids j) m = c := ⟨_, rfl⟩
          have hcl : c ≤ 1001000 := by
            rw [← hc]
            exact Nat.le_trans (hasZ_len _ _) (kidsUp_len (smallF_core HS.out).1 (smallF_core HS.out).2 HXL.out k j)
          have hTc := CT.out.row.cell m _ (by rw [CT.out.at_ m hm, hc])
          have hTf := CT.out.row.free m
          unfold encI at hTc
          have CT2 := Lib.hid (CT.out.more (Nat.le_refl _) hm hc HST.out)
          clear hc hz hin hz0 hz1
          go_wp2
          go_roundw
          case rel => exact ⟨j + 1, _, by omega, by go_num, CT2⟩
          case measure => simp [intOf]; omega
        · have CT2 : Hid (Counts w wr w.heap.size len (kidsUp (coreL L) (k + 1) [] 0) T) := Lib.hid (by
            rw [← kidsUp_next HXC.out (j := j) (by have := KR.out.hlen; omega) []]
            exact CT.out)
          go_wp2
          go_roundw
          case rel => exact ⟨k + 1, _, by omega, by go_num, CT2⟩
          case measure => simp [intOf]; omega
    · have hkk : k = len := by omega
      subst hkk
      have CT2 : Hid (Counts w wr w.heap.size k (allK (coreL L)) T) := Lib.hid (by
        have h1 := CT.out
        have h2 : k = (coreL L).length := by rw [coreL_len, HL.out]
        rw [h2, kidsUp_all, ← h2] at h1
        exact h1)
      clear CT
      go_wp2
      go_loop [36] (fun i => ∃ j : Nat, j ≤ k ∧ i = .int .i64 j ∧ Hid (∀ (n : Nat) x, n < j → (coreL L)[n]? = some x → namedAt (coreL L) n x = true)) (fun i => k - (intOf i).toNat)
      case atStart => exact ⟨0, Nat.zero_le _, rfl, Lib.hid (fun n x hn _ => absurd hn (by omega))⟩
      case round =>
        obtain ⟨j, hj, rfl, HA⟩ := hrel
        by_cases hjt : j < k
        · obtain ⟨b, off, x, rfl, hb, hx, hc, hok⟩ := (HH.out.below CT2.out.below).get hjt
          have c5 := hc.c5
          obtain ⟨c, hcn⟩ : ∃ c, hasZ (allK (coreL L)) j = c := ⟨_, rfl⟩
          have hTc := CT2.out.row.cell j _ (by rw [CT2.out.at_ j hjt, hcn])
          unfold encI at hTc
          have HXC : Hid ((coreL L)[j]? = some x.core) := Lib.hid (coreL_get hx)
          have HN : Hid (namedAt (coreL L) j x.core = (decide ((c : Int) = 1) == (x.core.parent != -1))) := Lib.hid (by
            unfold namedAt
            rw [hcn]
            congr 1
            exact decide_eq_decide.2 (by omega))
          have STOP : Hid (∀ x, (coreL L)[j]? = some x → namedAt (coreL L) j x = false → namedB (coreL L) = false) := Lib.hid (fun x hx hq => by
            unfold namedB
            rw [List.all_eq_false]
            exact ⟨(x, j), List.mk_mem_zipIdx_iff_getElem?.2 hx, by simp [hq]⟩)
          have MORE : Hid (∀ x, (coreL L)[j]? = some x → namedAt (coreL L) j x = true → (∀ (n : Nat) x, n < j → (coreL L)[n]? = some x → namedAt (coreL L) n x = true) → ∀ (n : Nat) x, n < j + 1 → (coreL L)[n]? = some x → namedAt (coreL L) n x = true) := Lib.hid (fun x hx hq ha n y hn hy => by
            by_cases e : n = j
            · subst e
              rw [hx] at hy
              rw [← Option.some.inj hy]
              exact hq
            · exact ha n y (by omega) hy)
          clear hc hok hx hcn hb
          by_cases p1 : (c : Int) = 1 <;> by_cases p2 : x.core.parent = -1
          · have HQ : Hid (namedB (coreL L) = false) := Lib.hid (STOP.out _ HXC.out (by rw [HN.out, decide_eq_true p1, p2]; rfl))
            rw [p1] at hTc
            rw [p2] at c5
            clear p1 p2 HA
            go_wp2
            go_ret
            exact ⟨ret_bool HQ.out.symm, CT2.out.below⟩
          · have r2 : (x.core.parent != -1) = true := bne_iff_ne.2 p2
            have HQ : Hid (namedAt (coreL L) j x.core = true) := Lib.hid (by rw [HN.out, decide_eq_true p1, r2]; rfl)
            rw [p1] at hTc
            clear p1 p2
            go_wp2
            go_round
            case rel => exact ⟨j + 1, by omega, by go_num, Lib.hid (MORE.out _ HXC.out HQ.out HA.out)⟩
            case measure => simp [intOf]; omega
          · have r1 : ((c : Int) == 1) = false := beq_eq_false_iff_ne.2 p1
            have HQ : Hid (namedAt (coreL L) j x.core = true) := Lib.hid (by rw [HN.out, decide_eq_false p1, p2]; rfl)
            rw [p2] at c5
            clear p1 p2
            go_wp2
            go_round
            case rel => exact ⟨j + 1, by omega, by go_num, Lib.hid (MORE.out _ HXC.out HQ.out HA.out)⟩
            case measure => simp [intOf]; omega
          · have r1 : ((c : Int) == 1) = false := beq_eq_false_iff_ne.2 p1
            have r2 : (x.core.parent != -1) = true := bne_iff_ne.2 p2
            have HQ : Hid (namedB (coreL L) = false) := Lib.hid (STOP.out _ HXC.out (by rw [HN.out, decide_eq_false p1, r2]; rfl))
            clear p1 p2 HA
            go_wp2
            go_ret
            exact ⟨ret_bool HQ.out.symm, CT2.out.below⟩
        · have HR : Hid (namedB (coreL L) = true) := Lib.hid (by
            unfold namedB
            rw [List.all_eq_true]
            intro p hp
            have h1 := List.mk_mem_zipIdx_iff_getElem?.1 hp
            exact HA.out p.2 p.1 (by have := (List.getElem?_eq_some_iff.1 h1).1; rw [coreL_len, HL.out] at this; omega) h1)
          go_wp2
          go_ret
          exact ⟨ret_bool HR.out.symm, CT2.out.below⟩
end Go.Proofs.YtbgcpgpkhfbijaaGreatDoor
/- A forest that is right with a bare node more is right. Plain mathematics, no program. -/
namespace Go.Proofs.YtbgcpgpkhfbijaaGreatDoor
open Go.RowKit
theorem endsZ_none (nxt : Int → Int) (s : Nat) : endsZ nxt s (-1) = true := by
  cases s with
  | zero => rfl
  | succ s => unfold endsZ; rfl
theorem endsZ_more {nxt : Int → Int} : ∀ (s : Nat) (i : Int), endsZ nxt s i = true → endsZ nxt (s + 1) i = true
  | 0, i, h => by
    have e : i = -1 := by unfold endsZ at h; exact beq_iff_eq.1 h
    rw [e]
    exact endsZ_none _ _
  | s + 1, i, h => by
    by_cases e : i = -1
    · rw [e]
      exact endsZ_none _ _
    · rw [endsZ_step e] at h ⊢
      exact endsZ_more s _ h
theorem getC_app {F : List Core} {c d : Core} {i : Int} (h : getC F i = some d) : getC (F ++ [c]) i = some d := by
  obtain ⟨h1, h2, h3⟩ := getC_some h
  unfold getC
  rw [if_pos h1, List.getElem?_append_left h2, h3]
theorem nodeOk_app {F : List Core} {c : Core} {i : Nat} {y : Core} (h : nodeOk F i y = true) : nodeOk (F ++ [c]) i y = true := by
  unfold nodeOk at h ⊢
  simp only [Bool.and_eq_true, List.all_eq_true] at h ⊢
  obtain ⟨⟨⟨⟨⟨⟨h1, h2⟩, h3⟩, h4⟩, h5⟩, h6⟩, h7⟩ := h
  have kid : ∀ k ∈ y.kids, kindK (F ++ [c]) k = kindK F k := fun k hk => by
    have g := h3 k hk
    unfold kidOk at g
    unfold kindK
    cases hg : getC F k with
    | none => rw [hg] at g; simp at g
    | some d => rw [getC_app hg]
  have elems : elemsK (F ++ [c]) y = elemsK F y := by
    unfold elemsK
    refine List.countP_congr fun k hk => ?_
    rw [kid k hk]
  refine ⟨⟨⟨⟨⟨⟨?_, ?_⟩, ?_⟩, ?_⟩, ?_⟩, ?_⟩, h7⟩
  · unfold docOk at h1 ⊢
    cases hg : getC F y.doc with
    | none => rw [hg] at h1; simp at h1
    | some d => rw [hg] at h1; rw [getC_app hg]; exact h1
  · unfold parOk at h2 ⊢
    cases hg : getC F y.parent with
    | none => rw [hg, Bool.and_false, Bool.or_false] at h2; rw [h2, Bool.true_or]
    | some d => rw [hg] at h2; rw [getC_app hg]; exact h2
  · intro k hk
    have g := h3 k hk
    unfold kidOk at g ⊢
    cases hg : getC F k with
    | none => rw [hg] at g; simp at g
    | some d => rw [hg] at g; rw [getC_app hg]; exact g
  · unfold shapeOk at h4 ⊢
    rw [elems]
    exact h4
  · unfold hostOk at h5 ⊢
    by_cases hk : y.kind = 4
    · rw [if_pos hk] at h5 ⊢
      cases hg : getC F y.host with
      | none => rw [hg] at h5; cases h5
      | some d => rw [hg] at h5; rw [getC_app hg]; exact h5
    · rw [if_neg hk] at h5 ⊢
      exact h5
  · unfold underOk at h6 ⊢
    cases hg : getC F y.under with
    | none => rw [hg, Bool.and_false, Bool.or_false] at h6; rw [h6, Bool.true_or]
    | some d => rw [hg] at h6; rw [getC_app hg]; exact h6
theorem nextUp_app {F : List Core} {c : Core} (hp : c.parent = -1) (hh : c.host = -1) : nextUp (F ++ [c]) = nextUp F := by
  funext i
  unfold nextUp
  cases hg : getC F i with
  | some d => rw [getC_app hg]
  | none =>
    cases hq : getC (F ++ [c]) i with
    | none => rfl
    | some d =>
      obtain ⟨h1, h2, h3⟩ := getC_some hq
      have hn : F.length ≤ i.toNat := by
        unfold getC at hg
        rw [if_pos h1] at hg
        exact List.getElem?_eq_none_iff.1 hg
      rw [List.length_append] at h2
      have he : i.toNat = F.length := by simp at h2; omega
      rw [he, List.getElem?_append_right (Nat.le_refl _), Nat.sub_self] at h3
      have : c = d := by simpa using h3
      subst this
      dsimp only
      rw [if_pos hp, hh]
theorem right_app {m : Int} {F : List Core} {c : Core} (h : rightF m F = true) (hm : (F.length : Int) < m) (hp : c.parent = -1) (hh : c.host = -1) (hc : nodeOk (F ++ [c]) F.length c = true) : rightF m (F ++ [c]) = true := by
  obtain ⟨⟨h1, h2, h3, h4⟩, h5, h6⟩ := (rightF_iff m F).1 h
  refine (rightF_iff m _).2 ⟨⟨h1, h2, ?_, ?_⟩, fun i x hx => ?_, fun i hi => ?_⟩
  · rw [List.length_append]
    simp
    omega
  · cases F with
    | nil => unfold headDoc at h4; cases h4
    | cons _ _ => exact h4
  · by_cases hi : i < F.length
    · rw [List.getElem?_append_left hi] at hx
      exact nodeOk_app (h5 i x hx)
    · have hl := (List.getElem?_eq_some_iff.1 hx).1
      rw [List.length_append] at hl
      have he : i = F.length := by simp at hl; omega
      subst he
      rw [List.getElem?_append_right (Nat.le_refl _), Nat.sub_self] at hx
      have : c = x := by simpa using hx
      subst this
      exact hc
  · rw [nextUp_app hp hh, List.length_append]
    show endsZ (nextUp F) (F.length + 1 + 1) (i : Int) = true
    by_cases hl : i < F.length
    · exact endsZ_more _ _ (h6 i hl)
    · rw [endsZ_step (by omega)]
      have : nextUp F (i : Int) = -1 := by
        unfold nextUp
        rw [getC_nat, List.getElem?_eq_none_iff.2 (by omega)]
      rw [this]
      exact endsZ_none _ _
/-- What Make's answers are, where the forest is right. -/
theorem make_right {m : Int} {F : List Core} {x : Core} (h : rightF m F = true) (he : makeE m F x = 0) : rightF m (makeL m F x) = true ∧ makeL m F x = F ++ [bareC F x] ∧ makeN m F x = F.length := by
  have e2 : makeL m F x = F ++ [bareC F x] := by unfold makeL; rw [if_pos he]
  have e3 : makeN m F x = F.length := by unfold makeN; rw [if_pos he]
  refine ⟨?_, e2, e3⟩
  rw [e2]
  unfold makeE at he
  by_cases hc : (rightF m F && x.kind != 4 && nodeOk (F ++ [bareC F x]) F.length (bareC F x)) = true
  · rw [if_pos hc] at he
    by_cases hm : m ≤ (F.length : Int)
    · rw [if_pos hm] at he; cases he
    · simp only [Bool.and_eq_true] at hc
      exact right_app h (by omega) rfl rfl hc.2
  · rw [if_neg hc] at he; cases he
theorem make_not {m : Int} {F : List Core} {x : Core} (he : ¬ makeE m F x = 0) : makeL m F x = F ∧ makeN m F x = -1 := by
  unfold makeL makeN
  rw [if_neg he, if_neg he]
  exact ⟨rfl, rfl⟩
end Go.Proofs.YtbgcpgpkhfbijaaGreatDoor
/- Ways up that end, end in few steps. Plain mathematics, no program. -/
namespace Go.Proofs.YtbgcpgpkhfbijaaGreatDoor
theorem nodup_lt : ∀ (n : Nat) (l : List Nat), l.Nodup → (∀ x ∈ l, x < n) → l.length ≤ n
  | 0, l, _, h => by
    cases l with
    | nil => exact Nat.le_refl _
    | cons a r => exact absurd (h a (by simp)) (by omega)
  | n + 1, l, hn, h => by
    have h1 := nodup_lt n (l.filter (fun x => decide (x ≠ n))) (hn.filter _) (fun x hx => by
      have := List.mem_filter.1 hx
      have h2 := h x this.1
      have h3 := of_decide_eq_true this.2
      omega)
    have h2 : l.countP (fun x => decide (x ≠ n)) + l.countP (fun x => ! decide (x ≠ n)) = l.length := by
      have := List.length_eq_countP_add_countP (fun x => decide (x ≠ n)) (l := l)
      rw [this]
      congr 1
      refine List.countP_congr fun x _ => ?_
      simp
    have h3 : l.countP (fun x => ! decide (x ≠ n)) ≤ 1 := by
      have h4 : l.countP (fun x => ! decide (x ≠ n)) = l.count n := by
        unfold List.count
        refine List.countP_congr fun x _ => ?_
        simp
      rw [h4]
      exact List.nodup_iff_count.1 hn n
    rw [← List.countP_eq_length_filter] at h1
    omega
section
variable {nxt : Int → Int}
/-- It ends in just so many steps. -/
def exZ (nxt : Int → Int) (r : Nat) (i : Int) : Prop := endsZ nxt r i = true ∧ ∀ s, s < r → endsZ nxt s i = false
theorem exZ_of : ∀ (m : Nat) (i : Int), endsZ nxt m i = true → ∃ r, r ≤ m ∧ exZ nxt r i
  | m, i, h => by
    by_cases hs : ∃ s, s < m ∧ endsZ nxt s i = true
    · obtain ⟨s, hs, he⟩ := hs
      obtain ⟨r, hr, hx⟩ := exZ_of s i he
      exact ⟨r, by omega, hx⟩
    · exact ⟨m, Nat.le_refl _, h, fun s hl => by
        cases hq : endsZ nxt s i with
        | false => rfl
        | true => exact absurd ⟨s, hl, hq⟩ hs⟩
termination_by m => m
theorem exZ_one {r s : Nat} {i : Int} (h1 : exZ nxt r i) (h2 : exZ nxt s i) : r = s := by
  rcases Nat.lt_trichotomy r s with h | h | h
  · have := h2.2 r h
    rw [h1.1] at this
    cases this
  · exact h
  · have := h1.2 s h
    rw [h2.1] at this
    cases this
def chainZ (nxt : Int → Int) : Nat → Int → List Int
  | 0, _ => []
  | s + 1, i => i :: chainZ nxt s (nxt i)
theorem exZ_next {r : Nat} {i : Int} (h : exZ nxt (r + 1) i) : i ≠ -1 ∧ exZ nxt r (nxt i) := by
  have h0 := h.2 0 (by omega)
  have hi : i ≠ -1 := fun e => by
    rw [e] at h0
    cases h0
  refine ⟨hi, by rw [← endsZ_step hi]; exact h.1, fun s hs => ?_⟩
  rw [← endsZ_step hi]
  exact h.2 (s + 1) (by omega)
theorem chain_facts {n : Nat} (hr : ∀ i : Int, 0 ≤ i → i < n → nxt i = -1 ∨ (0 ≤ nxt i ∧ nxt i < n)) :
    ∀ (r : Nat) (i : Int), exZ nxt r i → (i = -1 ∨ (0 ≤ i ∧ i < (n : Int))) → (chainZ nxt r i).length = r ∧ (chainZ nxt r i).Nodup ∧ ∀ y ∈ chainZ nxt r i, (0 ≤ y ∧ y < (n : Int)) ∧ ∃ s, 0 < s ∧ s ≤ r ∧ exZ nxt s y
  | 0, i, _, _ => ⟨rfl, List.nodup_nil, fun y hy => by cases hy⟩
  | r + 1, i, h, hi => by
    obtain ⟨hne, hx⟩ := exZ_next h
    have hi2 : 0 ≤ i ∧ i < (n : Int) := by
      rcases hi with h | h
      · exact absurd h hne
      · exact h
    obtain ⟨h1, h2, h3⟩ := chain_facts hr r (nxt i) hx (hr i hi2.1 hi2.2)
    refine ⟨by unfold chainZ; rw [List.length_cons, h1], ?_, fun y hy => ?_⟩
    · unfold chainZ
      rw [List.nodup_cons]
      refine ⟨fun hm => ?_, h2⟩
      obtain ⟨_, s, _, hs2, hs3⟩ := h3 i hm
      have := exZ_one h hs3
      omega
    · unfold chainZ at hy
      rcases List.mem_cons.1 hy with rfl | hy
      · exact ⟨hi2, r + 1, by omega, Nat.le_refl _, h⟩
      · obtain ⟨h4, s, h5, h6, h7⟩ := h3 y hy
        exact ⟨h4, s, h5, by omega, h7⟩
theorem endsZ_le {r n : Nat} (h : r ≤ n) {i : Int} (he : endsZ nxt r i = true) : endsZ nxt n i = true := by
  obtain ⟨d, rfl⟩ : ∃ d, n = r + d := ⟨n - r, by omega⟩
  clear h
  induction d with
  | zero => exact he
  | succ d ih => exact endsZ_more _ _ ih
/-- Whoever comes to an end does so in no more steps than there are nodes. -/
theorem ends_small {n : Nat} (hr : ∀ i : Int, 0 ≤ i → i < n → nxt i = -1 ∨ (0 ≤ nxt i ∧ nxt i < n)) {m : Nat} {i : Int} (hi : i = -1 ∨ (0 ≤ i ∧ i < (n : Int))) (h : endsZ nxt m i = true) : endsZ nxt n i = true := by
  obtain ⟨r, _, hx⟩ := exZ_of m i h
  obtain ⟨h1, h2, h3⟩ := chain_facts hr r i hx hi
  have h4 : ((chainZ nxt r i).map Int.toNat).Nodup := by
    have key : ∀ l : List Int, l.Nodup → (∀ z ∈ l, 0 ≤ z) → (l.map Int.toNat).Nodup := by
      intro l
      induction l with
      | nil => intro _ _; simp
      | cons a r ih =>
        intro hl hp
        rw [List.nodup_cons] at hl
        rw [List.map_cons, List.nodup_cons]
        refine ⟨fun hm => ?_, ih hl.2 (fun z hz => hp z (by simp [hz]))⟩
        obtain ⟨z, hz, e⟩ := List.mem_map.1 hm
        have h1 := hp a (by simp)
        have h2 := hp z (by simp [hz])
        have : z = a := by omega
        exact hl.1 (this ▸ hz)
    exact key _ h2 (fun z hz => (h3 z hz).1.1)
  have h5 := nodup_lt n _ h4 (fun y hy => by
    obtain ⟨z, hz, rfl⟩ := List.mem_map.1 hy
    have := (h3 z hz).1
    omega)
  rw [List.length_map, h1] at h5
  exact endsZ_le h5 hx.1
end
end Go.Proofs.YtbgcpgpkhfbijaaGreatDoor
