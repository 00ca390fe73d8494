/- Texts joined in build order: DeskStand. -/
import Derived.Test.YtioeagadhnnajaaA21
import Derived.Test.YtioeagadhnnajaaA10
import Derived.Test.YtioeagadhnnajaaA22
/- Package desk's mayStand and rightDefs. -/
namespace Go.Proofs.Ytioeagadhnnajaa
open Go.RowKit
/-- May a definition stand on a desk, by itself? -/
def okS (n o : ByteArray) (c : Int) : Bool := customL n.toList && (o.toList == n.toList || knownL o.toList) && decide (0 ≤ c) && decide (c < 12)
theorem DefRow.take {w : World} {a : Option Addr} {len cap : Nat} {L : List DefD} (h : DefRow w a len cap L) {k : Nat} (hk : k ≤ len) : DefRow w a k cap (L.take k) := by
  have h1 := h.row.hcap
  refine ⟨⟨?_, by omega, h.row.hmax, fun x hx => h.row.henc x (List.mem_of_mem_take hx), ?_⟩, fun x hx => h.ok x (List.mem_of_mem_take hx), h.hnil⟩
  · rw [List.length_take, h.row.hlen]; omega
  · rcases h.row.cells with h0 | ⟨b, off, ha, hb, hc⟩
    · exact .inl (by omega)
    · refine .inr ⟨b, off, ha, hb, fun i x j v hx hv => hc i x j v ?_ hv⟩
      rw [List.getElem?_take] at hx
      split at hx
      · exact hx
      · cases hx
theorem like_taken {L : List DefD} {k : Nat} {n o : ByteArray} {c : Int} (hx : L[k]? = some ⟨n, o, c⟩) : (namedZ L n.toList == (k : Int) && classedZ L c == (k : Int)) = !decide (0 ≤ firstZ (isLike n c) (L.take k)) := by
  rcases firstZ_cases (isLike n c) (L.take k) with ⟨h1, h2⟩ | ⟨j, y, h1, h2, h3, _⟩
  · have hn : ∀ (j : Nat) y, j < k → L[j]? = some y → isLike n c y = false := fun j y hj hy => h2 y (List.mem_of_getElem? (i := j) (by rw [List.getElem?_take, if_pos hj]; exact hy))
    have e1 : namedZ L n.toList = (k : Int) := firstZ_is hx (by unfold isName; simp) fun j y hj hy => by
      have := hn j y hj hy
      unfold isLike at this
      unfold isName
      revert this
      cases y.name.toList == n.toList <;> simp
    have e2 : classedZ L c = (k : Int) := firstZ_is hx (by unfold isCls; simp) fun j y hj hy => by
      have := hn j y hj hy
      unfold isLike at this
      unfold isCls
      revert this
      cases y.cls == c <;> simp
    rw [h1, e1, e2]
    simp
  · obtain ⟨hj, hy⟩ : j < k ∧ L[j]? = some y := by
      rw [List.getElem?_take] at h2
      split at h2
      · exact ⟨by assumption, h2⟩
      · cases h2
    rw [h1, decide_eq_true (by omega : (0 : Int) ≤ (j : Int))]
    unfold isLike at h3
    rcases (Bool.or_eq_true _ _).mp h3 with h4 | h4
    · have : namedZ L n.toList ≠ (k : Int) := fun e => by
        have h5 : ¬ (k ≤ firstN (isName n.toList) L) := fun h6 => by
          have := first_here (p := isName n.toList) (L := L) (k := j) (x := y)
          have h7 : firstN (isName n.toList) L ≤ j := by
            have := List.not_of_lt_findIdx (p := isName n.toList) (xs := L) (i := j)
            by_cases h8 : j < firstN (isName n.toList) L
            · have h9 := this h8
              obtain ⟨hl, hg⟩ := List.getElem?_eq_some_iff.1 hy
              rw [hg] at h9
              unfold isName at h9
              rw [h4] at h9
              cases h9
            · omega
          omega
        unfold namedZ firstZ at e
        split at e
        · exact h5 (by omega)
        · omega
      rw [beq_eq_false_iff_ne.2 this]
      rfl
    · have : classedZ L c ≠ (k : Int) := fun e => by
        have h5 : ¬ (k ≤ firstN (isCls c) L) := fun h6 => by
          have h7 : firstN (isCls c) L ≤ j := by
            have := List.not_of_lt_findIdx (p := isCls c) (xs := L) (i := j)
            by_cases h8 : j < firstN (isCls c) L
            · have h9 := this h8
              obtain ⟨hl, hg⟩ := List.getElem?_eq_some_iff.1 hy
              rw [hg] at h9
              unfold isCls at h9
              rw [h4] at h9
              cases h9
            · omega
          omega
        unfold classedZ firstZ at e
        split at e
        · exact h5 (by omega)
        · omega
      rw [beq_eq_false_iff_ne.2 this, Bool.and_false]
      rfl
theorem okD_parts {L : List DefD} {k : Nat} {n o : ByteArray} {c : Int} (hx : L[k]? = some ⟨n, o, c⟩) : okD L k ⟨n, o, c⟩ = (okS n o c && !decide (0 ≤ firstZ (isLike n c) (L.take k))) := by
  rw [← like_taken hx]
  unfold okD okS
  dsimp only
  have : decide (c ≤ 11) = decide (c < 12) := decide_eq_decide.2 (by omega)
  rw [this]
  simp only [Bool.and_assoc]
set_option maxHeartbeats 8000000 in
set_option maxRecDepth 100000 in
theorem maystand_any (n o : ByteArray) (c : Int) (w : World) (hn : n.size ≤ maxLen) :
    Calls Try.prog 44 #[.agg #[.string n, .string o, .int .i64 c]] w fun e w' => e = .returned (.bool (okS n o c)) ∧ Below w.heap.size w w' := by
  obtain ⟨q1, hq1⟩ : ∃ q, customL n.toList = q := ⟨_, rfl⟩
  obtain ⟨q2, hq2⟩ : ∃ q, knownL o.toList = q := ⟨_, rfl⟩
  obtain ⟨e1, he1⟩ : ∃ q, (o.toList == n.toList) = q := ⟨_, rfl⟩
  have CU : Hid (∀ V, Calls Try.prog 36 #[.string n] V fun e w' => e = .returned (.bool q1) ∧ Below V.heap.size V w') := Lib.hid (fun V => by
    have h := custom_any n V hn
    rwa [hq1] at h)
  have KN : Hid (∀ V, Calls Try.prog 37 #[.string o] V fun e w' => e = .returned (.bool q2) ∧ Below V.heap.size V w') := Lib.hid (fun V => by
    have h := known_any o V
    rw [hq2] at h
    exact h.mono (fun e w' h => ⟨h.1, by rw [← h.2]; exact Below.refl _ _⟩))
  have HO : Hid (okS n o c = (q1 && (e1 || q2) && decide (0 ≤ c) && decide (c < 12))) := Lib.hid (by unfold okS; rw [hq1, hq2, he1])
  have XX := Lib.hid (XBox.new w n o c)
  have HB := Lib.hid (below_desk w (.cells #[.string n, .string o, .int .i64 c] 46))
  have x0 := XX.out.c0
  have x1 := XX.out.c1
  have x2 := XX.out.c2
  have HV := Lib.hid (Below.refl (w.alloc (.cells #[.string n, .string o, .int .i64 c] 46)).heap.size (w.alloc (.cells #[.string n, .string o, .int .i64 c] 46)))
  clear hq1 hq2
  have fin : ∀ V, Below (w.alloc (.cells #[.string n, .string o, .int .i64 c] 46)).heap.size (w.alloc (.cells #[.string n, .string o, .int .i64 c] 46)) V → Below w.heap.size w V := fun V h => HB.out.trans (h.mono HB.out.size)
  have FIN := Lib.hid fin
  clear fin
  cases q1 with
  | false =>
    have HR : Hid (okS n o c = false) := Lib.hid (by rw [HO.out]; rfl)
    go_enter Try.func44, Try.ntmps44
    go_wp2_with (first
                    | (go_at_call 36; (with_reducible refine (CU.out _).mono ?_); rintro e w5 ⟨rfl, hb⟩; (have HV := Lib.hid (HV.out.trans (hb.mono HV.out.size)); clear x0 x1 x2 hb; have x0 := (XX.out.keep HV.out).c0; have x1 := (XX.out.keep HV.out).c1; have x2 := (XX.out.keep HV.out).c2))
                    | (go_at_call 37; (with_reducible refine (KN.out _).mono ?_); rintro e w5 ⟨rfl, hb⟩; (have HV := Lib.hid (HV.out.trans (hb.mono HV.out.size)); clear x0 x1 x2 hb; have x0 := (XX.out.keep HV.out).c0; have x1 := (XX.out.keep HV.out).c1; have x2 := (XX.out.keep HV.out).c2)))
    go_ret
    exact ⟨ret_bool HR.out.symm, FIN.out _ HV.out⟩
  | true =>
    cases e1 <;> cases q2 <;> by_cases d0 : 0 ≤ c <;> by_cases d1 : c < 12
    all_goals first | (exfalso; omega) | skip
    all_goals
      have HR : Hid (okS n o c = _) := Lib.hid (HO.out.trans (by rw [show decide (0 ≤ c) = _ from (by first | exact decide_eq_true d0 | exact decide_eq_false d0), show decide (c < 12) = _ from (by first | exact decide_eq_true d1 | exact decide_eq_false d1)]))
      go_enter Try.func44, Try.ntmps44
      go_wp2_with (first
                      | (go_at_call 36; (with_reducible refine (CU.out _).mono ?_); rintro e w5 ⟨rfl, hb⟩; (have HV := Lib.hid (HV.out.trans (hb.mono HV.out.size)); clear x0 x1 x2 hb; have x0 := (XX.out.keep HV.out).c0; have x1 := (XX.out.keep HV.out).c1; have x2 := (XX.out.keep HV.out).c2))
                      | (go_at_call 37; (with_reducible refine (KN.out _).mono ?_); rintro e w5 ⟨rfl, hb⟩; (have HV := Lib.hid (HV.out.trans (hb.mono HV.out.size)); clear x0 x1 x2 hb; have x0 := (XX.out.keep HV.out).c0; have x1 := (XX.out.keep HV.out).c1; have x2 := (XX.out.keep HV.out).c2)))
      go_ret
      exact ⟨ret_bool (by rw [HR.out]; first | rfl | (simp; try omega)), FIN.out _ HV.out⟩
end Go.Proofs.Ytioeagadhnnajaa
