/- Texts joined in build order: ForestFit4 RefCustom. -/
import Derived.Test.YtnjoimedilonnaaGreatC14
import Derived.Test.YtnjoimedilonnaaGreatC08
import Derived.Test.YtnjoimedilonnaaGreatC09
import Derived.Test.YtnjoimedilonnaaGreatC10
namespace Go.Proofs.YtnjoimedilonnaaGreat
open Go.RowKit
def elemNameB (l : List UInt8) : Bool := rightL l && (smallL l == l)
set_option maxHeartbeats 2000000 in
theorem elemName_any (s : ByteArray) (w : World) (hs : s.size ≤ maxLen) :
    Calls Tryz.prog 56 #[.string s] w fun e w' => e = .returned (.bool (elemNameB s.toList)) ∧ Below w.heap.size w w' := by
  have C1 := Lib.hid (fit_any s w hs)
  by_cases hr : rightL s.toList = true
  rotate_left
  · have hr : rightL s.toList = false := by simpa using hr
    have HR : Hid (elemNameB s.toList = false) := Lib.hid (by unfold elemNameB; rw [hr]; rfl)
    have e1 : fitE s.toList = 4 := by unfold fitE; rw [hr]; rfl
    rw [e1] at C1
    clear hr e1
    go_enter Tryz.func56, Tryz.ntmps56
    go_wp2_with (go_at_call 61; refine C1.out.mono ?_; rintro e w' ⟨rfl, hb⟩)
    go_ret
    exact ⟨ret_bool HR.out.symm, by assumption⟩
  have e1 : fitE s.toList = 0 := by unfold fitE; rw [hr]; rfl
  have e2 : fitL s.toList = smallL s.toList := by unfold fitL; rw [hr]; rfl
  rw [e1, e2] at C1
  have HR : Hid (elemNameB s.toList = (smallL s.toList == s.toList)) := Lib.hid (by unfold elemNameB; rw [hr]; rfl)
  clear hr e1 e2
  cases hsm : (smallL s.toList == s.toList) with
  | false =>
    rw [hsm] at HR
    go_enter Tryz.func56, Tryz.ntmps56
    go_wp2_with (go_at_call 61; refine C1.out.mono ?_; rintro e w' ⟨rfl, hb⟩)
    go_ret
    exact ⟨ret_bool HR.out.symm, by assumption⟩
  | true =>
    rw [hsm] at HR
    go_enter Tryz.func56, Tryz.ntmps56
    go_wp2_with (go_at_call 61; refine C1.out.mono ?_; rintro e w' ⟨rfl, hb⟩)
    go_ret
    exact ⟨ret_bool HR.out.symm, by assumption⟩
def fieldsB (x : Core) : Bool :=
  if x.kind = 1 then elemNameB x.name.toList && (x.is.toList == [] || customL x.is.toList) && (x.data.toList == []) && rightA x.attrs
  else if x.kind = 0 ∨ x.kind = 3 ∨ x.kind = 4 then (x.data.toList == []) && (x.name.toList == []) && (x.is.toList == []) && decide (x.attrs.length = 0)
  else if x.kind = 2 then (x.name.toList == []) && (x.is.toList == []) && decide (x.data.size ≤ 200) && decide (x.attrs.length = 0)
  else false
structure NKeep (w W : World) (x : NodeD) : Prop where
  box : NBox w W w.heap.size x
  below : Below w.heap.size w W
theorem NKeep.start {w : World} {x : NodeD} (h : NodeOk w x) : NKeep w (w.alloc (nodB x)) x := by
  have c : ∀ (j : Nat), (w.alloc (nodB x)).cell? ⟨w.heap.size, j, none⟩ = (#[.int .i64 x.core.kind, .string x.core.name, .string x.core.is, .string x.core.data, .slice x.aA x.aN x.aC, .int .i64 x.core.parent, .slice x.kA x.kN x.kC, .int .i64 x.core.host, .int .i64 x.core.under, .int .i64 x.core.doc] : Array Value)[j]? := fun j =>
    cell_of_row (w.alloc (nodB x)) w.heap.size j _ 37 (0, 0) (heap_alloc_new _ _)
  exact ⟨⟨by simp, c 0, c 1, c 2, c 3, c 4, c 5, c 6, c 7, c 8, c 9, h.below (below_box w _)⟩, below_box w _⟩
theorem NKeep.keep {w W W2 : World} {x : NodeD} (h : NKeep w W x) (hb : Below W.heap.size W W2) : NKeep w W2 x := ⟨h.box.keep hb, h.below.trans (hb.mono h.below.size)⟩
set_option maxHeartbeats 8000000 in
set_option maxRecDepth 100000 in
theorem fieldsFit_any (x : NodeD) (w : World) (h : NodeOk w x) :
    Calls Tryz.prog 41 #[nodVal x] w fun e w' => e = .returned (.bool (fieldsB x.core)) ∧ Below w.heap.size w w' := by
  obtain ⟨⟨kind, name, is, data, attrs, parent, kids, host, under, doc⟩, aA, aN, aC, kA, kN, kC⟩ := x
  have HN1 : Hid (name.size ≤ maxLen) := Lib.hid h.name
  have HN2 : Hid (is.size ≤ maxLen) := Lib.hid h.is
  have hal : aN ≤ 9223372036854775807 := h.attrs.len64
  have hdl : data.size ≤ 9223372036854775807 := by have : data.size ≤ maxLen := h.data; unfold maxLen at this; omega
  have HAL : Hid (attrs.length = aN) := Lib.hid h.attrs.hlen
  have HH := Lib.hid h
  clear h
  by_cases k1 : kind = 1
  · subst k1
    have NK := Lib.hid (NKeep.start HH.out)
    clear HH
    have HR : Hid (fieldsB ⟨1, name, is, data, attrs, parent, kids, host, under, doc⟩ = (elemNameB name.toList && (is.toList == [] || customL is.toList) && (data.toList == []) && rightA attrs)) := Lib.hid rfl
    obtain ⟨-, x0, x1, x2, x3, x4, x5, x6, x7, x8, x9, -⟩ := NK.out.box
    go_enter Tryz.func41, Tryz.ntmps41
    go_wp2_with (first
                    | (go_at_call 56; (refine (elemName_any _ _ HN1.out).mono ?_); rintro e w1 ⟨rfl, hb⟩; have NK := Lib.hid (NK.out.keep hb); obtain ⟨-, x0, x1, x2, x3, x4, x5, x6, x7, x8, x9, -⟩ := NK.out.box; clear hb)
                    | (go_at_call 57; (refine (custom_any _ _ HN2.out).mono ?_); rintro e w1 ⟨rfl, hb⟩; have NK := Lib.hid (NK.out.keep hb); obtain ⟨-, x0, x1, x2, x3, x4, x5, x6, x7, x8, x9, -⟩ := NK.out.box; clear hb)
                    | (go_at_call 58; (refine (right_any' _ _ _ _ _ NK.out.box.ok.attrs).mono ?_); rintro e w1 ⟨rfl, hb⟩; have NK := Lib.hid (NK.out.keep hb); obtain ⟨-, x0, x1, x2, x3, x4, x5, x6, x7, x8, x9, -⟩ := NK.out.box; clear hb))
    all_goals (go_ret; exact ⟨ret_bool (by rw [HR.out]; first | (simp [*]; done) | (rw [Bool.eq_iff_iff]; simp [*])), by first | exact NK.out.below | assumption⟩)
  by_cases k2 : kind = 2
  · subst k2
    clear HH
    have HR : Hid (fieldsB ⟨2, name, is, data, attrs, parent, kids, host, under, doc⟩ = ((name.toList == []) && (is.toList == []) && decide (data.size ≤ 200) && decide (aN = 0))) := Lib.hid (by rw [← HAL.out]; rfl)
    clear k1
    go_enter Tryz.func41, Tryz.ntmps41
    go_wp2
    all_goals (go_ret; exact ⟨ret_bool (by rw [HR.out]; first | (simp [*]; done) | (rw [Bool.eq_iff_iff]; simp [*]; done) | (rw [Bool.eq_iff_iff]; simp [*]; omega)), below_box _ _⟩)
  by_cases k3 : kind = 0 ∨ kind = 3 ∨ kind = 4
  · have HR : Hid (fieldsB ⟨kind, name, is, data, attrs, parent, kids, host, under, doc⟩ = ((data.toList == []) && (name.toList == []) && (is.toList == []) && decide (aN = 0))) := Lib.hid (by
      unfold fieldsB
      rw [if_neg k1]
      dsimp only
      rw [if_pos k3, HAL.out])
    clear k1 k2 HH
    by_cases d0 : data.toList = []
    · have hd : (data.size : Int) ≤ 200 := by
        have : data.size = 0 := by rw [← tl_len, d0]; rfl
        omega
      have hd2 : (!data.toList.isEmpty) = false := by rw [d0]; rfl
      have hd3 : data.toList.isEmpty = true := by rw [d0]; rfl
      rcases k3 with k3 | k3 | k3
      all_goals
        subst k3
        go_enter Tryz.func41, Tryz.ntmps41
        go_wp2
        all_goals (go_ret; exact ⟨ret_bool (by rw [HR.out]; first | (simp [*]; done) | (rw [Bool.eq_iff_iff]; simp [*]; done) | (rw [Bool.eq_iff_iff]; simp [*]; omega)), below_box _ _⟩)
    · have hd3 : data.toList.isEmpty = false := by
        cases hh : data.toList with
        | nil => exact absurd hh d0
        | cons _ _ => rfl
      have hd2 : (!data.toList.isEmpty) = true := by rw [hd3]; rfl
      rcases k3 with k3 | k3 | k3
      all_goals
        subst k3
        go_enter Tryz.func41, Tryz.ntmps41
        go_wp2
        all_goals (go_ret; exact ⟨ret_bool (by rw [HR.out]; simp [*]), below_box _ _⟩)
  have HR : Hid (fieldsB ⟨kind, name, is, data, attrs, parent, kids, host, under, doc⟩ = false) := Lib.hid (by unfold fieldsB; dsimp only; rw [if_neg k1, if_neg k3, if_neg k2])
  have f0 : (kind == 0) = false := beq_eq_false_iff_ne.2 (fun e => k3 (.inl e))
  have f1 : (kind == 1) = false := beq_eq_false_iff_ne.2 k1
  have f2 : (kind == 2) = false := beq_eq_false_iff_ne.2 k2
  have f3 : (kind == 3) = false := beq_eq_false_iff_ne.2 (fun e => k3 (.inr (.inl e)))
  have f4 : (kind == 4) = false := beq_eq_false_iff_ne.2 (fun e => k3 (.inr (.inr e)))
  clear k1 k2 k3 HH
  go_enter Tryz.func41, Tryz.ntmps41
  go_wp2
  go_ret
  exact ⟨ret_bool HR.out.symm, below_box _ _⟩
end Go.Proofs.YtnjoimedilonnaaGreat
namespace Go.Proofs.YtnjoimedilonnaaGreat
open Go.RowKit
theorem low_of_right (s : ByteArray) (hr : rightL s.toList = true) (hp : 0 < s.size) (hsm : smallL s.toList = s.toList) : lowI (s[0].toNat : Int) = !((s[0].toNat : Int) == 95) := by
  have hh : headB s[0] = true := by
    by_cases h : headB s[0] = true
    · exact h
    · have := rightL_head _ _ (tl_get s 0 hp) (by simpa using h)
      rw [this] at hr; cases hr
  have hcap : capI (s[0].toNat : Int) = false := by
    have h1 : (smallL s.toList)[0]? = some (smallB s[0]) := by
      unfold smallL
      rw [List.getElem?_map, tl_get s 0 hp]
      rfl
    rw [hsm, tl_get s 0 hp] at h1
    have h2 := cap_small s[0]
    rw [← Option.some.inj h1] at h2
    exact h2
  unfold headB headI alphI at hh
  rw [hcap] at hh
  rw [Bool.eq_iff_iff]
  unfold lowI at *
  simp at hh ⊢
  omega
theorem dash_step (l : List UInt8) (k : Nat) (c : UInt8) (h : l[k]? = some c) (hd : dashL (l.take k) = false) : dashL (l.take (k + 1)) = ((c.toNat : Int) == 45) := by
  obtain ⟨hl, he⟩ := List.getElem?_eq_some_iff.1 h
  unfold dashL at *
  rw [List.take_succ_eq_append_getElem hl, he, Bool.eq_iff_iff]
  have e : (45 : UInt8) = c ↔ (c.toNat : Int) = 45 := by
    constructor
    · rintro rfl; rfl
    · intro h; apply UInt8.toNat_inj.1; have : (45 : UInt8).toNat = 45 := rfl; omega
  simp at hd
  simp [e, hd]
theorem dash_hit (l : List UInt8) (k : Nat) (c : UInt8) (h : l[k]? = some c) (hc : (c.toNat : Int) = 45) : dashL l = true := by
  have : c = 45 := by apply UInt8.toNat_inj.1; have : (45 : UInt8).toNat = 45 := rfl; omega
  subst this
  unfold dashL
  simp
  exact List.mem_of_getElem? h
set_option maxHeartbeats 16000000 in
set_option maxRecDepth 100000 in
theorem refcustom_any (s : ByteArray) (w : World) (hs : s.size ≤ 1000000) :
    Calls Tryz.prog 33 #[.string s] w fun e w' => e = .returned (.bool (customL s.toList)) ∧ Below w.heap.size w w' := by
  have HB : Below w.heap.size w w := Below.refl _ _
  by_cases hr : rightL s.toList = true
  rotate_left
  · have hr' : rightL s.toList = false := by simpa using hr
    have HC := Lib.hid (customL_no _ hr')
    clear hr
    go_enter Tryz.func33, Tryz.ntmps33
    go_wp2_with (go_at_call 31; refine (refright_any _ _ (le_max hs)).mono ?_; rintro e w' ⟨rfl, rfl⟩)
    go_ret
    exact ⟨ret_bool HC.out.symm, HB⟩
  have hp := rightL_pos s hr
  have HC := Lib.hid (customL_eq s hr hp)
  have HL := Lib.hid (tl_len s)
  by_cases hsm : smallL s.toList = s.toList
  rotate_left
  · have b1 : (s.toList == smallL s.toList) = false := beq_eq_false_iff_ne.2 (fun e => hsm e.symm)
    have b2 : (s.toList != smallL s.toList) = true := by unfold bne; rw [b1]; rfl
    have HR : Hid (customL s.toList = false) := Lib.hid (by rw [HC.out, beq_eq_false_iff_ne.2 hsm]; rfl)
    clear hsm
    go_enter Tryz.func33, Tryz.ntmps33
    go_wp2_with (first
      | (go_at_call 31; refine (refright_any _ _ (le_max hs)).mono ?_; rintro e w' ⟨rfl, rfl⟩)
      | (go_at_call 32; refine (refsmall_any _ _ hs).mono ?_; rintro e w' ⟨rfl, hb⟩; have HB := HB.trans (hb.mono HB.size); clear hb))
    go_ret
    exact ⟨ret_bool HR.out.symm, by assumption⟩
  have HW := Lib.hid (low_of_right s hr hp hsm)
  have HV : Hid (customL s.toList = (!((s[0].toNat : Int) == 95) && dashL s.toList && !reservedL s.toList)) := Lib.hid (by rw [HC.out, HW.out, hsm]; simp)
  by_cases h95 : (s[0].toNat : Int) = 95
  · have e95 : ((s[0].toNat : Int) == 95) = true := beq_iff_eq.2 h95
    have HR : Hid (customL s.toList = false) := Lib.hid (by rw [HV.out, e95]; rfl)
    clear h95
    go_enter Tryz.func33, Tryz.ntmps33
    go_wp2_with (first
      | (go_at_call 31; refine (refright_any _ _ (le_max hs)).mono ?_; rintro e w' ⟨rfl, rfl⟩)
      | (go_at_call 32; refine (refsmall_any _ _ hs).mono ?_; rintro e w' ⟨rfl, hb⟩; have HB := HB.trans (hb.mono HB.size); clear hb))
    go_ret
    exact ⟨ret_bool HR.out.symm, by assumption⟩
  have e95 : ((s[0].toNat : Int) == 95) = false := beq_eq_false_iff_ne.2 h95
  have hone := one_reserved s.toList
  by_cases hres : reservedL s.toList = true
  · rw [hres] at hone
    have HR : Hid (customL s.toList = false) := Lib.hid (by rw [HV.out, hres]; simp)
    clear h95 hres
    go_enter Tryz.func33, Tryz.ntmps33
    go_wp2_with (first
      | (go_at_call 31; refine (refright_any _ _ (le_max hs)).mono ?_; rintro e w' ⟨rfl, rfl⟩)
      | (go_at_call 32; refine (refsmall_any _ _ hs).mono ?_; rintro e w' ⟨rfl, hb⟩; have HB := HB.trans (hb.mono HB.size); clear hb)
      | (go_at_call 48; refine (one_any _ ⟨RESERVED_WORDS.toArray⟩ _ (by decide)).mono ?_; rintro e w' ⟨rfl, rfl⟩))
    go_ret
    exact ⟨ret_bool HR.out.symm, by assumption⟩
  have hres' : reservedL s.toList = false := by simpa using hres
  rw [hres'] at hone
  have HR : Hid (customL s.toList = dashL s.toList) := Lib.hid (by rw [HV.out, hres', e95]; simp)
  clear h95 hres hres'
  go_enter Tryz.func33, Tryz.ntmps33
  go_wp2_with (first
    | (go_at_call 31; refine (refright_any _ _ (le_max hs)).mono ?_; rintro e w' ⟨rfl, rfl⟩)
    | (go_at_call 32; refine (refsmall_any _ _ hs).mono ?_; rintro e w' ⟨rfl, hb⟩; have HB := HB.trans (hb.mono HB.size); clear hb)
    | (go_at_call 48; refine (one_any _ ⟨RESERVED_WORDS.toArray⟩ _ (by decide)).mono ?_; rintro e w' ⟨rfl, rfl⟩))
  clear hone hsm
  go_loop [3] (fun i => ∃ k : Nat, k ≤ s.size ∧ i = .int .i64 k ∧ Hid (dashL (s.toList.take k) = false)) (fun i => s.size - (intOf i).toNat)
  case atStart => exact ⟨0, by omega, rfl, Lib.hid rfl⟩
  case round =>
    obtain ⟨k, hk, rfl, HA⟩ := hrel
    by_cases hlt : k < s.size
    · have HG := Lib.hid (tl_get s k hlt)
      obtain ⟨n, hn⟩ : ∃ n : Nat, (s[k]'hlt).toNat = n := ⟨_, rfl⟩
      have HN := Lib.hid hn
      by_cases h45 : (n : Int) = 45
      · have e45 : ((n : Int) == 45) = true := beq_iff_eq.2 h45
        have HR2 : Hid (customL s.toList = true) := Lib.hid (by rw [HR.out]; exact dash_hit _ _ _ HG.out (by rw [HN.out]; exact h45))
        clear h45
        go_wp2
        go_ret
        exact ⟨ret_bool HR2.out.symm, by assumption⟩
      · have e45 : ((n : Int) == 45) = false := beq_eq_false_iff_ne.2 h45
        have HS : Hid (dashL (s.toList.take (k + 1)) = false) := Lib.hid ((dash_step _ _ _ HG.out HA.out).trans (by rw [HN.out]; exact e45))
        clear h45
        go_wp2
        go_round
        case rel => exact ⟨k + 1, by omega, by go_num, HS⟩
        case measure => simp [intOf]; omega
    · have HR2 : Hid (customL s.toList = false) := Lib.hid (by
        rw [HR.out]
        have h := HA.out
        rwa [List.take_of_length_le (by rw [HL.out]; omega)] at h)
      go_wp2
      go_ret
      exact ⟨ret_bool HR2.out.symm, by assumption⟩
end Go.Proofs.YtnjoimedilonnaaGreat
