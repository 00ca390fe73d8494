/- Texts joined in build order: ForestMakesMath ForestEnds ForestOrderMath AttrFind AttrClone AttrDelete. -/
import Derived.Test.YtkgbgnmmgmnnlaaGreatDoorE05
import Derived.Test.YtkgbgnmmgmnnlaaGreatDoorE06
import Derived.Lib.SliceRun
import Derived.Deep.RegionLaw
import Derived.Laws.IdiomCopy
import Derived.Deep.MidRow
namespace Go.Proofs.YtkgbgnmmgmnnlaaGreatDoor
open Go.RowKit
theorem endsZ_none (nxt : Int → Int) (s : Nat) : endsZ nxt s (-1) = true := by
  cases s with
  | zero => rfl
  | succ s => unfold endsZ; rfl
theorem endsZ_more {nxt : Int → Int} : ∀ (s : Nat) (i : Int), endsZ nxt s i = true → endsZ nxt (s + 1) i = true
  | 0, i, h => by
    have e : i = -1 := by unfold endsZ at h; exact beq_iff_eq.1 h
    rw [e]
    exact endsZ_none _ _
  | s + 1, i, h => by
    by_cases e : i = -1
    · rw [e]
      exact endsZ_none _ _
    · rw [endsZ_step e] at h ⊢
      exact endsZ_more s _ h
end Go.Proofs.YtkgbgnmmgmnnlaaGreatDoor
namespace Go.Proofs.YtkgbgnmmgmnnlaaGreatDoor
theorem nodup_lt : ∀ (n : Nat) (l : List Nat), l.Nodup → (∀ x ∈ l, x < n) → l.length ≤ n
  | 0, l, _, h => by
    cases l with
    | nil => exact Nat.le_refl _
    | cons a r => exact absurd (h a (by simp)) (by omega)
  | n + 1, l, hn, h => by
    have h1 := nodup_lt n (l.filter (fun x => decide (x ≠ n))) (hn.filter _) (fun x hx => by
      have := List.mem_filter.1 hx
      have h2 := h x this.1
      have h3 := of_decide_eq_true this.2
      omega)
    have h2 : l.countP (fun x => decide (x ≠ n)) + l.countP (fun x => ! decide (x ≠ n)) = l.length := by
      have := List.length_eq_countP_add_countP (fun x => decide (x ≠ n)) (l := l)
      rw [this]
      congr 1
      refine List.countP_congr fun x _ => ?_
      simp
    have h3 : l.countP (fun x => ! decide (x ≠ n)) ≤ 1 := by
      have h4 : l.countP (fun x => ! decide (x ≠ n)) = l.count n := by
        unfold List.count
        refine List.countP_congr fun x _ => ?_
        simp
      rw [h4]
      exact List.nodup_iff_count.1 hn n
    rw [← List.countP_eq_length_filter] at h1
    omega
section
variable {nxt : Int → Int}
def exZ (nxt : Int → Int) (r : Nat) (i : Int) : Prop := endsZ nxt r i = true ∧ ∀ s, s < r → endsZ nxt s i = false
theorem exZ_of : ∀ (m : Nat) (i : Int), endsZ nxt m i = true → ∃ r, r ≤ m ∧ exZ nxt r i
  | m, i, h => by
    by_cases hs : ∃ s, s < m ∧ endsZ nxt s i = true
    · obtain ⟨s, hs, he⟩ := hs
      obtain ⟨r, hr, hx⟩ := exZ_of s i he
      exact ⟨r, by omega, hx⟩
    · exact ⟨m, Nat.le_refl _, h, fun s hl => by
        cases hq : endsZ nxt s i with
        | false => rfl
        | true => exact absurd ⟨s, hl, hq⟩ hs⟩
termination_by m => m
theorem exZ_one {r s : Nat} {i : Int} (h1 : exZ nxt r i) (h2 : exZ nxt s i) : r = s := by
  rcases Nat.lt_trichotomy r s with h | h | h
  · have := h2.2 r h
    rw [h1.1] at this
    cases this
  · exact h
  · have := h1.2 s h
    rw [h2.1] at this
    cases this
def chainZ (nxt : Int → Int) : Nat → Int → List Int
  | 0, _ => []
  | s + 1, i => i :: chainZ nxt s (nxt i)
theorem exZ_next {r : Nat} {i : Int} (h : exZ nxt (r + 1) i) : i ≠ -1 ∧ exZ nxt r (nxt i) := by
  have h0 := h.2 0 (by omega)
  have hi : i ≠ -1 := fun e => by
    rw [e] at h0
    cases h0
  refine ⟨hi, by rw [← endsZ_step hi]; exact h.1, fun s hs => ?_⟩
  rw [← endsZ_step hi]
  exact h.2 (s + 1) (by omega)
theorem chain_facts {n : Nat} (hr : ∀ i : Int, 0 ≤ i → i < n → nxt i = -1 ∨ (0 ≤ nxt i ∧ nxt i < n)) :
    ∀ (r : Nat) (i : Int), exZ nxt r i → (i = -1 ∨ (0 ≤ i ∧ i < (n : Int))) → (chainZ nxt r i).length = r ∧ (chainZ nxt r i).Nodup ∧ ∀ y ∈ chainZ nxt r i, (0 ≤ y ∧ y < (n : Int)) ∧ ∃ s, 0 < s ∧ s ≤ r ∧ exZ nxt s y
  | 0, i, _, _ => ⟨rfl, List.nodup_nil, fun y hy => by cases hy⟩
  | r + 1, i, h, hi => by
    obtain ⟨hne, hx⟩ := exZ_next h
    have hi2 : 0 ≤ i ∧ i < (n : Int) := by
      rcases hi with h | h
      · exact absurd h hne
      · exact h
    obtain ⟨h1, h2, h3⟩ := chain_facts hr r (nxt i) hx (hr i hi2.1 hi2.2)
    refine ⟨by unfold chainZ; rw [List.length_cons, h1], ?_, fun y hy => ?_⟩
    · unfold chainZ
      rw [List.nodup_cons]
      refine ⟨fun hm => ?_, h2⟩
      obtain ⟨_, s, _, hs2, hs3⟩ := h3 i hm
      have := exZ_one h hs3
      omega
    · unfold chainZ at hy
      rcases List.mem_cons.1 hy with rfl | hy
      · exact ⟨hi2, r + 1, by omega, Nat.le_refl _, h⟩
      · obtain ⟨h4, s, h5, h6, h7⟩ := h3 y hy
        exact ⟨h4, s, h5, by omega, h7⟩
theorem endsZ_le {r n : Nat} (h : r ≤ n) {i : Int} (he : endsZ nxt r i = true) : endsZ nxt n i = true := by
  obtain ⟨d, rfl⟩ : ∃ d, n = r + d := ⟨n - r, by omega⟩
  clear h
  induction d with
  | zero => exact he
  | succ d ih => exact endsZ_more _ _ ih
theorem ends_small {n : Nat} (hr : ∀ i : Int, 0 ≤ i → i < n → nxt i = -1 ∨ (0 ≤ nxt i ∧ nxt i < n)) {m : Nat} {i : Int} (hi : i = -1 ∨ (0 ≤ i ∧ i < (n : Int))) (h : endsZ nxt m i = true) : endsZ nxt n i = true := by
  obtain ⟨r, _, hx⟩ := exZ_of m i h
  obtain ⟨h1, h2, h3⟩ := chain_facts hr r i hx hi
  have h4 : ((chainZ nxt r i).map Int.toNat).Nodup := by
    have key : ∀ l : List Int, l.Nodup → (∀ z ∈ l, 0 ≤ z) → (l.map Int.toNat).Nodup := by
      intro l
      induction l with
      | nil => intro _ _; simp
      | cons a r ih =>
        intro hl hp
        rw [List.nodup_cons] at hl
        rw [List.map_cons, List.nodup_cons]
        refine ⟨fun hm => ?_, ih hl.2 (fun z hz => hp z (by simp [hz]))⟩
        obtain ⟨z, hz, e⟩ := List.mem_map.1 hm
        have h1 := hp a (by simp)
        have h2 := hp z (by simp [hz])
        have : z = a := by omega
        exact hl.1 (this ▸ hz)
    exact key _ h2 (fun z hz => (h3 z hz).1.1)
  have h5 := nodup_lt n _ h4 (fun y hy => by
    obtain ⟨z, hz, rfl⟩ := List.mem_map.1 hy
    have := (h3 z hz).1
    omega)
  rw [List.length_map, h1] at h5
  exact endsZ_le h5 hx.1
end
end Go.Proofs.YtkgbgnmmgmnnlaaGreatDoor
namespace Go.Proofs.YtkgbgnmmgmnnlaaGreatDoor
open Go.RowKit
theorem hasZ_nodup : ∀ {L : List Int} {n : Int}, L.Nodup → hasZ L n = if n ∈ L then 1 else 0
  | [], n, _ => rfl
  | z :: l, n, h => by
    have h2 := List.nodup_cons.1 h
    have ih := hasZ_nodup (n := n) h2.2
    unfold hasZ at ih ⊢
    rw [List.countP_cons, ih]
    by_cases e : z = n
    · subst e
      rw [if_neg h2.1, if_pos (by simp), if_pos (List.mem_cons_self ..)]
    · rw [if_neg (show ¬ ((z == n) = true) from fun g => e (beq_iff_eq.1 g))]
      by_cases hm : n ∈ l
      · rw [if_pos hm, if_pos (List.mem_cons_of_mem _ hm)]
      · rw [if_neg hm, if_neg (fun g => by rcases List.mem_cons.1 g with g | g; exact e g.symm; exact hm g)]
theorem ordZ_eq {m : Int} {F : List Core} (h : rightF m F = true) {a : Nat} (ha : a < F.length) : ordZ m F (a : Int) = (ordF F a).map Int.ofNat := by
  unfold ordZ
  rw [thereF_of h ha]
  rfl
theorem aheadZ_eq {m : Int} {F : List Core} (h : rightF m F = true) {a b : Nat} (ha : a < F.length) (hb : b < F.length) : aheadZ m F (a : Int) (b : Int) = aheadF F a b := by
  unfold aheadZ
  rw [thereF_of h ha, thereF_of h hb]
  rfl
theorem nodup_sub : ∀ (n : Nat) (l : List Nat), l.Nodup → (∀ x ∈ l, x < n) → l.length ≤ n
  | 0, l, _, hs => by
    cases l with
    | nil => exact Nat.le_refl _
    | cons a r => exact absurd (hs a (List.mem_cons_self ..)) (by omega)
  | n + 1, l, h, hs => by
    have ih := nodup_sub n (l.erase n) (h.erase n) (fun x hx => by
      have := (List.Nodup.mem_erase_iff h).1 hx
      have := hs x this.2
      omega)
    by_cases hm : n ∈ l
    · rw [List.length_erase_of_mem hm] at ih
      omega
    · rw [List.erase_of_not_mem hm] at ih
      omega
end Go.Proofs.YtkgbgnmmgmnnlaaGreatDoor
namespace Go.Proofs.YtkgbgnmmgmnnlaaGreatDoor
open Go.RowKit Go.Maps Go.WideMaps
def findI (L : AL) (n : List UInt8) : Int := if rightA L && rightL n then atL L (smallL n) else -1
def findS (L : AL) (n : List UInt8) : List UInt8 := if rightA L && rightL n then smallL n else []
def findE (L : AL) (n : List UInt8) : Int := if rightA L then (if rightL n then 0 else 4) else 1
set_option maxHeartbeats 4000000 in
set_option maxRecDepth 100000 in
theorem find_any (a : Option Addr) (len cap : Nat) (L : AL) (n : ByteArray) (w : World) (h : AttrRow w a len cap L) (hn : n.size ≤ maxLen) :
    Calls Tryz.prog 44 #[.slice a len cap, .string n] w fun e w' => e = .returned (.tuple #[.int .i64 (findI L n.toList), .string (ofL (findS L n.toList)), .int .i64 (findE L n.toList)]) ∧ Below w.heap.size w w' := by
  have HN := Lib.hid hn
  by_cases hr : rightA L = true
  rotate_left
  · have hr : rightA L = false := by simpa using hr
    have C1 := Lib.hid (placesWrong_any a len cap L w h hr)
    have E1 : findI L n.toList = -1 := by unfold findI; rw [hr]; rfl
    have E2 : findS L n.toList = [] := by unfold findS; rw [hr]; rfl
    have E3 : findE L n.toList = 1 := by unfold findE; rw [hr]; rfl
    rw [E1, E2, E3]
    clear h hr hn E1 E2 E3
    go_enter Tryz.func44, Tryz.ntmps44
    go_wp2_with (first
      | (go_at_call 78; refine C1.out.mono ?_; rintro e w' ⟨rfl, HB⟩))
    go_ret3
    exact ⟨rfl, HB⟩
  have C1 := Lib.hid (placesRight_any a len cap L w h hr)
  have HF := Lib.hid (right_first hr)
  by_cases hnr : rightL n.toList = true
  rotate_left
  · have hnr : rightL n.toList = false := by simpa using hnr
    have E1 : findI L n.toList = -1 := by unfold findI; rw [hr, hnr]; rfl
    have E2 : findS L n.toList = [] := by unfold findS; rw [hr, hnr]; rfl
    have E3 : findE L n.toList = 4 := by unfold findE; rw [hr, hnr]; rfl
    have e1 : fitE n.toList = 4 := by unfold fitE; rw [hnr]; rfl
    have C2 : Hid (∀ W, Calls Tryz.prog 54 #[.string n] W fun e w' => e = .returned (.tuple #[.string (ofL (fitL n.toList)), .int .i64 4]) ∧ Below W.heap.size W w') := Lib.hid (fun W => by
      have := fit_any n W HN.out
      rwa [e1] at this)
    rw [E1, E2, E3]
    clear h hr hn E1 E2 E3 e1 hnr HF
    go_enter Tryz.func44, Tryz.ntmps44
    go_wp2_with (first
      | (go_at_call 78; refine C1.out.mono ?_; rintro e w1 ⟨b, rfl, _, _, HB⟩)
      | (go_at_call 54; refine (C2.out _).mono ?_; rintro e w' ⟨rfl, hb⟩; have HB := HB.trans (hb.mono HB.size); clear hb))
    go_ret3
    exact ⟨rfl, HB⟩
  have E1 : findI L n.toList = atL L (smallL n.toList) := by unfold findI; rw [hr, hnr]; rfl
  have E2 : findS L n.toList = smallL n.toList := by unfold findS; rw [hr, hnr]; rfl
  have E3 : findE L n.toList = 0 := by unfold findE; rw [hr, hnr]; rfl
  have e1 : fitE n.toList = 0 := by unfold fitE; rw [hnr]; rfl
  have e2 : fitL n.toList = smallL n.toList := by unfold fitL; rw [hnr]; rfl
  have C2 : Hid (∀ W, Calls Tryz.prog 54 #[.string n] W fun e w' => e = .returned (.tuple #[.string (ofL (smallL n.toList)), .int .i64 0]) ∧ Below W.heap.size W w') := Lib.hid (fun W => by
    have := fit_any n W HN.out
    rwa [e1, e2] at this)
  have hkey : Hid (keyOf Tryz.prog 9 (.string (ofL (smallL n.toList))) = some (.string (smallL n.toList))) := Lib.hid (by
    have := keyS (s := ofL (smallL n.toList)) (by rw [size_ofL, smallL_length, tl_len]; exact hn)
    rwa [← tl, toList_ofL] at this)
  have HH := Lib.hid (plD_has (L := L) (smallL n.toList) L.length (Nat.le_refl _))
  rw [E1, E2, E3]
  by_cases hp : atN L (smallL n.toList) < L.length
  · have HH1 : Hid (Maps.has (plD L L.length) (.string (smallL n.toList)) = true) := Lib.hid (by rw [HH.out, decide_eq_true hp])
    have HA := Lib.hid (plD_at (L := L) (smallL n.toList) (.lit (.int .i64 0)) L.length (Nat.le_refl _) HF.out hp)
    have HE : atL L (smallL n.toList) = (atN L (smallL n.toList) : Int) := by unfold atL; rw [if_pos hp]
    rw [HE]
    clear h hr hn E1 E2 E3 e1 e2 hnr HF HE hp HH
    go_enter Tryz.func44, Tryz.ntmps44
    go_wp2_with (first
      | (go_at_call 78; refine C1.out.mono ?_; rintro e w1 ⟨b, rfl, _, hown, HB⟩; have HM := Lib.hid hown; clear hown)
      | (go_at_call 54; refine (C2.out _).mono ?_; rintro e w' ⟨rfl, hb⟩; have HM := Lib.hid (own_belowM HM.out hb); have HB := HB.trans (hb.mono HB.size); clear hb)
      | (at_lookup; refine wpList_lookup_own_ok_int _ rfl _ _ 89 rfl 9 3 .i64 lawS Tryz.underlying89 Tryz.underlying3 (zeroI _) b L.length (plD L L.length) rfl HM.out _ _ rfl hkey.out ?_; intro c hat hwc; simp only [HH1.out]; obtain rfl : (atN L (smallL n.toList) : Int) = c := (by rw [HA.out] at hat; injection hat with hat; injection hat); clear hat hwc))
    go_ret3
    exact ⟨rfl, HB⟩
  · have HH1 : Hid (Maps.has (plD L L.length) (.string (smallL n.toList)) = false) := Lib.hid (by rw [HH.out, decide_eq_false hp])
    have HE : atL L (smallL n.toList) = -1 := by unfold atL; rw [if_neg hp]
    rw [HE]
    clear h hr hn E1 E2 E3 e1 e2 hnr HF HE hp HH
    go_enter Tryz.func44, Tryz.ntmps44
    go_wp2_with (first
      | (go_at_call 78; refine C1.out.mono ?_; rintro e w1 ⟨b, rfl, _, hown, HB⟩; have HM := Lib.hid hown; clear hown)
      | (go_at_call 54; refine (C2.out _).mono ?_; rintro e w' ⟨rfl, hb⟩; have HM := Lib.hid (own_belowM HM.out hb); have HB := HB.trans (hb.mono HB.size); clear hb)
      | (at_lookup; refine wpList_lookup_own_ok_int _ rfl _ _ 89 rfl 9 3 .i64 lawS Tryz.underlying89 Tryz.underlying3 (zeroI _) b L.length (plD L L.length) rfl HM.out _ _ rfl hkey.out ?_; intro c hat hwc; simp only [HH1.out]; clear hat hwc))
    go_ret3
    exact ⟨rfl, HB⟩
end Go.Proofs.YtkgbgnmmgmnnlaaGreatDoor
namespace Go.Proofs.YtkgbgnmmgmnnlaaGreatDoor
open Go.RowKit
def OwnPost (w : World) (L : AL) (e : Ending) (w' : World) : Prop := ∃ v, e = .returned v ∧ w'.ownsRow w.heap.size 65 2 v L.length (L.flatMap encA) ∧ Below w.heap.size w w'
set_option maxHeartbeats 4000000 in
theorem clone_any (a : Option Addr) (len cap : Nat) (L : AL) (w : World) (h : AttrRow w a len cap L) (h40 : len ≤ 1000000) :
    Calls Tryz.prog 83 #[.slice a len cap] w (OwnPost w L) := by
  obtain ⟨i0, hi0, hz0, hz1, hz2⟩ := info_parts attr_info
  have HL := Lib.hid h.hlen
  have q22 : ∀ (w : World) (a : Option Addr) (n c n' c' : Nat), (binOp .eql 35 (.slice a n c) (.slice none n' c')).run Tryz.prog w = .ok (.bool a.isNone) w := fun w a n c n' c' => Lib.run_eql_slice_nil w _ _ a n c n' c' Tryz.underlying35
  rcases a with _ | ad
  · have hc : cap = 0 := h.hnil rfl
    have h0 : len = 0 := by have := h.row.hcap; omega
    have hLn : L = [] := List.eq_nil_of_length_eq_zero (by rw [h.hlen, h0])
    subst hc; subst h0; subst hLn
    clear h
    go_enter Tryz.func83, Tryz.ntmps83
    go_wp2
    go_ret
    exact ⟨_, rfl, World.ownsRow_nil _ _ _ _, Below.refl _ _⟩
  · have H := Lib.hid h
    have hE := own_empty (α := ByteArray × ByteArray) (enc := encA) (size := 2) w w.heap.size 65 (Nat.le_refl _)
    have HE := Lib.hid hE
    clear h hE
    go_enter Tryz.func83, Tryz.ntmps83
    go_wp2_with (first
      | (at_builtin
         refine wpList_append_rows rfl (.tmp 5) (.tmp 6) 35 rfl 65 i0 _ 2 32 Tryz.underlying35 hi0 hz0 hz1 hz2 rfl (by decide) w.heap.size _ 0 _ L rfl HE.out (some ad) len cap rfl (H.out.below ((Below.refl _ _).alloc (Nat.le_refl _) _)).row (fun x _ => encA_one x) (by unfold maxLen; omega) (by omega) (by simp) (fun h => by cases h) ?_
         intro v2 w2 hown2 hg2 hat2
         have HB2 := below_new (Below.refl _ _) hg2
         have HO2 := Lib.hid hown2
         clear hown2 hg2 hat2))
    go_ret
    refine ⟨_, rfl, ?_, HB2⟩
    have := HO2.out
    rw [HL.out]
    simpa using this
set_option maxHeartbeats 4000000 in
theorem attrget_any (a : Option Addr) (len cap : Nat) (L : AL) (n : ByteArray) (w : World) (h : AttrRow w a len cap L) (hn : n.size ≤ maxLen) :
    Calls Tryz.prog 20 #[.slice a len cap, .string n] w fun e w' => e = .returned (.tuple #[.string (valA L n.toList), .bool (hasA L n.toList)]) ∧ Below w.heap.size w w' := by
  have C1 := Lib.hid (find_any a len cap L n w h hn)
  have H := Lib.hid h
  by_cases hg : (rightA L && rightL n.toList) = true
  rotate_left
  · have hg : (rightA L && rightL n.toList) = false := by simpa using hg
    have HR : Hid (hasA L n.toList = false) := Lib.hid (by unfold hasA; rw [hg]; rfl)
    have HV : Hid (valA L n.toList = ofL []) := Lib.hid (by unfold valA; rw [HR.out]; rfl)
    have E1 : findI L n.toList = -1 := by unfold findI; rw [hg]; rfl
    have C2 := C1.out
    rw [E1] at C2
    have C3 := Lib.hid C2
    by_cases hz : findE L n.toList = 0
    · exfalso
      unfold findE at hz
      revert hg hz
      cases rightA L <;> cases rightL n.toList <;> simp
    · have z1 : (findE L n.toList == 0) = false := beq_eq_false_iff_ne.2 hz
      have z2 : (findE L n.toList != 0) = true := by unfold bne; rw [z1]; rfl
      clear h hn hg E1 C2 C1 hz
      go_enter Tryz.func20, Tryz.ntmps20
      go_wp2_with (first
        | (go_at_call 44; refine C3.out.mono ?_; rintro e w' ⟨rfl, HB⟩))
      go_ret2
      exact ⟨by rw [HR.out, HV.out]; rfl, HB⟩
  have E3 : findE L n.toList = 0 := by
    unfold findE
    revert hg
    cases rightA L <;> cases rightL n.toList <;> simp
  by_cases hp : placeA L n.toList < L.length
  · have E1 : findI L n.toList = (placeA L n.toList : Int) := by unfold findI; rw [hg, ← atL_place hp]; rfl
    have hp' : placeA L n.toList < len := by rw [← h.hlen]; exact hp
    obtain ⟨b, off, xn, xv, rfl, hblt, hx, hc1, hc2, _, _⟩ := H.out.get hp'
    have HR : Hid (hasA L n.toList = true) := Lib.hid (by unfold hasA; rw [hg, decide_eq_true hp]; rfl)
    have HV : Hid (valA L n.toList = xv) := Lib.hid (by unfold valA; rw [HR.out, hx]; rfl)
    have C2 := C1.out
    rw [E1, E3] at C2
    obtain ⟨p, hpp⟩ : ∃ p, placeA L n.toList = p := ⟨_, rfl⟩
    rw [hpp] at C2 hp' hc1 hc2
    have C3 := Lib.hid C2
    have hl := h.len64
    have z1 : ((p : Int) == -1) = false := beq_eq_false_iff_ne.2 (by omega)
    clear h hn hg E1 E3 C2 C1 hpp hx hp
    go_enter Tryz.func20, Tryz.ntmps20
    go_wp2_with (first
      | (go_at_call 44; refine C3.out.mono ?_; rintro e w' ⟨rfl, HB⟩; have hd := (HB.cell (p := ⟨b, off + p * 2 + 1, none⟩) hblt).trans hc2))
    go_ret2
    exact ⟨by rw [HR.out, HV.out]; rfl, HB⟩
  · have E1 : findI L n.toList = -1 := by unfold findI; rw [hg, ← atL_noplace hp]; rfl
    have HR : Hid (hasA L n.toList = false) := Lib.hid (by unfold hasA; rw [decide_eq_false hp]; simp)
    have HV : Hid (valA L n.toList = ofL []) := Lib.hid (by unfold valA; rw [HR.out]; rfl)
    have C2 := C1.out
    rw [E1, E3] at C2
    have C3 := Lib.hid C2
    clear h hn hg E1 E3 C2 C1 hp
    go_enter Tryz.func20, Tryz.ntmps20
    go_wp2_with (first
      | (go_at_call 44; refine C3.out.mono ?_; rintro e w' ⟨rfl, HB⟩))
    go_ret2
    exact ⟨by rw [HR.out, HV.out]; rfl, HB⟩
end Go.Proofs.YtkgbgnmmgmnnlaaGreatDoor
namespace Go.Proofs.YtkgbgnmmgmnnlaaGreatDoor
open Go.RowKit
theorem below_setCells {B g : Nat} {a : World} (hg : B ≤ g) : ∀ (vs : List Value) (o : Nat) (w : World), Below B a w → Below B a (w.setCells g o vs)
  | [], _, _, h => h
  | v :: r, o, w, h => below_setCells hg r (o + 1) (w.setCell ⟨g, o, none⟩ v) (h.setCell hg v)
end Go.Proofs.YtkgbgnmmgmnnlaaGreatDoor
